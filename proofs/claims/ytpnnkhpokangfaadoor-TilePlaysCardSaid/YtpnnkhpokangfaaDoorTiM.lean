/- The document's examples of layer 10, walked. -/
import Derived.Test.YtpnnkhpokangfaaDoorTiN
namespace Go.Proofs.YtpnnkhpokangfaaDoor.Ti
open Go.RowKit Pac Va Sc Mi Sp Lex

set_option maxRecDepth 20000 in
set_option maxHeartbeats 16000000 in
theorem awake_any (w : World) (ht : Tab w) : Calls Tryd.prog 8 #[] w fun e w' => e = .returned (.bool true) ∧ Below w.heap.size w w' := by
 have hB := (Below.refl w.heap.size w).alloc (Nat.le_refl _) (.cells #[.int .i64 1, .int .i64 7, .string ⟨#[]⟩, .int .i64 3, .int .i64 0, .string ⟨#[97, 98]⟩] 37)
 have hV : HasVx _ (fun _ => True) _ rowT := HasLx.of (val_lit w (a := rowT) (ca := #[.int .i64 1, .int .i64 7, .string ⟨#[]⟩, .int .i64 3, .int .i64 0, .string ⟨#[97, 98]⟩]) rfl) (fun _ _ => trivial)
 have HT0 := Lib.hid ht
 clear ht
 go_enter Tryd.func8, Tryd.ntmps8
 generalize hw1 : w.alloc (.cells #[.int .i64 1, .int .i64 7, .string ⟨#[]⟩, .int .i64 3, .int .i64 0, .string ⟨#[97, 98]⟩] 37) = w1 at hB hV
 generalize hg1 : w.heap.size = g1 at hV ⊢
 go_wp2_with fail
 clear hw1
 refine (some_any _).mono ?_
 rintro e w2 ⟨As, rfl, hS, hy⟩
 have hV := hV.below hy (Nat.le_refl _)
 have hB := hB.trans (hy.mono hB.size)
 clear hy
 have hA1 : HasIx _ (fun _ => True) _ [0, 1] := HasLx.of (int_lit w2 (a := [0, 1]) (ca := #[.int .i64 0, .int .i64 1]) rfl) (fun _ _ => trivial)
 have hn1 := (Below.refl w2.heap.size w2).alloc (Nat.le_refl _) (.cells #[.int .i64 0, .int .i64 1] 3)
 have hL := sp_one hA1 (n := 2) rfl trivial
 have hn2 := hn1.alloc hn1.size (.cells #[.slice (some ⟨w2.heap.size, 0, none⟩) 2 2] 67)
 rw [show (w2.alloc (.cells #[.int .i64 0, .int .i64 1] 3)).heap.size = w2.heap.size + 1 by simp] at hL
 have hS := hS.below hn2 (Nat.le_refl _)
 have hV := hV.below hn2 (Nat.le_refl _)
 have hB := hB.trans (hn2.mono hB.size)
 clear hn1 hn2 hA1
 generalize hw3 : (w2.alloc (.cells #[.int .i64 0, .int .i64 1] 3)).alloc (.cells #[.slice (some ⟨w2.heap.size, 0, none⟩) 2 2] 67) = w3 at hS hV hB hL
 go_wp2_with fail
 clear hw3
 refine (aw_new (HT0.out.below hB (Nat.le_refl _)) trivial (fun _ _ => trivial) hS hL).mono ?_
 rintro e w4 ⟨t2, rfl, hT2, hy⟩
 have hV := hV.below hy (Nat.le_refl _)
 have hB := hB.trans (hy.mono hB.size)
 clear hy hS hL
 unfold TV.v
 generalize w2.heap.size = g0
 go_wp2_with fail
 have b2 := Sc.Box3.new w4 (.slice t2.A t2.n t2.c) (.int .i64 t2.m) (.slice t2.B t2.n t2.d) 32
 have hn := (Below.refl w4.heap.size w4).alloc (Nat.le_refl _) (.cells #[.slice t2.A t2.n t2.c, .int .i64 t2.m, .slice t2.B t2.n t2.d] 32)
 have hV := hV.below hn (Nat.le_refl _)
 have hT2 := hT2.below hn (Nat.le_refl _)
 have hB := hB.trans (hn.mono hB.size)
 clear hn
 generalize w4.alloc (.cells #[.slice t2.A t2.n t2.c, .int .i64 t2.m, .slice t2.B t2.n t2.d] 32) = w5 at hB hV hT2 b2 ⊢
 generalize w4.heap.size = g2 at b2 ⊢
 refine Lex.region_cut (fun (a' : Act) (W : World) => ∃ As3 : Option Addr, ∃ t3 : TV, ∃ g3 : Nat, a' = ⟨#[.bool false, .slice (some ⟨g1, 0, none⟩) 2 2, .pointer (some ⟨g2, 0, none⟩), .pointer (some ⟨g3, 0, none⟩), .int .i64 0, .int .i64 0, undef, undef, undef, undef, undef, undef, undef, undef, undef, undef, undef, undef, undef, undef, .agg #[.int .i64 1, .int .i64 7, .string ⟨#[]⟩], .agg #[.int .i64 3, .int .i64 0, .string ⟨#[97, 98]⟩], .slice (some ⟨g1, 0, none⟩) 2 2, .agg #[.string nmT, .slice As 2 2], .slice (some ⟨g0, 0, none⟩) 2 2, .slice (some ⟨g0 + 1, 0, none⟩) 1 1, .agg #[.slice t2.A t2.n t2.c, .int .i64 t2.m, .slice t2.B t2.n t2.d], .tuple #[.agg #[.slice t3.A t3.n t3.c, .int .i64 t3.m, .slice t3.B t3.n t3.d], .int .i64 0, .int .i64 0], .agg #[.string nmT, .slice As3 2 2], .agg #[.slice t2.A t2.n t2.c, .int .i64 t2.m, .slice t2.B t2.n t2.d], .slice (some ⟨g1, 0, none⟩) 2 2, .tuple #[.agg #[.slice t3.A t3.n t3.c, .int .i64 t3.m, .slice t3.B t3.n t3.d], .int .i64 0, .int .i64 0], .agg #[.slice t3.A t3.n t3.c, .int .i64 t3.m, .slice t3.B t3.n t3.d], .int .i64 0, .int .i64 0, undef, undef, undef, undef, undef, undef, undef, undef, undef, undef, undef, undef, undef, undef, undef, undef, undef, undef, undef, undef, undef, undef, undef, undef, undef, undef, undef, undef, undef, undef, undef, undef, undef, undef, undef, undef, undef, undef, undef, undef, undef, undef, undef, undef, undef, undef, undef, undef, undef, undef, undef, undef, undef, undef, undef, undef, undef, undef, undef, undef, undef, undef, undef, undef, undef, undef, undef, undef, undef, undef, undef, undef, undef, undef, undef, undef, undef, undef, undef, undef, undef, undef, undef, undef, undef, undef, undef, undef, undef, undef, undef, undef, undef, undef, undef, undef, undef, undef, undef, undef, undef, undef, undef, undef, undef, undef, undef, undef, undef, undef, undef, undef, undef], []⟩ ∧ Below w.heap.size w W ∧ HasVx W (fun _ => True) (some ⟨g1, 0, none⟩) rowT ∧ HasT csT W (fun _ => True) t2 r2T ∧ Sc.Box3 W g2 (.slice t2.A t2.n t2.c) (.int .i64 t2.m) (.slice t2.B t2.n t2.d) ∧ HasT csT W (fun _ => True) t3 r3T ∧ Sc.Box3 W g3 (.slice t3.A t3.n t3.c) (.int .i64 t3.m) (.slice t3.B t3.n t3.d)) ?_ ?_
 ·have hd := (Below.refl w5.heap.size w5).drew
  have hB := hB.drew
  have hV := hV.below hd (Nat.le_refl _)
  have hT2 := hT2.below hd (Nat.le_refl _)
  have b2 := b2.drew
  clear hd
  refine Lex.region_tree (ops := taops) tatree (fun W => W.cell? ⟨g2, 0, none⟩ = some (.slice t2.A t2.n t2.c) ∧ W.cell? ⟨g2, 1, none⟩ = some (.int .i64 t2.m) ∧ W.cell? ⟨g2, 2, none⟩ = some (.slice t2.B t2.n t2.d)) (by kernel_rfl) (by kernel_rfl) tasel talex (⟨b2.c0, b2.c1, b2.c2⟩) ?_
  unfold tatree
  generalize w5.drew = v3 at hB hV hT2 b2 ⊢
  refine Lex.tree_take (.agg #[.slice t2.A t2.n t2.c, .int .i64 t2.m, .slice t2.B t2.n t2.d]) ta1 (Lex.want_none rfl) (by intro Wx hSw; (try dsimp only at hSw); go_simp; (try (first | (with_reducible rfl) | assumption | rfl))) ?_
  simp only [Act.put, List.setIfInBounds_toArray, List.set_cons_zero, List.set_cons_succ]
  refine Lex.tree_take (.slice (some ⟨g1, 0, none⟩) 2 2) ta2 (Lex.want_none rfl) (by intro Wx hSw; (try dsimp only at hSw); go_simp; (try (first | (with_reducible rfl) | assumption | rfl))) ?_
  simp only [Act.put, List.setIfInBounds_toArray, List.set_cons_zero, List.set_cons_succ]
  refine Lex.tree_call ta0 (Lex.want_none rfl) (fun K hK => ?_) ?_
  ·go_simp
   refine (some_any v3).mono ?_
   rintro e y0 ⟨As3, rfl, hS, hy0⟩
   have hB := hB.trans (hy0.mono hB.size)
   have hV := hV.below hy0 (Nat.le_refl _)
   have hT2 := hT2.below hy0 (Nat.le_refl _)
   have b2 := b2.below hy0 b2.lt
   clear hy0
   refine hK.out _ _ _ (fun _ h => h) (⟨b2.c0, b2.c1, b2.c2⟩) ?_
   clear hK K
   try simp only [Act.put, List.setIfInBounds_toArray, List.set_cons_zero, List.set_cons_succ]
   refine Lex.tree_call ta3 (Lex.want_none rfl) (fun K hK => ?_) ?_
   ·go_simp
    refine (aw_add (fun _ _ => trivial) hS hT2 hV).mono ?_
    rintro e y3 ⟨t3, rfl, hT3, hy3⟩
    simp only [TV.v]
    have hB := hB.trans (hy3.mono hB.size)
    have hV := hV.below hy3 (Nat.le_refl _)
    have hT2 := hT2.below hy3 (Nat.le_refl _)
    have b2 := b2.below hy3 b2.lt
    have hS := hS.below hy3 (Nat.le_refl _)
    clear hy3
    refine hK.out _ _ _ (fun _ h => h) (⟨b2.c0, b2.c1, b2.c2⟩) ?_
    clear hK K
    try simp only [Act.put, List.setIfInBounds_toArray, List.set_cons_zero, List.set_cons_succ]
    refine Lex.tree_take (.tuple #[.agg #[.slice t3.A t3.n t3.c, .int .i64 t3.m, .slice t3.B t3.n t3.d], .int .i64 0, .int .i64 0]) ta4 (Lex.want_none rfl) (by intro Wx hSw; (try dsimp only at hSw); go_simp; (try (first | (with_reducible rfl) | assumption | rfl))) ?_
    simp only [Act.put, List.setIfInBounds_toArray, List.set_cons_zero, List.set_cons_succ]
    refine Lex.tree_take (.agg #[.slice t3.A t3.n t3.c, .int .i64 t3.m, .slice t3.B t3.n t3.d]) ta5 (Lex.want_none rfl) (by intro Wx hSw; (try dsimp only at hSw); go_simp; (try (first | (with_reducible rfl) | assumption | rfl))) ?_
    simp only [Act.put, List.setIfInBounds_toArray, List.set_cons_zero, List.set_cons_succ]
    refine Lex.tree_take (.int .i64 0) ta6 (Lex.want_none rfl) (by intro Wx hSw; (try dsimp only at hSw); go_simp; (try (first | (with_reducible rfl) | assumption | rfl))) ?_
    simp only [Act.put, List.setIfInBounds_toArray, List.set_cons_zero, List.set_cons_succ]
    refine Lex.tree_take (.int .i64 0) ta7 (Lex.want_none rfl) (by intro Wx hSw; (try dsimp only at hSw); go_simp; (try (first | (with_reducible rfl) | assumption | rfl))) ?_
    simp only [Act.put, List.setIfInBounds_toArray, List.set_cons_zero, List.set_cons_succ]
    refine Lex.tree_call ta8 (Lex.want_none rfl) (fun K hK => ?_) Lex.tree_no
    go_simp
    have hn := (Below.refl y3.heap.size y3).alloc (Nat.le_refl _) (.cells #[.slice none 0 0, .int .i64 0, .slice none 0 0] 32)
    have b3 := Sc.Box3.new y3 (.slice none 0 0) (.int .i64 0) (.slice none 0 0) 32
    have leg3 := hB.size
    have hV := hV.off rfl
    have hT2 := hT2.off rfl
    have neb2g3 := Nat.ne_of_lt b2.lt
    have hT3 := hT3.off rfl
    have hB := hB.trans (hn.mono hB.size)
    have hV := hV.below hn (Nat.le_refl _)
    have hT2 := hT2.below hn (Nat.le_refl _)
    have b2 := b2.below hn b2.lt
    have hS := hS.below hn (Nat.le_refl _)
    have hT3 := hT3.below hn (Nat.le_refl _)
    clear hn
    generalize y3.alloc (.cells #[.slice none 0 0, .int .i64 0, .slice none 0 0] 32) = zg3 at hB hV hT2 b2 hS hT3 b3 ⊢
    generalize y3.heap.size = g3 at hV hT2 hT3 neb2g3 leg3 b3 ⊢
    refine hK.out _ _ _ (fun _ h => h) (⟨b2.c0, b2.c1, b2.c2⟩) ?_
    clear hK K
    try simp only [Act.put, List.setIfInBounds_toArray, List.set_cons_zero, List.set_cons_succ]
    refine Lex.tree_call ta9 (Lex.want_none rfl) (fun K hK => ?_) Lex.tree_no
    have k0 := b3.c0
    have k1 := b3.c1
    have k2 := b3.c2
    have k3 := b3.f
    go_simp
    clear k0 k1 k2 k3
    have hw := bar_put zg3 g3 (.slice t3.A t3.n t3.c) (.int .i64 t3.m) (.slice t3.B t3.n t3.d)
    have hB := ((hB.setCell (p := ⟨g3, 0, none⟩) leg3 (.slice t3.A t3.n t3.c)).setCell (p := ⟨g3, 1, none⟩) leg3 (.int .i64 t3.m)).setCell (p := ⟨g3, 2, none⟩) leg3 (.slice t3.B t3.n t3.d)
    have hV := hV.put hw
    have hT2 := hT2.put hw
    have b2 := b2.bar hw neb2g3
    have hT3 := hT3.put hw
    have b3 := box3_put b3 (.slice t3.A t3.n t3.c) (.int .i64 t3.m) (.slice t3.B t3.n t3.d)
    clear hw leg3
    clear hS
    generalize ((zg3.setCell ⟨g3, 0, none⟩ (.slice t3.A t3.n t3.c)).setCell ⟨g3, 1, none⟩ (.int .i64 t3.m)).setCell ⟨g3, 2, none⟩ (.slice t3.B t3.n t3.d) = sg3 at hB hV hT2 b2 hT3 b3 ⊢
    refine hK.out _ _ _ (fun _ h => h) (⟨b2.c0, b2.c1, b2.c2⟩) ?_
    clear hK K
    try simp only [Act.put, List.setIfInBounds_toArray, List.set_cons_zero, List.set_cons_succ]
    refine Lex.tree_take (.int .i64 0) ta10 (Lex.want_none rfl) (by intro Wx hSw; (try dsimp only at hSw); go_simp; (try (first | (with_reducible rfl) | assumption | rfl))) ?_
    simp only [Act.put, List.setIfInBounds_toArray, List.set_cons_zero, List.set_cons_succ]
    refine Lex.tree_take (.int .i64 0) ta11 (Lex.want_none rfl) (by intro Wx hSw; (try dsimp only at hSw); go_simp; (try (first | (with_reducible rfl) | assumption | rfl))) ?_
    simp only [Act.put, List.setIfInBounds_toArray, List.set_cons_zero, List.set_cons_succ]
    refine Lex.tree_end ?_
    refine NoPanic.normal ?_
    exact ⟨As3, t3, g3, rfl, hB, hV, hT2, b2, hT3, b3⟩
   refine Lex.tree_call ta8 (Lex.want_none rfl) (fun K hK => ?_) Lex.tree_no
   go_simp
   have hn := (Below.refl y0.heap.size y0).alloc (Nat.le_refl _) (.cells #[.slice none 0 0, .int .i64 0, .slice none 0 0] 32)
   have b3 := Sc.Box3.new y0 (.slice none 0 0) (.int .i64 0) (.slice none 0 0) 32
   have leg3 := hB.size
   have hV := hV.off rfl
   have hT2 := hT2.off rfl
   have neb2g3 := Nat.ne_of_lt b2.lt
   have hB := hB.trans (hn.mono hB.size)
   have hV := hV.below hn (Nat.le_refl _)
   have hT2 := hT2.below hn (Nat.le_refl _)
   have b2 := b2.below hn b2.lt
   have hS := hS.below hn (Nat.le_refl _)
   clear hn
   generalize y0.alloc (.cells #[.slice none 0 0, .int .i64 0, .slice none 0 0] 32) = zg3 at hB hV hT2 b2 hS b3 ⊢
   generalize y0.heap.size = g3 at hV hT2 neb2g3 leg3 b3 ⊢
   refine hK.out _ _ _ (fun _ h => h) (⟨b2.c0, b2.c1, b2.c2⟩) ?_
   clear hK K
   try simp only [Act.put, List.setIfInBounds_toArray, List.set_cons_zero, List.set_cons_succ]
   refine Lex.tree_call ta3 (Lex.want_none rfl) (fun K hK => ?_) Lex.tree_no
   go_simp
   refine (aw_add (fun b hb => by have := b3.lt; omega) hS hT2 hV).mono ?_
   rintro e y3 ⟨t3, rfl, hT3, hy3⟩
   simp only [TV.v]
   have hB := hB.trans (hy3.mono hB.size)
   have hV := hV.below hy3 (Nat.le_refl _)
   have hT2 := hT2.below hy3 (Nat.le_refl _)
   have b2 := b2.below hy3 b2.lt
   have hS := hS.below hy3 (Nat.le_refl _)
   have b3 := b3.below hy3 b3.lt
   clear hy3
   refine hK.out _ _ _ (fun _ h => h) (⟨b2.c0, b2.c1, b2.c2⟩) ?_
   clear hK K
   try simp only [Act.put, List.setIfInBounds_toArray, List.set_cons_zero, List.set_cons_succ]
   refine Lex.tree_take (.tuple #[.agg #[.slice t3.A t3.n t3.c, .int .i64 t3.m, .slice t3.B t3.n t3.d], .int .i64 0, .int .i64 0]) ta4 (Lex.want_none rfl) (by intro Wx hSw; (try dsimp only at hSw); go_simp; (try (first | (with_reducible rfl) | assumption | rfl))) ?_
   simp only [Act.put, List.setIfInBounds_toArray, List.set_cons_zero, List.set_cons_succ]
   refine Lex.tree_take (.agg #[.slice t3.A t3.n t3.c, .int .i64 t3.m, .slice t3.B t3.n t3.d]) ta5 (Lex.want_none rfl) (by intro Wx hSw; (try dsimp only at hSw); go_simp; (try (first | (with_reducible rfl) | assumption | rfl))) ?_
   simp only [Act.put, List.setIfInBounds_toArray, List.set_cons_zero, List.set_cons_succ]
   refine Lex.tree_take (.int .i64 0) ta6 (Lex.want_none rfl) (by intro Wx hSw; (try dsimp only at hSw); go_simp; (try (first | (with_reducible rfl) | assumption | rfl))) ?_
   simp only [Act.put, List.setIfInBounds_toArray, List.set_cons_zero, List.set_cons_succ]
   refine Lex.tree_take (.int .i64 0) ta7 (Lex.want_none rfl) (by intro Wx hSw; (try dsimp only at hSw); go_simp; (try (first | (with_reducible rfl) | assumption | rfl))) ?_
   simp only [Act.put, List.setIfInBounds_toArray, List.set_cons_zero, List.set_cons_succ]
   refine Lex.tree_call ta9 (Lex.want_none rfl) (fun K hK => ?_) Lex.tree_no
   have k0 := b3.c0
   have k1 := b3.c1
   have k2 := b3.c2
   have k3 := b3.f
   go_simp
   clear k0 k1 k2 k3
   have hw := bar_put y3 g3 (.slice t3.A t3.n t3.c) (.int .i64 t3.m) (.slice t3.B t3.n t3.d)
   have hB := ((hB.setCell (p := ⟨g3, 0, none⟩) leg3 (.slice t3.A t3.n t3.c)).setCell (p := ⟨g3, 1, none⟩) leg3 (.int .i64 t3.m)).setCell (p := ⟨g3, 2, none⟩) leg3 (.slice t3.B t3.n t3.d)
   have hV := hV.put hw
   have hT2 := hT2.put hw
   have b2 := b2.bar hw neb2g3
   have b3 := box3_put b3 (.slice t3.A t3.n t3.c) (.int .i64 t3.m) (.slice t3.B t3.n t3.d)
   have hT3 := hT3.put hw
   clear hw leg3
   clear hS
   generalize ((y3.setCell ⟨g3, 0, none⟩ (.slice t3.A t3.n t3.c)).setCell ⟨g3, 1, none⟩ (.int .i64 t3.m)).setCell ⟨g3, 2, none⟩ (.slice t3.B t3.n t3.d) = sg3 at hB hV hT2 b2 b3 hT3 ⊢
   refine hK.out _ _ _ (fun _ h => h) (⟨b2.c0, b2.c1, b2.c2⟩) ?_
   clear hK K
   try simp only [Act.put, List.setIfInBounds_toArray, List.set_cons_zero, List.set_cons_succ]
   refine Lex.tree_take (.int .i64 0) ta10 (Lex.want_none rfl) (by intro Wx hSw; (try dsimp only at hSw); go_simp; (try (first | (with_reducible rfl) | assumption | rfl))) ?_
   simp only [Act.put, List.setIfInBounds_toArray, List.set_cons_zero, List.set_cons_succ]
   refine Lex.tree_take (.int .i64 0) ta11 (Lex.want_none rfl) (by intro Wx hSw; (try dsimp only at hSw); go_simp; (try (first | (with_reducible rfl) | assumption | rfl))) ?_
   simp only [Act.put, List.setIfInBounds_toArray, List.set_cons_zero, List.set_cons_succ]
   refine Lex.tree_end ?_
   refine NoPanic.normal ?_
   exact ⟨As3, t3, g3, rfl, hB, hV, hT2, b2, hT3, b3⟩
  refine Lex.tree_call ta8 (Lex.want_none rfl) (fun K hK => ?_) Lex.tree_no
  go_simp
  have hn := (Below.refl v3.heap.size v3).alloc (Nat.le_refl _) (.cells #[.slice none 0 0, .int .i64 0, .slice none 0 0] 32)
  have b3 := Sc.Box3.new v3 (.slice none 0 0) (.int .i64 0) (.slice none 0 0) 32
  have leg3 := hB.size
  have hV := hV.off rfl
  have hT2 := hT2.off rfl
  have neb2g3 := Nat.ne_of_lt b2.lt
  have hB := hB.trans (hn.mono hB.size)
  have hV := hV.below hn (Nat.le_refl _)
  have hT2 := hT2.below hn (Nat.le_refl _)
  have b2 := b2.below hn b2.lt
  clear hn
  generalize v3.alloc (.cells #[.slice none 0 0, .int .i64 0, .slice none 0 0] 32) = zg3 at hB hV hT2 b2 b3 ⊢
  generalize v3.heap.size = g3 at hV hT2 neb2g3 leg3 b3 ⊢
  refine hK.out _ _ _ (fun _ h => h) (⟨b2.c0, b2.c1, b2.c2⟩) ?_
  clear hK K
  try simp only [Act.put, List.setIfInBounds_toArray, List.set_cons_zero, List.set_cons_succ]
  refine Lex.tree_call ta0 (Lex.want_none rfl) (fun K hK => ?_) Lex.tree_no
  go_simp
  refine (some_any zg3).mono ?_
  rintro e y0 ⟨As3, rfl, hS, hy0⟩
  have hB := hB.trans (hy0.mono hB.size)
  have hV := hV.below hy0 (Nat.le_refl _)
  have hT2 := hT2.below hy0 (Nat.le_refl _)
  have b2 := b2.below hy0 b2.lt
  have b3 := b3.below hy0 b3.lt
  clear hy0
  refine hK.out _ _ _ (fun _ h => h) (⟨b2.c0, b2.c1, b2.c2⟩) ?_
  clear hK K
  try simp only [Act.put, List.setIfInBounds_toArray, List.set_cons_zero, List.set_cons_succ]
  refine Lex.tree_call ta3 (Lex.want_none rfl) (fun K hK => ?_) Lex.tree_no
  go_simp
  refine (aw_add (fun b hb => by have := b3.lt; omega) hS hT2 hV).mono ?_
  rintro e y3 ⟨t3, rfl, hT3, hy3⟩
  simp only [TV.v]
  have hB := hB.trans (hy3.mono hB.size)
  have hV := hV.below hy3 (Nat.le_refl _)
  have hT2 := hT2.below hy3 (Nat.le_refl _)
  have b2 := b2.below hy3 b2.lt
  have b3 := b3.below hy3 b3.lt
  have hS := hS.below hy3 (Nat.le_refl _)
  clear hy3
  refine hK.out _ _ _ (fun _ h => h) (⟨b2.c0, b2.c1, b2.c2⟩) ?_
  clear hK K
  try simp only [Act.put, List.setIfInBounds_toArray, List.set_cons_zero, List.set_cons_succ]
  refine Lex.tree_take (.tuple #[.agg #[.slice t3.A t3.n t3.c, .int .i64 t3.m, .slice t3.B t3.n t3.d], .int .i64 0, .int .i64 0]) ta4 (Lex.want_none rfl) (by intro Wx hSw; (try dsimp only at hSw); go_simp; (try (first | (with_reducible rfl) | assumption | rfl))) ?_
  simp only [Act.put, List.setIfInBounds_toArray, List.set_cons_zero, List.set_cons_succ]
  refine Lex.tree_take (.agg #[.slice t3.A t3.n t3.c, .int .i64 t3.m, .slice t3.B t3.n t3.d]) ta5 (Lex.want_none rfl) (by intro Wx hSw; (try dsimp only at hSw); go_simp; (try (first | (with_reducible rfl) | assumption | rfl))) ?_
  simp only [Act.put, List.setIfInBounds_toArray, List.set_cons_zero, List.set_cons_succ]
  refine Lex.tree_take (.int .i64 0) ta6 (Lex.want_none rfl) (by intro Wx hSw; (try dsimp only at hSw); go_simp; (try (first | (with_reducible rfl) | assumption | rfl))) ?_
  simp only [Act.put, List.setIfInBounds_toArray, List.set_cons_zero, List.set_cons_succ]
  refine Lex.tree_take (.int .i64 0) ta7 (Lex.want_none rfl) (by intro Wx hSw; (try dsimp only at hSw); go_simp; (try (first | (with_reducible rfl) | assumption | rfl))) ?_
  simp only [Act.put, List.setIfInBounds_toArray, List.set_cons_zero, List.set_cons_succ]
  refine Lex.tree_call ta9 (Lex.want_none rfl) (fun K hK => ?_) Lex.tree_no
  have k0 := b3.c0
  have k1 := b3.c1
  have k2 := b3.c2
  have k3 := b3.f
  go_simp
  clear k0 k1 k2 k3
  have hw := bar_put y3 g3 (.slice t3.A t3.n t3.c) (.int .i64 t3.m) (.slice t3.B t3.n t3.d)
  have hB := ((hB.setCell (p := ⟨g3, 0, none⟩) leg3 (.slice t3.A t3.n t3.c)).setCell (p := ⟨g3, 1, none⟩) leg3 (.int .i64 t3.m)).setCell (p := ⟨g3, 2, none⟩) leg3 (.slice t3.B t3.n t3.d)
  have hV := hV.put hw
  have hT2 := hT2.put hw
  have b2 := b2.bar hw neb2g3
  have b3 := box3_put b3 (.slice t3.A t3.n t3.c) (.int .i64 t3.m) (.slice t3.B t3.n t3.d)
  have hT3 := hT3.put hw
  clear hw leg3
  clear hS
  generalize ((y3.setCell ⟨g3, 0, none⟩ (.slice t3.A t3.n t3.c)).setCell ⟨g3, 1, none⟩ (.int .i64 t3.m)).setCell ⟨g3, 2, none⟩ (.slice t3.B t3.n t3.d) = sg3 at hB hV hT2 b2 b3 hT3 ⊢
  refine hK.out _ _ _ (fun _ h => h) (⟨b2.c0, b2.c1, b2.c2⟩) ?_
  clear hK K
  try simp only [Act.put, List.setIfInBounds_toArray, List.set_cons_zero, List.set_cons_succ]
  refine Lex.tree_take (.int .i64 0) ta10 (Lex.want_none rfl) (by intro Wx hSw; (try dsimp only at hSw); go_simp; (try (first | (with_reducible rfl) | assumption | rfl))) ?_
  simp only [Act.put, List.setIfInBounds_toArray, List.set_cons_zero, List.set_cons_succ]
  refine Lex.tree_take (.int .i64 0) ta11 (Lex.want_none rfl) (by intro Wx hSw; (try dsimp only at hSw); go_simp; (try (first | (with_reducible rfl) | assumption | rfl))) ?_
  simp only [Act.put, List.setIfInBounds_toArray, List.set_cons_zero, List.set_cons_succ]
  refine Lex.tree_end ?_
  refine NoPanic.normal ?_
  exact ⟨As3, t3, g3, rfl, hB, hV, hT2, b2, hT3, b3⟩
 clear hB hV hT2 b2
 rintro _ w6 ⟨As3, t3, g3, rfl, hB, hV, hT2, b2, hT3, b3⟩
 go_wp2_with fail
 refine Lex.region_cut (fun (a' : Act) (W : World) => ∃ As4 : Option Addr, ∃ t6 : TV, ∃ g6 : Nat, a' = ⟨#[.bool false, .slice (some ⟨g1, 0, none⟩) 2 2, .pointer (some ⟨g2, 0, none⟩), .pointer (some ⟨g3, 0, none⟩), .int .i64 0, .int .i64 0, .pointer (some ⟨g6, 0, none⟩), .int .i64 0, undef, undef, undef, undef, undef, undef, undef, undef, undef, undef, undef, undef, .agg #[.int .i64 1, .int .i64 7, .string ⟨#[]⟩], .agg #[.int .i64 3, .int .i64 0, .string ⟨#[97, 98]⟩], .slice (some ⟨g1, 0, none⟩) 2 2, .agg #[.string nmT, .slice As 2 2], .slice (some ⟨g0, 0, none⟩) 2 2, .slice (some ⟨g0 + 1, 0, none⟩) 1 1, .agg #[.slice t2.A t2.n t2.c, .int .i64 t2.m, .slice t2.B t2.n t2.d], .tuple #[.agg #[.slice t3.A t3.n t3.c, .int .i64 t3.m, .slice t3.B t3.n t3.d], .int .i64 0, .int .i64 0], .agg #[.string nmT, .slice As3 2 2], .agg #[.slice t2.A t2.n t2.c, .int .i64 t2.m, .slice t2.B t2.n t2.d], .slice (some ⟨g1, 0, none⟩) 2 2, .tuple #[.agg #[.slice t3.A t3.n t3.c, .int .i64 t3.m, .slice t3.B t3.n t3.d], .int .i64 0, .int .i64 0], .agg #[.slice t3.A t3.n t3.c, .int .i64 t3.m, .slice t3.B t3.n t3.d], .int .i64 0, .int .i64 0, .tuple #[.agg #[.slice t6.A t6.n t6.c, .int .i64 t6.m, .slice t6.B t6.n t6.d], .int .i64 0], .agg #[.string nmT, .slice As4 2 2], .agg #[.slice t3.A t3.n t3.c, .int .i64 t3.m, .slice t3.B t3.n t3.d], .agg #[.int .i64 0, .int .i64 0, .string ⟨#[]⟩], .tuple #[.agg #[.slice t6.A t6.n t6.c, .int .i64 t6.m, .slice t6.B t6.n t6.d], .int .i64 0], .agg #[.slice t6.A t6.n t6.c, .int .i64 t6.m, .slice t6.B t6.n t6.d], .int .i64 0, undef, undef, undef, undef, undef, undef, undef, undef, undef, undef, undef, undef, undef, undef, undef, undef, undef, undef, undef, undef, undef, undef, undef, undef, undef, undef, undef, undef, undef, undef, undef, undef, undef, undef, undef, undef, undef, undef, undef, undef, undef, undef, undef, undef, undef, undef, undef, undef, undef, undef, undef, undef, undef, undef, undef, undef, undef, undef, undef, undef, undef, undef, undef, undef, undef, undef, undef, undef, undef, undef, undef, undef, undef, undef, undef, undef, undef, undef, undef, undef, undef, undef, undef, undef, undef, undef, undef, undef, undef, undef, undef, undef, undef, undef, undef, undef, undef, undef, undef, undef, undef, undef, undef, undef, undef, undef], []⟩ ∧ Below w.heap.size w W ∧ HasVx W (fun _ => True) (some ⟨g1, 0, none⟩) rowT ∧ HasT csT W (fun _ => True) t2 r2T ∧ Sc.Box3 W g2 (.slice t2.A t2.n t2.c) (.int .i64 t2.m) (.slice t2.B t2.n t2.d) ∧ HasT csT W (fun _ => True) t3 r3T ∧ Sc.Box3 W g3 (.slice t3.A t3.n t3.c) (.int .i64 t3.m) (.slice t3.B t3.n t3.d) ∧ HasT csT W (fun _ => True) t6 r6T ∧ Sc.Box3 W g6 (.slice t6.A t6.n t6.c) (.int .i64 t6.m) (.slice t6.B t6.n t6.d)) ?_ ?_
 ·have hd := (Below.refl w6.heap.size w6).drew
  have hB := hB.drew
  have hV := hV.below hd (Nat.le_refl _)
  have hT2 := hT2.below hd (Nat.le_refl _)
  have b2 := b2.drew
  have hT3 := hT3.below hd (Nat.le_refl _)
  have b3 := b3.drew
  clear hd
  refine Lex.region_tree (ops := tbops) tbtree (fun W => W.cell? ⟨g3, 0, none⟩ = some (.slice t3.A t3.n t3.c) ∧ W.cell? ⟨g3, 1, none⟩ = some (.int .i64 t3.m) ∧ W.cell? ⟨g3, 2, none⟩ = some (.slice t3.B t3.n t3.d)) (by kernel_rfl) (by kernel_rfl) tbsel tblex (⟨b3.c0, b3.c1, b3.c2⟩) ?_
  unfold tbtree
  generalize w6.drew = v4 at hB hV hT2 b2 hT3 b3 ⊢
  refine Lex.tree_take (.agg #[.slice t3.A t3.n t3.c, .int .i64 t3.m, .slice t3.B t3.n t3.d]) tb1 (Lex.want_none rfl) (by intro Wx hSw; (try dsimp only at hSw); go_simp; (try (first | (with_reducible rfl) | assumption | rfl))) ?_
  simp only [Act.put, List.setIfInBounds_toArray, List.set_cons_zero, List.set_cons_succ]
  refine Lex.tree_take (.agg #[.int .i64 0, .int .i64 0, .string ⟨#[]⟩]) tb2 (Lex.want_none rfl) (by intro Wx hSw; (try dsimp only at hSw); go_simp; (try (first | (with_reducible rfl) | assumption | rfl))) ?_
  simp only [Act.put, List.setIfInBounds_toArray, List.set_cons_zero, List.set_cons_succ]
  refine Lex.tree_call tb0 (Lex.want_none rfl) (fun K hK => ?_) ?_
  ·go_simp
   refine (some_any v4).mono ?_
   rintro e y0 ⟨As4, rfl, hS, hy0⟩
   have hB := hB.trans (hy0.mono hB.size)
   have hV := hV.below hy0 (Nat.le_refl _)
   have hT2 := hT2.below hy0 (Nat.le_refl _)
   have b2 := b2.below hy0 b2.lt
   have hT3 := hT3.below hy0 (Nat.le_refl _)
   have b3 := b3.below hy0 b3.lt
   clear hy0
   refine hK.out _ _ _ (fun _ h => h) (⟨b3.c0, b3.c1, b3.c2⟩) ?_
   clear hK K
   try simp only [Act.put, List.setIfInBounds_toArray, List.set_cons_zero, List.set_cons_succ]
   refine Lex.tree_call tb3 (Lex.want_none rfl) (fun K hK => ?_) ?_
   ·go_simp
    refine (aw_set (fun _ _ => trivial) hS hT3).mono ?_
    rintro e y3 ⟨t6, rfl, hT6, hy3⟩
    simp only [TV.v]
    have hB := hB.trans (hy3.mono hB.size)
    have hV := hV.below hy3 (Nat.le_refl _)
    have hT2 := hT2.below hy3 (Nat.le_refl _)
    have b2 := b2.below hy3 b2.lt
    have hT3 := hT3.below hy3 (Nat.le_refl _)
    have b3 := b3.below hy3 b3.lt
    have hS := hS.below hy3 (Nat.le_refl _)
    clear hy3
    refine hK.out _ _ _ (fun _ h => h) (⟨b3.c0, b3.c1, b3.c2⟩) ?_
    clear hK K
    try simp only [Act.put, List.setIfInBounds_toArray, List.set_cons_zero, List.set_cons_succ]
    refine Lex.tree_take (.tuple #[.agg #[.slice t6.A t6.n t6.c, .int .i64 t6.m, .slice t6.B t6.n t6.d], .int .i64 0]) tb4 (Lex.want_none rfl) (by intro Wx hSw; (try dsimp only at hSw); go_simp; (try (first | (with_reducible rfl) | assumption | rfl))) ?_
    simp only [Act.put, List.setIfInBounds_toArray, List.set_cons_zero, List.set_cons_succ]
    refine Lex.tree_take (.agg #[.slice t6.A t6.n t6.c, .int .i64 t6.m, .slice t6.B t6.n t6.d]) tb5 (Lex.want_none rfl) (by intro Wx hSw; (try dsimp only at hSw); go_simp; (try (first | (with_reducible rfl) | assumption | rfl))) ?_
    simp only [Act.put, List.setIfInBounds_toArray, List.set_cons_zero, List.set_cons_succ]
    refine Lex.tree_take (.int .i64 0) tb6 (Lex.want_none rfl) (by intro Wx hSw; (try dsimp only at hSw); go_simp; (try (first | (with_reducible rfl) | assumption | rfl))) ?_
    simp only [Act.put, List.setIfInBounds_toArray, List.set_cons_zero, List.set_cons_succ]
    refine Lex.tree_call tb7 (Lex.want_none rfl) (fun K hK => ?_) Lex.tree_no
    go_simp
    have hn := (Below.refl y3.heap.size y3).alloc (Nat.le_refl _) (.cells #[.slice none 0 0, .int .i64 0, .slice none 0 0] 32)
    have b6 := Sc.Box3.new y3 (.slice none 0 0) (.int .i64 0) (.slice none 0 0) 32
    have leg6 := hB.size
    have hV := hV.off rfl
    have hT2 := hT2.off rfl
    have neb2g6 := Nat.ne_of_lt b2.lt
    have hT3 := hT3.off rfl
    have neb3g6 := Nat.ne_of_lt b3.lt
    have hT6 := hT6.off rfl
    have hB := hB.trans (hn.mono hB.size)
    have hV := hV.below hn (Nat.le_refl _)
    have hT2 := hT2.below hn (Nat.le_refl _)
    have b2 := b2.below hn b2.lt
    have hT3 := hT3.below hn (Nat.le_refl _)
    have b3 := b3.below hn b3.lt
    have hS := hS.below hn (Nat.le_refl _)
    have hT6 := hT6.below hn (Nat.le_refl _)
    clear hn
    generalize y3.alloc (.cells #[.slice none 0 0, .int .i64 0, .slice none 0 0] 32) = zg6 at hB hV hT2 b2 hT3 b3 hS hT6 b6 ⊢
    generalize y3.heap.size = g6 at hV hT2 hT3 hT6 neb2g6 neb3g6 leg6 b6 ⊢
    refine hK.out _ _ _ (fun _ h => h) (⟨b3.c0, b3.c1, b3.c2⟩) ?_
    clear hK K
    try simp only [Act.put, List.setIfInBounds_toArray, List.set_cons_zero, List.set_cons_succ]
    refine Lex.tree_call tb8 (Lex.want_none rfl) (fun K hK => ?_) Lex.tree_no
    have k0 := b6.c0
    have k1 := b6.c1
    have k2 := b6.c2
    have k3 := b6.f
    go_simp
    clear k0 k1 k2 k3
    have hw := bar_put zg6 g6 (.slice t6.A t6.n t6.c) (.int .i64 t6.m) (.slice t6.B t6.n t6.d)
    have hB := ((hB.setCell (p := ⟨g6, 0, none⟩) leg6 (.slice t6.A t6.n t6.c)).setCell (p := ⟨g6, 1, none⟩) leg6 (.int .i64 t6.m)).setCell (p := ⟨g6, 2, none⟩) leg6 (.slice t6.B t6.n t6.d)
    have hV := hV.put hw
    have hT2 := hT2.put hw
    have b2 := b2.bar hw neb2g6
    have hT3 := hT3.put hw
    have b3 := b3.bar hw neb3g6
    have hT6 := hT6.put hw
    have b6 := box3_put b6 (.slice t6.A t6.n t6.c) (.int .i64 t6.m) (.slice t6.B t6.n t6.d)
    clear hw leg6
    clear hS
    generalize ((zg6.setCell ⟨g6, 0, none⟩ (.slice t6.A t6.n t6.c)).setCell ⟨g6, 1, none⟩ (.int .i64 t6.m)).setCell ⟨g6, 2, none⟩ (.slice t6.B t6.n t6.d) = sg6 at hB hV hT2 b2 hT3 b3 hT6 b6 ⊢
    refine hK.out _ _ _ (fun _ h => h) (⟨b3.c0, b3.c1, b3.c2⟩) ?_
    clear hK K
    try simp only [Act.put, List.setIfInBounds_toArray, List.set_cons_zero, List.set_cons_succ]
    refine Lex.tree_take (.int .i64 0) tb9 (Lex.want_none rfl) (by intro Wx hSw; (try dsimp only at hSw); go_simp; (try (first | (with_reducible rfl) | assumption | rfl))) ?_
    simp only [Act.put, List.setIfInBounds_toArray, List.set_cons_zero, List.set_cons_succ]
    refine Lex.tree_end ?_
    refine NoPanic.normal ?_
    exact ⟨As4, t6, g6, rfl, hB, hV, hT2, b2, hT3, b3, hT6, b6⟩
   refine Lex.tree_call tb7 (Lex.want_none rfl) (fun K hK => ?_) Lex.tree_no
   go_simp
   have hn := (Below.refl y0.heap.size y0).alloc (Nat.le_refl _) (.cells #[.slice none 0 0, .int .i64 0, .slice none 0 0] 32)
   have b6 := Sc.Box3.new y0 (.slice none 0 0) (.int .i64 0) (.slice none 0 0) 32
   have leg6 := hB.size
   have hV := hV.off rfl
   have hT2 := hT2.off rfl
   have neb2g6 := Nat.ne_of_lt b2.lt
   have hT3 := hT3.off rfl
   have neb3g6 := Nat.ne_of_lt b3.lt
   have hB := hB.trans (hn.mono hB.size)
   have hV := hV.below hn (Nat.le_refl _)
   have hT2 := hT2.below hn (Nat.le_refl _)
   have b2 := b2.below hn b2.lt
   have hT3 := hT3.below hn (Nat.le_refl _)
   have b3 := b3.below hn b3.lt
   have hS := hS.below hn (Nat.le_refl _)
   clear hn
   generalize y0.alloc (.cells #[.slice none 0 0, .int .i64 0, .slice none 0 0] 32) = zg6 at hB hV hT2 b2 hT3 b3 hS b6 ⊢
   generalize y0.heap.size = g6 at hV hT2 hT3 neb2g6 neb3g6 leg6 b6 ⊢
   refine hK.out _ _ _ (fun _ h => h) (⟨b3.c0, b3.c1, b3.c2⟩) ?_
   clear hK K
   try simp only [Act.put, List.setIfInBounds_toArray, List.set_cons_zero, List.set_cons_succ]
   refine Lex.tree_call tb3 (Lex.want_none rfl) (fun K hK => ?_) Lex.tree_no
   go_simp
   refine (aw_set (fun b hb => by have := b6.lt; omega) hS hT3).mono ?_
   rintro e y3 ⟨t6, rfl, hT6, hy3⟩
   simp only [TV.v]
   have hB := hB.trans (hy3.mono hB.size)
   have hV := hV.below hy3 (Nat.le_refl _)
   have hT2 := hT2.below hy3 (Nat.le_refl _)
   have b2 := b2.below hy3 b2.lt
   have hT3 := hT3.below hy3 (Nat.le_refl _)
   have b3 := b3.below hy3 b3.lt
   have hS := hS.below hy3 (Nat.le_refl _)
   have b6 := b6.below hy3 b6.lt
   clear hy3
   refine hK.out _ _ _ (fun _ h => h) (⟨b3.c0, b3.c1, b3.c2⟩) ?_
   clear hK K
   try simp only [Act.put, List.setIfInBounds_toArray, List.set_cons_zero, List.set_cons_succ]
   refine Lex.tree_take (.tuple #[.agg #[.slice t6.A t6.n t6.c, .int .i64 t6.m, .slice t6.B t6.n t6.d], .int .i64 0]) tb4 (Lex.want_none rfl) (by intro Wx hSw; (try dsimp only at hSw); go_simp; (try (first | (with_reducible rfl) | assumption | rfl))) ?_
   simp only [Act.put, List.setIfInBounds_toArray, List.set_cons_zero, List.set_cons_succ]
   refine Lex.tree_take (.agg #[.slice t6.A t6.n t6.c, .int .i64 t6.m, .slice t6.B t6.n t6.d]) tb5 (Lex.want_none rfl) (by intro Wx hSw; (try dsimp only at hSw); go_simp; (try (first | (with_reducible rfl) | assumption | rfl))) ?_
   simp only [Act.put, List.setIfInBounds_toArray, List.set_cons_zero, List.set_cons_succ]
   refine Lex.tree_take (.int .i64 0) tb6 (Lex.want_none rfl) (by intro Wx hSw; (try dsimp only at hSw); go_simp; (try (first | (with_reducible rfl) | assumption | rfl))) ?_
   simp only [Act.put, List.setIfInBounds_toArray, List.set_cons_zero, List.set_cons_succ]
   refine Lex.tree_call tb8 (Lex.want_none rfl) (fun K hK => ?_) Lex.tree_no
   have k0 := b6.c0
   have k1 := b6.c1
   have k2 := b6.c2
   have k3 := b6.f
   go_simp
   clear k0 k1 k2 k3
   have hw := bar_put y3 g6 (.slice t6.A t6.n t6.c) (.int .i64 t6.m) (.slice t6.B t6.n t6.d)
   have hB := ((hB.setCell (p := ⟨g6, 0, none⟩) leg6 (.slice t6.A t6.n t6.c)).setCell (p := ⟨g6, 1, none⟩) leg6 (.int .i64 t6.m)).setCell (p := ⟨g6, 2, none⟩) leg6 (.slice t6.B t6.n t6.d)
   have hV := hV.put hw
   have hT2 := hT2.put hw
   have b2 := b2.bar hw neb2g6
   have hT3 := hT3.put hw
   have b3 := b3.bar hw neb3g6
   have b6 := box3_put b6 (.slice t6.A t6.n t6.c) (.int .i64 t6.m) (.slice t6.B t6.n t6.d)
   have hT6 := hT6.put hw
   clear hw leg6
   clear hS
   generalize ((y3.setCell ⟨g6, 0, none⟩ (.slice t6.A t6.n t6.c)).setCell ⟨g6, 1, none⟩ (.int .i64 t6.m)).setCell ⟨g6, 2, none⟩ (.slice t6.B t6.n t6.d) = sg6 at hB hV hT2 b2 hT3 b3 b6 hT6 ⊢
   refine hK.out _ _ _ (fun _ h => h) (⟨b3.c0, b3.c1, b3.c2⟩) ?_
   clear hK K
   try simp only [Act.put, List.setIfInBounds_toArray, List.set_cons_zero, List.set_cons_succ]
   refine Lex.tree_take (.int .i64 0) tb9 (Lex.want_none rfl) (by intro Wx hSw; (try dsimp only at hSw); go_simp; (try (first | (with_reducible rfl) | assumption | rfl))) ?_
   simp only [Act.put, List.setIfInBounds_toArray, List.set_cons_zero, List.set_cons_succ]
   refine Lex.tree_end ?_
   refine NoPanic.normal ?_
   exact ⟨As4, t6, g6, rfl, hB, hV, hT2, b2, hT3, b3, hT6, b6⟩
  refine Lex.tree_call tb7 (Lex.want_none rfl) (fun K hK => ?_) Lex.tree_no
  go_simp
  have hn := (Below.refl v4.heap.size v4).alloc (Nat.le_refl _) (.cells #[.slice none 0 0, .int .i64 0, .slice none 0 0] 32)
  have b6 := Sc.Box3.new v4 (.slice none 0 0) (.int .i64 0) (.slice none 0 0) 32
  have leg6 := hB.size
  have hV := hV.off rfl
  have hT2 := hT2.off rfl
  have neb2g6 := Nat.ne_of_lt b2.lt
  have hT3 := hT3.off rfl
  have neb3g6 := Nat.ne_of_lt b3.lt
  have hB := hB.trans (hn.mono hB.size)
  have hV := hV.below hn (Nat.le_refl _)
  have hT2 := hT2.below hn (Nat.le_refl _)
  have b2 := b2.below hn b2.lt
  have hT3 := hT3.below hn (Nat.le_refl _)
  have b3 := b3.below hn b3.lt
  clear hn
  generalize v4.alloc (.cells #[.slice none 0 0, .int .i64 0, .slice none 0 0] 32) = zg6 at hB hV hT2 b2 hT3 b3 b6 ⊢
  generalize v4.heap.size = g6 at hV hT2 hT3 neb2g6 neb3g6 leg6 b6 ⊢
  refine hK.out _ _ _ (fun _ h => h) (⟨b3.c0, b3.c1, b3.c2⟩) ?_
  clear hK K
  try simp only [Act.put, List.setIfInBounds_toArray, List.set_cons_zero, List.set_cons_succ]
  refine Lex.tree_call tb0 (Lex.want_none rfl) (fun K hK => ?_) Lex.tree_no
  go_simp
  refine (some_any zg6).mono ?_
  rintro e y0 ⟨As4, rfl, hS, hy0⟩
  have hB := hB.trans (hy0.mono hB.size)
  have hV := hV.below hy0 (Nat.le_refl _)
  have hT2 := hT2.below hy0 (Nat.le_refl _)
  have b2 := b2.below hy0 b2.lt
  have hT3 := hT3.below hy0 (Nat.le_refl _)
  have b3 := b3.below hy0 b3.lt
  have b6 := b6.below hy0 b6.lt
  clear hy0
  refine hK.out _ _ _ (fun _ h => h) (⟨b3.c0, b3.c1, b3.c2⟩) ?_
  clear hK K
  try simp only [Act.put, List.setIfInBounds_toArray, List.set_cons_zero, List.set_cons_succ]
  refine Lex.tree_call tb3 (Lex.want_none rfl) (fun K hK => ?_) Lex.tree_no
  go_simp
  refine (aw_set (fun b hb => by have := b6.lt; omega) hS hT3).mono ?_
  rintro e y3 ⟨t6, rfl, hT6, hy3⟩
  simp only [TV.v]
  have hB := hB.trans (hy3.mono hB.size)
  have hV := hV.below hy3 (Nat.le_refl _)
  have hT2 := hT2.below hy3 (Nat.le_refl _)
  have b2 := b2.below hy3 b2.lt
  have hT3 := hT3.below hy3 (Nat.le_refl _)
  have b3 := b3.below hy3 b3.lt
  have b6 := b6.below hy3 b6.lt
  have hS := hS.below hy3 (Nat.le_refl _)
  clear hy3
  refine hK.out _ _ _ (fun _ h => h) (⟨b3.c0, b3.c1, b3.c2⟩) ?_
  clear hK K
  try simp only [Act.put, List.setIfInBounds_toArray, List.set_cons_zero, List.set_cons_succ]
  refine Lex.tree_take (.tuple #[.agg #[.slice t6.A t6.n t6.c, .int .i64 t6.m, .slice t6.B t6.n t6.d], .int .i64 0]) tb4 (Lex.want_none rfl) (by intro Wx hSw; (try dsimp only at hSw); go_simp; (try (first | (with_reducible rfl) | assumption | rfl))) ?_
  simp only [Act.put, List.setIfInBounds_toArray, List.set_cons_zero, List.set_cons_succ]
  refine Lex.tree_take (.agg #[.slice t6.A t6.n t6.c, .int .i64 t6.m, .slice t6.B t6.n t6.d]) tb5 (Lex.want_none rfl) (by intro Wx hSw; (try dsimp only at hSw); go_simp; (try (first | (with_reducible rfl) | assumption | rfl))) ?_
  simp only [Act.put, List.setIfInBounds_toArray, List.set_cons_zero, List.set_cons_succ]
  refine Lex.tree_take (.int .i64 0) tb6 (Lex.want_none rfl) (by intro Wx hSw; (try dsimp only at hSw); go_simp; (try (first | (with_reducible rfl) | assumption | rfl))) ?_
  simp only [Act.put, List.setIfInBounds_toArray, List.set_cons_zero, List.set_cons_succ]
  refine Lex.tree_call tb8 (Lex.want_none rfl) (fun K hK => ?_) Lex.tree_no
  have k0 := b6.c0
  have k1 := b6.c1
  have k2 := b6.c2
  have k3 := b6.f
  go_simp
  clear k0 k1 k2 k3
  have hw := bar_put y3 g6 (.slice t6.A t6.n t6.c) (.int .i64 t6.m) (.slice t6.B t6.n t6.d)
  have hB := ((hB.setCell (p := ⟨g6, 0, none⟩) leg6 (.slice t6.A t6.n t6.c)).setCell (p := ⟨g6, 1, none⟩) leg6 (.int .i64 t6.m)).setCell (p := ⟨g6, 2, none⟩) leg6 (.slice t6.B t6.n t6.d)
  have hV := hV.put hw
  have hT2 := hT2.put hw
  have b2 := b2.bar hw neb2g6
  have hT3 := hT3.put hw
  have b3 := b3.bar hw neb3g6
  have b6 := box3_put b6 (.slice t6.A t6.n t6.c) (.int .i64 t6.m) (.slice t6.B t6.n t6.d)
  have hT6 := hT6.put hw
  clear hw leg6
  clear hS
  generalize ((y3.setCell ⟨g6, 0, none⟩ (.slice t6.A t6.n t6.c)).setCell ⟨g6, 1, none⟩ (.int .i64 t6.m)).setCell ⟨g6, 2, none⟩ (.slice t6.B t6.n t6.d) = sg6 at hB hV hT2 b2 hT3 b3 b6 hT6 ⊢
  refine hK.out _ _ _ (fun _ h => h) (⟨b3.c0, b3.c1, b3.c2⟩) ?_
  clear hK K
  try simp only [Act.put, List.setIfInBounds_toArray, List.set_cons_zero, List.set_cons_succ]
  refine Lex.tree_take (.int .i64 0) tb9 (Lex.want_none rfl) (by intro Wx hSw; (try dsimp only at hSw); go_simp; (try (first | (with_reducible rfl) | assumption | rfl))) ?_
  simp only [Act.put, List.setIfInBounds_toArray, List.set_cons_zero, List.set_cons_succ]
  refine Lex.tree_end ?_
  refine NoPanic.normal ?_
  exact ⟨As4, t6, g6, rfl, hB, hV, hT2, b2, hT3, b3, hT6, b6⟩
 clear hB hV hT2 b2 hT3 b3
 rintro _ w7 ⟨As4, t6, g6, rfl, hB, hV, hT2, b2, hT3, b3, hT6, b6⟩
 go_wp2_with fail
 refine Lex.region_cut (fun (a' : Act) (W : World) => ∃ As5 : Option Addr, ∃ pa : Nat, ∃ pb : Nat, ∃ ps : Nat, ∃ t8 : TV, ∃ g8 : Nat, a' = ⟨#[.bool false, .slice (some ⟨g1, 0, none⟩) 2 2, .pointer (some ⟨g2, 0, none⟩), .pointer (some ⟨g3, 0, none⟩), .int .i64 0, .int .i64 0, .pointer (some ⟨g6, 0, none⟩), .int .i64 0, .pointer (some ⟨g8, 0, none⟩), .bool true, undef, undef, undef, undef, undef, undef, undef, undef, undef, undef, .agg #[.int .i64 1, .int .i64 7, .string ⟨#[]⟩], .agg #[.int .i64 3, .int .i64 0, .string ⟨#[97, 98]⟩], .slice (some ⟨g1, 0, none⟩) 2 2, .agg #[.string nmT, .slice As 2 2], .slice (some ⟨g0, 0, none⟩) 2 2, .slice (some ⟨g0 + 1, 0, none⟩) 1 1, .agg #[.slice t2.A t2.n t2.c, .int .i64 t2.m, .slice t2.B t2.n t2.d], .tuple #[.agg #[.slice t3.A t3.n t3.c, .int .i64 t3.m, .slice t3.B t3.n t3.d], .int .i64 0, .int .i64 0], .agg #[.string nmT, .slice As3 2 2], .agg #[.slice t2.A t2.n t2.c, .int .i64 t2.m, .slice t2.B t2.n t2.d], .slice (some ⟨g1, 0, none⟩) 2 2, .tuple #[.agg #[.slice t3.A t3.n t3.c, .int .i64 t3.m, .slice t3.B t3.n t3.d], .int .i64 0, .int .i64 0], .agg #[.slice t3.A t3.n t3.c, .int .i64 t3.m, .slice t3.B t3.n t3.d], .int .i64 0, .int .i64 0, .tuple #[.agg #[.slice t6.A t6.n t6.c, .int .i64 t6.m, .slice t6.B t6.n t6.d], .int .i64 0], .agg #[.string nmT, .slice As4 2 2], .agg #[.slice t3.A t3.n t3.c, .int .i64 t3.m, .slice t3.B t3.n t3.d], .agg #[.int .i64 0, .int .i64 0, .string ⟨#[]⟩], .tuple #[.agg #[.slice t6.A t6.n t6.c, .int .i64 t6.m, .slice t6.B t6.n t6.d], .int .i64 0], .agg #[.slice t6.A t6.n t6.c, .int .i64 t6.m, .slice t6.B t6.n t6.d], .int .i64 0, .tuple #[.agg #[.slice t8.A t8.n t8.c, .int .i64 t8.m, .slice t8.B t8.n t8.d], .bool true], .agg #[.string nmT, .slice As5 2 2], .agg #[.slice t3.A t3.n t3.c, .int .i64 t3.m, .slice t3.B t3.n t3.d], .slice (some ⟨pa, 0, none⟩) 1 1, .slice (some ⟨pb, 0, none⟩) 1 1, .slice (some ⟨ps, 0, none⟩) 2 2, .tuple #[.agg #[.slice t8.A t8.n t8.c, .int .i64 t8.m, .slice t8.B t8.n t8.d], .bool true], .agg #[.slice t8.A t8.n t8.c, .int .i64 t8.m, .slice t8.B t8.n t8.d], .bool true, undef, undef, undef, undef, undef, undef, undef, undef, undef, undef, undef, undef, undef, undef, undef, undef, undef, undef, undef, undef, undef, undef, undef, undef, undef, undef, undef, undef, undef, undef, undef, undef, undef, undef, undef, undef, undef, undef, undef, undef, undef, undef, undef, undef, undef, undef, undef, undef, undef, undef, undef, undef, undef, undef, undef, undef, undef, undef, undef, undef, undef, undef, undef, undef, undef, undef, undef, undef, undef, undef, undef, undef, undef, undef, undef, undef, undef, undef, undef, undef, undef, undef, undef, undef, undef, undef, undef, undef, undef, undef, undef, undef, undef, undef, undef, undef, undef], []⟩ ∧ Below w.heap.size w W ∧ HasVx W (fun _ => True) (some ⟨g1, 0, none⟩) rowT ∧ HasT csT W (fun _ => True) t2 r2T ∧ Sc.Box3 W g2 (.slice t2.A t2.n t2.c) (.int .i64 t2.m) (.slice t2.B t2.n t2.d) ∧ HasT csT W (fun _ => True) t3 r3T ∧ Sc.Box3 W g3 (.slice t3.A t3.n t3.c) (.int .i64 t3.m) (.slice t3.B t3.n t3.d) ∧ HasT csT W (fun _ => True) t6 r6T ∧ Sc.Box3 W g6 (.slice t6.A t6.n t6.c) (.int .i64 t6.m) (.slice t6.B t6.n t6.d) ∧ HasT csT W (fun _ => True) t8 r8T ∧ Sc.Box3 W g8 (.slice t8.A t8.n t8.c) (.int .i64 t8.m) (.slice t8.B t8.n t8.d)) ?_ ?_
 ·have hd := (Below.refl w7.heap.size w7).drew
  have hB := hB.drew
  have hV := hV.below hd (Nat.le_refl _)
  have hT2 := hT2.below hd (Nat.le_refl _)
  have b2 := b2.drew
  have hT3 := hT3.below hd (Nat.le_refl _)
  have b3 := b3.drew
  have hT6 := hT6.below hd (Nat.le_refl _)
  have b6 := b6.drew
  clear hd
  refine Lex.region_grow (ops := tcops) [0, 1, 2, 3, 4, 9] [0, 1, 2, 3, 4] tcconts (fun W => W.cell? ⟨g3, 0, none⟩ = some (.slice t3.A t3.n t3.c) ∧ W.cell? ⟨g3, 1, none⟩ = some (.int .i64 t3.m) ∧ W.cell? ⟨g3, 2, none⟩ = some (.slice t3.B t3.n t3.d)) (tcT t3 w7.drew.heap.size) 148 rfl (by kernel_rfl) (by kernel_rfl) tcsel (by kernel_rfl) tcscan (⟨b3.c0, b3.c1, b3.c2⟩) tc_smono tc_mono (tc_step rfl) ?_
  intro p hp vs v5 hS5 hb5 hT5
  simp only [tcconts, List.mem_cons, List.not_mem_nil, or_false] at hp
  generalize w7.drew = vd at hB hV hT2 b2 hT3 b3 hT6 b6 hb5 hT5
  rcases hp with rfl | rfl
  ·have e1 : vs 1 = Value.agg #[.slice t3.A t3.n t3.c, .int .i64 t3.m, .slice t3.B t3.n t3.d] := hT5 1 (by decide)
   obtain ⟨As5, e0, hS⟩ := hT5 0 (by decide)
   obtain ⟨pa, e2, _⟩ := hT5 2 (by decide)
   obtain ⟨pb, e3, _⟩ := hT5 3 (by decide)
   obtain ⟨pc, pd, ps, e4, h1, h2, h3⟩ := hT5 4 (by decide)
   have hL := (tc_list h1 h2 h3).1
   have hB := hB.trans (hb5.mono hB.size)
   have hV := hV.below hb5 (Nat.le_refl _)
   have hT2 := hT2.below hb5 (Nat.le_refl _)
   have b2 := b2.below hb5 b2.lt
   have hT3 := hT3.below hb5 (Nat.le_refl _)
   have b3 := b3.below hb5 b3.lt
   have hT6 := hT6.below hb5 (Nat.le_refl _)
   have b6 := b6.below hb5 b6.lt
   rw [tcput0, e0, e1, e2, e3, e4]
   clear hT5 e0 e1 e2 e3 e4 h1 h2 h3 hb5 hS5
   simp only [Act.put, List.setIfInBounds_toArray, List.set_cons_zero, List.set_cons_succ]
   refine Lex.tree_call tc5 (Lex.want_none rfl) (fun K hK => ?_) ?_
   ·go_simp
    refine (aw_lay (fun _ _ => trivial) hS hT3 hL).mono ?_
    rintro e y5 ⟨t8, rfl, hT8, hy5⟩
    simp only [TV.v]
    have hB := hB.trans (hy5.mono hB.size)
    have hV := hV.below hy5 (Nat.le_refl _)
    have hT2 := hT2.below hy5 (Nat.le_refl _)
    have b2 := b2.below hy5 b2.lt
    have hT3 := hT3.below hy5 (Nat.le_refl _)
    have b3 := b3.below hy5 b3.lt
    have hT6 := hT6.below hy5 (Nat.le_refl _)
    have b6 := b6.below hy5 b6.lt
    have hS := hS.below hy5 (Nat.le_refl _)
    have hL := hL.below hy5 (Nat.le_refl _)
    clear hy5
    clear hL
    refine hK.out _ _ _ (fun _ h => h) (⟨b3.c0, b3.c1, b3.c2⟩) ?_
    clear hK K
    try simp only [Act.put, List.setIfInBounds_toArray, List.set_cons_zero, List.set_cons_succ]
    refine Lex.tree_take (.tuple #[.agg #[.slice t8.A t8.n t8.c, .int .i64 t8.m, .slice t8.B t8.n t8.d], .bool true]) tc6 (Lex.want_none rfl) (by intro Wx hSw; (try dsimp only at hSw); go_simp; (try (first | (with_reducible rfl) | assumption | rfl))) ?_
    simp only [Act.put, List.setIfInBounds_toArray, List.set_cons_zero, List.set_cons_succ]
    refine Lex.tree_take (.agg #[.slice t8.A t8.n t8.c, .int .i64 t8.m, .slice t8.B t8.n t8.d]) tc7 (Lex.want_none rfl) (by intro Wx hSw; (try dsimp only at hSw); go_simp; (try (first | (with_reducible rfl) | assumption | rfl))) ?_
    simp only [Act.put, List.setIfInBounds_toArray, List.set_cons_zero, List.set_cons_succ]
    refine Lex.tree_take (.bool true) tc8 (Lex.want_none rfl) (by intro Wx hSw; (try dsimp only at hSw); go_simp; (try (first | (with_reducible rfl) | assumption | rfl))) ?_
    simp only [Act.put, List.setIfInBounds_toArray, List.set_cons_zero, List.set_cons_succ]
    refine Lex.tree_call tc9 (Lex.want_none rfl) (fun K hK => ?_) Lex.tree_no
    go_simp
    have hn := (Below.refl y5.heap.size y5).alloc (Nat.le_refl _) (.cells #[.slice none 0 0, .int .i64 0, .slice none 0 0] 32)
    have b8 := Sc.Box3.new y5 (.slice none 0 0) (.int .i64 0) (.slice none 0 0) 32
    have leg8 := hB.size
    have hV := hV.off rfl
    have hT2 := hT2.off rfl
    have neb2g8 := Nat.ne_of_lt b2.lt
    have hT3 := hT3.off rfl
    have neb3g8 := Nat.ne_of_lt b3.lt
    have hT6 := hT6.off rfl
    have neb6g8 := Nat.ne_of_lt b6.lt
    have hT8 := hT8.off rfl
    have hB := hB.trans (hn.mono hB.size)
    have hV := hV.below hn (Nat.le_refl _)
    have hT2 := hT2.below hn (Nat.le_refl _)
    have b2 := b2.below hn b2.lt
    have hT3 := hT3.below hn (Nat.le_refl _)
    have b3 := b3.below hn b3.lt
    have hT6 := hT6.below hn (Nat.le_refl _)
    have b6 := b6.below hn b6.lt
    have hS := hS.below hn (Nat.le_refl _)
    have hT8 := hT8.below hn (Nat.le_refl _)
    clear hn
    generalize y5.alloc (.cells #[.slice none 0 0, .int .i64 0, .slice none 0 0] 32) = zg8 at hB hV hT2 b2 hT3 b3 hT6 b6 hS hT8 b8 ⊢
    generalize y5.heap.size = g8 at hV hT2 hT3 hT6 hT8 neb2g8 neb3g8 neb6g8 leg8 b8 ⊢
    refine hK.out _ _ _ (fun _ h => h) (⟨b3.c0, b3.c1, b3.c2⟩) ?_
    clear hK K
    try simp only [Act.put, List.setIfInBounds_toArray, List.set_cons_zero, List.set_cons_succ]
    refine Lex.tree_call tc10 (Lex.want_none rfl) (fun K hK => ?_) Lex.tree_no
    have k0 := b8.c0
    have k1 := b8.c1
    have k2 := b8.c2
    have k3 := b8.f
    go_simp
    clear k0 k1 k2 k3
    have hw := bar_put zg8 g8 (.slice t8.A t8.n t8.c) (.int .i64 t8.m) (.slice t8.B t8.n t8.d)
    have hB := ((hB.setCell (p := ⟨g8, 0, none⟩) leg8 (.slice t8.A t8.n t8.c)).setCell (p := ⟨g8, 1, none⟩) leg8 (.int .i64 t8.m)).setCell (p := ⟨g8, 2, none⟩) leg8 (.slice t8.B t8.n t8.d)
    have hV := hV.put hw
    have hT2 := hT2.put hw
    have b2 := b2.bar hw neb2g8
    have hT3 := hT3.put hw
    have b3 := b3.bar hw neb3g8
    have hT6 := hT6.put hw
    have b6 := b6.bar hw neb6g8
    have hT8 := hT8.put hw
    have b8 := box3_put b8 (.slice t8.A t8.n t8.c) (.int .i64 t8.m) (.slice t8.B t8.n t8.d)
    clear hw leg8
    clear hS
    generalize ((zg8.setCell ⟨g8, 0, none⟩ (.slice t8.A t8.n t8.c)).setCell ⟨g8, 1, none⟩ (.int .i64 t8.m)).setCell ⟨g8, 2, none⟩ (.slice t8.B t8.n t8.d) = sg8 at hB hV hT2 b2 hT3 b3 hT6 b6 hT8 b8 ⊢
    refine hK.out _ _ _ (fun _ h => h) (⟨b3.c0, b3.c1, b3.c2⟩) ?_
    clear hK K
    try simp only [Act.put, List.setIfInBounds_toArray, List.set_cons_zero, List.set_cons_succ]
    refine Lex.tree_take (.bool true) tc11 (Lex.want_none rfl) (by intro Wx hSw; (try dsimp only at hSw); go_simp; (try (first | (with_reducible rfl) | assumption | rfl))) ?_
    simp only [Act.put, List.setIfInBounds_toArray, List.set_cons_zero, List.set_cons_succ]
    refine Lex.tree_end ?_
    refine NoPanic.normal ?_
    exact ⟨As5, pa, pb, ps, t8, g8, rfl, hB, hV, hT2, b2, hT3, b3, hT6, b6, hT8, b8⟩
   refine Lex.tree_call tc9 (Lex.want_none rfl) (fun K hK => ?_) Lex.tree_no
   go_simp
   have hn := (Below.refl v5.heap.size v5).alloc (Nat.le_refl _) (.cells #[.slice none 0 0, .int .i64 0, .slice none 0 0] 32)
   have b8 := Sc.Box3.new v5 (.slice none 0 0) (.int .i64 0) (.slice none 0 0) 32
   have leg8 := hB.size
   have hV := hV.off rfl
   have hT2 := hT2.off rfl
   have neb2g8 := Nat.ne_of_lt b2.lt
   have hT3 := hT3.off rfl
   have neb3g8 := Nat.ne_of_lt b3.lt
   have hT6 := hT6.off rfl
   have neb6g8 := Nat.ne_of_lt b6.lt
   have hL := hL.off rfl
   have hB := hB.trans (hn.mono hB.size)
   have hV := hV.below hn (Nat.le_refl _)
   have hT2 := hT2.below hn (Nat.le_refl _)
   have b2 := b2.below hn b2.lt
   have hT3 := hT3.below hn (Nat.le_refl _)
   have b3 := b3.below hn b3.lt
   have hT6 := hT6.below hn (Nat.le_refl _)
   have b6 := b6.below hn b6.lt
   have hS := hS.below hn (Nat.le_refl _)
   have hL := hL.below hn (Nat.le_refl _)
   clear hn
   generalize v5.alloc (.cells #[.slice none 0 0, .int .i64 0, .slice none 0 0] 32) = zg8 at hB hV hT2 b2 hT3 b3 hT6 b6 hS hL b8 ⊢
   generalize v5.heap.size = g8 at hV hT2 hT3 hT6 hL neb2g8 neb3g8 neb6g8 leg8 b8 ⊢
   refine hK.out _ _ _ (fun _ h => h) (⟨b3.c0, b3.c1, b3.c2⟩) ?_
   clear hK K
   try simp only [Act.put, List.setIfInBounds_toArray, List.set_cons_zero, List.set_cons_succ]
   refine Lex.tree_call tc5 (Lex.want_none rfl) (fun K hK => ?_) Lex.tree_no
   go_simp
   refine (aw_lay (fun b hb => by have := b8.lt; omega) hS hT3 hL).mono ?_
   rintro e y5 ⟨t8, rfl, hT8, hy5⟩
   simp only [TV.v]
   have hB := hB.trans (hy5.mono hB.size)
   have hV := hV.below hy5 (Nat.le_refl _)
   have hT2 := hT2.below hy5 (Nat.le_refl _)
   have b2 := b2.below hy5 b2.lt
   have hT3 := hT3.below hy5 (Nat.le_refl _)
   have b3 := b3.below hy5 b3.lt
   have hT6 := hT6.below hy5 (Nat.le_refl _)
   have b6 := b6.below hy5 b6.lt
   have hS := hS.below hy5 (Nat.le_refl _)
   have hL := hL.below hy5 (Nat.le_refl _)
   have b8 := b8.below hy5 b8.lt
   clear hy5
   clear hL
   refine hK.out _ _ _ (fun _ h => h) (⟨b3.c0, b3.c1, b3.c2⟩) ?_
   clear hK K
   try simp only [Act.put, List.setIfInBounds_toArray, List.set_cons_zero, List.set_cons_succ]
   refine Lex.tree_take (.tuple #[.agg #[.slice t8.A t8.n t8.c, .int .i64 t8.m, .slice t8.B t8.n t8.d], .bool true]) tc6 (Lex.want_none rfl) (by intro Wx hSw; (try dsimp only at hSw); go_simp; (try (first | (with_reducible rfl) | assumption | rfl))) ?_
   simp only [Act.put, List.setIfInBounds_toArray, List.set_cons_zero, List.set_cons_succ]
   refine Lex.tree_take (.agg #[.slice t8.A t8.n t8.c, .int .i64 t8.m, .slice t8.B t8.n t8.d]) tc7 (Lex.want_none rfl) (by intro Wx hSw; (try dsimp only at hSw); go_simp; (try (first | (with_reducible rfl) | assumption | rfl))) ?_
   simp only [Act.put, List.setIfInBounds_toArray, List.set_cons_zero, List.set_cons_succ]
   refine Lex.tree_take (.bool true) tc8 (Lex.want_none rfl) (by intro Wx hSw; (try dsimp only at hSw); go_simp; (try (first | (with_reducible rfl) | assumption | rfl))) ?_
   simp only [Act.put, List.setIfInBounds_toArray, List.set_cons_zero, List.set_cons_succ]
   refine Lex.tree_call tc10 (Lex.want_none rfl) (fun K hK => ?_) Lex.tree_no
   have k0 := b8.c0
   have k1 := b8.c1
   have k2 := b8.c2
   have k3 := b8.f
   go_simp
   clear k0 k1 k2 k3
   have hw := bar_put y5 g8 (.slice t8.A t8.n t8.c) (.int .i64 t8.m) (.slice t8.B t8.n t8.d)
   have hB := ((hB.setCell (p := ⟨g8, 0, none⟩) leg8 (.slice t8.A t8.n t8.c)).setCell (p := ⟨g8, 1, none⟩) leg8 (.int .i64 t8.m)).setCell (p := ⟨g8, 2, none⟩) leg8 (.slice t8.B t8.n t8.d)
   have hV := hV.put hw
   have hT2 := hT2.put hw
   have b2 := b2.bar hw neb2g8
   have hT3 := hT3.put hw
   have b3 := b3.bar hw neb3g8
   have hT6 := hT6.put hw
   have b6 := b6.bar hw neb6g8
   have b8 := box3_put b8 (.slice t8.A t8.n t8.c) (.int .i64 t8.m) (.slice t8.B t8.n t8.d)
   have hT8 := hT8.put hw
   clear hw leg8
   clear hS
   generalize ((y5.setCell ⟨g8, 0, none⟩ (.slice t8.A t8.n t8.c)).setCell ⟨g8, 1, none⟩ (.int .i64 t8.m)).setCell ⟨g8, 2, none⟩ (.slice t8.B t8.n t8.d) = sg8 at hB hV hT2 b2 hT3 b3 hT6 b6 b8 hT8 ⊢
   refine hK.out _ _ _ (fun _ h => h) (⟨b3.c0, b3.c1, b3.c2⟩) ?_
   clear hK K
   try simp only [Act.put, List.setIfInBounds_toArray, List.set_cons_zero, List.set_cons_succ]
   refine Lex.tree_take (.bool true) tc11 (Lex.want_none rfl) (by intro Wx hSw; (try dsimp only at hSw); go_simp; (try (first | (with_reducible rfl) | assumption | rfl))) ?_
   simp only [Act.put, List.setIfInBounds_toArray, List.set_cons_zero, List.set_cons_succ]
   refine Lex.tree_end ?_
   refine NoPanic.normal ?_
   exact ⟨As5, pa, pb, ps, t8, g8, rfl, hB, hV, hT2, b2, hT3, b3, hT6, b6, hT8, b8⟩
  ·have e1 : vs 1 = Value.agg #[.slice t3.A t3.n t3.c, .int .i64 t3.m, .slice t3.B t3.n t3.d] := hT5 1 (by decide)
   obtain ⟨As5, e0, hS⟩ := hT5 0 (by decide)
   obtain ⟨pa, e2, _⟩ := hT5 2 (by decide)
   obtain ⟨pb, e3, _⟩ := hT5 3 (by decide)
   obtain ⟨pc, pd, ps, e4, h1, h2, h3⟩ := hT5 4 (by decide)
   obtain ⟨g8, e9, hz, h9⟩ := hT5 9 (by decide)
   have hL := (tc_list h1 h2 h3).2 g8 h9
   have b8 := box3_of h9
   have leg8 := Nat.le_trans hB.size hz
   have hV := hV.offLe hz
   have hT2 := hT2.offLe hz
   have neb2g8 := Nat.ne_of_lt (Nat.lt_of_lt_of_le b2.lt hz)
   have hT3 := hT3.offLe hz
   have neb3g8 := Nat.ne_of_lt (Nat.lt_of_lt_of_le b3.lt hz)
   have hT6 := hT6.offLe hz
   have neb6g8 := Nat.ne_of_lt (Nat.lt_of_lt_of_le b6.lt hz)
   have hB := hB.trans (hb5.mono hB.size)
   have hV := hV.below hb5 (Nat.le_refl _)
   have hT2 := hT2.below hb5 (Nat.le_refl _)
   have b2 := b2.below hb5 b2.lt
   have hT3 := hT3.below hb5 (Nat.le_refl _)
   have b3 := b3.below hb5 b3.lt
   have hT6 := hT6.below hb5 (Nat.le_refl _)
   have b6 := b6.below hb5 b6.lt
   rw [tcput1, e0, e1, e2, e3, e4, e9]
   clear hT5 e0 e1 e2 e3 e4 h1 h2 h3 e9 hz h9 hb5 hS5
   simp only [Act.put, List.setIfInBounds_toArray, List.set_cons_zero, List.set_cons_succ]
   refine Lex.tree_call tc5 (Lex.want_none rfl) (fun K hK => ?_) Lex.tree_no
   go_simp
   refine (aw_lay (fun b hb => by have := b8.lt; omega) hS hT3 hL).mono ?_
   rintro e y5 ⟨t8, rfl, hT8, hy5⟩
   simp only [TV.v]
   have hB := hB.trans (hy5.mono hB.size)
   have hV := hV.below hy5 (Nat.le_refl _)
   have hT2 := hT2.below hy5 (Nat.le_refl _)
   have b2 := b2.below hy5 b2.lt
   have hT3 := hT3.below hy5 (Nat.le_refl _)
   have b3 := b3.below hy5 b3.lt
   have hT6 := hT6.below hy5 (Nat.le_refl _)
   have b6 := b6.below hy5 b6.lt
   have hS := hS.below hy5 (Nat.le_refl _)
   have b8 := b8.below hy5 b8.lt
   have hL := hL.below hy5 (Nat.le_refl _)
   clear hy5
   clear hL
   refine hK.out _ _ _ (fun _ h => h) (⟨b3.c0, b3.c1, b3.c2⟩) ?_
   clear hK K
   try simp only [Act.put, List.setIfInBounds_toArray, List.set_cons_zero, List.set_cons_succ]
   refine Lex.tree_take (.tuple #[.agg #[.slice t8.A t8.n t8.c, .int .i64 t8.m, .slice t8.B t8.n t8.d], .bool true]) tc6 (Lex.want_none rfl) (by intro Wx hSw; (try dsimp only at hSw); go_simp; (try (first | (with_reducible rfl) | assumption | rfl))) ?_
   simp only [Act.put, List.setIfInBounds_toArray, List.set_cons_zero, List.set_cons_succ]
   refine Lex.tree_take (.agg #[.slice t8.A t8.n t8.c, .int .i64 t8.m, .slice t8.B t8.n t8.d]) tc7 (Lex.want_none rfl) (by intro Wx hSw; (try dsimp only at hSw); go_simp; (try (first | (with_reducible rfl) | assumption | rfl))) ?_
   simp only [Act.put, List.setIfInBounds_toArray, List.set_cons_zero, List.set_cons_succ]
   refine Lex.tree_take (.bool true) tc8 (Lex.want_none rfl) (by intro Wx hSw; (try dsimp only at hSw); go_simp; (try (first | (with_reducible rfl) | assumption | rfl))) ?_
   simp only [Act.put, List.setIfInBounds_toArray, List.set_cons_zero, List.set_cons_succ]
   refine Lex.tree_call tc10 (Lex.want_none rfl) (fun K hK => ?_) Lex.tree_no
   have k0 := b8.c0
   have k1 := b8.c1
   have k2 := b8.c2
   have k3 := b8.f
   go_simp
   clear k0 k1 k2 k3
   have hw := bar_put y5 g8 (.slice t8.A t8.n t8.c) (.int .i64 t8.m) (.slice t8.B t8.n t8.d)
   have hB := ((hB.setCell (p := ⟨g8, 0, none⟩) leg8 (.slice t8.A t8.n t8.c)).setCell (p := ⟨g8, 1, none⟩) leg8 (.int .i64 t8.m)).setCell (p := ⟨g8, 2, none⟩) leg8 (.slice t8.B t8.n t8.d)
   have hV := hV.put hw
   have hT2 := hT2.put hw
   have b2 := b2.bar hw neb2g8
   have hT3 := hT3.put hw
   have b3 := b3.bar hw neb3g8
   have hT6 := hT6.put hw
   have b6 := b6.bar hw neb6g8
   have b8 := box3_put b8 (.slice t8.A t8.n t8.c) (.int .i64 t8.m) (.slice t8.B t8.n t8.d)
   have hT8 := hT8.put hw
   clear hw leg8
   clear hS
   generalize ((y5.setCell ⟨g8, 0, none⟩ (.slice t8.A t8.n t8.c)).setCell ⟨g8, 1, none⟩ (.int .i64 t8.m)).setCell ⟨g8, 2, none⟩ (.slice t8.B t8.n t8.d) = sg8 at hB hV hT2 b2 hT3 b3 hT6 b6 b8 hT8 ⊢
   refine hK.out _ _ _ (fun _ h => h) (⟨b3.c0, b3.c1, b3.c2⟩) ?_
   clear hK K
   try simp only [Act.put, List.setIfInBounds_toArray, List.set_cons_zero, List.set_cons_succ]
   refine Lex.tree_take (.bool true) tc11 (Lex.want_none rfl) (by intro Wx hSw; (try dsimp only at hSw); go_simp; (try (first | (with_reducible rfl) | assumption | rfl))) ?_
   simp only [Act.put, List.setIfInBounds_toArray, List.set_cons_zero, List.set_cons_succ]
   refine Lex.tree_end ?_
   refine NoPanic.normal ?_
   exact ⟨As5, pa, pb, ps, t8, g8, rfl, hB, hV, hT2, b2, hT3, b3, hT6, b6, hT8, b8⟩
 clear hB hV hT2 b2 hT3 b3 hT6 b6
 rintro _ w8 ⟨As5, pa, pb, ps, t8, g8, rfl, hB, hV, hT2, b2, hT3, b3, hT6, b6, hT8, b8⟩
 go_wp2_with fail
 refine Lex.region_cut (fun (a' : Act) (W : World) => ∃ As6 : Option Addr, ∃ B6 : Option Addr, ∃ c6 : Nat, a' = ⟨#[.bool false, .slice (some ⟨g1, 0, none⟩) 2 2, .pointer (some ⟨g2, 0, none⟩), .pointer (some ⟨g3, 0, none⟩), .int .i64 0, .int .i64 0, .pointer (some ⟨g6, 0, none⟩), .int .i64 0, .pointer (some ⟨g8, 0, none⟩), .bool true, .slice B6 2 c6, .bool true, undef, undef, undef, undef, undef, undef, undef, undef, .agg #[.int .i64 1, .int .i64 7, .string ⟨#[]⟩], .agg #[.int .i64 3, .int .i64 0, .string ⟨#[97, 98]⟩], .slice (some ⟨g1, 0, none⟩) 2 2, .agg #[.string nmT, .slice As 2 2], .slice (some ⟨g0, 0, none⟩) 2 2, .slice (some ⟨g0 + 1, 0, none⟩) 1 1, .agg #[.slice t2.A t2.n t2.c, .int .i64 t2.m, .slice t2.B t2.n t2.d], .tuple #[.agg #[.slice t3.A t3.n t3.c, .int .i64 t3.m, .slice t3.B t3.n t3.d], .int .i64 0, .int .i64 0], .agg #[.string nmT, .slice As3 2 2], .agg #[.slice t2.A t2.n t2.c, .int .i64 t2.m, .slice t2.B t2.n t2.d], .slice (some ⟨g1, 0, none⟩) 2 2, .tuple #[.agg #[.slice t3.A t3.n t3.c, .int .i64 t3.m, .slice t3.B t3.n t3.d], .int .i64 0, .int .i64 0], .agg #[.slice t3.A t3.n t3.c, .int .i64 t3.m, .slice t3.B t3.n t3.d], .int .i64 0, .int .i64 0, .tuple #[.agg #[.slice t6.A t6.n t6.c, .int .i64 t6.m, .slice t6.B t6.n t6.d], .int .i64 0], .agg #[.string nmT, .slice As4 2 2], .agg #[.slice t3.A t3.n t3.c, .int .i64 t3.m, .slice t3.B t3.n t3.d], .agg #[.int .i64 0, .int .i64 0, .string ⟨#[]⟩], .tuple #[.agg #[.slice t6.A t6.n t6.c, .int .i64 t6.m, .slice t6.B t6.n t6.d], .int .i64 0], .agg #[.slice t6.A t6.n t6.c, .int .i64 t6.m, .slice t6.B t6.n t6.d], .int .i64 0, .tuple #[.agg #[.slice t8.A t8.n t8.c, .int .i64 t8.m, .slice t8.B t8.n t8.d], .bool true], .agg #[.string nmT, .slice As5 2 2], .agg #[.slice t3.A t3.n t3.c, .int .i64 t3.m, .slice t3.B t3.n t3.d], .slice (some ⟨pa, 0, none⟩) 1 1, .slice (some ⟨pb, 0, none⟩) 1 1, .slice (some ⟨ps, 0, none⟩) 2 2, .tuple #[.agg #[.slice t8.A t8.n t8.c, .int .i64 t8.m, .slice t8.B t8.n t8.d], .bool true], .agg #[.slice t8.A t8.n t8.c, .int .i64 t8.m, .slice t8.B t8.n t8.d], .bool true, .tuple #[.slice B6 2 c6, .bool true], .agg #[.string nmT, .slice As6 2 2], .agg #[.slice t8.A t8.n t8.c, .int .i64 t8.m, .slice t8.B t8.n t8.d], .tuple #[.slice B6 2 c6, .bool true], .slice B6 2 c6, .bool true, undef, undef, undef, undef, undef, undef, undef, undef, undef, undef, undef, undef, undef, undef, undef, undef, undef, undef, undef, undef, undef, undef, undef, undef, undef, undef, undef, undef, undef, undef, undef, undef, undef, undef, undef, undef, undef, undef, undef, undef, undef, undef, undef, undef, undef, undef, undef, undef, undef, undef, undef, undef, undef, undef, undef, undef, undef, undef, undef, undef, undef, undef, undef, undef, undef, undef, undef, undef, undef, undef, undef, undef, undef, undef, undef, undef, undef, undef, undef, undef, undef, undef, undef, undef, undef, undef, undef, undef, undef, undef, undef], []⟩ ∧ Below w.heap.size w W ∧ HasVx W (fun _ => True) (some ⟨g1, 0, none⟩) rowT ∧ HasT csT W (fun _ => True) t2 r2T ∧ Sc.Box3 W g2 (.slice t2.A t2.n t2.c) (.int .i64 t2.m) (.slice t2.B t2.n t2.d) ∧ HasT csT W (fun _ => True) t3 r3T ∧ Sc.Box3 W g3 (.slice t3.A t3.n t3.c) (.int .i64 t3.m) (.slice t3.B t3.n t3.d) ∧ HasT csT W (fun _ => True) t6 r6T ∧ Sc.Box3 W g6 (.slice t6.A t6.n t6.c) (.int .i64 t6.m) (.slice t6.B t6.n t6.d) ∧ HasT csT W (fun _ => True) t8 r8T ∧ Sc.Box3 W g8 (.slice t8.A t8.n t8.c) (.int .i64 t8.m) (.slice t8.B t8.n t8.d) ∧ HasVx W (fun _ => True) B6 rowT) ?_ ?_
 ·have hd := (Below.refl w8.heap.size w8).drew
  have hB := hB.drew
  have hV := hV.below hd (Nat.le_refl _)
  have hT2 := hT2.below hd (Nat.le_refl _)
  have b2 := b2.drew
  have hT3 := hT3.below hd (Nat.le_refl _)
  have b3 := b3.drew
  have hT6 := hT6.below hd (Nat.le_refl _)
  have b6 := b6.drew
  have hT8 := hT8.below hd (Nat.le_refl _)
  have b8 := b8.drew
  clear hd
  refine Lex.region_tree (ops := tdops) tdtree (fun W => W.cell? ⟨g8, 0, none⟩ = some (.slice t8.A t8.n t8.c) ∧ W.cell? ⟨g8, 1, none⟩ = some (.int .i64 t8.m) ∧ W.cell? ⟨g8, 2, none⟩ = some (.slice t8.B t8.n t8.d)) (by kernel_rfl) (by kernel_rfl) tdsel tdlex (⟨b8.c0, b8.c1, b8.c2⟩) ?_
  unfold tdtree
  generalize w8.drew = v6 at hB hV hT2 b2 hT3 b3 hT6 b6 hT8 b8 ⊢
  refine Lex.tree_take (.agg #[.slice t8.A t8.n t8.c, .int .i64 t8.m, .slice t8.B t8.n t8.d]) td1 (Lex.want_none rfl) (by intro Wx hSw; (try dsimp only at hSw); go_simp; (try (first | (with_reducible rfl) | assumption | rfl))) ?_
  simp only [Act.put, List.setIfInBounds_toArray, List.set_cons_zero, List.set_cons_succ]
  refine Lex.tree_call td0 (Lex.want_none rfl) (fun K hK => ?_) Lex.tree_no
  go_simp
  refine (some_any v6).mono ?_
  rintro e y0 ⟨As6, rfl, hS, hy0⟩
  have hB := hB.trans (hy0.mono hB.size)
  have hV := hV.below hy0 (Nat.le_refl _)
  have hT2 := hT2.below hy0 (Nat.le_refl _)
  have b2 := b2.below hy0 b2.lt
  have hT3 := hT3.below hy0 (Nat.le_refl _)
  have b3 := b3.below hy0 b3.lt
  have hT6 := hT6.below hy0 (Nat.le_refl _)
  have b6 := b6.below hy0 b6.lt
  have hT8 := hT8.below hy0 (Nat.le_refl _)
  have b8 := b8.below hy0 b8.lt
  clear hy0
  refine hK.out _ _ _ (fun _ h => h) (⟨b8.c0, b8.c1, b8.c2⟩) ?_
  clear hK K
  try simp only [Act.put, List.setIfInBounds_toArray, List.set_cons_zero, List.set_cons_succ]
  refine Lex.tree_call td2 (Lex.want_none rfl) (fun K hK => ?_) Lex.tree_no
  go_simp
  refine (aw_row hS hT8).mono ?_
  rintro e y2 ⟨B6, c6, rfl, hR, hy2⟩
  have hB := hB.trans (hy2.mono hB.size)
  have hV := hV.below hy2 (Nat.le_refl _)
  have hT2 := hT2.below hy2 (Nat.le_refl _)
  have b2 := b2.below hy2 b2.lt
  have hT3 := hT3.below hy2 (Nat.le_refl _)
  have b3 := b3.below hy2 b3.lt
  have hT6 := hT6.below hy2 (Nat.le_refl _)
  have b6 := b6.below hy2 b6.lt
  have hT8 := hT8.below hy2 (Nat.le_refl _)
  have b8 := b8.below hy2 b8.lt
  have hS := hS.below hy2 (Nat.le_refl _)
  clear hy2
  refine hK.out _ _ _ (fun _ h => h) (⟨b8.c0, b8.c1, b8.c2⟩) ?_
  clear hK K
  try simp only [Act.put, List.setIfInBounds_toArray, List.set_cons_zero, List.set_cons_succ]
  refine Lex.tree_take (.tuple #[.slice B6 2 c6, .bool true]) td3 (Lex.want_none rfl) (by intro Wx hSw; (try dsimp only at hSw); go_simp; (try (first | (with_reducible rfl) | assumption | rfl))) ?_
  simp only [Act.put, List.setIfInBounds_toArray, List.set_cons_zero, List.set_cons_succ]
  refine Lex.tree_take (.slice B6 2 c6) td4 (Lex.want_none rfl) (by intro Wx hSw; (try dsimp only at hSw); go_simp; (try (first | (with_reducible rfl) | assumption | rfl))) ?_
  simp only [Act.put, List.setIfInBounds_toArray, List.set_cons_zero, List.set_cons_succ]
  refine Lex.tree_take (.bool true) td5 (Lex.want_none rfl) (by intro Wx hSw; (try dsimp only at hSw); go_simp; (try (first | (with_reducible rfl) | assumption | rfl))) ?_
  simp only [Act.put, List.setIfInBounds_toArray, List.set_cons_zero, List.set_cons_succ]
  refine Lex.tree_take (.slice B6 2 c6) td6 (Lex.want_none rfl) (by intro Wx hSw; (try dsimp only at hSw); go_simp; (try (first | (with_reducible rfl) | assumption | rfl))) ?_
  simp only [Act.put, List.setIfInBounds_toArray, List.set_cons_zero, List.set_cons_succ]
  refine Lex.tree_take (.bool true) td7 (Lex.want_none rfl) (by intro Wx hSw; (try dsimp only at hSw); go_simp; (try (first | (with_reducible rfl) | assumption | rfl))) ?_
  simp only [Act.put, List.setIfInBounds_toArray, List.set_cons_zero, List.set_cons_succ]
  refine Lex.tree_end ?_
  refine NoPanic.normal ?_
  exact ⟨As6, B6, c6, rfl, hB, hV, hT2, b2, hT3, b3, hT6, b6, hT8, b8, hR⟩
 clear hB hV hT2 b2 hT3 b3 hT6 b6 hT8 b8
 rintro _ w9 ⟨As6, B6, c6, rfl, hB, hV, hT2, b2, hT3, b3, hT6, b6, hT8, b8, hR⟩
 go_wp2_with fail
 refine Lex.region_cut (fun (a' : Act) (W : World) => ∃ As7 : Option Addr, ∃ t12 : TV, ∃ g12 : Nat, a' = ⟨#[.bool false, .slice (some ⟨g1, 0, none⟩) 2 2, .pointer (some ⟨g2, 0, none⟩), .pointer (some ⟨g3, 0, none⟩), .int .i64 0, .int .i64 0, .pointer (some ⟨g6, 0, none⟩), .int .i64 0, .pointer (some ⟨g8, 0, none⟩), .bool true, .slice B6 2 c6, .bool true, .pointer (some ⟨g12, 0, none⟩), .int .i64 0, undef, undef, undef, undef, undef, undef, .agg #[.int .i64 1, .int .i64 7, .string ⟨#[]⟩], .agg #[.int .i64 3, .int .i64 0, .string ⟨#[97, 98]⟩], .slice (some ⟨g1, 0, none⟩) 2 2, .agg #[.string nmT, .slice As 2 2], .slice (some ⟨g0, 0, none⟩) 2 2, .slice (some ⟨g0 + 1, 0, none⟩) 1 1, .agg #[.slice t2.A t2.n t2.c, .int .i64 t2.m, .slice t2.B t2.n t2.d], .tuple #[.agg #[.slice t3.A t3.n t3.c, .int .i64 t3.m, .slice t3.B t3.n t3.d], .int .i64 0, .int .i64 0], .agg #[.string nmT, .slice As3 2 2], .agg #[.slice t2.A t2.n t2.c, .int .i64 t2.m, .slice t2.B t2.n t2.d], .slice (some ⟨g1, 0, none⟩) 2 2, .tuple #[.agg #[.slice t3.A t3.n t3.c, .int .i64 t3.m, .slice t3.B t3.n t3.d], .int .i64 0, .int .i64 0], .agg #[.slice t3.A t3.n t3.c, .int .i64 t3.m, .slice t3.B t3.n t3.d], .int .i64 0, .int .i64 0, .tuple #[.agg #[.slice t6.A t6.n t6.c, .int .i64 t6.m, .slice t6.B t6.n t6.d], .int .i64 0], .agg #[.string nmT, .slice As4 2 2], .agg #[.slice t3.A t3.n t3.c, .int .i64 t3.m, .slice t3.B t3.n t3.d], .agg #[.int .i64 0, .int .i64 0, .string ⟨#[]⟩], .tuple #[.agg #[.slice t6.A t6.n t6.c, .int .i64 t6.m, .slice t6.B t6.n t6.d], .int .i64 0], .agg #[.slice t6.A t6.n t6.c, .int .i64 t6.m, .slice t6.B t6.n t6.d], .int .i64 0, .tuple #[.agg #[.slice t8.A t8.n t8.c, .int .i64 t8.m, .slice t8.B t8.n t8.d], .bool true], .agg #[.string nmT, .slice As5 2 2], .agg #[.slice t3.A t3.n t3.c, .int .i64 t3.m, .slice t3.B t3.n t3.d], .slice (some ⟨pa, 0, none⟩) 1 1, .slice (some ⟨pb, 0, none⟩) 1 1, .slice (some ⟨ps, 0, none⟩) 2 2, .tuple #[.agg #[.slice t8.A t8.n t8.c, .int .i64 t8.m, .slice t8.B t8.n t8.d], .bool true], .agg #[.slice t8.A t8.n t8.c, .int .i64 t8.m, .slice t8.B t8.n t8.d], .bool true, .tuple #[.slice B6 2 c6, .bool true], .agg #[.string nmT, .slice As6 2 2], .agg #[.slice t8.A t8.n t8.c, .int .i64 t8.m, .slice t8.B t8.n t8.d], .tuple #[.slice B6 2 c6, .bool true], .slice B6 2 c6, .bool true, .tuple #[.agg #[.slice t12.A t12.n t12.c, .int .i64 t12.m, .slice t12.B t12.n t12.d], .int .i64 0], .agg #[.string nmT, .slice As7 2 2], .agg #[.slice t3.A t3.n t3.c, .int .i64 t3.m, .slice t3.B t3.n t3.d], .tuple #[.agg #[.slice t12.A t12.n t12.c, .int .i64 t12.m, .slice t12.B t12.n t12.d], .int .i64 0], .agg #[.slice t12.A t12.n t12.c, .int .i64 t12.m, .slice t12.B t12.n t12.d], .int .i64 0, undef, undef, undef, undef, undef, undef, undef, undef, undef, undef, undef, undef, undef, undef, undef, undef, undef, undef, undef, undef, undef, undef, undef, undef, undef, undef, undef, undef, undef, undef, undef, undef, undef, undef, undef, undef, undef, undef, undef, undef, undef, undef, undef, undef, undef, undef, undef, undef, undef, undef, undef, undef, undef, undef, undef, undef, undef, undef, undef, undef, undef, undef, undef, undef, undef, undef, undef, undef, undef, undef, undef, undef, undef, undef, undef, undef, undef, undef, undef, undef, undef, undef, undef, undef, undef], []⟩ ∧ Below w.heap.size w W ∧ HasVx W (fun _ => True) (some ⟨g1, 0, none⟩) rowT ∧ HasT csT W (fun _ => True) t2 r2T ∧ Sc.Box3 W g2 (.slice t2.A t2.n t2.c) (.int .i64 t2.m) (.slice t2.B t2.n t2.d) ∧ HasT csT W (fun _ => True) t3 r3T ∧ Sc.Box3 W g3 (.slice t3.A t3.n t3.c) (.int .i64 t3.m) (.slice t3.B t3.n t3.d) ∧ HasT csT W (fun _ => True) t6 r6T ∧ Sc.Box3 W g6 (.slice t6.A t6.n t6.c) (.int .i64 t6.m) (.slice t6.B t6.n t6.d) ∧ HasT csT W (fun _ => True) t8 r8T ∧ Sc.Box3 W g8 (.slice t8.A t8.n t8.c) (.int .i64 t8.m) (.slice t8.B t8.n t8.d) ∧ HasVx W (fun _ => True) B6 rowT ∧ HasT csT W (fun _ => True) t12 r12T ∧ Sc.Box3 W g12 (.slice t12.A t12.n t12.c) (.int .i64 t12.m) (.slice t12.B t12.n t12.d)) ?_ ?_
 ·have hd := (Below.refl w9.heap.size w9).drew
  have hB := hB.drew
  have hV := hV.below hd (Nat.le_refl _)
  have hT2 := hT2.below hd (Nat.le_refl _)
  have b2 := b2.drew
  have hT3 := hT3.below hd (Nat.le_refl _)
  have b3 := b3.drew
  have hT6 := hT6.below hd (Nat.le_refl _)
  have b6 := b6.drew
  have hT8 := hT8.below hd (Nat.le_refl _)
  have b8 := b8.drew
  have hR := hR.below hd (Nat.le_refl _)
  clear hd
  refine Lex.region_tree (ops := teops) tetree (fun W => W.cell? ⟨g3, 0, none⟩ = some (.slice t3.A t3.n t3.c) ∧ W.cell? ⟨g3, 1, none⟩ = some (.int .i64 t3.m) ∧ W.cell? ⟨g3, 2, none⟩ = some (.slice t3.B t3.n t3.d)) (by kernel_rfl) (by kernel_rfl) tesel telex (⟨b3.c0, b3.c1, b3.c2⟩) ?_
  unfold tetree
  generalize w9.drew = v7 at hB hV hT2 b2 hT3 b3 hT6 b6 hT8 b8 hR ⊢
  refine Lex.tree_take (.agg #[.slice t3.A t3.n t3.c, .int .i64 t3.m, .slice t3.B t3.n t3.d]) te1 (Lex.want_none rfl) (by intro Wx hSw; (try dsimp only at hSw); go_simp; (try (first | (with_reducible rfl) | assumption | rfl))) ?_
  simp only [Act.put, List.setIfInBounds_toArray, List.set_cons_zero, List.set_cons_succ]
  refine Lex.tree_call te0 (Lex.want_none rfl) (fun K hK => ?_) ?_
  ·go_simp
   refine (some_any v7).mono ?_
   rintro e y0 ⟨As7, rfl, hS, hy0⟩
   have hB := hB.trans (hy0.mono hB.size)
   have hV := hV.below hy0 (Nat.le_refl _)
   have hT2 := hT2.below hy0 (Nat.le_refl _)
   have b2 := b2.below hy0 b2.lt
   have hT3 := hT3.below hy0 (Nat.le_refl _)
   have b3 := b3.below hy0 b3.lt
   have hT6 := hT6.below hy0 (Nat.le_refl _)
   have b6 := b6.below hy0 b6.lt
   have hT8 := hT8.below hy0 (Nat.le_refl _)
   have b8 := b8.below hy0 b8.lt
   have hR := hR.below hy0 (Nat.le_refl _)
   clear hy0
   refine hK.out _ _ _ (fun _ h => h) (⟨b3.c0, b3.c1, b3.c2⟩) ?_
   clear hK K
   try simp only [Act.put, List.setIfInBounds_toArray, List.set_cons_zero, List.set_cons_succ]
   refine Lex.tree_call te2 (Lex.want_none rfl) (fun K hK => ?_) ?_
   ·go_simp
    refine (aw_drop (fun _ _ => trivial) hS hT3).mono ?_
    rintro e y2 ⟨t12, rfl, hT12, hy2⟩
    simp only [TV.v]
    have hB := hB.trans (hy2.mono hB.size)
    have hV := hV.below hy2 (Nat.le_refl _)
    have hT2 := hT2.below hy2 (Nat.le_refl _)
    have b2 := b2.below hy2 b2.lt
    have hT3 := hT3.below hy2 (Nat.le_refl _)
    have b3 := b3.below hy2 b3.lt
    have hT6 := hT6.below hy2 (Nat.le_refl _)
    have b6 := b6.below hy2 b6.lt
    have hT8 := hT8.below hy2 (Nat.le_refl _)
    have b8 := b8.below hy2 b8.lt
    have hR := hR.below hy2 (Nat.le_refl _)
    have hS := hS.below hy2 (Nat.le_refl _)
    clear hy2
    refine hK.out _ _ _ (fun _ h => h) (⟨b3.c0, b3.c1, b3.c2⟩) ?_
    clear hK K
    try simp only [Act.put, List.setIfInBounds_toArray, List.set_cons_zero, List.set_cons_succ]
    refine Lex.tree_take (.tuple #[.agg #[.slice t12.A t12.n t12.c, .int .i64 t12.m, .slice t12.B t12.n t12.d], .int .i64 0]) te3 (Lex.want_none rfl) (by intro Wx hSw; (try dsimp only at hSw); go_simp; (try (first | (with_reducible rfl) | assumption | rfl))) ?_
    simp only [Act.put, List.setIfInBounds_toArray, List.set_cons_zero, List.set_cons_succ]
    refine Lex.tree_take (.agg #[.slice t12.A t12.n t12.c, .int .i64 t12.m, .slice t12.B t12.n t12.d]) te4 (Lex.want_none rfl) (by intro Wx hSw; (try dsimp only at hSw); go_simp; (try (first | (with_reducible rfl) | assumption | rfl))) ?_
    simp only [Act.put, List.setIfInBounds_toArray, List.set_cons_zero, List.set_cons_succ]
    refine Lex.tree_take (.int .i64 0) te5 (Lex.want_none rfl) (by intro Wx hSw; (try dsimp only at hSw); go_simp; (try (first | (with_reducible rfl) | assumption | rfl))) ?_
    simp only [Act.put, List.setIfInBounds_toArray, List.set_cons_zero, List.set_cons_succ]
    refine Lex.tree_call te6 (Lex.want_none rfl) (fun K hK => ?_) Lex.tree_no
    go_simp
    have hn := (Below.refl y2.heap.size y2).alloc (Nat.le_refl _) (.cells #[.slice none 0 0, .int .i64 0, .slice none 0 0] 32)
    have b12 := Sc.Box3.new y2 (.slice none 0 0) (.int .i64 0) (.slice none 0 0) 32
    have leg12 := hB.size
    have hV := hV.off rfl
    have hT2 := hT2.off rfl
    have neb2g12 := Nat.ne_of_lt b2.lt
    have hT3 := hT3.off rfl
    have neb3g12 := Nat.ne_of_lt b3.lt
    have hT6 := hT6.off rfl
    have neb6g12 := Nat.ne_of_lt b6.lt
    have hT8 := hT8.off rfl
    have neb8g12 := Nat.ne_of_lt b8.lt
    have hR := hR.off rfl
    have hT12 := hT12.off rfl
    have hB := hB.trans (hn.mono hB.size)
    have hV := hV.below hn (Nat.le_refl _)
    have hT2 := hT2.below hn (Nat.le_refl _)
    have b2 := b2.below hn b2.lt
    have hT3 := hT3.below hn (Nat.le_refl _)
    have b3 := b3.below hn b3.lt
    have hT6 := hT6.below hn (Nat.le_refl _)
    have b6 := b6.below hn b6.lt
    have hT8 := hT8.below hn (Nat.le_refl _)
    have b8 := b8.below hn b8.lt
    have hR := hR.below hn (Nat.le_refl _)
    have hS := hS.below hn (Nat.le_refl _)
    have hT12 := hT12.below hn (Nat.le_refl _)
    clear hn
    generalize y2.alloc (.cells #[.slice none 0 0, .int .i64 0, .slice none 0 0] 32) = zg12 at hB hV hT2 b2 hT3 b3 hT6 b6 hT8 b8 hR hS hT12 b12 ⊢
    generalize y2.heap.size = g12 at hV hT2 hT3 hT6 hT8 hR hT12 neb2g12 neb3g12 neb6g12 neb8g12 leg12 b12 ⊢
    refine hK.out _ _ _ (fun _ h => h) (⟨b3.c0, b3.c1, b3.c2⟩) ?_
    clear hK K
    try simp only [Act.put, List.setIfInBounds_toArray, List.set_cons_zero, List.set_cons_succ]
    refine Lex.tree_call te7 (Lex.want_none rfl) (fun K hK => ?_) Lex.tree_no
    have k0 := b12.c0
    have k1 := b12.c1
    have k2 := b12.c2
    have k3 := b12.f
    go_simp
    clear k0 k1 k2 k3
    have hw := bar_put zg12 g12 (.slice t12.A t12.n t12.c) (.int .i64 t12.m) (.slice t12.B t12.n t12.d)
    have hB := ((hB.setCell (p := ⟨g12, 0, none⟩) leg12 (.slice t12.A t12.n t12.c)).setCell (p := ⟨g12, 1, none⟩) leg12 (.int .i64 t12.m)).setCell (p := ⟨g12, 2, none⟩) leg12 (.slice t12.B t12.n t12.d)
    have hV := hV.put hw
    have hT2 := hT2.put hw
    have b2 := b2.bar hw neb2g12
    have hT3 := hT3.put hw
    have b3 := b3.bar hw neb3g12
    have hT6 := hT6.put hw
    have b6 := b6.bar hw neb6g12
    have hT8 := hT8.put hw
    have b8 := b8.bar hw neb8g12
    have hR := hR.put hw
    have hT12 := hT12.put hw
    have b12 := box3_put b12 (.slice t12.A t12.n t12.c) (.int .i64 t12.m) (.slice t12.B t12.n t12.d)
    clear hw leg12
    clear hS
    generalize ((zg12.setCell ⟨g12, 0, none⟩ (.slice t12.A t12.n t12.c)).setCell ⟨g12, 1, none⟩ (.int .i64 t12.m)).setCell ⟨g12, 2, none⟩ (.slice t12.B t12.n t12.d) = sg12 at hB hV hT2 b2 hT3 b3 hT6 b6 hT8 b8 hR hT12 b12 ⊢
    refine hK.out _ _ _ (fun _ h => h) (⟨b3.c0, b3.c1, b3.c2⟩) ?_
    clear hK K
    try simp only [Act.put, List.setIfInBounds_toArray, List.set_cons_zero, List.set_cons_succ]
    refine Lex.tree_take (.int .i64 0) te8 (Lex.want_none rfl) (by intro Wx hSw; (try dsimp only at hSw); go_simp; (try (first | (with_reducible rfl) | assumption | rfl))) ?_
    simp only [Act.put, List.setIfInBounds_toArray, List.set_cons_zero, List.set_cons_succ]
    refine Lex.tree_end ?_
    refine NoPanic.normal ?_
    exact ⟨As7, t12, g12, rfl, hB, hV, hT2, b2, hT3, b3, hT6, b6, hT8, b8, hR, hT12, b12⟩
   refine Lex.tree_call te6 (Lex.want_none rfl) (fun K hK => ?_) Lex.tree_no
   go_simp
   have hn := (Below.refl y0.heap.size y0).alloc (Nat.le_refl _) (.cells #[.slice none 0 0, .int .i64 0, .slice none 0 0] 32)
   have b12 := Sc.Box3.new y0 (.slice none 0 0) (.int .i64 0) (.slice none 0 0) 32
   have leg12 := hB.size
   have hV := hV.off rfl
   have hT2 := hT2.off rfl
   have neb2g12 := Nat.ne_of_lt b2.lt
   have hT3 := hT3.off rfl
   have neb3g12 := Nat.ne_of_lt b3.lt
   have hT6 := hT6.off rfl
   have neb6g12 := Nat.ne_of_lt b6.lt
   have hT8 := hT8.off rfl
   have neb8g12 := Nat.ne_of_lt b8.lt
   have hR := hR.off rfl
   have hB := hB.trans (hn.mono hB.size)
   have hV := hV.below hn (Nat.le_refl _)
   have hT2 := hT2.below hn (Nat.le_refl _)
   have b2 := b2.below hn b2.lt
   have hT3 := hT3.below hn (Nat.le_refl _)
   have b3 := b3.below hn b3.lt
   have hT6 := hT6.below hn (Nat.le_refl _)
   have b6 := b6.below hn b6.lt
   have hT8 := hT8.below hn (Nat.le_refl _)
   have b8 := b8.below hn b8.lt
   have hR := hR.below hn (Nat.le_refl _)
   have hS := hS.below hn (Nat.le_refl _)
   clear hn
   generalize y0.alloc (.cells #[.slice none 0 0, .int .i64 0, .slice none 0 0] 32) = zg12 at hB hV hT2 b2 hT3 b3 hT6 b6 hT8 b8 hR hS b12 ⊢
   generalize y0.heap.size = g12 at hV hT2 hT3 hT6 hT8 hR neb2g12 neb3g12 neb6g12 neb8g12 leg12 b12 ⊢
   refine hK.out _ _ _ (fun _ h => h) (⟨b3.c0, b3.c1, b3.c2⟩) ?_
   clear hK K
   try simp only [Act.put, List.setIfInBounds_toArray, List.set_cons_zero, List.set_cons_succ]
   refine Lex.tree_call te2 (Lex.want_none rfl) (fun K hK => ?_) Lex.tree_no
   go_simp
   refine (aw_drop (fun b hb => by have := b12.lt; omega) hS hT3).mono ?_
   rintro e y2 ⟨t12, rfl, hT12, hy2⟩
   simp only [TV.v]
   have hB := hB.trans (hy2.mono hB.size)
   have hV := hV.below hy2 (Nat.le_refl _)
   have hT2 := hT2.below hy2 (Nat.le_refl _)
   have b2 := b2.below hy2 b2.lt
   have hT3 := hT3.below hy2 (Nat.le_refl _)
   have b3 := b3.below hy2 b3.lt
   have hT6 := hT6.below hy2 (Nat.le_refl _)
   have b6 := b6.below hy2 b6.lt
   have hT8 := hT8.below hy2 (Nat.le_refl _)
   have b8 := b8.below hy2 b8.lt
   have hR := hR.below hy2 (Nat.le_refl _)
   have hS := hS.below hy2 (Nat.le_refl _)
   have b12 := b12.below hy2 b12.lt
   clear hy2
   refine hK.out _ _ _ (fun _ h => h) (⟨b3.c0, b3.c1, b3.c2⟩) ?_
   clear hK K
   try simp only [Act.put, List.setIfInBounds_toArray, List.set_cons_zero, List.set_cons_succ]
   refine Lex.tree_take (.tuple #[.agg #[.slice t12.A t12.n t12.c, .int .i64 t12.m, .slice t12.B t12.n t12.d], .int .i64 0]) te3 (Lex.want_none rfl) (by intro Wx hSw; (try dsimp only at hSw); go_simp; (try (first | (with_reducible rfl) | assumption | rfl))) ?_
   simp only [Act.put, List.setIfInBounds_toArray, List.set_cons_zero, List.set_cons_succ]
   refine Lex.tree_take (.agg #[.slice t12.A t12.n t12.c, .int .i64 t12.m, .slice t12.B t12.n t12.d]) te4 (Lex.want_none rfl) (by intro Wx hSw; (try dsimp only at hSw); go_simp; (try (first | (with_reducible rfl) | assumption | rfl))) ?_
   simp only [Act.put, List.setIfInBounds_toArray, List.set_cons_zero, List.set_cons_succ]
   refine Lex.tree_take (.int .i64 0) te5 (Lex.want_none rfl) (by intro Wx hSw; (try dsimp only at hSw); go_simp; (try (first | (with_reducible rfl) | assumption | rfl))) ?_
   simp only [Act.put, List.setIfInBounds_toArray, List.set_cons_zero, List.set_cons_succ]
   refine Lex.tree_call te7 (Lex.want_none rfl) (fun K hK => ?_) Lex.tree_no
   have k0 := b12.c0
   have k1 := b12.c1
   have k2 := b12.c2
   have k3 := b12.f
   go_simp
   clear k0 k1 k2 k3
   have hw := bar_put y2 g12 (.slice t12.A t12.n t12.c) (.int .i64 t12.m) (.slice t12.B t12.n t12.d)
   have hB := ((hB.setCell (p := ⟨g12, 0, none⟩) leg12 (.slice t12.A t12.n t12.c)).setCell (p := ⟨g12, 1, none⟩) leg12 (.int .i64 t12.m)).setCell (p := ⟨g12, 2, none⟩) leg12 (.slice t12.B t12.n t12.d)
   have hV := hV.put hw
   have hT2 := hT2.put hw
   have b2 := b2.bar hw neb2g12
   have hT3 := hT3.put hw
   have b3 := b3.bar hw neb3g12
   have hT6 := hT6.put hw
   have b6 := b6.bar hw neb6g12
   have hT8 := hT8.put hw
   have b8 := b8.bar hw neb8g12
   have hR := hR.put hw
   have b12 := box3_put b12 (.slice t12.A t12.n t12.c) (.int .i64 t12.m) (.slice t12.B t12.n t12.d)
   have hT12 := hT12.put hw
   clear hw leg12
   clear hS
   generalize ((y2.setCell ⟨g12, 0, none⟩ (.slice t12.A t12.n t12.c)).setCell ⟨g12, 1, none⟩ (.int .i64 t12.m)).setCell ⟨g12, 2, none⟩ (.slice t12.B t12.n t12.d) = sg12 at hB hV hT2 b2 hT3 b3 hT6 b6 hT8 b8 hR b12 hT12 ⊢
   refine hK.out _ _ _ (fun _ h => h) (⟨b3.c0, b3.c1, b3.c2⟩) ?_
   clear hK K
   try simp only [Act.put, List.setIfInBounds_toArray, List.set_cons_zero, List.set_cons_succ]
   refine Lex.tree_take (.int .i64 0) te8 (Lex.want_none rfl) (by intro Wx hSw; (try dsimp only at hSw); go_simp; (try (first | (with_reducible rfl) | assumption | rfl))) ?_
   simp only [Act.put, List.setIfInBounds_toArray, List.set_cons_zero, List.set_cons_succ]
   refine Lex.tree_end ?_
   refine NoPanic.normal ?_
   exact ⟨As7, t12, g12, rfl, hB, hV, hT2, b2, hT3, b3, hT6, b6, hT8, b8, hR, hT12, b12⟩
  refine Lex.tree_call te6 (Lex.want_none rfl) (fun K hK => ?_) Lex.tree_no
  go_simp
  have hn := (Below.refl v7.heap.size v7).alloc (Nat.le_refl _) (.cells #[.slice none 0 0, .int .i64 0, .slice none 0 0] 32)
  have b12 := Sc.Box3.new v7 (.slice none 0 0) (.int .i64 0) (.slice none 0 0) 32
  have leg12 := hB.size
  have hV := hV.off rfl
  have hT2 := hT2.off rfl
  have neb2g12 := Nat.ne_of_lt b2.lt
  have hT3 := hT3.off rfl
  have neb3g12 := Nat.ne_of_lt b3.lt
  have hT6 := hT6.off rfl
  have neb6g12 := Nat.ne_of_lt b6.lt
  have hT8 := hT8.off rfl
  have neb8g12 := Nat.ne_of_lt b8.lt
  have hR := hR.off rfl
  have hB := hB.trans (hn.mono hB.size)
  have hV := hV.below hn (Nat.le_refl _)
  have hT2 := hT2.below hn (Nat.le_refl _)
  have b2 := b2.below hn b2.lt
  have hT3 := hT3.below hn (Nat.le_refl _)
  have b3 := b3.below hn b3.lt
  have hT6 := hT6.below hn (Nat.le_refl _)
  have b6 := b6.below hn b6.lt
  have hT8 := hT8.below hn (Nat.le_refl _)
  have b8 := b8.below hn b8.lt
  have hR := hR.below hn (Nat.le_refl _)
  clear hn
  generalize v7.alloc (.cells #[.slice none 0 0, .int .i64 0, .slice none 0 0] 32) = zg12 at hB hV hT2 b2 hT3 b3 hT6 b6 hT8 b8 hR b12 ⊢
  generalize v7.heap.size = g12 at hV hT2 hT3 hT6 hT8 hR neb2g12 neb3g12 neb6g12 neb8g12 leg12 b12 ⊢
  refine hK.out _ _ _ (fun _ h => h) (⟨b3.c0, b3.c1, b3.c2⟩) ?_
  clear hK K
  try simp only [Act.put, List.setIfInBounds_toArray, List.set_cons_zero, List.set_cons_succ]
  refine Lex.tree_call te0 (Lex.want_none rfl) (fun K hK => ?_) Lex.tree_no
  go_simp
  refine (some_any zg12).mono ?_
  rintro e y0 ⟨As7, rfl, hS, hy0⟩
  have hB := hB.trans (hy0.mono hB.size)
  have hV := hV.below hy0 (Nat.le_refl _)
  have hT2 := hT2.below hy0 (Nat.le_refl _)
  have b2 := b2.below hy0 b2.lt
  have hT3 := hT3.below hy0 (Nat.le_refl _)
  have b3 := b3.below hy0 b3.lt
  have hT6 := hT6.below hy0 (Nat.le_refl _)
  have b6 := b6.below hy0 b6.lt
  have hT8 := hT8.below hy0 (Nat.le_refl _)
  have b8 := b8.below hy0 b8.lt
  have hR := hR.below hy0 (Nat.le_refl _)
  have b12 := b12.below hy0 b12.lt
  clear hy0
  refine hK.out _ _ _ (fun _ h => h) (⟨b3.c0, b3.c1, b3.c2⟩) ?_
  clear hK K
  try simp only [Act.put, List.setIfInBounds_toArray, List.set_cons_zero, List.set_cons_succ]
  refine Lex.tree_call te2 (Lex.want_none rfl) (fun K hK => ?_) Lex.tree_no
  go_simp
  refine (aw_drop (fun b hb => by have := b12.lt; omega) hS hT3).mono ?_
  rintro e y2 ⟨t12, rfl, hT12, hy2⟩
  simp only [TV.v]
  have hB := hB.trans (hy2.mono hB.size)
  have hV := hV.below hy2 (Nat.le_refl _)
  have hT2 := hT2.below hy2 (Nat.le_refl _)
  have b2 := b2.below hy2 b2.lt
  have hT3 := hT3.below hy2 (Nat.le_refl _)
  have b3 := b3.below hy2 b3.lt
  have hT6 := hT6.below hy2 (Nat.le_refl _)
  have b6 := b6.below hy2 b6.lt
  have hT8 := hT8.below hy2 (Nat.le_refl _)
  have b8 := b8.below hy2 b8.lt
  have hR := hR.below hy2 (Nat.le_refl _)
  have b12 := b12.below hy2 b12.lt
  have hS := hS.below hy2 (Nat.le_refl _)
  clear hy2
  refine hK.out _ _ _ (fun _ h => h) (⟨b3.c0, b3.c1, b3.c2⟩) ?_
  clear hK K
  try simp only [Act.put, List.setIfInBounds_toArray, List.set_cons_zero, List.set_cons_succ]
  refine Lex.tree_take (.tuple #[.agg #[.slice t12.A t12.n t12.c, .int .i64 t12.m, .slice t12.B t12.n t12.d], .int .i64 0]) te3 (Lex.want_none rfl) (by intro Wx hSw; (try dsimp only at hSw); go_simp; (try (first | (with_reducible rfl) | assumption | rfl))) ?_
  simp only [Act.put, List.setIfInBounds_toArray, List.set_cons_zero, List.set_cons_succ]
  refine Lex.tree_take (.agg #[.slice t12.A t12.n t12.c, .int .i64 t12.m, .slice t12.B t12.n t12.d]) te4 (Lex.want_none rfl) (by intro Wx hSw; (try dsimp only at hSw); go_simp; (try (first | (with_reducible rfl) | assumption | rfl))) ?_
  simp only [Act.put, List.setIfInBounds_toArray, List.set_cons_zero, List.set_cons_succ]
  refine Lex.tree_take (.int .i64 0) te5 (Lex.want_none rfl) (by intro Wx hSw; (try dsimp only at hSw); go_simp; (try (first | (with_reducible rfl) | assumption | rfl))) ?_
  simp only [Act.put, List.setIfInBounds_toArray, List.set_cons_zero, List.set_cons_succ]
  refine Lex.tree_call te7 (Lex.want_none rfl) (fun K hK => ?_) Lex.tree_no
  have k0 := b12.c0
  have k1 := b12.c1
  have k2 := b12.c2
  have k3 := b12.f
  go_simp
  clear k0 k1 k2 k3
  have hw := bar_put y2 g12 (.slice t12.A t12.n t12.c) (.int .i64 t12.m) (.slice t12.B t12.n t12.d)
  have hB := ((hB.setCell (p := ⟨g12, 0, none⟩) leg12 (.slice t12.A t12.n t12.c)).setCell (p := ⟨g12, 1, none⟩) leg12 (.int .i64 t12.m)).setCell (p := ⟨g12, 2, none⟩) leg12 (.slice t12.B t12.n t12.d)
  have hV := hV.put hw
  have hT2 := hT2.put hw
  have b2 := b2.bar hw neb2g12
  have hT3 := hT3.put hw
  have b3 := b3.bar hw neb3g12
  have hT6 := hT6.put hw
  have b6 := b6.bar hw neb6g12
  have hT8 := hT8.put hw
  have b8 := b8.bar hw neb8g12
  have hR := hR.put hw
  have b12 := box3_put b12 (.slice t12.A t12.n t12.c) (.int .i64 t12.m) (.slice t12.B t12.n t12.d)
  have hT12 := hT12.put hw
  clear hw leg12
  clear hS
  generalize ((y2.setCell ⟨g12, 0, none⟩ (.slice t12.A t12.n t12.c)).setCell ⟨g12, 1, none⟩ (.int .i64 t12.m)).setCell ⟨g12, 2, none⟩ (.slice t12.B t12.n t12.d) = sg12 at hB hV hT2 b2 hT3 b3 hT6 b6 hT8 b8 hR b12 hT12 ⊢
  refine hK.out _ _ _ (fun _ h => h) (⟨b3.c0, b3.c1, b3.c2⟩) ?_
  clear hK K
  try simp only [Act.put, List.setIfInBounds_toArray, List.set_cons_zero, List.set_cons_succ]
  refine Lex.tree_take (.int .i64 0) te8 (Lex.want_none rfl) (by intro Wx hSw; (try dsimp only at hSw); go_simp; (try (first | (with_reducible rfl) | assumption | rfl))) ?_
  simp only [Act.put, List.setIfInBounds_toArray, List.set_cons_zero, List.set_cons_succ]
  refine Lex.tree_end ?_
  refine NoPanic.normal ?_
  exact ⟨As7, t12, g12, rfl, hB, hV, hT2, b2, hT3, b3, hT6, b6, hT8, b8, hR, hT12, b12⟩
 clear hB hV hT2 b2 hT3 b3 hT6 b6 hT8 b8 hR
 rintro _ w10 ⟨As7, t12, g12, rfl, hB, hV, hT2, b2, hT3, b3, hT6, b6, hT8, b8, hR, hT12, b12⟩
 go_wp2_with fail
 refine Lex.region_cut (fun (a' : Act) (W : World) => ∃ As8 : Option Addr, ∃ g14 : Nat, a' = ⟨#[.bool false, .slice (some ⟨g1, 0, none⟩) 2 2, .pointer (some ⟨g2, 0, none⟩), .pointer (some ⟨g3, 0, none⟩), .int .i64 0, .int .i64 0, .pointer (some ⟨g6, 0, none⟩), .int .i64 0, .pointer (some ⟨g8, 0, none⟩), .bool true, .slice B6 2 c6, .bool true, .pointer (some ⟨g12, 0, none⟩), .int .i64 0, .pointer (some ⟨g14, 0, none⟩), .bool false, undef, undef, undef, undef, .agg #[.int .i64 1, .int .i64 7, .string ⟨#[]⟩], .agg #[.int .i64 3, .int .i64 0, .string ⟨#[97, 98]⟩], .slice (some ⟨g1, 0, none⟩) 2 2, .agg #[.string nmT, .slice As 2 2], .slice (some ⟨g0, 0, none⟩) 2 2, .slice (some ⟨g0 + 1, 0, none⟩) 1 1, .agg #[.slice t2.A t2.n t2.c, .int .i64 t2.m, .slice t2.B t2.n t2.d], .tuple #[.agg #[.slice t3.A t3.n t3.c, .int .i64 t3.m, .slice t3.B t3.n t3.d], .int .i64 0, .int .i64 0], .agg #[.string nmT, .slice As3 2 2], .agg #[.slice t2.A t2.n t2.c, .int .i64 t2.m, .slice t2.B t2.n t2.d], .slice (some ⟨g1, 0, none⟩) 2 2, .tuple #[.agg #[.slice t3.A t3.n t3.c, .int .i64 t3.m, .slice t3.B t3.n t3.d], .int .i64 0, .int .i64 0], .agg #[.slice t3.A t3.n t3.c, .int .i64 t3.m, .slice t3.B t3.n t3.d], .int .i64 0, .int .i64 0, .tuple #[.agg #[.slice t6.A t6.n t6.c, .int .i64 t6.m, .slice t6.B t6.n t6.d], .int .i64 0], .agg #[.string nmT, .slice As4 2 2], .agg #[.slice t3.A t3.n t3.c, .int .i64 t3.m, .slice t3.B t3.n t3.d], .agg #[.int .i64 0, .int .i64 0, .string ⟨#[]⟩], .tuple #[.agg #[.slice t6.A t6.n t6.c, .int .i64 t6.m, .slice t6.B t6.n t6.d], .int .i64 0], .agg #[.slice t6.A t6.n t6.c, .int .i64 t6.m, .slice t6.B t6.n t6.d], .int .i64 0, .tuple #[.agg #[.slice t8.A t8.n t8.c, .int .i64 t8.m, .slice t8.B t8.n t8.d], .bool true], .agg #[.string nmT, .slice As5 2 2], .agg #[.slice t3.A t3.n t3.c, .int .i64 t3.m, .slice t3.B t3.n t3.d], .slice (some ⟨pa, 0, none⟩) 1 1, .slice (some ⟨pb, 0, none⟩) 1 1, .slice (some ⟨ps, 0, none⟩) 2 2, .tuple #[.agg #[.slice t8.A t8.n t8.c, .int .i64 t8.m, .slice t8.B t8.n t8.d], .bool true], .agg #[.slice t8.A t8.n t8.c, .int .i64 t8.m, .slice t8.B t8.n t8.d], .bool true, .tuple #[.slice B6 2 c6, .bool true], .agg #[.string nmT, .slice As6 2 2], .agg #[.slice t8.A t8.n t8.c, .int .i64 t8.m, .slice t8.B t8.n t8.d], .tuple #[.slice B6 2 c6, .bool true], .slice B6 2 c6, .bool true, .tuple #[.agg #[.slice t12.A t12.n t12.c, .int .i64 t12.m, .slice t12.B t12.n t12.d], .int .i64 0], .agg #[.string nmT, .slice As7 2 2], .agg #[.slice t3.A t3.n t3.c, .int .i64 t3.m, .slice t3.B t3.n t3.d], .tuple #[.agg #[.slice t12.A t12.n t12.c, .int .i64 t12.m, .slice t12.B t12.n t12.d], .int .i64 0], .agg #[.slice t12.A t12.n t12.c, .int .i64 t12.m, .slice t12.B t12.n t12.d], .int .i64 0, .tuple #[.agg #[.int .i64 0, .int .i64 0, .string ⟨#[]⟩], .bool false], .agg #[.string nmT, .slice As8 2 2], .agg #[.slice t2.A t2.n t2.c, .int .i64 t2.m, .slice t2.B t2.n t2.d], .tuple #[.agg #[.int .i64 0, .int .i64 0, .string ⟨#[]⟩], .bool false], .agg #[.int .i64 0, .int .i64 0, .string ⟨#[]⟩], .bool false, undef, undef, undef, undef, undef, undef, undef, undef, undef, undef, undef, undef, undef, undef, undef, undef, undef, undef, undef, undef, undef, undef, undef, undef, undef, undef, undef, undef, undef, undef, undef, undef, undef, undef, undef, undef, undef, undef, undef, undef, undef, undef, undef, undef, undef, undef, undef, undef, undef, undef, undef, undef, undef, undef, undef, undef, undef, undef, undef, undef, undef, undef, undef, undef, undef, undef, undef, undef, undef, undef, undef, undef, undef, undef, undef, undef, undef, undef, undef], []⟩ ∧ Below w.heap.size w W ∧ HasVx W (fun _ => True) (some ⟨g1, 0, none⟩) rowT ∧ HasT csT W (fun _ => True) t2 r2T ∧ Sc.Box3 W g2 (.slice t2.A t2.n t2.c) (.int .i64 t2.m) (.slice t2.B t2.n t2.d) ∧ HasT csT W (fun _ => True) t3 r3T ∧ Sc.Box3 W g3 (.slice t3.A t3.n t3.c) (.int .i64 t3.m) (.slice t3.B t3.n t3.d) ∧ HasT csT W (fun _ => True) t6 r6T ∧ Sc.Box3 W g6 (.slice t6.A t6.n t6.c) (.int .i64 t6.m) (.slice t6.B t6.n t6.d) ∧ HasT csT W (fun _ => True) t8 r8T ∧ Sc.Box3 W g8 (.slice t8.A t8.n t8.c) (.int .i64 t8.m) (.slice t8.B t8.n t8.d) ∧ HasVx W (fun _ => True) B6 rowT ∧ HasT csT W (fun _ => True) t12 r12T ∧ Sc.Box3 W g12 (.slice t12.A t12.n t12.c) (.int .i64 t12.m) (.slice t12.B t12.n t12.d) ∧ Sc.Box3 W g14 (.int .i64 0) (.int .i64 0) (.string ⟨#[]⟩)) ?_ ?_
 ·have hd := (Below.refl w10.heap.size w10).drew
  have hB := hB.drew
  have hV := hV.below hd (Nat.le_refl _)
  have hT2 := hT2.below hd (Nat.le_refl _)
  have b2 := b2.drew
  have hT3 := hT3.below hd (Nat.le_refl _)
  have b3 := b3.drew
  have hT6 := hT6.below hd (Nat.le_refl _)
  have b6 := b6.drew
  have hT8 := hT8.below hd (Nat.le_refl _)
  have b8 := b8.drew
  have hR := hR.below hd (Nat.le_refl _)
  have hT12 := hT12.below hd (Nat.le_refl _)
  have b12 := b12.drew
  clear hd
  refine Lex.region_tree (ops := tfops) tftree (fun W => W.cell? ⟨g2, 0, none⟩ = some (.slice t2.A t2.n t2.c) ∧ W.cell? ⟨g2, 1, none⟩ = some (.int .i64 t2.m) ∧ W.cell? ⟨g2, 2, none⟩ = some (.slice t2.B t2.n t2.d)) (by kernel_rfl) (by kernel_rfl) tfsel tflex (⟨b2.c0, b2.c1, b2.c2⟩) ?_
  unfold tftree
  generalize w10.drew = v8 at hB hV hT2 b2 hT3 b3 hT6 b6 hT8 b8 hR hT12 b12 ⊢
  refine Lex.tree_take (.agg #[.slice t2.A t2.n t2.c, .int .i64 t2.m, .slice t2.B t2.n t2.d]) tf1 (Lex.want_none rfl) (by intro Wx hSw; (try dsimp only at hSw); go_simp; (try (first | (with_reducible rfl) | assumption | rfl))) ?_
  simp only [Act.put, List.setIfInBounds_toArray, List.set_cons_zero, List.set_cons_succ]
  refine Lex.tree_call tf0 (Lex.want_none rfl) (fun K hK => ?_) ?_
  ·go_simp
   refine (some_any v8).mono ?_
   rintro e y0 ⟨As8, rfl, hS, hy0⟩
   have hB := hB.trans (hy0.mono hB.size)
   have hV := hV.below hy0 (Nat.le_refl _)
   have hT2 := hT2.below hy0 (Nat.le_refl _)
   have b2 := b2.below hy0 b2.lt
   have hT3 := hT3.below hy0 (Nat.le_refl _)
   have b3 := b3.below hy0 b3.lt
   have hT6 := hT6.below hy0 (Nat.le_refl _)
   have b6 := b6.below hy0 b6.lt
   have hT8 := hT8.below hy0 (Nat.le_refl _)
   have b8 := b8.below hy0 b8.lt
   have hR := hR.below hy0 (Nat.le_refl _)
   have hT12 := hT12.below hy0 (Nat.le_refl _)
   have b12 := b12.below hy0 b12.lt
   clear hy0
   refine hK.out _ _ _ (fun _ h => h) (⟨b2.c0, b2.c1, b2.c2⟩) ?_
   clear hK K
   try simp only [Act.put, List.setIfInBounds_toArray, List.set_cons_zero, List.set_cons_succ]
   refine Lex.tree_call tf2 (Lex.want_none rfl) (fun K hK => ?_) ?_
   ·go_simp
    refine (aw_cell hS hT2).mono ?_
    rintro e y2 ⟨rfl, hy2⟩
    have hB := hB.trans (hy2.mono hB.size)
    have hV := hV.below hy2 (Nat.le_refl _)
    have hT2 := hT2.below hy2 (Nat.le_refl _)
    have b2 := b2.below hy2 b2.lt
    have hT3 := hT3.below hy2 (Nat.le_refl _)
    have b3 := b3.below hy2 b3.lt
    have hT6 := hT6.below hy2 (Nat.le_refl _)
    have b6 := b6.below hy2 b6.lt
    have hT8 := hT8.below hy2 (Nat.le_refl _)
    have b8 := b8.below hy2 b8.lt
    have hR := hR.below hy2 (Nat.le_refl _)
    have hT12 := hT12.below hy2 (Nat.le_refl _)
    have b12 := b12.below hy2 b12.lt
    have hS := hS.below hy2 (Nat.le_refl _)
    clear hy2
    refine hK.out _ _ _ (fun _ h => h) (⟨b2.c0, b2.c1, b2.c2⟩) ?_
    clear hK K
    try simp only [Act.put, List.setIfInBounds_toArray, List.set_cons_zero, List.set_cons_succ]
    refine Lex.tree_take (.tuple #[.agg #[.int .i64 0, .int .i64 0, .string ⟨#[]⟩], .bool false]) tf3 (Lex.want_none rfl) (by intro Wx hSw; (try dsimp only at hSw); go_simp; (try (first | (with_reducible rfl) | assumption | rfl))) ?_
    simp only [Act.put, List.setIfInBounds_toArray, List.set_cons_zero, List.set_cons_succ]
    refine Lex.tree_take (.agg #[.int .i64 0, .int .i64 0, .string ⟨#[]⟩]) tf4 (Lex.want_none rfl) (by intro Wx hSw; (try dsimp only at hSw); go_simp; (try (first | (with_reducible rfl) | assumption | rfl))) ?_
    simp only [Act.put, List.setIfInBounds_toArray, List.set_cons_zero, List.set_cons_succ]
    refine Lex.tree_take (.bool false) tf5 (Lex.want_none rfl) (by intro Wx hSw; (try dsimp only at hSw); go_simp; (try (first | (with_reducible rfl) | assumption | rfl))) ?_
    simp only [Act.put, List.setIfInBounds_toArray, List.set_cons_zero, List.set_cons_succ]
    refine Lex.tree_call tf6 (Lex.want_none rfl) (fun K hK => ?_) Lex.tree_no
    go_simp
    have hn := (Below.refl y2.heap.size y2).alloc (Nat.le_refl _) (.cells #[.int .i64 0, .int .i64 0, .string ⟨#[]⟩] 37)
    have b14 := Sc.Box3.new y2 (.int .i64 0) (.int .i64 0) (.string ⟨#[]⟩) 37
    have leg14 := hB.size
    have hV := hV.off rfl
    have hT2 := hT2.off rfl
    have neb2g14 := Nat.ne_of_lt b2.lt
    have hT3 := hT3.off rfl
    have neb3g14 := Nat.ne_of_lt b3.lt
    have hT6 := hT6.off rfl
    have neb6g14 := Nat.ne_of_lt b6.lt
    have hT8 := hT8.off rfl
    have neb8g14 := Nat.ne_of_lt b8.lt
    have hR := hR.off rfl
    have hT12 := hT12.off rfl
    have neb12g14 := Nat.ne_of_lt b12.lt
    have hB := hB.trans (hn.mono hB.size)
    have hV := hV.below hn (Nat.le_refl _)
    have hT2 := hT2.below hn (Nat.le_refl _)
    have b2 := b2.below hn b2.lt
    have hT3 := hT3.below hn (Nat.le_refl _)
    have b3 := b3.below hn b3.lt
    have hT6 := hT6.below hn (Nat.le_refl _)
    have b6 := b6.below hn b6.lt
    have hT8 := hT8.below hn (Nat.le_refl _)
    have b8 := b8.below hn b8.lt
    have hR := hR.below hn (Nat.le_refl _)
    have hT12 := hT12.below hn (Nat.le_refl _)
    have b12 := b12.below hn b12.lt
    have hS := hS.below hn (Nat.le_refl _)
    clear hn
    generalize y2.alloc (.cells #[.int .i64 0, .int .i64 0, .string ⟨#[]⟩] 37) = zg14 at hB hV hT2 b2 hT3 b3 hT6 b6 hT8 b8 hR hT12 b12 hS b14 ⊢
    generalize y2.heap.size = g14 at hV hT2 hT3 hT6 hT8 hR hT12 neb2g14 neb3g14 neb6g14 neb8g14 neb12g14 leg14 b14 ⊢
    refine hK.out _ _ _ (fun _ h => h) (⟨b2.c0, b2.c1, b2.c2⟩) ?_
    clear hK K
    try simp only [Act.put, List.setIfInBounds_toArray, List.set_cons_zero, List.set_cons_succ]
    refine Lex.tree_call tf7 (Lex.want_none rfl) (fun K hK => ?_) Lex.tree_no
    have k0 := b14.c0
    have k1 := b14.c1
    have k2 := b14.c2
    have k3 := b14.f
    go_simp
    clear k0 k1 k2 k3
    have hw := bar_put zg14 g14 (.int .i64 0) (.int .i64 0) (.string ⟨#[]⟩)
    have hB := ((hB.setCell (p := ⟨g14, 0, none⟩) leg14 (.int .i64 0)).setCell (p := ⟨g14, 1, none⟩) leg14 (.int .i64 0)).setCell (p := ⟨g14, 2, none⟩) leg14 (.string ⟨#[]⟩)
    have hV := hV.put hw
    have hT2 := hT2.put hw
    have b2 := b2.bar hw neb2g14
    have hT3 := hT3.put hw
    have b3 := b3.bar hw neb3g14
    have hT6 := hT6.put hw
    have b6 := b6.bar hw neb6g14
    have hT8 := hT8.put hw
    have b8 := b8.bar hw neb8g14
    have hR := hR.put hw
    have hT12 := hT12.put hw
    have b12 := b12.bar hw neb12g14
    have b14 := box3_put b14 (.int .i64 0) (.int .i64 0) (.string ⟨#[]⟩)
    clear hw leg14
    clear hS
    generalize ((zg14.setCell ⟨g14, 0, none⟩ (.int .i64 0)).setCell ⟨g14, 1, none⟩ (.int .i64 0)).setCell ⟨g14, 2, none⟩ (.string ⟨#[]⟩) = sg14 at hB hV hT2 b2 hT3 b3 hT6 b6 hT8 b8 hR hT12 b12 b14 ⊢
    refine hK.out _ _ _ (fun _ h => h) (⟨b2.c0, b2.c1, b2.c2⟩) ?_
    clear hK K
    try simp only [Act.put, List.setIfInBounds_toArray, List.set_cons_zero, List.set_cons_succ]
    refine Lex.tree_take (.bool false) tf8 (Lex.want_none rfl) (by intro Wx hSw; (try dsimp only at hSw); go_simp; (try (first | (with_reducible rfl) | assumption | rfl))) ?_
    simp only [Act.put, List.setIfInBounds_toArray, List.set_cons_zero, List.set_cons_succ]
    refine Lex.tree_end ?_
    refine NoPanic.normal ?_
    exact ⟨As8, g14, rfl, hB, hV, hT2, b2, hT3, b3, hT6, b6, hT8, b8, hR, hT12, b12, b14⟩
   refine Lex.tree_call tf6 (Lex.want_none rfl) (fun K hK => ?_) Lex.tree_no
   go_simp
   have hn := (Below.refl y0.heap.size y0).alloc (Nat.le_refl _) (.cells #[.int .i64 0, .int .i64 0, .string ⟨#[]⟩] 37)
   have b14 := Sc.Box3.new y0 (.int .i64 0) (.int .i64 0) (.string ⟨#[]⟩) 37
   have leg14 := hB.size
   have hV := hV.off rfl
   have hT2 := hT2.off rfl
   have neb2g14 := Nat.ne_of_lt b2.lt
   have hT3 := hT3.off rfl
   have neb3g14 := Nat.ne_of_lt b3.lt
   have hT6 := hT6.off rfl
   have neb6g14 := Nat.ne_of_lt b6.lt
   have hT8 := hT8.off rfl
   have neb8g14 := Nat.ne_of_lt b8.lt
   have hR := hR.off rfl
   have hT12 := hT12.off rfl
   have neb12g14 := Nat.ne_of_lt b12.lt
   have hB := hB.trans (hn.mono hB.size)
   have hV := hV.below hn (Nat.le_refl _)
   have hT2 := hT2.below hn (Nat.le_refl _)
   have b2 := b2.below hn b2.lt
   have hT3 := hT3.below hn (Nat.le_refl _)
   have b3 := b3.below hn b3.lt
   have hT6 := hT6.below hn (Nat.le_refl _)
   have b6 := b6.below hn b6.lt
   have hT8 := hT8.below hn (Nat.le_refl _)
   have b8 := b8.below hn b8.lt
   have hR := hR.below hn (Nat.le_refl _)
   have hT12 := hT12.below hn (Nat.le_refl _)
   have b12 := b12.below hn b12.lt
   have hS := hS.below hn (Nat.le_refl _)
   clear hn
   generalize y0.alloc (.cells #[.int .i64 0, .int .i64 0, .string ⟨#[]⟩] 37) = zg14 at hB hV hT2 b2 hT3 b3 hT6 b6 hT8 b8 hR hT12 b12 hS b14 ⊢
   generalize y0.heap.size = g14 at hV hT2 hT3 hT6 hT8 hR hT12 neb2g14 neb3g14 neb6g14 neb8g14 neb12g14 leg14 b14 ⊢
   refine hK.out _ _ _ (fun _ h => h) (⟨b2.c0, b2.c1, b2.c2⟩) ?_
   clear hK K
   try simp only [Act.put, List.setIfInBounds_toArray, List.set_cons_zero, List.set_cons_succ]
   refine Lex.tree_call tf2 (Lex.want_none rfl) (fun K hK => ?_) Lex.tree_no
   go_simp
   refine (aw_cell hS hT2).mono ?_
   rintro e y2 ⟨rfl, hy2⟩
   have hB := hB.trans (hy2.mono hB.size)
   have hV := hV.below hy2 (Nat.le_refl _)
   have hT2 := hT2.below hy2 (Nat.le_refl _)
   have b2 := b2.below hy2 b2.lt
   have hT3 := hT3.below hy2 (Nat.le_refl _)
   have b3 := b3.below hy2 b3.lt
   have hT6 := hT6.below hy2 (Nat.le_refl _)
   have b6 := b6.below hy2 b6.lt
   have hT8 := hT8.below hy2 (Nat.le_refl _)
   have b8 := b8.below hy2 b8.lt
   have hR := hR.below hy2 (Nat.le_refl _)
   have hT12 := hT12.below hy2 (Nat.le_refl _)
   have b12 := b12.below hy2 b12.lt
   have hS := hS.below hy2 (Nat.le_refl _)
   have b14 := b14.below hy2 b14.lt
   clear hy2
   refine hK.out _ _ _ (fun _ h => h) (⟨b2.c0, b2.c1, b2.c2⟩) ?_
   clear hK K
   try simp only [Act.put, List.setIfInBounds_toArray, List.set_cons_zero, List.set_cons_succ]
   refine Lex.tree_take (.tuple #[.agg #[.int .i64 0, .int .i64 0, .string ⟨#[]⟩], .bool false]) tf3 (Lex.want_none rfl) (by intro Wx hSw; (try dsimp only at hSw); go_simp; (try (first | (with_reducible rfl) | assumption | rfl))) ?_
   simp only [Act.put, List.setIfInBounds_toArray, List.set_cons_zero, List.set_cons_succ]
   refine Lex.tree_take (.agg #[.int .i64 0, .int .i64 0, .string ⟨#[]⟩]) tf4 (Lex.want_none rfl) (by intro Wx hSw; (try dsimp only at hSw); go_simp; (try (first | (with_reducible rfl) | assumption | rfl))) ?_
   simp only [Act.put, List.setIfInBounds_toArray, List.set_cons_zero, List.set_cons_succ]
   refine Lex.tree_take (.bool false) tf5 (Lex.want_none rfl) (by intro Wx hSw; (try dsimp only at hSw); go_simp; (try (first | (with_reducible rfl) | assumption | rfl))) ?_
   simp only [Act.put, List.setIfInBounds_toArray, List.set_cons_zero, List.set_cons_succ]
   refine Lex.tree_call tf7 (Lex.want_none rfl) (fun K hK => ?_) Lex.tree_no
   have k0 := b14.c0
   have k1 := b14.c1
   have k2 := b14.c2
   have k3 := b14.f
   go_simp
   clear k0 k1 k2 k3
   have hw := bar_put y2 g14 (.int .i64 0) (.int .i64 0) (.string ⟨#[]⟩)
   have hB := ((hB.setCell (p := ⟨g14, 0, none⟩) leg14 (.int .i64 0)).setCell (p := ⟨g14, 1, none⟩) leg14 (.int .i64 0)).setCell (p := ⟨g14, 2, none⟩) leg14 (.string ⟨#[]⟩)
   have hV := hV.put hw
   have hT2 := hT2.put hw
   have b2 := b2.bar hw neb2g14
   have hT3 := hT3.put hw
   have b3 := b3.bar hw neb3g14
   have hT6 := hT6.put hw
   have b6 := b6.bar hw neb6g14
   have hT8 := hT8.put hw
   have b8 := b8.bar hw neb8g14
   have hR := hR.put hw
   have hT12 := hT12.put hw
   have b12 := b12.bar hw neb12g14
   have b14 := box3_put b14 (.int .i64 0) (.int .i64 0) (.string ⟨#[]⟩)
   clear hw leg14
   clear hS
   generalize ((y2.setCell ⟨g14, 0, none⟩ (.int .i64 0)).setCell ⟨g14, 1, none⟩ (.int .i64 0)).setCell ⟨g14, 2, none⟩ (.string ⟨#[]⟩) = sg14 at hB hV hT2 b2 hT3 b3 hT6 b6 hT8 b8 hR hT12 b12 b14 ⊢
   refine hK.out _ _ _ (fun _ h => h) (⟨b2.c0, b2.c1, b2.c2⟩) ?_
   clear hK K
   try simp only [Act.put, List.setIfInBounds_toArray, List.set_cons_zero, List.set_cons_succ]
   refine Lex.tree_take (.bool false) tf8 (Lex.want_none rfl) (by intro Wx hSw; (try dsimp only at hSw); go_simp; (try (first | (with_reducible rfl) | assumption | rfl))) ?_
   simp only [Act.put, List.setIfInBounds_toArray, List.set_cons_zero, List.set_cons_succ]
   refine Lex.tree_end ?_
   refine NoPanic.normal ?_
   exact ⟨As8, g14, rfl, hB, hV, hT2, b2, hT3, b3, hT6, b6, hT8, b8, hR, hT12, b12, b14⟩
  refine Lex.tree_call tf6 (Lex.want_none rfl) (fun K hK => ?_) Lex.tree_no
  go_simp
  have hn := (Below.refl v8.heap.size v8).alloc (Nat.le_refl _) (.cells #[.int .i64 0, .int .i64 0, .string ⟨#[]⟩] 37)
  have b14 := Sc.Box3.new v8 (.int .i64 0) (.int .i64 0) (.string ⟨#[]⟩) 37
  have leg14 := hB.size
  have hV := hV.off rfl
  have hT2 := hT2.off rfl
  have neb2g14 := Nat.ne_of_lt b2.lt
  have hT3 := hT3.off rfl
  have neb3g14 := Nat.ne_of_lt b3.lt
  have hT6 := hT6.off rfl
  have neb6g14 := Nat.ne_of_lt b6.lt
  have hT8 := hT8.off rfl
  have neb8g14 := Nat.ne_of_lt b8.lt
  have hR := hR.off rfl
  have hT12 := hT12.off rfl
  have neb12g14 := Nat.ne_of_lt b12.lt
  have hB := hB.trans (hn.mono hB.size)
  have hV := hV.below hn (Nat.le_refl _)
  have hT2 := hT2.below hn (Nat.le_refl _)
  have b2 := b2.below hn b2.lt
  have hT3 := hT3.below hn (Nat.le_refl _)
  have b3 := b3.below hn b3.lt
  have hT6 := hT6.below hn (Nat.le_refl _)
  have b6 := b6.below hn b6.lt
  have hT8 := hT8.below hn (Nat.le_refl _)
  have b8 := b8.below hn b8.lt
  have hR := hR.below hn (Nat.le_refl _)
  have hT12 := hT12.below hn (Nat.le_refl _)
  have b12 := b12.below hn b12.lt
  clear hn
  generalize v8.alloc (.cells #[.int .i64 0, .int .i64 0, .string ⟨#[]⟩] 37) = zg14 at hB hV hT2 b2 hT3 b3 hT6 b6 hT8 b8 hR hT12 b12 b14 ⊢
  generalize v8.heap.size = g14 at hV hT2 hT3 hT6 hT8 hR hT12 neb2g14 neb3g14 neb6g14 neb8g14 neb12g14 leg14 b14 ⊢
  refine hK.out _ _ _ (fun _ h => h) (⟨b2.c0, b2.c1, b2.c2⟩) ?_
  clear hK K
  try simp only [Act.put, List.setIfInBounds_toArray, List.set_cons_zero, List.set_cons_succ]
  refine Lex.tree_call tf0 (Lex.want_none rfl) (fun K hK => ?_) Lex.tree_no
  go_simp
  refine (some_any zg14).mono ?_
  rintro e y0 ⟨As8, rfl, hS, hy0⟩
  have hB := hB.trans (hy0.mono hB.size)
  have hV := hV.below hy0 (Nat.le_refl _)
  have hT2 := hT2.below hy0 (Nat.le_refl _)
  have b2 := b2.below hy0 b2.lt
  have hT3 := hT3.below hy0 (Nat.le_refl _)
  have b3 := b3.below hy0 b3.lt
  have hT6 := hT6.below hy0 (Nat.le_refl _)
  have b6 := b6.below hy0 b6.lt
  have hT8 := hT8.below hy0 (Nat.le_refl _)
  have b8 := b8.below hy0 b8.lt
  have hR := hR.below hy0 (Nat.le_refl _)
  have hT12 := hT12.below hy0 (Nat.le_refl _)
  have b12 := b12.below hy0 b12.lt
  have b14 := b14.below hy0 b14.lt
  clear hy0
  refine hK.out _ _ _ (fun _ h => h) (⟨b2.c0, b2.c1, b2.c2⟩) ?_
  clear hK K
  try simp only [Act.put, List.setIfInBounds_toArray, List.set_cons_zero, List.set_cons_succ]
  refine Lex.tree_call tf2 (Lex.want_none rfl) (fun K hK => ?_) Lex.tree_no
  go_simp
  refine (aw_cell hS hT2).mono ?_
  rintro e y2 ⟨rfl, hy2⟩
  have hB := hB.trans (hy2.mono hB.size)
  have hV := hV.below hy2 (Nat.le_refl _)
  have hT2 := hT2.below hy2 (Nat.le_refl _)
  have b2 := b2.below hy2 b2.lt
  have hT3 := hT3.below hy2 (Nat.le_refl _)
  have b3 := b3.below hy2 b3.lt
  have hT6 := hT6.below hy2 (Nat.le_refl _)
  have b6 := b6.below hy2 b6.lt
  have hT8 := hT8.below hy2 (Nat.le_refl _)
  have b8 := b8.below hy2 b8.lt
  have hR := hR.below hy2 (Nat.le_refl _)
  have hT12 := hT12.below hy2 (Nat.le_refl _)
  have b12 := b12.below hy2 b12.lt
  have b14 := b14.below hy2 b14.lt
  have hS := hS.below hy2 (Nat.le_refl _)
  clear hy2
  refine hK.out _ _ _ (fun _ h => h) (⟨b2.c0, b2.c1, b2.c2⟩) ?_
  clear hK K
  try simp only [Act.put, List.setIfInBounds_toArray, List.set_cons_zero, List.set_cons_succ]
  refine Lex.tree_take (.tuple #[.agg #[.int .i64 0, .int .i64 0, .string ⟨#[]⟩], .bool false]) tf3 (Lex.want_none rfl) (by intro Wx hSw; (try dsimp only at hSw); go_simp; (try (first | (with_reducible rfl) | assumption | rfl))) ?_
  simp only [Act.put, List.setIfInBounds_toArray, List.set_cons_zero, List.set_cons_succ]
  refine Lex.tree_take (.agg #[.int .i64 0, .int .i64 0, .string ⟨#[]⟩]) tf4 (Lex.want_none rfl) (by intro Wx hSw; (try dsimp only at hSw); go_simp; (try (first | (with_reducible rfl) | assumption | rfl))) ?_
  simp only [Act.put, List.setIfInBounds_toArray, List.set_cons_zero, List.set_cons_succ]
  refine Lex.tree_take (.bool false) tf5 (Lex.want_none rfl) (by intro Wx hSw; (try dsimp only at hSw); go_simp; (try (first | (with_reducible rfl) | assumption | rfl))) ?_
  simp only [Act.put, List.setIfInBounds_toArray, List.set_cons_zero, List.set_cons_succ]
  refine Lex.tree_call tf7 (Lex.want_none rfl) (fun K hK => ?_) Lex.tree_no
  have k0 := b14.c0
  have k1 := b14.c1
  have k2 := b14.c2
  have k3 := b14.f
  go_simp
  clear k0 k1 k2 k3
  have hw := bar_put y2 g14 (.int .i64 0) (.int .i64 0) (.string ⟨#[]⟩)
  have hB := ((hB.setCell (p := ⟨g14, 0, none⟩) leg14 (.int .i64 0)).setCell (p := ⟨g14, 1, none⟩) leg14 (.int .i64 0)).setCell (p := ⟨g14, 2, none⟩) leg14 (.string ⟨#[]⟩)
  have hV := hV.put hw
  have hT2 := hT2.put hw
  have b2 := b2.bar hw neb2g14
  have hT3 := hT3.put hw
  have b3 := b3.bar hw neb3g14
  have hT6 := hT6.put hw
  have b6 := b6.bar hw neb6g14
  have hT8 := hT8.put hw
  have b8 := b8.bar hw neb8g14
  have hR := hR.put hw
  have hT12 := hT12.put hw
  have b12 := b12.bar hw neb12g14
  have b14 := box3_put b14 (.int .i64 0) (.int .i64 0) (.string ⟨#[]⟩)
  clear hw leg14
  clear hS
  generalize ((y2.setCell ⟨g14, 0, none⟩ (.int .i64 0)).setCell ⟨g14, 1, none⟩ (.int .i64 0)).setCell ⟨g14, 2, none⟩ (.string ⟨#[]⟩) = sg14 at hB hV hT2 b2 hT3 b3 hT6 b6 hT8 b8 hR hT12 b12 b14 ⊢
  refine hK.out _ _ _ (fun _ h => h) (⟨b2.c0, b2.c1, b2.c2⟩) ?_
  clear hK K
  try simp only [Act.put, List.setIfInBounds_toArray, List.set_cons_zero, List.set_cons_succ]
  refine Lex.tree_take (.bool false) tf8 (Lex.want_none rfl) (by intro Wx hSw; (try dsimp only at hSw); go_simp; (try (first | (with_reducible rfl) | assumption | rfl))) ?_
  simp only [Act.put, List.setIfInBounds_toArray, List.set_cons_zero, List.set_cons_succ]
  refine Lex.tree_end ?_
  refine NoPanic.normal ?_
  exact ⟨As8, g14, rfl, hB, hV, hT2, b2, hT3, b3, hT6, b6, hT8, b8, hR, hT12, b12, b14⟩
 clear hB hV hT2 b2 hT3 b3 hT6 b6 hT8 b8 hR hT12 b12
 rintro _ w11 ⟨As8, g14, rfl, hB, hV, hT2, b2, hT3, b3, hT6, b6, hT8, b8, hR, hT12, b12, b14⟩
 go_wp2_with fail
 refine Lex.region_cut (fun (a' : Act) (W : World) => ∃ As9 : Option Addr, ∃ t16 : TV, ∃ g16 : Nat, a' = ⟨#[.bool false, .slice (some ⟨g1, 0, none⟩) 2 2, .pointer (some ⟨g2, 0, none⟩), .pointer (some ⟨g3, 0, none⟩), .int .i64 0, .int .i64 0, .pointer (some ⟨g6, 0, none⟩), .int .i64 0, .pointer (some ⟨g8, 0, none⟩), .bool true, .slice B6 2 c6, .bool true, .pointer (some ⟨g12, 0, none⟩), .int .i64 0, .pointer (some ⟨g14, 0, none⟩), .bool false, .pointer (some ⟨g16, 0, none⟩), .int .i64 3, undef, undef, .agg #[.int .i64 1, .int .i64 7, .string ⟨#[]⟩], .agg #[.int .i64 3, .int .i64 0, .string ⟨#[97, 98]⟩], .slice (some ⟨g1, 0, none⟩) 2 2, .agg #[.string nmT, .slice As 2 2], .slice (some ⟨g0, 0, none⟩) 2 2, .slice (some ⟨g0 + 1, 0, none⟩) 1 1, .agg #[.slice t2.A t2.n t2.c, .int .i64 t2.m, .slice t2.B t2.n t2.d], .tuple #[.agg #[.slice t3.A t3.n t3.c, .int .i64 t3.m, .slice t3.B t3.n t3.d], .int .i64 0, .int .i64 0], .agg #[.string nmT, .slice As3 2 2], .agg #[.slice t2.A t2.n t2.c, .int .i64 t2.m, .slice t2.B t2.n t2.d], .slice (some ⟨g1, 0, none⟩) 2 2, .tuple #[.agg #[.slice t3.A t3.n t3.c, .int .i64 t3.m, .slice t3.B t3.n t3.d], .int .i64 0, .int .i64 0], .agg #[.slice t3.A t3.n t3.c, .int .i64 t3.m, .slice t3.B t3.n t3.d], .int .i64 0, .int .i64 0, .tuple #[.agg #[.slice t6.A t6.n t6.c, .int .i64 t6.m, .slice t6.B t6.n t6.d], .int .i64 0], .agg #[.string nmT, .slice As4 2 2], .agg #[.slice t3.A t3.n t3.c, .int .i64 t3.m, .slice t3.B t3.n t3.d], .agg #[.int .i64 0, .int .i64 0, .string ⟨#[]⟩], .tuple #[.agg #[.slice t6.A t6.n t6.c, .int .i64 t6.m, .slice t6.B t6.n t6.d], .int .i64 0], .agg #[.slice t6.A t6.n t6.c, .int .i64 t6.m, .slice t6.B t6.n t6.d], .int .i64 0, .tuple #[.agg #[.slice t8.A t8.n t8.c, .int .i64 t8.m, .slice t8.B t8.n t8.d], .bool true], .agg #[.string nmT, .slice As5 2 2], .agg #[.slice t3.A t3.n t3.c, .int .i64 t3.m, .slice t3.B t3.n t3.d], .slice (some ⟨pa, 0, none⟩) 1 1, .slice (some ⟨pb, 0, none⟩) 1 1, .slice (some ⟨ps, 0, none⟩) 2 2, .tuple #[.agg #[.slice t8.A t8.n t8.c, .int .i64 t8.m, .slice t8.B t8.n t8.d], .bool true], .agg #[.slice t8.A t8.n t8.c, .int .i64 t8.m, .slice t8.B t8.n t8.d], .bool true, .tuple #[.slice B6 2 c6, .bool true], .agg #[.string nmT, .slice As6 2 2], .agg #[.slice t8.A t8.n t8.c, .int .i64 t8.m, .slice t8.B t8.n t8.d], .tuple #[.slice B6 2 c6, .bool true], .slice B6 2 c6, .bool true, .tuple #[.agg #[.slice t12.A t12.n t12.c, .int .i64 t12.m, .slice t12.B t12.n t12.d], .int .i64 0], .agg #[.string nmT, .slice As7 2 2], .agg #[.slice t3.A t3.n t3.c, .int .i64 t3.m, .slice t3.B t3.n t3.d], .tuple #[.agg #[.slice t12.A t12.n t12.c, .int .i64 t12.m, .slice t12.B t12.n t12.d], .int .i64 0], .agg #[.slice t12.A t12.n t12.c, .int .i64 t12.m, .slice t12.B t12.n t12.d], .int .i64 0, .tuple #[.agg #[.int .i64 0, .int .i64 0, .string ⟨#[]⟩], .bool false], .agg #[.string nmT, .slice As8 2 2], .agg #[.slice t2.A t2.n t2.c, .int .i64 t2.m, .slice t2.B t2.n t2.d], .tuple #[.agg #[.int .i64 0, .int .i64 0, .string ⟨#[]⟩], .bool false], .agg #[.int .i64 0, .int .i64 0, .string ⟨#[]⟩], .bool false, .tuple #[.agg #[.slice t16.A t16.n t16.c, .int .i64 t16.m, .slice t16.B t16.n t16.d], .int .i64 3], .agg #[.string nmT, .slice As9 2 2], .agg #[.slice t2.A t2.n t2.c, .int .i64 t2.m, .slice t2.B t2.n t2.d], .agg #[.int .i64 0, .int .i64 0, .string ⟨#[]⟩], .tuple #[.agg #[.slice t16.A t16.n t16.c, .int .i64 t16.m, .slice t16.B t16.n t16.d], .int .i64 3], .agg #[.slice t16.A t16.n t16.c, .int .i64 t16.m, .slice t16.B t16.n t16.d], .int .i64 3, undef, undef, undef, undef, undef, undef, undef, undef, undef, undef, undef, undef, undef, undef, undef, undef, undef, undef, undef, undef, undef, undef, undef, undef, undef, undef, undef, undef, undef, undef, undef, undef, undef, undef, undef, undef, undef, undef, undef, undef, undef, undef, undef, undef, undef, undef, undef, undef, undef, undef, undef, undef, undef, undef, undef, undef, undef, undef, undef, undef, undef, undef, undef, undef, undef, undef, undef, undef, undef, undef, undef, undef], []⟩ ∧ Below w.heap.size w W ∧ HasVx W (fun _ => True) (some ⟨g1, 0, none⟩) rowT ∧ HasT csT W (fun _ => True) t2 r2T ∧ Sc.Box3 W g2 (.slice t2.A t2.n t2.c) (.int .i64 t2.m) (.slice t2.B t2.n t2.d) ∧ HasT csT W (fun _ => True) t3 r3T ∧ Sc.Box3 W g3 (.slice t3.A t3.n t3.c) (.int .i64 t3.m) (.slice t3.B t3.n t3.d) ∧ HasT csT W (fun _ => True) t6 r6T ∧ Sc.Box3 W g6 (.slice t6.A t6.n t6.c) (.int .i64 t6.m) (.slice t6.B t6.n t6.d) ∧ HasT csT W (fun _ => True) t8 r8T ∧ Sc.Box3 W g8 (.slice t8.A t8.n t8.c) (.int .i64 t8.m) (.slice t8.B t8.n t8.d) ∧ HasVx W (fun _ => True) B6 rowT ∧ HasT csT W (fun _ => True) t12 r12T ∧ Sc.Box3 W g12 (.slice t12.A t12.n t12.c) (.int .i64 t12.m) (.slice t12.B t12.n t12.d) ∧ Sc.Box3 W g14 (.int .i64 0) (.int .i64 0) (.string ⟨#[]⟩) ∧ HasT csT W (fun _ => True) t16 r2T ∧ Sc.Box3 W g16 (.slice t16.A t16.n t16.c) (.int .i64 t16.m) (.slice t16.B t16.n t16.d)) ?_ ?_
 ·have hd := (Below.refl w11.heap.size w11).drew
  have hB := hB.drew
  have hV := hV.below hd (Nat.le_refl _)
  have hT2 := hT2.below hd (Nat.le_refl _)
  have b2 := b2.drew
  have hT3 := hT3.below hd (Nat.le_refl _)
  have b3 := b3.drew
  have hT6 := hT6.below hd (Nat.le_refl _)
  have b6 := b6.drew
  have hT8 := hT8.below hd (Nat.le_refl _)
  have b8 := b8.drew
  have hR := hR.below hd (Nat.le_refl _)
  have hT12 := hT12.below hd (Nat.le_refl _)
  have b12 := b12.drew
  have b14 := b14.drew
  clear hd
  refine Lex.region_tree (ops := tgops) tgtree (fun W => W.cell? ⟨g2, 0, none⟩ = some (.slice t2.A t2.n t2.c) ∧ W.cell? ⟨g2, 1, none⟩ = some (.int .i64 t2.m) ∧ W.cell? ⟨g2, 2, none⟩ = some (.slice t2.B t2.n t2.d)) (by kernel_rfl) (by kernel_rfl) tgsel tglex (⟨b2.c0, b2.c1, b2.c2⟩) ?_
  unfold tgtree
  generalize w11.drew = v9 at hB hV hT2 b2 hT3 b3 hT6 b6 hT8 b8 hR hT12 b12 b14 ⊢
  refine Lex.tree_take (.agg #[.slice t2.A t2.n t2.c, .int .i64 t2.m, .slice t2.B t2.n t2.d]) tg1 (Lex.want_none rfl) (by intro Wx hSw; (try dsimp only at hSw); go_simp; (try (first | (with_reducible rfl) | assumption | rfl))) ?_
  simp only [Act.put, List.setIfInBounds_toArray, List.set_cons_zero, List.set_cons_succ]
  refine Lex.tree_take (.agg #[.int .i64 0, .int .i64 0, .string ⟨#[]⟩]) tg2 (Lex.want_none rfl) (by intro Wx hSw; (try dsimp only at hSw); go_simp; (try (first | (with_reducible rfl) | assumption | rfl))) ?_
  simp only [Act.put, List.setIfInBounds_toArray, List.set_cons_zero, List.set_cons_succ]
  refine Lex.tree_call tg0 (Lex.want_none rfl) (fun K hK => ?_) ?_
  ·go_simp
   refine (some_any v9).mono ?_
   rintro e y0 ⟨As9, rfl, hS, hy0⟩
   have hB := hB.trans (hy0.mono hB.size)
   have hV := hV.below hy0 (Nat.le_refl _)
   have hT2 := hT2.below hy0 (Nat.le_refl _)
   have b2 := b2.below hy0 b2.lt
   have hT3 := hT3.below hy0 (Nat.le_refl _)
   have b3 := b3.below hy0 b3.lt
   have hT6 := hT6.below hy0 (Nat.le_refl _)
   have b6 := b6.below hy0 b6.lt
   have hT8 := hT8.below hy0 (Nat.le_refl _)
   have b8 := b8.below hy0 b8.lt
   have hR := hR.below hy0 (Nat.le_refl _)
   have hT12 := hT12.below hy0 (Nat.le_refl _)
   have b12 := b12.below hy0 b12.lt
   have b14 := b14.below hy0 b14.lt
   clear hy0
   refine hK.out _ _ _ (fun _ h => h) (⟨b2.c0, b2.c1, b2.c2⟩) ?_
   clear hK K
   try simp only [Act.put, List.setIfInBounds_toArray, List.set_cons_zero, List.set_cons_succ]
   refine Lex.tree_call tg3 (Lex.want_none rfl) (fun K hK => ?_) ?_
   ·go_simp
    refine (aw_set2 (fun _ _ => trivial) hS hT2).mono ?_
    rintro e y3 ⟨t16, rfl, hT16, hy3⟩
    simp only [TV.v]
    have hB := hB.trans (hy3.mono hB.size)
    have hV := hV.below hy3 (Nat.le_refl _)
    have hT2 := hT2.below hy3 (Nat.le_refl _)
    have b2 := b2.below hy3 b2.lt
    have hT3 := hT3.below hy3 (Nat.le_refl _)
    have b3 := b3.below hy3 b3.lt
    have hT6 := hT6.below hy3 (Nat.le_refl _)
    have b6 := b6.below hy3 b6.lt
    have hT8 := hT8.below hy3 (Nat.le_refl _)
    have b8 := b8.below hy3 b8.lt
    have hR := hR.below hy3 (Nat.le_refl _)
    have hT12 := hT12.below hy3 (Nat.le_refl _)
    have b12 := b12.below hy3 b12.lt
    have b14 := b14.below hy3 b14.lt
    have hS := hS.below hy3 (Nat.le_refl _)
    clear hy3
    refine hK.out _ _ _ (fun _ h => h) (⟨b2.c0, b2.c1, b2.c2⟩) ?_
    clear hK K
    try simp only [Act.put, List.setIfInBounds_toArray, List.set_cons_zero, List.set_cons_succ]
    refine Lex.tree_take (.tuple #[.agg #[.slice t16.A t16.n t16.c, .int .i64 t16.m, .slice t16.B t16.n t16.d], .int .i64 3]) tg4 (Lex.want_none rfl) (by intro Wx hSw; (try dsimp only at hSw); go_simp; (try (first | (with_reducible rfl) | assumption | rfl))) ?_
    simp only [Act.put, List.setIfInBounds_toArray, List.set_cons_zero, List.set_cons_succ]
    refine Lex.tree_take (.agg #[.slice t16.A t16.n t16.c, .int .i64 t16.m, .slice t16.B t16.n t16.d]) tg5 (Lex.want_none rfl) (by intro Wx hSw; (try dsimp only at hSw); go_simp; (try (first | (with_reducible rfl) | assumption | rfl))) ?_
    simp only [Act.put, List.setIfInBounds_toArray, List.set_cons_zero, List.set_cons_succ]
    refine Lex.tree_take (.int .i64 3) tg6 (Lex.want_none rfl) (by intro Wx hSw; (try dsimp only at hSw); go_simp; (try (first | (with_reducible rfl) | assumption | rfl))) ?_
    simp only [Act.put, List.setIfInBounds_toArray, List.set_cons_zero, List.set_cons_succ]
    refine Lex.tree_call tg7 (Lex.want_none rfl) (fun K hK => ?_) Lex.tree_no
    go_simp
    have hn := (Below.refl y3.heap.size y3).alloc (Nat.le_refl _) (.cells #[.slice none 0 0, .int .i64 0, .slice none 0 0] 32)
    have b16 := Sc.Box3.new y3 (.slice none 0 0) (.int .i64 0) (.slice none 0 0) 32
    have leg16 := hB.size
    have hV := hV.off rfl
    have hT2 := hT2.off rfl
    have neb2g16 := Nat.ne_of_lt b2.lt
    have hT3 := hT3.off rfl
    have neb3g16 := Nat.ne_of_lt b3.lt
    have hT6 := hT6.off rfl
    have neb6g16 := Nat.ne_of_lt b6.lt
    have hT8 := hT8.off rfl
    have neb8g16 := Nat.ne_of_lt b8.lt
    have hR := hR.off rfl
    have hT12 := hT12.off rfl
    have neb12g16 := Nat.ne_of_lt b12.lt
    have neb14g16 := Nat.ne_of_lt b14.lt
    have hT16 := hT16.off rfl
    have hB := hB.trans (hn.mono hB.size)
    have hV := hV.below hn (Nat.le_refl _)
    have hT2 := hT2.below hn (Nat.le_refl _)
    have b2 := b2.below hn b2.lt
    have hT3 := hT3.below hn (Nat.le_refl _)
    have b3 := b3.below hn b3.lt
    have hT6 := hT6.below hn (Nat.le_refl _)
    have b6 := b6.below hn b6.lt
    have hT8 := hT8.below hn (Nat.le_refl _)
    have b8 := b8.below hn b8.lt
    have hR := hR.below hn (Nat.le_refl _)
    have hT12 := hT12.below hn (Nat.le_refl _)
    have b12 := b12.below hn b12.lt
    have b14 := b14.below hn b14.lt
    have hS := hS.below hn (Nat.le_refl _)
    have hT16 := hT16.below hn (Nat.le_refl _)
    clear hn
    generalize y3.alloc (.cells #[.slice none 0 0, .int .i64 0, .slice none 0 0] 32) = zg16 at hB hV hT2 b2 hT3 b3 hT6 b6 hT8 b8 hR hT12 b12 b14 hS hT16 b16 ⊢
    generalize y3.heap.size = g16 at hV hT2 hT3 hT6 hT8 hR hT12 hT16 neb2g16 neb3g16 neb6g16 neb8g16 neb12g16 neb14g16 leg16 b16 ⊢
    refine hK.out _ _ _ (fun _ h => h) (⟨b2.c0, b2.c1, b2.c2⟩) ?_
    clear hK K
    try simp only [Act.put, List.setIfInBounds_toArray, List.set_cons_zero, List.set_cons_succ]
    refine Lex.tree_call tg8 (Lex.want_none rfl) (fun K hK => ?_) Lex.tree_no
    have k0 := b16.c0
    have k1 := b16.c1
    have k2 := b16.c2
    have k3 := b16.f
    go_simp
    clear k0 k1 k2 k3
    have hw := bar_put zg16 g16 (.slice t16.A t16.n t16.c) (.int .i64 t16.m) (.slice t16.B t16.n t16.d)
    have hB := ((hB.setCell (p := ⟨g16, 0, none⟩) leg16 (.slice t16.A t16.n t16.c)).setCell (p := ⟨g16, 1, none⟩) leg16 (.int .i64 t16.m)).setCell (p := ⟨g16, 2, none⟩) leg16 (.slice t16.B t16.n t16.d)
    have hV := hV.put hw
    have hT2 := hT2.put hw
    have b2 := b2.bar hw neb2g16
    have hT3 := hT3.put hw
    have b3 := b3.bar hw neb3g16
    have hT6 := hT6.put hw
    have b6 := b6.bar hw neb6g16
    have hT8 := hT8.put hw
    have b8 := b8.bar hw neb8g16
    have hR := hR.put hw
    have hT12 := hT12.put hw
    have b12 := b12.bar hw neb12g16
    have b14 := b14.bar hw neb14g16
    have hT16 := hT16.put hw
    have b16 := box3_put b16 (.slice t16.A t16.n t16.c) (.int .i64 t16.m) (.slice t16.B t16.n t16.d)
    clear hw leg16
    clear hS
    generalize ((zg16.setCell ⟨g16, 0, none⟩ (.slice t16.A t16.n t16.c)).setCell ⟨g16, 1, none⟩ (.int .i64 t16.m)).setCell ⟨g16, 2, none⟩ (.slice t16.B t16.n t16.d) = sg16 at hB hV hT2 b2 hT3 b3 hT6 b6 hT8 b8 hR hT12 b12 b14 hT16 b16 ⊢
    refine hK.out _ _ _ (fun _ h => h) (⟨b2.c0, b2.c1, b2.c2⟩) ?_
    clear hK K
    try simp only [Act.put, List.setIfInBounds_toArray, List.set_cons_zero, List.set_cons_succ]
    refine Lex.tree_take (.int .i64 3) tg9 (Lex.want_none rfl) (by intro Wx hSw; (try dsimp only at hSw); go_simp; (try (first | (with_reducible rfl) | assumption | rfl))) ?_
    simp only [Act.put, List.setIfInBounds_toArray, List.set_cons_zero, List.set_cons_succ]
    refine Lex.tree_end ?_
    refine NoPanic.normal ?_
    exact ⟨As9, t16, g16, rfl, hB, hV, hT2, b2, hT3, b3, hT6, b6, hT8, b8, hR, hT12, b12, b14, hT16, b16⟩
   refine Lex.tree_call tg7 (Lex.want_none rfl) (fun K hK => ?_) Lex.tree_no
   go_simp
   have hn := (Below.refl y0.heap.size y0).alloc (Nat.le_refl _) (.cells #[.slice none 0 0, .int .i64 0, .slice none 0 0] 32)
   have b16 := Sc.Box3.new y0 (.slice none 0 0) (.int .i64 0) (.slice none 0 0) 32
   have leg16 := hB.size
   have hV := hV.off rfl
   have hT2 := hT2.off rfl
   have neb2g16 := Nat.ne_of_lt b2.lt
   have hT3 := hT3.off rfl
   have neb3g16 := Nat.ne_of_lt b3.lt
   have hT6 := hT6.off rfl
   have neb6g16 := Nat.ne_of_lt b6.lt
   have hT8 := hT8.off rfl
   have neb8g16 := Nat.ne_of_lt b8.lt
   have hR := hR.off rfl
   have hT12 := hT12.off rfl
   have neb12g16 := Nat.ne_of_lt b12.lt
   have neb14g16 := Nat.ne_of_lt b14.lt
   have hB := hB.trans (hn.mono hB.size)
   have hV := hV.below hn (Nat.le_refl _)
   have hT2 := hT2.below hn (Nat.le_refl _)
   have b2 := b2.below hn b2.lt
   have hT3 := hT3.below hn (Nat.le_refl _)
   have b3 := b3.below hn b3.lt
   have hT6 := hT6.below hn (Nat.le_refl _)
   have b6 := b6.below hn b6.lt
   have hT8 := hT8.below hn (Nat.le_refl _)
   have b8 := b8.below hn b8.lt
   have hR := hR.below hn (Nat.le_refl _)
   have hT12 := hT12.below hn (Nat.le_refl _)
   have b12 := b12.below hn b12.lt
   have b14 := b14.below hn b14.lt
   have hS := hS.below hn (Nat.le_refl _)
   clear hn
   generalize y0.alloc (.cells #[.slice none 0 0, .int .i64 0, .slice none 0 0] 32) = zg16 at hB hV hT2 b2 hT3 b3 hT6 b6 hT8 b8 hR hT12 b12 b14 hS b16 ⊢
   generalize y0.heap.size = g16 at hV hT2 hT3 hT6 hT8 hR hT12 neb2g16 neb3g16 neb6g16 neb8g16 neb12g16 neb14g16 leg16 b16 ⊢
   refine hK.out _ _ _ (fun _ h => h) (⟨b2.c0, b2.c1, b2.c2⟩) ?_
   clear hK K
   try simp only [Act.put, List.setIfInBounds_toArray, List.set_cons_zero, List.set_cons_succ]
   refine Lex.tree_call tg3 (Lex.want_none rfl) (fun K hK => ?_) Lex.tree_no
   go_simp
   refine (aw_set2 (fun b hb => by have := b16.lt; omega) hS hT2).mono ?_
   rintro e y3 ⟨t16, rfl, hT16, hy3⟩
   simp only [TV.v]
   have hB := hB.trans (hy3.mono hB.size)
   have hV := hV.below hy3 (Nat.le_refl _)
   have hT2 := hT2.below hy3 (Nat.le_refl _)
   have b2 := b2.below hy3 b2.lt
   have hT3 := hT3.below hy3 (Nat.le_refl _)
   have b3 := b3.below hy3 b3.lt
   have hT6 := hT6.below hy3 (Nat.le_refl _)
   have b6 := b6.below hy3 b6.lt
   have hT8 := hT8.below hy3 (Nat.le_refl _)
   have b8 := b8.below hy3 b8.lt
   have hR := hR.below hy3 (Nat.le_refl _)
   have hT12 := hT12.below hy3 (Nat.le_refl _)
   have b12 := b12.below hy3 b12.lt
   have b14 := b14.below hy3 b14.lt
   have hS := hS.below hy3 (Nat.le_refl _)
   have b16 := b16.below hy3 b16.lt
   clear hy3
   refine hK.out _ _ _ (fun _ h => h) (⟨b2.c0, b2.c1, b2.c2⟩) ?_
   clear hK K
   try simp only [Act.put, List.setIfInBounds_toArray, List.set_cons_zero, List.set_cons_succ]
   refine Lex.tree_take (.tuple #[.agg #[.slice t16.A t16.n t16.c, .int .i64 t16.m, .slice t16.B t16.n t16.d], .int .i64 3]) tg4 (Lex.want_none rfl) (by intro Wx hSw; (try dsimp only at hSw); go_simp; (try (first | (with_reducible rfl) | assumption | rfl))) ?_
   simp only [Act.put, List.setIfInBounds_toArray, List.set_cons_zero, List.set_cons_succ]
   refine Lex.tree_take (.agg #[.slice t16.A t16.n t16.c, .int .i64 t16.m, .slice t16.B t16.n t16.d]) tg5 (Lex.want_none rfl) (by intro Wx hSw; (try dsimp only at hSw); go_simp; (try (first | (with_reducible rfl) | assumption | rfl))) ?_
   simp only [Act.put, List.setIfInBounds_toArray, List.set_cons_zero, List.set_cons_succ]
   refine Lex.tree_take (.int .i64 3) tg6 (Lex.want_none rfl) (by intro Wx hSw; (try dsimp only at hSw); go_simp; (try (first | (with_reducible rfl) | assumption | rfl))) ?_
   simp only [Act.put, List.setIfInBounds_toArray, List.set_cons_zero, List.set_cons_succ]
   refine Lex.tree_call tg8 (Lex.want_none rfl) (fun K hK => ?_) Lex.tree_no
   have k0 := b16.c0
   have k1 := b16.c1
   have k2 := b16.c2
   have k3 := b16.f
   go_simp
   clear k0 k1 k2 k3
   have hw := bar_put y3 g16 (.slice t16.A t16.n t16.c) (.int .i64 t16.m) (.slice t16.B t16.n t16.d)
   have hB := ((hB.setCell (p := ⟨g16, 0, none⟩) leg16 (.slice t16.A t16.n t16.c)).setCell (p := ⟨g16, 1, none⟩) leg16 (.int .i64 t16.m)).setCell (p := ⟨g16, 2, none⟩) leg16 (.slice t16.B t16.n t16.d)
   have hV := hV.put hw
   have hT2 := hT2.put hw
   have b2 := b2.bar hw neb2g16
   have hT3 := hT3.put hw
   have b3 := b3.bar hw neb3g16
   have hT6 := hT6.put hw
   have b6 := b6.bar hw neb6g16
   have hT8 := hT8.put hw
   have b8 := b8.bar hw neb8g16
   have hR := hR.put hw
   have hT12 := hT12.put hw
   have b12 := b12.bar hw neb12g16
   have b14 := b14.bar hw neb14g16
   have b16 := box3_put b16 (.slice t16.A t16.n t16.c) (.int .i64 t16.m) (.slice t16.B t16.n t16.d)
   have hT16 := hT16.put hw
   clear hw leg16
   clear hS
   generalize ((y3.setCell ⟨g16, 0, none⟩ (.slice t16.A t16.n t16.c)).setCell ⟨g16, 1, none⟩ (.int .i64 t16.m)).setCell ⟨g16, 2, none⟩ (.slice t16.B t16.n t16.d) = sg16 at hB hV hT2 b2 hT3 b3 hT6 b6 hT8 b8 hR hT12 b12 b14 b16 hT16 ⊢
   refine hK.out _ _ _ (fun _ h => h) (⟨b2.c0, b2.c1, b2.c2⟩) ?_
   clear hK K
   try simp only [Act.put, List.setIfInBounds_toArray, List.set_cons_zero, List.set_cons_succ]
   refine Lex.tree_take (.int .i64 3) tg9 (Lex.want_none rfl) (by intro Wx hSw; (try dsimp only at hSw); go_simp; (try (first | (with_reducible rfl) | assumption | rfl))) ?_
   simp only [Act.put, List.setIfInBounds_toArray, List.set_cons_zero, List.set_cons_succ]
   refine Lex.tree_end ?_
   refine NoPanic.normal ?_
   exact ⟨As9, t16, g16, rfl, hB, hV, hT2, b2, hT3, b3, hT6, b6, hT8, b8, hR, hT12, b12, b14, hT16, b16⟩
  refine Lex.tree_call tg7 (Lex.want_none rfl) (fun K hK => ?_) Lex.tree_no
  go_simp
  have hn := (Below.refl v9.heap.size v9).alloc (Nat.le_refl _) (.cells #[.slice none 0 0, .int .i64 0, .slice none 0 0] 32)
  have b16 := Sc.Box3.new v9 (.slice none 0 0) (.int .i64 0) (.slice none 0 0) 32
  have leg16 := hB.size
  have hV := hV.off rfl
  have hT2 := hT2.off rfl
  have neb2g16 := Nat.ne_of_lt b2.lt
  have hT3 := hT3.off rfl
  have neb3g16 := Nat.ne_of_lt b3.lt
  have hT6 := hT6.off rfl
  have neb6g16 := Nat.ne_of_lt b6.lt
  have hT8 := hT8.off rfl
  have neb8g16 := Nat.ne_of_lt b8.lt
  have hR := hR.off rfl
  have hT12 := hT12.off rfl
  have neb12g16 := Nat.ne_of_lt b12.lt
  have neb14g16 := Nat.ne_of_lt b14.lt
  have hB := hB.trans (hn.mono hB.size)
  have hV := hV.below hn (Nat.le_refl _)
  have hT2 := hT2.below hn (Nat.le_refl _)
  have b2 := b2.below hn b2.lt
  have hT3 := hT3.below hn (Nat.le_refl _)
  have b3 := b3.below hn b3.lt
  have hT6 := hT6.below hn (Nat.le_refl _)
  have b6 := b6.below hn b6.lt
  have hT8 := hT8.below hn (Nat.le_refl _)
  have b8 := b8.below hn b8.lt
  have hR := hR.below hn (Nat.le_refl _)
  have hT12 := hT12.below hn (Nat.le_refl _)
  have b12 := b12.below hn b12.lt
  have b14 := b14.below hn b14.lt
  clear hn
  generalize v9.alloc (.cells #[.slice none 0 0, .int .i64 0, .slice none 0 0] 32) = zg16 at hB hV hT2 b2 hT3 b3 hT6 b6 hT8 b8 hR hT12 b12 b14 b16 ⊢
  generalize v9.heap.size = g16 at hV hT2 hT3 hT6 hT8 hR hT12 neb2g16 neb3g16 neb6g16 neb8g16 neb12g16 neb14g16 leg16 b16 ⊢
  refine hK.out _ _ _ (fun _ h => h) (⟨b2.c0, b2.c1, b2.c2⟩) ?_
  clear hK K
  try simp only [Act.put, List.setIfInBounds_toArray, List.set_cons_zero, List.set_cons_succ]
  refine Lex.tree_call tg0 (Lex.want_none rfl) (fun K hK => ?_) Lex.tree_no
  go_simp
  refine (some_any zg16).mono ?_
  rintro e y0 ⟨As9, rfl, hS, hy0⟩
  have hB := hB.trans (hy0.mono hB.size)
  have hV := hV.below hy0 (Nat.le_refl _)
  have hT2 := hT2.below hy0 (Nat.le_refl _)
  have b2 := b2.below hy0 b2.lt
  have hT3 := hT3.below hy0 (Nat.le_refl _)
  have b3 := b3.below hy0 b3.lt
  have hT6 := hT6.below hy0 (Nat.le_refl _)
  have b6 := b6.below hy0 b6.lt
  have hT8 := hT8.below hy0 (Nat.le_refl _)
  have b8 := b8.below hy0 b8.lt
  have hR := hR.below hy0 (Nat.le_refl _)
  have hT12 := hT12.below hy0 (Nat.le_refl _)
  have b12 := b12.below hy0 b12.lt
  have b14 := b14.below hy0 b14.lt
  have b16 := b16.below hy0 b16.lt
  clear hy0
  refine hK.out _ _ _ (fun _ h => h) (⟨b2.c0, b2.c1, b2.c2⟩) ?_
  clear hK K
  try simp only [Act.put, List.setIfInBounds_toArray, List.set_cons_zero, List.set_cons_succ]
  refine Lex.tree_call tg3 (Lex.want_none rfl) (fun K hK => ?_) Lex.tree_no
  go_simp
  refine (aw_set2 (fun b hb => by have := b16.lt; omega) hS hT2).mono ?_
  rintro e y3 ⟨t16, rfl, hT16, hy3⟩
  simp only [TV.v]
  have hB := hB.trans (hy3.mono hB.size)
  have hV := hV.below hy3 (Nat.le_refl _)
  have hT2 := hT2.below hy3 (Nat.le_refl _)
  have b2 := b2.below hy3 b2.lt
  have hT3 := hT3.below hy3 (Nat.le_refl _)
  have b3 := b3.below hy3 b3.lt
  have hT6 := hT6.below hy3 (Nat.le_refl _)
  have b6 := b6.below hy3 b6.lt
  have hT8 := hT8.below hy3 (Nat.le_refl _)
  have b8 := b8.below hy3 b8.lt
  have hR := hR.below hy3 (Nat.le_refl _)
  have hT12 := hT12.below hy3 (Nat.le_refl _)
  have b12 := b12.below hy3 b12.lt
  have b14 := b14.below hy3 b14.lt
  have b16 := b16.below hy3 b16.lt
  have hS := hS.below hy3 (Nat.le_refl _)
  clear hy3
  refine hK.out _ _ _ (fun _ h => h) (⟨b2.c0, b2.c1, b2.c2⟩) ?_
  clear hK K
  try simp only [Act.put, List.setIfInBounds_toArray, List.set_cons_zero, List.set_cons_succ]
  refine Lex.tree_take (.tuple #[.agg #[.slice t16.A t16.n t16.c, .int .i64 t16.m, .slice t16.B t16.n t16.d], .int .i64 3]) tg4 (Lex.want_none rfl) (by intro Wx hSw; (try dsimp only at hSw); go_simp; (try (first | (with_reducible rfl) | assumption | rfl))) ?_
  simp only [Act.put, List.setIfInBounds_toArray, List.set_cons_zero, List.set_cons_succ]
  refine Lex.tree_take (.agg #[.slice t16.A t16.n t16.c, .int .i64 t16.m, .slice t16.B t16.n t16.d]) tg5 (Lex.want_none rfl) (by intro Wx hSw; (try dsimp only at hSw); go_simp; (try (first | (with_reducible rfl) | assumption | rfl))) ?_
  simp only [Act.put, List.setIfInBounds_toArray, List.set_cons_zero, List.set_cons_succ]
  refine Lex.tree_take (.int .i64 3) tg6 (Lex.want_none rfl) (by intro Wx hSw; (try dsimp only at hSw); go_simp; (try (first | (with_reducible rfl) | assumption | rfl))) ?_
  simp only [Act.put, List.setIfInBounds_toArray, List.set_cons_zero, List.set_cons_succ]
  refine Lex.tree_call tg8 (Lex.want_none rfl) (fun K hK => ?_) Lex.tree_no
  have k0 := b16.c0
  have k1 := b16.c1
  have k2 := b16.c2
  have k3 := b16.f
  go_simp
  clear k0 k1 k2 k3
  have hw := bar_put y3 g16 (.slice t16.A t16.n t16.c) (.int .i64 t16.m) (.slice t16.B t16.n t16.d)
  have hB := ((hB.setCell (p := ⟨g16, 0, none⟩) leg16 (.slice t16.A t16.n t16.c)).setCell (p := ⟨g16, 1, none⟩) leg16 (.int .i64 t16.m)).setCell (p := ⟨g16, 2, none⟩) leg16 (.slice t16.B t16.n t16.d)
  have hV := hV.put hw
  have hT2 := hT2.put hw
  have b2 := b2.bar hw neb2g16
  have hT3 := hT3.put hw
  have b3 := b3.bar hw neb3g16
  have hT6 := hT6.put hw
  have b6 := b6.bar hw neb6g16
  have hT8 := hT8.put hw
  have b8 := b8.bar hw neb8g16
  have hR := hR.put hw
  have hT12 := hT12.put hw
  have b12 := b12.bar hw neb12g16
  have b14 := b14.bar hw neb14g16
  have b16 := box3_put b16 (.slice t16.A t16.n t16.c) (.int .i64 t16.m) (.slice t16.B t16.n t16.d)
  have hT16 := hT16.put hw
  clear hw leg16
  clear hS
  generalize ((y3.setCell ⟨g16, 0, none⟩ (.slice t16.A t16.n t16.c)).setCell ⟨g16, 1, none⟩ (.int .i64 t16.m)).setCell ⟨g16, 2, none⟩ (.slice t16.B t16.n t16.d) = sg16 at hB hV hT2 b2 hT3 b3 hT6 b6 hT8 b8 hR hT12 b12 b14 b16 hT16 ⊢
  refine hK.out _ _ _ (fun _ h => h) (⟨b2.c0, b2.c1, b2.c2⟩) ?_
  clear hK K
  try simp only [Act.put, List.setIfInBounds_toArray, List.set_cons_zero, List.set_cons_succ]
  refine Lex.tree_take (.int .i64 3) tg9 (Lex.want_none rfl) (by intro Wx hSw; (try dsimp only at hSw); go_simp; (try (first | (with_reducible rfl) | assumption | rfl))) ?_
  simp only [Act.put, List.setIfInBounds_toArray, List.set_cons_zero, List.set_cons_succ]
  refine Lex.tree_end ?_
  refine NoPanic.normal ?_
  exact ⟨As9, t16, g16, rfl, hB, hV, hT2, b2, hT3, b3, hT6, b6, hT8, b8, hR, hT12, b12, b14, hT16, b16⟩
 clear hB hV hT2 b2 hT3 b3 hT6 b6 hT8 b8 hR hT12 b12 b14
 rintro _ w12 ⟨As9, t16, g16, rfl, hB, hV, hT2, b2, hT3, b3, hT6, b6, hT8, b8, hR, hT12, b12, b14, hT16, b16⟩
 go_wp2_with fail
 refine Lex.region_cut (fun (a' : Act) (W : World) => ∃ As10 : Option Addr, ∃ g18 : Nat, a' = ⟨#[.bool false, .slice (some ⟨g1, 0, none⟩) 2 2, .pointer (some ⟨g2, 0, none⟩), .pointer (some ⟨g3, 0, none⟩), .int .i64 0, .int .i64 0, .pointer (some ⟨g6, 0, none⟩), .int .i64 0, .pointer (some ⟨g8, 0, none⟩), .bool true, .slice B6 2 c6, .bool true, .pointer (some ⟨g12, 0, none⟩), .int .i64 0, .pointer (some ⟨g14, 0, none⟩), .bool false, .pointer (some ⟨g16, 0, none⟩), .int .i64 3, .pointer (some ⟨g18, 0, none⟩), .bool true, .agg #[.int .i64 1, .int .i64 7, .string ⟨#[]⟩], .agg #[.int .i64 3, .int .i64 0, .string ⟨#[97, 98]⟩], .slice (some ⟨g1, 0, none⟩) 2 2, .agg #[.string nmT, .slice As 2 2], .slice (some ⟨g0, 0, none⟩) 2 2, .slice (some ⟨g0 + 1, 0, none⟩) 1 1, .agg #[.slice t2.A t2.n t2.c, .int .i64 t2.m, .slice t2.B t2.n t2.d], .tuple #[.agg #[.slice t3.A t3.n t3.c, .int .i64 t3.m, .slice t3.B t3.n t3.d], .int .i64 0, .int .i64 0], .agg #[.string nmT, .slice As3 2 2], .agg #[.slice t2.A t2.n t2.c, .int .i64 t2.m, .slice t2.B t2.n t2.d], .slice (some ⟨g1, 0, none⟩) 2 2, .tuple #[.agg #[.slice t3.A t3.n t3.c, .int .i64 t3.m, .slice t3.B t3.n t3.d], .int .i64 0, .int .i64 0], .agg #[.slice t3.A t3.n t3.c, .int .i64 t3.m, .slice t3.B t3.n t3.d], .int .i64 0, .int .i64 0, .tuple #[.agg #[.slice t6.A t6.n t6.c, .int .i64 t6.m, .slice t6.B t6.n t6.d], .int .i64 0], .agg #[.string nmT, .slice As4 2 2], .agg #[.slice t3.A t3.n t3.c, .int .i64 t3.m, .slice t3.B t3.n t3.d], .agg #[.int .i64 0, .int .i64 0, .string ⟨#[]⟩], .tuple #[.agg #[.slice t6.A t6.n t6.c, .int .i64 t6.m, .slice t6.B t6.n t6.d], .int .i64 0], .agg #[.slice t6.A t6.n t6.c, .int .i64 t6.m, .slice t6.B t6.n t6.d], .int .i64 0, .tuple #[.agg #[.slice t8.A t8.n t8.c, .int .i64 t8.m, .slice t8.B t8.n t8.d], .bool true], .agg #[.string nmT, .slice As5 2 2], .agg #[.slice t3.A t3.n t3.c, .int .i64 t3.m, .slice t3.B t3.n t3.d], .slice (some ⟨pa, 0, none⟩) 1 1, .slice (some ⟨pb, 0, none⟩) 1 1, .slice (some ⟨ps, 0, none⟩) 2 2, .tuple #[.agg #[.slice t8.A t8.n t8.c, .int .i64 t8.m, .slice t8.B t8.n t8.d], .bool true], .agg #[.slice t8.A t8.n t8.c, .int .i64 t8.m, .slice t8.B t8.n t8.d], .bool true, .tuple #[.slice B6 2 c6, .bool true], .agg #[.string nmT, .slice As6 2 2], .agg #[.slice t8.A t8.n t8.c, .int .i64 t8.m, .slice t8.B t8.n t8.d], .tuple #[.slice B6 2 c6, .bool true], .slice B6 2 c6, .bool true, .tuple #[.agg #[.slice t12.A t12.n t12.c, .int .i64 t12.m, .slice t12.B t12.n t12.d], .int .i64 0], .agg #[.string nmT, .slice As7 2 2], .agg #[.slice t3.A t3.n t3.c, .int .i64 t3.m, .slice t3.B t3.n t3.d], .tuple #[.agg #[.slice t12.A t12.n t12.c, .int .i64 t12.m, .slice t12.B t12.n t12.d], .int .i64 0], .agg #[.slice t12.A t12.n t12.c, .int .i64 t12.m, .slice t12.B t12.n t12.d], .int .i64 0, .tuple #[.agg #[.int .i64 0, .int .i64 0, .string ⟨#[]⟩], .bool false], .agg #[.string nmT, .slice As8 2 2], .agg #[.slice t2.A t2.n t2.c, .int .i64 t2.m, .slice t2.B t2.n t2.d], .tuple #[.agg #[.int .i64 0, .int .i64 0, .string ⟨#[]⟩], .bool false], .agg #[.int .i64 0, .int .i64 0, .string ⟨#[]⟩], .bool false, .tuple #[.agg #[.slice t16.A t16.n t16.c, .int .i64 t16.m, .slice t16.B t16.n t16.d], .int .i64 3], .agg #[.string nmT, .slice As9 2 2], .agg #[.slice t2.A t2.n t2.c, .int .i64 t2.m, .slice t2.B t2.n t2.d], .agg #[.int .i64 0, .int .i64 0, .string ⟨#[]⟩], .tuple #[.agg #[.slice t16.A t16.n t16.c, .int .i64 t16.m, .slice t16.B t16.n t16.d], .int .i64 3], .agg #[.slice t16.A t16.n t16.c, .int .i64 t16.m, .slice t16.B t16.n t16.d], .int .i64 3, .tuple #[.agg #[.int .i64 0, .int .i64 0, .string ⟨#[]⟩], .bool true], .agg #[.string nmT, .slice As10 2 2], .agg #[.slice t6.A t6.n t6.c, .int .i64 t6.m, .slice t6.B t6.n t6.d], .tuple #[.agg #[.int .i64 0, .int .i64 0, .string ⟨#[]⟩], .bool true], .agg #[.int .i64 0, .int .i64 0, .string ⟨#[]⟩], .bool true, undef, undef, undef, undef, undef, undef, undef, undef, undef, undef, undef, undef, undef, undef, undef, undef, undef, undef, undef, undef, undef, undef, undef, undef, undef, undef, undef, undef, undef, undef, undef, undef, undef, undef, undef, undef, undef, undef, undef, undef, undef, undef, undef, undef, undef, undef, undef, undef, undef, undef, undef, undef, undef, undef, undef, undef, undef, undef, undef, undef, undef, undef, undef, undef, undef, undef], []⟩ ∧ Below w.heap.size w W ∧ HasVx W (fun _ => True) (some ⟨g1, 0, none⟩) rowT ∧ HasT csT W (fun _ => True) t2 r2T ∧ Sc.Box3 W g2 (.slice t2.A t2.n t2.c) (.int .i64 t2.m) (.slice t2.B t2.n t2.d) ∧ HasT csT W (fun _ => True) t3 r3T ∧ Sc.Box3 W g3 (.slice t3.A t3.n t3.c) (.int .i64 t3.m) (.slice t3.B t3.n t3.d) ∧ HasT csT W (fun _ => True) t6 r6T ∧ Sc.Box3 W g6 (.slice t6.A t6.n t6.c) (.int .i64 t6.m) (.slice t6.B t6.n t6.d) ∧ HasT csT W (fun _ => True) t8 r8T ∧ Sc.Box3 W g8 (.slice t8.A t8.n t8.c) (.int .i64 t8.m) (.slice t8.B t8.n t8.d) ∧ HasVx W (fun _ => True) B6 rowT ∧ HasT csT W (fun _ => True) t12 r12T ∧ Sc.Box3 W g12 (.slice t12.A t12.n t12.c) (.int .i64 t12.m) (.slice t12.B t12.n t12.d) ∧ Sc.Box3 W g14 (.int .i64 0) (.int .i64 0) (.string ⟨#[]⟩) ∧ HasT csT W (fun _ => True) t16 r2T ∧ Sc.Box3 W g16 (.slice t16.A t16.n t16.c) (.int .i64 t16.m) (.slice t16.B t16.n t16.d) ∧ Sc.Box3 W g18 (.int .i64 0) (.int .i64 0) (.string ⟨#[]⟩)) ?_ ?_
 ·have hd := (Below.refl w12.heap.size w12).drew
  have hB := hB.drew
  have hV := hV.below hd (Nat.le_refl _)
  have hT2 := hT2.below hd (Nat.le_refl _)
  have b2 := b2.drew
  have hT3 := hT3.below hd (Nat.le_refl _)
  have b3 := b3.drew
  have hT6 := hT6.below hd (Nat.le_refl _)
  have b6 := b6.drew
  have hT8 := hT8.below hd (Nat.le_refl _)
  have b8 := b8.drew
  have hR := hR.below hd (Nat.le_refl _)
  have hT12 := hT12.below hd (Nat.le_refl _)
  have b12 := b12.drew
  have b14 := b14.drew
  have hT16 := hT16.below hd (Nat.le_refl _)
  have b16 := b16.drew
  clear hd
  refine Lex.region_tree (ops := thops) thtree (fun W => W.cell? ⟨g6, 0, none⟩ = some (.slice t6.A t6.n t6.c) ∧ W.cell? ⟨g6, 1, none⟩ = some (.int .i64 t6.m) ∧ W.cell? ⟨g6, 2, none⟩ = some (.slice t6.B t6.n t6.d)) (by kernel_rfl) (by kernel_rfl) thsel thlex (⟨b6.c0, b6.c1, b6.c2⟩) ?_
  unfold thtree
  generalize w12.drew = v10 at hB hV hT2 b2 hT3 b3 hT6 b6 hT8 b8 hR hT12 b12 b14 hT16 b16 ⊢
  refine Lex.tree_take (.agg #[.slice t6.A t6.n t6.c, .int .i64 t6.m, .slice t6.B t6.n t6.d]) th1 (Lex.want_none rfl) (by intro Wx hSw; (try dsimp only at hSw); go_simp; (try (first | (with_reducible rfl) | assumption | rfl))) ?_
  simp only [Act.put, List.setIfInBounds_toArray, List.set_cons_zero, List.set_cons_succ]
  refine Lex.tree_call th0 (Lex.want_none rfl) (fun K hK => ?_) ?_
  ·go_simp
   refine (some_any v10).mono ?_
   rintro e y0 ⟨As10, rfl, hS, hy0⟩
   have hB := hB.trans (hy0.mono hB.size)
   have hV := hV.below hy0 (Nat.le_refl _)
   have hT2 := hT2.below hy0 (Nat.le_refl _)
   have b2 := b2.below hy0 b2.lt
   have hT3 := hT3.below hy0 (Nat.le_refl _)
   have b3 := b3.below hy0 b3.lt
   have hT6 := hT6.below hy0 (Nat.le_refl _)
   have b6 := b6.below hy0 b6.lt
   have hT8 := hT8.below hy0 (Nat.le_refl _)
   have b8 := b8.below hy0 b8.lt
   have hR := hR.below hy0 (Nat.le_refl _)
   have hT12 := hT12.below hy0 (Nat.le_refl _)
   have b12 := b12.below hy0 b12.lt
   have b14 := b14.below hy0 b14.lt
   have hT16 := hT16.below hy0 (Nat.le_refl _)
   have b16 := b16.below hy0 b16.lt
   clear hy0
   refine hK.out _ _ _ (fun _ h => h) (⟨b6.c0, b6.c1, b6.c2⟩) ?_
   clear hK K
   try simp only [Act.put, List.setIfInBounds_toArray, List.set_cons_zero, List.set_cons_succ]
   refine Lex.tree_call th2 (Lex.want_none rfl) (fun K hK => ?_) ?_
   ·go_simp
    refine (aw_cell6 hS hT6).mono ?_
    rintro e y2 ⟨rfl, hy2⟩
    have hB := hB.trans (hy2.mono hB.size)
    have hV := hV.below hy2 (Nat.le_refl _)
    have hT2 := hT2.below hy2 (Nat.le_refl _)
    have b2 := b2.below hy2 b2.lt
    have hT3 := hT3.below hy2 (Nat.le_refl _)
    have b3 := b3.below hy2 b3.lt
    have hT6 := hT6.below hy2 (Nat.le_refl _)
    have b6 := b6.below hy2 b6.lt
    have hT8 := hT8.below hy2 (Nat.le_refl _)
    have b8 := b8.below hy2 b8.lt
    have hR := hR.below hy2 (Nat.le_refl _)
    have hT12 := hT12.below hy2 (Nat.le_refl _)
    have b12 := b12.below hy2 b12.lt
    have b14 := b14.below hy2 b14.lt
    have hT16 := hT16.below hy2 (Nat.le_refl _)
    have b16 := b16.below hy2 b16.lt
    have hS := hS.below hy2 (Nat.le_refl _)
    clear hy2
    refine hK.out _ _ _ (fun _ h => h) (⟨b6.c0, b6.c1, b6.c2⟩) ?_
    clear hK K
    try simp only [Act.put, List.setIfInBounds_toArray, List.set_cons_zero, List.set_cons_succ]
    refine Lex.tree_take (.tuple #[.agg #[.int .i64 0, .int .i64 0, .string ⟨#[]⟩], .bool true]) th3 (Lex.want_none rfl) (by intro Wx hSw; (try dsimp only at hSw); go_simp; (try (first | (with_reducible rfl) | assumption | rfl))) ?_
    simp only [Act.put, List.setIfInBounds_toArray, List.set_cons_zero, List.set_cons_succ]
    refine Lex.tree_take (.agg #[.int .i64 0, .int .i64 0, .string ⟨#[]⟩]) th4 (Lex.want_none rfl) (by intro Wx hSw; (try dsimp only at hSw); go_simp; (try (first | (with_reducible rfl) | assumption | rfl))) ?_
    simp only [Act.put, List.setIfInBounds_toArray, List.set_cons_zero, List.set_cons_succ]
    refine Lex.tree_take (.bool true) th5 (Lex.want_none rfl) (by intro Wx hSw; (try dsimp only at hSw); go_simp; (try (first | (with_reducible rfl) | assumption | rfl))) ?_
    simp only [Act.put, List.setIfInBounds_toArray, List.set_cons_zero, List.set_cons_succ]
    refine Lex.tree_call th6 (Lex.want_none rfl) (fun K hK => ?_) Lex.tree_no
    go_simp
    have hn := (Below.refl y2.heap.size y2).alloc (Nat.le_refl _) (.cells #[.int .i64 0, .int .i64 0, .string ⟨#[]⟩] 37)
    have b18 := Sc.Box3.new y2 (.int .i64 0) (.int .i64 0) (.string ⟨#[]⟩) 37
    have leg18 := hB.size
    have hV := hV.off rfl
    have hT2 := hT2.off rfl
    have neb2g18 := Nat.ne_of_lt b2.lt
    have hT3 := hT3.off rfl
    have neb3g18 := Nat.ne_of_lt b3.lt
    have hT6 := hT6.off rfl
    have neb6g18 := Nat.ne_of_lt b6.lt
    have hT8 := hT8.off rfl
    have neb8g18 := Nat.ne_of_lt b8.lt
    have hR := hR.off rfl
    have hT12 := hT12.off rfl
    have neb12g18 := Nat.ne_of_lt b12.lt
    have neb14g18 := Nat.ne_of_lt b14.lt
    have hT16 := hT16.off rfl
    have neb16g18 := Nat.ne_of_lt b16.lt
    have hB := hB.trans (hn.mono hB.size)
    have hV := hV.below hn (Nat.le_refl _)
    have hT2 := hT2.below hn (Nat.le_refl _)
    have b2 := b2.below hn b2.lt
    have hT3 := hT3.below hn (Nat.le_refl _)
    have b3 := b3.below hn b3.lt
    have hT6 := hT6.below hn (Nat.le_refl _)
    have b6 := b6.below hn b6.lt
    have hT8 := hT8.below hn (Nat.le_refl _)
    have b8 := b8.below hn b8.lt
    have hR := hR.below hn (Nat.le_refl _)
    have hT12 := hT12.below hn (Nat.le_refl _)
    have b12 := b12.below hn b12.lt
    have b14 := b14.below hn b14.lt
    have hT16 := hT16.below hn (Nat.le_refl _)
    have b16 := b16.below hn b16.lt
    have hS := hS.below hn (Nat.le_refl _)
    clear hn
    generalize y2.alloc (.cells #[.int .i64 0, .int .i64 0, .string ⟨#[]⟩] 37) = zg18 at hB hV hT2 b2 hT3 b3 hT6 b6 hT8 b8 hR hT12 b12 b14 hT16 b16 hS b18 ⊢
    generalize y2.heap.size = g18 at hV hT2 hT3 hT6 hT8 hR hT12 hT16 neb2g18 neb3g18 neb6g18 neb8g18 neb12g18 neb14g18 neb16g18 leg18 b18 ⊢
    refine hK.out _ _ _ (fun _ h => h) (⟨b6.c0, b6.c1, b6.c2⟩) ?_
    clear hK K
    try simp only [Act.put, List.setIfInBounds_toArray, List.set_cons_zero, List.set_cons_succ]
    refine Lex.tree_call th7 (Lex.want_none rfl) (fun K hK => ?_) Lex.tree_no
    have k0 := b18.c0
    have k1 := b18.c1
    have k2 := b18.c2
    have k3 := b18.f
    go_simp
    clear k0 k1 k2 k3
    have hw := bar_put zg18 g18 (.int .i64 0) (.int .i64 0) (.string ⟨#[]⟩)
    have hB := ((hB.setCell (p := ⟨g18, 0, none⟩) leg18 (.int .i64 0)).setCell (p := ⟨g18, 1, none⟩) leg18 (.int .i64 0)).setCell (p := ⟨g18, 2, none⟩) leg18 (.string ⟨#[]⟩)
    have hV := hV.put hw
    have hT2 := hT2.put hw
    have b2 := b2.bar hw neb2g18
    have hT3 := hT3.put hw
    have b3 := b3.bar hw neb3g18
    have hT6 := hT6.put hw
    have b6 := b6.bar hw neb6g18
    have hT8 := hT8.put hw
    have b8 := b8.bar hw neb8g18
    have hR := hR.put hw
    have hT12 := hT12.put hw
    have b12 := b12.bar hw neb12g18
    have b14 := b14.bar hw neb14g18
    have hT16 := hT16.put hw
    have b16 := b16.bar hw neb16g18
    have b18 := box3_put b18 (.int .i64 0) (.int .i64 0) (.string ⟨#[]⟩)
    clear hw leg18
    clear hS
    generalize ((zg18.setCell ⟨g18, 0, none⟩ (.int .i64 0)).setCell ⟨g18, 1, none⟩ (.int .i64 0)).setCell ⟨g18, 2, none⟩ (.string ⟨#[]⟩) = sg18 at hB hV hT2 b2 hT3 b3 hT6 b6 hT8 b8 hR hT12 b12 b14 hT16 b16 b18 ⊢
    refine hK.out _ _ _ (fun _ h => h) (⟨b6.c0, b6.c1, b6.c2⟩) ?_
    clear hK K
    try simp only [Act.put, List.setIfInBounds_toArray, List.set_cons_zero, List.set_cons_succ]
    refine Lex.tree_take (.bool true) th8 (Lex.want_none rfl) (by intro Wx hSw; (try dsimp only at hSw); go_simp; (try (first | (with_reducible rfl) | assumption | rfl))) ?_
    simp only [Act.put, List.setIfInBounds_toArray, List.set_cons_zero, List.set_cons_succ]
    refine Lex.tree_end ?_
    refine NoPanic.normal ?_
    exact ⟨As10, g18, rfl, hB, hV, hT2, b2, hT3, b3, hT6, b6, hT8, b8, hR, hT12, b12, b14, hT16, b16, b18⟩
   refine Lex.tree_call th6 (Lex.want_none rfl) (fun K hK => ?_) Lex.tree_no
   go_simp
   have hn := (Below.refl y0.heap.size y0).alloc (Nat.le_refl _) (.cells #[.int .i64 0, .int .i64 0, .string ⟨#[]⟩] 37)
   have b18 := Sc.Box3.new y0 (.int .i64 0) (.int .i64 0) (.string ⟨#[]⟩) 37
   have leg18 := hB.size
   have hV := hV.off rfl
   have hT2 := hT2.off rfl
   have neb2g18 := Nat.ne_of_lt b2.lt
   have hT3 := hT3.off rfl
   have neb3g18 := Nat.ne_of_lt b3.lt
   have hT6 := hT6.off rfl
   have neb6g18 := Nat.ne_of_lt b6.lt
   have hT8 := hT8.off rfl
   have neb8g18 := Nat.ne_of_lt b8.lt
   have hR := hR.off rfl
   have hT12 := hT12.off rfl
   have neb12g18 := Nat.ne_of_lt b12.lt
   have neb14g18 := Nat.ne_of_lt b14.lt
   have hT16 := hT16.off rfl
   have neb16g18 := Nat.ne_of_lt b16.lt
   have hB := hB.trans (hn.mono hB.size)
   have hV := hV.below hn (Nat.le_refl _)
   have hT2 := hT2.below hn (Nat.le_refl _)
   have b2 := b2.below hn b2.lt
   have hT3 := hT3.below hn (Nat.le_refl _)
   have b3 := b3.below hn b3.lt
   have hT6 := hT6.below hn (Nat.le_refl _)
   have b6 := b6.below hn b6.lt
   have hT8 := hT8.below hn (Nat.le_refl _)
   have b8 := b8.below hn b8.lt
   have hR := hR.below hn (Nat.le_refl _)
   have hT12 := hT12.below hn (Nat.le_refl _)
   have b12 := b12.below hn b12.lt
   have b14 := b14.below hn b14.lt
   have hT16 := hT16.below hn (Nat.le_refl _)
   have b16 := b16.below hn b16.lt
   have hS := hS.below hn (Nat.le_refl _)
   clear hn
   generalize y0.alloc (.cells #[.int .i64 0, .int .i64 0, .string ⟨#[]⟩] 37) = zg18 at hB hV hT2 b2 hT3 b3 hT6 b6 hT8 b8 hR hT12 b12 b14 hT16 b16 hS b18 ⊢
   generalize y0.heap.size = g18 at hV hT2 hT3 hT6 hT8 hR hT12 hT16 neb2g18 neb3g18 neb6g18 neb8g18 neb12g18 neb14g18 neb16g18 leg18 b18 ⊢
   refine hK.out _ _ _ (fun _ h => h) (⟨b6.c0, b6.c1, b6.c2⟩) ?_
   clear hK K
   try simp only [Act.put, List.setIfInBounds_toArray, List.set_cons_zero, List.set_cons_succ]
   refine Lex.tree_call th2 (Lex.want_none rfl) (fun K hK => ?_) Lex.tree_no
   go_simp
   refine (aw_cell6 hS hT6).mono ?_
   rintro e y2 ⟨rfl, hy2⟩
   have hB := hB.trans (hy2.mono hB.size)
   have hV := hV.below hy2 (Nat.le_refl _)
   have hT2 := hT2.below hy2 (Nat.le_refl _)
   have b2 := b2.below hy2 b2.lt
   have hT3 := hT3.below hy2 (Nat.le_refl _)
   have b3 := b3.below hy2 b3.lt
   have hT6 := hT6.below hy2 (Nat.le_refl _)
   have b6 := b6.below hy2 b6.lt
   have hT8 := hT8.below hy2 (Nat.le_refl _)
   have b8 := b8.below hy2 b8.lt
   have hR := hR.below hy2 (Nat.le_refl _)
   have hT12 := hT12.below hy2 (Nat.le_refl _)
   have b12 := b12.below hy2 b12.lt
   have b14 := b14.below hy2 b14.lt
   have hT16 := hT16.below hy2 (Nat.le_refl _)
   have b16 := b16.below hy2 b16.lt
   have hS := hS.below hy2 (Nat.le_refl _)
   have b18 := b18.below hy2 b18.lt
   clear hy2
   refine hK.out _ _ _ (fun _ h => h) (⟨b6.c0, b6.c1, b6.c2⟩) ?_
   clear hK K
   try simp only [Act.put, List.setIfInBounds_toArray, List.set_cons_zero, List.set_cons_succ]
   refine Lex.tree_take (.tuple #[.agg #[.int .i64 0, .int .i64 0, .string ⟨#[]⟩], .bool true]) th3 (Lex.want_none rfl) (by intro Wx hSw; (try dsimp only at hSw); go_simp; (try (first | (with_reducible rfl) | assumption | rfl))) ?_
   simp only [Act.put, List.setIfInBounds_toArray, List.set_cons_zero, List.set_cons_succ]
   refine Lex.tree_take (.agg #[.int .i64 0, .int .i64 0, .string ⟨#[]⟩]) th4 (Lex.want_none rfl) (by intro Wx hSw; (try dsimp only at hSw); go_simp; (try (first | (with_reducible rfl) | assumption | rfl))) ?_
   simp only [Act.put, List.setIfInBounds_toArray, List.set_cons_zero, List.set_cons_succ]
   refine Lex.tree_take (.bool true) th5 (Lex.want_none rfl) (by intro Wx hSw; (try dsimp only at hSw); go_simp; (try (first | (with_reducible rfl) | assumption | rfl))) ?_
   simp only [Act.put, List.setIfInBounds_toArray, List.set_cons_zero, List.set_cons_succ]
   refine Lex.tree_call th7 (Lex.want_none rfl) (fun K hK => ?_) Lex.tree_no
   have k0 := b18.c0
   have k1 := b18.c1
   have k2 := b18.c2
   have k3 := b18.f
   go_simp
   clear k0 k1 k2 k3
   have hw := bar_put y2 g18 (.int .i64 0) (.int .i64 0) (.string ⟨#[]⟩)
   have hB := ((hB.setCell (p := ⟨g18, 0, none⟩) leg18 (.int .i64 0)).setCell (p := ⟨g18, 1, none⟩) leg18 (.int .i64 0)).setCell (p := ⟨g18, 2, none⟩) leg18 (.string ⟨#[]⟩)
   have hV := hV.put hw
   have hT2 := hT2.put hw
   have b2 := b2.bar hw neb2g18
   have hT3 := hT3.put hw
   have b3 := b3.bar hw neb3g18
   have hT6 := hT6.put hw
   have b6 := b6.bar hw neb6g18
   have hT8 := hT8.put hw
   have b8 := b8.bar hw neb8g18
   have hR := hR.put hw
   have hT12 := hT12.put hw
   have b12 := b12.bar hw neb12g18
   have b14 := b14.bar hw neb14g18
   have hT16 := hT16.put hw
   have b16 := b16.bar hw neb16g18
   have b18 := box3_put b18 (.int .i64 0) (.int .i64 0) (.string ⟨#[]⟩)
   clear hw leg18
   clear hS
   generalize ((y2.setCell ⟨g18, 0, none⟩ (.int .i64 0)).setCell ⟨g18, 1, none⟩ (.int .i64 0)).setCell ⟨g18, 2, none⟩ (.string ⟨#[]⟩) = sg18 at hB hV hT2 b2 hT3 b3 hT6 b6 hT8 b8 hR hT12 b12 b14 hT16 b16 b18 ⊢
   refine hK.out _ _ _ (fun _ h => h) (⟨b6.c0, b6.c1, b6.c2⟩) ?_
   clear hK K
   try simp only [Act.put, List.setIfInBounds_toArray, List.set_cons_zero, List.set_cons_succ]
   refine Lex.tree_take (.bool true) th8 (Lex.want_none rfl) (by intro Wx hSw; (try dsimp only at hSw); go_simp; (try (first | (with_reducible rfl) | assumption | rfl))) ?_
   simp only [Act.put, List.setIfInBounds_toArray, List.set_cons_zero, List.set_cons_succ]
   refine Lex.tree_end ?_
   refine NoPanic.normal ?_
   exact ⟨As10, g18, rfl, hB, hV, hT2, b2, hT3, b3, hT6, b6, hT8, b8, hR, hT12, b12, b14, hT16, b16, b18⟩
  refine Lex.tree_call th6 (Lex.want_none rfl) (fun K hK => ?_) Lex.tree_no
  go_simp
  have hn := (Below.refl v10.heap.size v10).alloc (Nat.le_refl _) (.cells #[.int .i64 0, .int .i64 0, .string ⟨#[]⟩] 37)
  have b18 := Sc.Box3.new v10 (.int .i64 0) (.int .i64 0) (.string ⟨#[]⟩) 37
  have leg18 := hB.size
  have hV := hV.off rfl
  have hT2 := hT2.off rfl
  have neb2g18 := Nat.ne_of_lt b2.lt
  have hT3 := hT3.off rfl
  have neb3g18 := Nat.ne_of_lt b3.lt
  have hT6 := hT6.off rfl
  have neb6g18 := Nat.ne_of_lt b6.lt
  have hT8 := hT8.off rfl
  have neb8g18 := Nat.ne_of_lt b8.lt
  have hR := hR.off rfl
  have hT12 := hT12.off rfl
  have neb12g18 := Nat.ne_of_lt b12.lt
  have neb14g18 := Nat.ne_of_lt b14.lt
  have hT16 := hT16.off rfl
  have neb16g18 := Nat.ne_of_lt b16.lt
  have hB := hB.trans (hn.mono hB.size)
  have hV := hV.below hn (Nat.le_refl _)
  have hT2 := hT2.below hn (Nat.le_refl _)
  have b2 := b2.below hn b2.lt
  have hT3 := hT3.below hn (Nat.le_refl _)
  have b3 := b3.below hn b3.lt
  have hT6 := hT6.below hn (Nat.le_refl _)
  have b6 := b6.below hn b6.lt
  have hT8 := hT8.below hn (Nat.le_refl _)
  have b8 := b8.below hn b8.lt
  have hR := hR.below hn (Nat.le_refl _)
  have hT12 := hT12.below hn (Nat.le_refl _)
  have b12 := b12.below hn b12.lt
  have b14 := b14.below hn b14.lt
  have hT16 := hT16.below hn (Nat.le_refl _)
  have b16 := b16.below hn b16.lt
  clear hn
  generalize v10.alloc (.cells #[.int .i64 0, .int .i64 0, .string ⟨#[]⟩] 37) = zg18 at hB hV hT2 b2 hT3 b3 hT6 b6 hT8 b8 hR hT12 b12 b14 hT16 b16 b18 ⊢
  generalize v10.heap.size = g18 at hV hT2 hT3 hT6 hT8 hR hT12 hT16 neb2g18 neb3g18 neb6g18 neb8g18 neb12g18 neb14g18 neb16g18 leg18 b18 ⊢
  refine hK.out _ _ _ (fun _ h => h) (⟨b6.c0, b6.c1, b6.c2⟩) ?_
  clear hK K
  try simp only [Act.put, List.setIfInBounds_toArray, List.set_cons_zero, List.set_cons_succ]
  refine Lex.tree_call th0 (Lex.want_none rfl) (fun K hK => ?_) Lex.tree_no
  go_simp
  refine (some_any zg18).mono ?_
  rintro e y0 ⟨As10, rfl, hS, hy0⟩
  have hB := hB.trans (hy0.mono hB.size)
  have hV := hV.below hy0 (Nat.le_refl _)
  have hT2 := hT2.below hy0 (Nat.le_refl _)
  have b2 := b2.below hy0 b2.lt
  have hT3 := hT3.below hy0 (Nat.le_refl _)
  have b3 := b3.below hy0 b3.lt
  have hT6 := hT6.below hy0 (Nat.le_refl _)
  have b6 := b6.below hy0 b6.lt
  have hT8 := hT8.below hy0 (Nat.le_refl _)
  have b8 := b8.below hy0 b8.lt
  have hR := hR.below hy0 (Nat.le_refl _)
  have hT12 := hT12.below hy0 (Nat.le_refl _)
  have b12 := b12.below hy0 b12.lt
  have b14 := b14.below hy0 b14.lt
  have hT16 := hT16.below hy0 (Nat.le_refl _)
  have b16 := b16.below hy0 b16.lt
  have b18 := b18.below hy0 b18.lt
  clear hy0
  refine hK.out _ _ _ (fun _ h => h) (⟨b6.c0, b6.c1, b6.c2⟩) ?_
  clear hK K
  try simp only [Act.put, List.setIfInBounds_toArray, List.set_cons_zero, List.set_cons_succ]
  refine Lex.tree_call th2 (Lex.want_none rfl) (fun K hK => ?_) Lex.tree_no
  go_simp
  refine (aw_cell6 hS hT6).mono ?_
  rintro e y2 ⟨rfl, hy2⟩
  have hB := hB.trans (hy2.mono hB.size)
  have hV := hV.below hy2 (Nat.le_refl _)
  have hT2 := hT2.below hy2 (Nat.le_refl _)
  have b2 := b2.below hy2 b2.lt
  have hT3 := hT3.below hy2 (Nat.le_refl _)
  have b3 := b3.below hy2 b3.lt
  have hT6 := hT6.below hy2 (Nat.le_refl _)
  have b6 := b6.below hy2 b6.lt
  have hT8 := hT8.below hy2 (Nat.le_refl _)
  have b8 := b8.below hy2 b8.lt
  have hR := hR.below hy2 (Nat.le_refl _)
  have hT12 := hT12.below hy2 (Nat.le_refl _)
  have b12 := b12.below hy2 b12.lt
  have b14 := b14.below hy2 b14.lt
  have hT16 := hT16.below hy2 (Nat.le_refl _)
  have b16 := b16.below hy2 b16.lt
  have b18 := b18.below hy2 b18.lt
  have hS := hS.below hy2 (Nat.le_refl _)
  clear hy2
  refine hK.out _ _ _ (fun _ h => h) (⟨b6.c0, b6.c1, b6.c2⟩) ?_
  clear hK K
  try simp only [Act.put, List.setIfInBounds_toArray, List.set_cons_zero, List.set_cons_succ]
  refine Lex.tree_take (.tuple #[.agg #[.int .i64 0, .int .i64 0, .string ⟨#[]⟩], .bool true]) th3 (Lex.want_none rfl) (by intro Wx hSw; (try dsimp only at hSw); go_simp; (try (first | (with_reducible rfl) | assumption | rfl))) ?_
  simp only [Act.put, List.setIfInBounds_toArray, List.set_cons_zero, List.set_cons_succ]
  refine Lex.tree_take (.agg #[.int .i64 0, .int .i64 0, .string ⟨#[]⟩]) th4 (Lex.want_none rfl) (by intro Wx hSw; (try dsimp only at hSw); go_simp; (try (first | (with_reducible rfl) | assumption | rfl))) ?_
  simp only [Act.put, List.setIfInBounds_toArray, List.set_cons_zero, List.set_cons_succ]
  refine Lex.tree_take (.bool true) th5 (Lex.want_none rfl) (by intro Wx hSw; (try dsimp only at hSw); go_simp; (try (first | (with_reducible rfl) | assumption | rfl))) ?_
  simp only [Act.put, List.setIfInBounds_toArray, List.set_cons_zero, List.set_cons_succ]
  refine Lex.tree_call th7 (Lex.want_none rfl) (fun K hK => ?_) Lex.tree_no
  have k0 := b18.c0
  have k1 := b18.c1
  have k2 := b18.c2
  have k3 := b18.f
  go_simp
  clear k0 k1 k2 k3
  have hw := bar_put y2 g18 (.int .i64 0) (.int .i64 0) (.string ⟨#[]⟩)
  have hB := ((hB.setCell (p := ⟨g18, 0, none⟩) leg18 (.int .i64 0)).setCell (p := ⟨g18, 1, none⟩) leg18 (.int .i64 0)).setCell (p := ⟨g18, 2, none⟩) leg18 (.string ⟨#[]⟩)
  have hV := hV.put hw
  have hT2 := hT2.put hw
  have b2 := b2.bar hw neb2g18
  have hT3 := hT3.put hw
  have b3 := b3.bar hw neb3g18
  have hT6 := hT6.put hw
  have b6 := b6.bar hw neb6g18
  have hT8 := hT8.put hw
  have b8 := b8.bar hw neb8g18
  have hR := hR.put hw
  have hT12 := hT12.put hw
  have b12 := b12.bar hw neb12g18
  have b14 := b14.bar hw neb14g18
  have hT16 := hT16.put hw
  have b16 := b16.bar hw neb16g18
  have b18 := box3_put b18 (.int .i64 0) (.int .i64 0) (.string ⟨#[]⟩)
  clear hw leg18
  clear hS
  generalize ((y2.setCell ⟨g18, 0, none⟩ (.int .i64 0)).setCell ⟨g18, 1, none⟩ (.int .i64 0)).setCell ⟨g18, 2, none⟩ (.string ⟨#[]⟩) = sg18 at hB hV hT2 b2 hT3 b3 hT6 b6 hT8 b8 hR hT12 b12 b14 hT16 b16 b18 ⊢
  refine hK.out _ _ _ (fun _ h => h) (⟨b6.c0, b6.c1, b6.c2⟩) ?_
  clear hK K
  try simp only [Act.put, List.setIfInBounds_toArray, List.set_cons_zero, List.set_cons_succ]
  refine Lex.tree_take (.bool true) th8 (Lex.want_none rfl) (by intro Wx hSw; (try dsimp only at hSw); go_simp; (try (first | (with_reducible rfl) | assumption | rfl))) ?_
  simp only [Act.put, List.setIfInBounds_toArray, List.set_cons_zero, List.set_cons_succ]
  refine Lex.tree_end ?_
  refine NoPanic.normal ?_
  exact ⟨As10, g18, rfl, hB, hV, hT2, b2, hT3, b3, hT6, b6, hT8, b8, hR, hT12, b12, b14, hT16, b16, b18⟩
 clear hB hV hT2 b2 hT3 b3 hT6 b6 hT8 b8 hR hT12 b12 b14 hT16 b16
 rintro _ w13 ⟨As10, g18, rfl, hB, hV, hT2, b2, hT3, b3, hT6, b6, hT8, b8, hR, hT12, b12, b14, hT16, b16, b18⟩
 have e8 : (t8.n : Int) = 2 := by
  have h : (2 : Nat) = t8.n := hT8.n
  omega
 clear hT6 hT8 hT16 b6 b14 b16
 have qb20 := b2.c0
 have qb21 := b2.c1
 have qb22 := b2.c2
 have qb30 := b3.c0
 have qb31 := b3.c1
 have qb32 := b3.c2
 have qb80 := b8.c0
 have qb81 := b8.c1
 have qb82 := b8.c2
 have qb120 := b12.c0
 have qb121 := b12.c1
 have qb122 := b12.c2
 have qb180 := b18.c0
 have qb181 := b18.c1
 have qb182 := b18.c2
 go_wp2_with fail
 clear qb20 qb21 qb22 qb30 qb31 qb32 qb80 qb81 qb82 qb120 qb121 qb122 qb180 qb181 qb182
 clear b8
 refine (aw_rows hR hV).mono ?_
 rintro e x1 ⟨rfl, hy⟩
 have hT2 := hT2.below hy (Nat.le_refl _)
 have hT3 := hT3.below hy (Nat.le_refl _)
 have hT12 := hT12.below hy (Nat.le_refl _)
 have b2 := b2.below hy b2.lt
 have b3 := b3.below hy b3.lt
 have b12 := b12.below hy b12.lt
 have b18 := b18.below hy b18.lt
 have hB := hB.trans (hy.mono hB.size)
 clear hy
 clear hR hV
 have qb20 := b2.c0
 have qb21 := b2.c1
 have qb22 := b2.c2
 have qb30 := b3.c0
 have qb31 := b3.c1
 have qb32 := b3.c2
 have qb120 := b12.c0
 have qb121 := b12.c1
 have qb122 := b12.c2
 have qb180 := b18.c0
 have qb181 := b18.c1
 have qb182 := b18.c2
 go_wp2_with fail
 clear qb20 qb21 qb22 qb30 qb31 qb32 qb120 qb121 qb122 qb180 qb181 qb182
 refine (aw_same hT12 hT2).mono ?_
 rintro e x2 ⟨rfl, hy⟩
 have hT3 := hT3.below hy (Nat.le_refl _)
 have b3 := b3.below hy b3.lt
 have b18 := b18.below hy b18.lt
 have hB := hB.trans (hy.mono hB.size)
 clear hy
 clear hT12 hT2 b2 b12
 have qb30 := b3.c0
 have qb31 := b3.c1
 have qb32 := b3.c2
 have qb180 := b18.c0
 have qb181 := b18.c1
 have qb182 := b18.c2
 go_wp2_with fail
 clear qb30 qb31 qb32 qb180 qb181 qb182
 refine (aw_taken0 hT3).mono ?_
 rintro e x3 ⟨rfl, hy⟩
 have hT3 := hT3.below hy (Nat.le_refl _)
 have b3 := b3.below hy b3.lt
 have hB := hB.trans (hy.mono hB.size)
 clear hy
 clear b18
 have qb30 := b3.c0
 have qb31 := b3.c1
 have qb32 := b3.c2
 go_wp2_with fail
 clear qb30 qb31 qb32
 refine (aw_taken1 hT3).mono ?_
 rintro e x4 ⟨rfl, hy⟩
 have hT3 := hT3.below hy (Nat.le_refl _)
 have b3 := b3.below hy b3.lt
 have hB := hB.trans (hy.mono hB.size)
 clear hy
 have qb30 := b3.c0
 have qb31 := b3.c1
 have qb32 := b3.c2
 go_wp2_with fail
 clear qb30 qb31 qb32
 refine (aw_free hT3).mono ?_
 rintro e x5 ⟨rfl, hy⟩
 have hT3 := hT3.below hy (Nat.le_refl _)
 have b3 := b3.below hy b3.lt
 have hB := hB.trans (hy.mono hB.size)
 clear hy
 go_wp2
 go_ret
 subst hg1
 exact ⟨rfl, hB⟩
end Go.Proofs.YtpnnkhpokangfaaDoor.Ti
