/- TileModel: whatever deeds, walked. -/
import Derived.Test.YtpnnkhpokangfaaDoorTiU
import Derived.Test.YtpnnkhpokangfaaDoorMgZ
import Derived.Lib.SliceRun
import Derived.Deep.Cut
import Derived.Deep.CutRange
import Derived.Deep.CutBlock
namespace Go.Proofs.YtpnnkhpokangfaaDoor.Ti
open Go.RowKit Pac Va Sc Mi Sp Lex

set_option maxRecDepth 20000 in
set_option maxHeartbeats 16000000 in
theorem model_any {nm : ByteArray} {cs : List C} {A A2 : Option Addr} {mc cp m cp2 : Nat} {w : World} {l : List (AV × Ac)} (hS : InS w A mc cp nm cs) (hAc : HasAcs w (fun b => b < w.heap.size) A2 l) (hm : l.length = m) (hm9 : m ≤ 9223372036854775807) :
    Calls Tryd.prog 4 #[.agg #[.string nm, .slice A mc cp], .slice A2 m cp2] w fun e w' => e = .returned (.bool true) ∧ Below w.heap.size w w' := by
  obtain ⟨g, hg⟩ : ∃ g, w.heap.size = g := ⟨_, rfl⟩
  have hx := Box2.new w (.string nm) (.slice A mc cp) 24
  have hB := (Below.refl w.heap.size w).alloc (Nat.le_refl _) (.cells #[.string nm, .slice A mc cp] 24)
  rw [hg] at hx hB hAc
  rw [show (fun (e : Ending) (w' : World) => e = .returned (.bool true) ∧ Below w.heap.size w w') = (fun e w' => e = .returned (.bool true) ∧ Below g w w') by rw [hg]]
  have HI := Lib.hid (And.intro hS (And.intro hAc hm))
  clear hS hAc hm
  go_enter Tryd.func4, Tryd.ntmps4
  generalize hw1 : w.alloc (.cells #[.string nm, .slice A mc cp] 24) = w1 at hx hB
  have hle : w.heap.size ≤ g := Nat.le_of_eq hg
  have c0 := hx.c0
  have c1 := hx.c1
  go_wp2_with fail
  clear hw1 c0 c1
  refine (small_any (HI.out.1.below (B := g) hB hle) (HI.out.2.1.below (B := g) hB hle) HI.out.2.2 hm9).mono ?_
  rintro e w2 ⟨bb, rfl, hb1, hb2, hy⟩
  have hB := hB.trans (hy.mono (Nat.le_of_lt hx.lt))
  have hx := hx.below hy hx.lt
  clear hy
  cases bb
  · go_wp2_with fail
    refine (awake_any _ (by first | exact HI.out.1.tab.below (B := g) hB hle | exact HI.out.1.tab.below (B := g) hD.b hle)).mono ?_
    rintro e y9 ⟨rfl, hy⟩
    have hB := hB.trans (hy.mono (Nat.le_of_lt hx.lt))
    clear hy
    go_wp2
    go_ret
    exact ⟨rfl, hB⟩
  obtain ⟨hr, _, hs20⟩ := hb1 rfl
  have HS20 := Lib.hid hs20
  clear hs20
  clear hb1 hb2
  have hmc : cs.length = mc := HI.out.1.n
  have hl8 := rightS_len hr
  rw [hmc] at hl8
  have hSc := (HI.out.1.below (B := g) hB hle).sch hr
  have HC := Lib.hid (And.intro hr hmc)
  clear hr hmc
  go_wp2_with fail
  refine Lex.region_cut (fun (a' : Act) (W : World) => ∃ Ao : Option Addr, ∃ co : Nat, ∃ t : TV, ∃ gt : Nat, a' = ⟨#[.agg #[.string nm, .slice A mc cp], .slice A2 m cp2, .pointer (some ⟨g, 0, none⟩), undef, .bool false, .pointer (some ⟨gt, 0, none⟩), undef, undef, undef, undef, undef, undef, undef, undef, undef, undef, undef, undef, undef, .agg #[.string nm, .slice A mc cp], .slice A2 m cp2, .bool true, .bool false, undef, .agg #[.string nm, .slice A mc cp], .pointer (some ⟨g, 1, none⟩), .slice A mc cp, .int .i64 mc, .slice Ao (eachS mc).length co, .agg #[.slice t.A t.n t.c, .int .i64 t.m, .slice t.B t.n t.d], undef, undef, undef, undef, undef, undef, undef, undef, undef, undef, undef, undef, undef, undef, undef, undef, undef, undef, undef, undef, undef, undef, undef, undef, undef, undef, undef, undef, undef, undef, undef, undef, undef, undef, undef, undef, undef, undef, undef, undef, undef, undef, undef, undef, undef, undef, undef, undef, undef, undef, undef, undef, undef, undef, undef, undef, undef, undef, undef, undef, undef, undef, undef, undef, undef, undef, undef, undef, undef, undef, undef, undef, undef, undef, undef, undef, undef, undef, undef, undef, undef, undef, undef, undef, undef, undef, undef, undef, undef, undef, undef, undef, undef, undef, undef, undef, undef, undef, undef, undef, undef, undef, undef, undef, undef, undef, undef, undef, undef, undef, undef, undef, undef, undef, undef, undef, undef, undef, undef, undef, undef, undef, undef, undef, undef, undef, undef, undef, undef, undef, undef, undef, undef, undef, undef, undef, undef, undef, undef, undef, undef, undef, undef, undef, undef, undef, undef, undef, undef, undef, undef, undef, undef, undef, undef, undef, undef, undef, undef, undef, undef, undef, undef, undef, undef, undef, undef, undef, undef, undef, undef, undef, undef, undef, undef, undef], []⟩ ∧ Below g w W ∧ Box2 W g (.string nm) (.slice A mc cp) ∧ HasT cs W (fun b => b ≠ gt) t (newR (eachS mc) cs.length) ∧ Sc.Box3 W gt (.slice t.A t.n t.c) (.int .i64 t.m) (.slice t.B t.n t.d) ∧ g < gt) ?_ ?_
  · have hd := (Below.refl w2.heap.size w2).drew
    have hB := hB.drew
    have hx := hx.drew
    have hSc := hSc.below hd (Nat.le_refl _)
    clear hd
    refine Lex.region_tree (ops := tnops) tntree (fun W => W.cell? ⟨g, 0, none⟩ = some (.string nm) ∧ W.cell? ⟨g, 1, none⟩ = some (.slice A mc cp)) (by kernel_rfl) (by kernel_rfl) tnsel tnlex (⟨hx.c0, hx.c1⟩) ?_
    unfold tntree
    generalize w2.drew = v2 at hB hx hSc ⊢
    refine Lex.tree_take (.agg #[.string nm, .slice A mc cp]) tn0 (Lex.want_none rfl) (by intro Wx hSw; (try dsimp only at hSw); go_simp; (try (first | (with_reducible rfl) | assumption | rfl))) ?_
    simp only [Act.put, List.setIfInBounds_toArray, List.set_cons_zero, List.set_cons_succ]
    refine Lex.tree_take (.pointer (some ⟨g, 1, none⟩)) tn1 (Lex.want_none rfl) (by intro Wx hSw; (try dsimp only at hSw); go_simp; (try (first | (with_reducible rfl) | assumption | rfl))) ?_
    simp only [Act.put, List.setIfInBounds_toArray, List.set_cons_zero, List.set_cons_succ]
    refine Lex.tree_take (.slice A mc cp) tn2 (Lex.want_none rfl) (by intro Wx hSw; (try dsimp only at hSw); go_simp; (try (first | (with_reducible rfl) | assumption | rfl))) ?_
    simp only [Act.put, List.setIfInBounds_toArray, List.set_cons_zero, List.set_cons_succ]
    refine Lex.tree_take (.int .i64 mc) tn3 (Lex.want_none rfl) (by intro Wx hSw; (try dsimp only at hSw); go_simp; (try (first | (with_reducible rfl) | assumption | rfl))) ?_
    simp only [Act.put, List.setIfInBounds_toArray, List.set_cons_zero, List.set_cons_succ]
    refine Lex.tree_call tn4 (Lex.want_none rfl) (fun K hK => ?_) ?_
    · go_simp
      refine (each_sp (w := v2) hl8.2).mono ?_
      rintro e y4 ⟨Ao, co, rfl, hco, hO, hy4⟩
      have hO := sp_of (X := (fun _ => True)) hO (fun _ _ _ => trivial)
      have hB := hB.trans (hy4.mono (Nat.le_of_lt hx.lt))
      have hx := hx.below hy4 hx.lt
      have hSc := hSc.below hy4 (Nat.le_refl _)
      clear hy4
      refine hK.out _ _ _ (fun _ h => h) (⟨hx.c0, hx.c1⟩) ?_
      clear hK K
      try simp only [Act.put, List.setIfInBounds_toArray, List.set_cons_zero, List.set_cons_succ]
      refine Lex.tree_call tn5 (Lex.want_none rfl) (fun K hK => ?_) ?_
      · go_simp
        refine (new_any (w := y4) (X := (fun _ => True)) Ao _ co (HI.out.1.tab.below (B := g) hB hle) trivial (fun _ _ => trivial) hSc hO rfl hco (by rw [HC.out.2]; exact each_split hl8.1 hl8.2)).mono ?_
        rintro e y5 ⟨t, rfl, hT, hy5⟩
        simp only [TV.v]
        have hB := hB.trans (hy5.mono (Nat.le_of_lt hx.lt))
        have hx := hx.below hy5 hx.lt
        have hSc := hSc.below hy5 (Nat.le_refl _)
        have hO := hO.below hy5 (Nat.le_refl _)
        clear hy5
        refine hK.out _ _ _ (fun _ h => h) (⟨hx.c0, hx.c1⟩) ?_
        clear hK K
        try simp only [Act.put, List.setIfInBounds_toArray, List.set_cons_zero, List.set_cons_succ]
        refine Lex.tree_call tn6 (Lex.want_none rfl) (fun K hK => ?_) Lex.tree_no
        go_simp
        have hn := (Below.refl y5.heap.size y5).alloc (Nat.le_refl _) (.cells #[.slice none 0 0, .int .i64 0, .slice none 0 0] 32)
        have bt := Sc.Box3.new y5 (.slice none 0 0) (.int .i64 0) (.slice none 0 0) 32
        have legt := Nat.le_of_lt hx.lt
        have ltgt := hx.lt
        have nehxgt := Nat.ne_of_lt hx.lt
        have hO := hO.off rfl
        have hT := hT.off rfl
        have hB := hB.trans (hn.mono (Nat.le_of_lt hx.lt))
        have hx := hx.below hn hx.lt
        have hSc := hSc.below hn (Nat.le_refl _)
        have hO := hO.below hn (Nat.le_refl _)
        have hT := hT.below hn (Nat.le_refl _)
        clear hn
        generalize y5.alloc (.cells #[.slice none 0 0, .int .i64 0, .slice none 0 0] 32) = zgt at hB hx hSc hO hT bt ⊢
        generalize y5.heap.size = gt at hO hT nehxgt legt ltgt bt ⊢
        refine hK.out _ _ _ (fun _ h => h) (⟨hx.c0, hx.c1⟩) ?_
        clear hK K
        try simp only [Act.put, List.setIfInBounds_toArray, List.set_cons_zero, List.set_cons_succ]
        refine Lex.tree_call tn7 (Lex.want_none rfl) (fun K hK => ?_) Lex.tree_no
        clear hO
        have k0 := bt.c0
        have k1 := bt.c1
        have k2 := bt.c2
        have k3 := bt.f
        go_simp
        clear k0 k1 k2 k3
        have hw := bar_put zgt gt (.slice t.A t.n t.c) (.int .i64 t.m) (.slice t.B t.n t.d)
        have hB := ((hB.setCell (p := ⟨gt, 0, none⟩) legt (.slice t.A t.n t.c)).setCell (p := ⟨gt, 1, none⟩) legt (.int .i64 t.m)).setCell (p := ⟨gt, 2, none⟩) legt (.slice t.B t.n t.d)
        have hx := hx.bar hw nehxgt
        have hT := hT.bar hw (fun h => h rfl)
        have bt := box3_put bt (.slice t.A t.n t.c) (.int .i64 t.m) (.slice t.B t.n t.d)
        clear hw legt
        clear hSc
        generalize ((zgt.setCell ⟨gt, 0, none⟩ (.slice t.A t.n t.c)).setCell ⟨gt, 1, none⟩ (.int .i64 t.m)).setCell ⟨gt, 2, none⟩ (.slice t.B t.n t.d) = sgt at hB hx hT bt ⊢
        refine hK.out _ _ _ (fun _ h => h) (⟨hx.c0, hx.c1⟩) ?_
        clear hK K
        try simp only [Act.put, List.setIfInBounds_toArray, List.set_cons_zero, List.set_cons_succ]
        refine Lex.tree_end ?_
        refine NoPanic.normal ?_
        exact ⟨Ao, co, t, gt, rfl, hB, hx, hT, bt, ltgt⟩
      refine Lex.tree_call tn6 (Lex.want_none rfl) (fun K hK => ?_) Lex.tree_no
      go_simp
      have hn := (Below.refl y4.heap.size y4).alloc (Nat.le_refl _) (.cells #[.slice none 0 0, .int .i64 0, .slice none 0 0] 32)
      have bt := Sc.Box3.new y4 (.slice none 0 0) (.int .i64 0) (.slice none 0 0) 32
      have legt := Nat.le_of_lt hx.lt
      have ltgt := hx.lt
      have nehxgt := Nat.ne_of_lt hx.lt
      have hO := hO.off rfl
      have hB := hB.trans (hn.mono (Nat.le_of_lt hx.lt))
      have hx := hx.below hn hx.lt
      have hSc := hSc.below hn (Nat.le_refl _)
      have hO := hO.below hn (Nat.le_refl _)
      clear hn
      generalize y4.alloc (.cells #[.slice none 0 0, .int .i64 0, .slice none 0 0] 32) = zgt at hB hx hSc hO bt ⊢
      generalize y4.heap.size = gt at hO nehxgt legt ltgt bt ⊢
      refine hK.out _ _ _ (fun _ h => h) (⟨hx.c0, hx.c1⟩) ?_
      clear hK K
      try simp only [Act.put, List.setIfInBounds_toArray, List.set_cons_zero, List.set_cons_succ]
      refine Lex.tree_call tn5 (Lex.want_none rfl) (fun K hK => ?_) Lex.tree_no
      go_simp
      refine (new_any (w := zgt) (X := (fun b => b ≠ gt)) Ao _ co (HI.out.1.tab.below (B := g) hB hle) (show 1 ≠ gt from by have := HI.out.1.tab.2; omega) (fun b hb => by have := bt.lt; omega) hSc hO rfl hco (by rw [HC.out.2]; exact each_split hl8.1 hl8.2)).mono ?_
      rintro e y5 ⟨t, rfl, hT, hy5⟩
      simp only [TV.v]
      have hB := hB.trans (hy5.mono (Nat.le_of_lt hx.lt))
      have hx := hx.below hy5 hx.lt
      have hSc := hSc.below hy5 (Nat.le_refl _)
      have hO := hO.below hy5 (Nat.le_refl _)
      have bt := bt.below hy5 bt.lt
      clear hy5
      refine hK.out _ _ _ (fun _ h => h) (⟨hx.c0, hx.c1⟩) ?_
      clear hK K
      try simp only [Act.put, List.setIfInBounds_toArray, List.set_cons_zero, List.set_cons_succ]
      refine Lex.tree_call tn7 (Lex.want_none rfl) (fun K hK => ?_) Lex.tree_no
      clear hO
      have k0 := bt.c0
      have k1 := bt.c1
      have k2 := bt.c2
      have k3 := bt.f
      go_simp
      clear k0 k1 k2 k3
      have hw := bar_put y5 gt (.slice t.A t.n t.c) (.int .i64 t.m) (.slice t.B t.n t.d)
      have hB := ((hB.setCell (p := ⟨gt, 0, none⟩) legt (.slice t.A t.n t.c)).setCell (p := ⟨gt, 1, none⟩) legt (.int .i64 t.m)).setCell (p := ⟨gt, 2, none⟩) legt (.slice t.B t.n t.d)
      have hx := hx.bar hw nehxgt
      have bt := box3_put bt (.slice t.A t.n t.c) (.int .i64 t.m) (.slice t.B t.n t.d)
      have hT := hT.bar hw (fun h => h rfl)
      clear hw legt
      clear hSc
      generalize ((y5.setCell ⟨gt, 0, none⟩ (.slice t.A t.n t.c)).setCell ⟨gt, 1, none⟩ (.int .i64 t.m)).setCell ⟨gt, 2, none⟩ (.slice t.B t.n t.d) = sgt at hB hx bt hT ⊢
      refine hK.out _ _ _ (fun _ h => h) (⟨hx.c0, hx.c1⟩) ?_
      clear hK K
      try simp only [Act.put, List.setIfInBounds_toArray, List.set_cons_zero, List.set_cons_succ]
      refine Lex.tree_end ?_
      refine NoPanic.normal ?_
      exact ⟨Ao, co, t, gt, rfl, hB, hx, hT, bt, ltgt⟩
    refine Lex.tree_call tn6 (Lex.want_none rfl) (fun K hK => ?_) Lex.tree_no
    go_simp
    have hn := (Below.refl v2.heap.size v2).alloc (Nat.le_refl _) (.cells #[.slice none 0 0, .int .i64 0, .slice none 0 0] 32)
    have bt := Sc.Box3.new v2 (.slice none 0 0) (.int .i64 0) (.slice none 0 0) 32
    have legt := Nat.le_of_lt hx.lt
    have ltgt := hx.lt
    have nehxgt := Nat.ne_of_lt hx.lt
    have hB := hB.trans (hn.mono (Nat.le_of_lt hx.lt))
    have hx := hx.below hn hx.lt
    have hSc := hSc.below hn (Nat.le_refl _)
    clear hn
    generalize v2.alloc (.cells #[.slice none 0 0, .int .i64 0, .slice none 0 0] 32) = zgt at hB hx hSc bt ⊢
    generalize v2.heap.size = gt at  nehxgt legt ltgt bt ⊢
    refine hK.out _ _ _ (fun _ h => h) (⟨hx.c0, hx.c1⟩) ?_
    clear hK K
    try simp only [Act.put, List.setIfInBounds_toArray, List.set_cons_zero, List.set_cons_succ]
    refine Lex.tree_call tn4 (Lex.want_none rfl) (fun K hK => ?_) Lex.tree_no
    go_simp
    refine (each_sp (w := zgt) hl8.2).mono ?_
    rintro e y4 ⟨Ao, co, rfl, hco, hO, hy4⟩
    have hO := sp_of (X := (fun b => b ≠ gt)) hO (fun b hb _ => by have := bt.lt; omega)
    have hB := hB.trans (hy4.mono (Nat.le_of_lt hx.lt))
    have hx := hx.below hy4 hx.lt
    have hSc := hSc.below hy4 (Nat.le_refl _)
    have bt := bt.below hy4 bt.lt
    clear hy4
    refine hK.out _ _ _ (fun _ h => h) (⟨hx.c0, hx.c1⟩) ?_
    clear hK K
    try simp only [Act.put, List.setIfInBounds_toArray, List.set_cons_zero, List.set_cons_succ]
    refine Lex.tree_call tn5 (Lex.want_none rfl) (fun K hK => ?_) Lex.tree_no
    go_simp
    refine (new_any (w := y4) (X := (fun b => b ≠ gt)) Ao _ co (HI.out.1.tab.below (B := g) hB hle) (show 1 ≠ gt from by have := HI.out.1.tab.2; omega) (fun b hb => by have := bt.lt; omega) hSc hO rfl hco (by rw [HC.out.2]; exact each_split hl8.1 hl8.2)).mono ?_
    rintro e y5 ⟨t, rfl, hT, hy5⟩
    simp only [TV.v]
    have hB := hB.trans (hy5.mono (Nat.le_of_lt hx.lt))
    have hx := hx.below hy5 hx.lt
    have hSc := hSc.below hy5 (Nat.le_refl _)
    have bt := bt.below hy5 bt.lt
    have hO := hO.below hy5 (Nat.le_refl _)
    clear hy5
    refine hK.out _ _ _ (fun _ h => h) (⟨hx.c0, hx.c1⟩) ?_
    clear hK K
    try simp only [Act.put, List.setIfInBounds_toArray, List.set_cons_zero, List.set_cons_succ]
    refine Lex.tree_call tn7 (Lex.want_none rfl) (fun K hK => ?_) Lex.tree_no
    clear hO
    have k0 := bt.c0
    have k1 := bt.c1
    have k2 := bt.c2
    have k3 := bt.f
    go_simp
    clear k0 k1 k2 k3
    have hw := bar_put y5 gt (.slice t.A t.n t.c) (.int .i64 t.m) (.slice t.B t.n t.d)
    have hB := ((hB.setCell (p := ⟨gt, 0, none⟩) legt (.slice t.A t.n t.c)).setCell (p := ⟨gt, 1, none⟩) legt (.int .i64 t.m)).setCell (p := ⟨gt, 2, none⟩) legt (.slice t.B t.n t.d)
    have hx := hx.bar hw nehxgt
    have bt := box3_put bt (.slice t.A t.n t.c) (.int .i64 t.m) (.slice t.B t.n t.d)
    have hT := hT.bar hw (fun h => h rfl)
    clear hw legt
    clear hSc
    generalize ((y5.setCell ⟨gt, 0, none⟩ (.slice t.A t.n t.c)).setCell ⟨gt, 1, none⟩ (.int .i64 t.m)).setCell ⟨gt, 2, none⟩ (.slice t.B t.n t.d) = sgt at hB hx bt hT ⊢
    refine hK.out _ _ _ (fun _ h => h) (⟨hx.c0, hx.c1⟩) ?_
    clear hK K
    try simp only [Act.put, List.setIfInBounds_toArray, List.set_cons_zero, List.set_cons_succ]
    refine Lex.tree_end ?_
    refine NoPanic.normal ?_
    exact ⟨Ao, co, t, gt, rfl, hB, hx, hT, bt, ltgt⟩
  clear hB hx hSc
  rintro _ w5 ⟨Ao, co, t, gt, rfl, hB, hx, hT, bt, ltgt⟩
  have hn := (Below.refl w5.heap.size w5).alloc (Nat.le_refl _) (.cells #[.slice none 0 0, .slice none 0 0, .slice none 0 0, .slice none 0 0, .slice none 0 0, .slice none 0 0, .slice none 0 0, .slice none 0 0] 56)
  have hr8 := heap_alloc_new w5 (.cells #[.slice none 0 0, .slice none 0 0, .slice none 0 0, .slice none 0 0, .slice none 0 0, .slice none 0 0, .slice none 0 0, .slice none 0 0] 56)
  obtain ⟨gr, hgr⟩ : ∃ gr, w5.heap.size = gr := ⟨_, rfl⟩
  have hD : MoB w g gt gr mc cp nm A cs t (newR (eachS mc) cs.length) (fun _ => .slice none 0 0) (newR (eachS mc) cs.length) _ := MoB.new hg ltgt hgr hB hx bt hT
  clear hB hx bt hT ltgt hn hr8
  generalize newR (eachS mc) cs.length = r at hD
  go_wp2
  clear hgr
  generalize w5.alloc (.cells #[.slice none 0 0, .slice none 0 0, .slice none 0 0, .slice none 0 0, .slice none 0 0, .slice none 0 0, .slice none 0 0, .slice none 0 0] 56) = w6 at hD ⊢
  go_loopw [7] (fun i W => ∃ (q : Nat) (t : TV) (r : R) (rv : Nat → Value), q ≤ m ∧ i = .int .i64 q ∧ MoB w g gt gr mc cp nm A cs t r rv r W) (fun i _ => m - (intOf i).toNat)
  case atStart => exact ⟨0, t, r, _, Nat.zero_le _, rfl, hD⟩
  case round =>
    clear hD
    obtain ⟨q, t, r, rv, hq, rfl, hD⟩ := hrel
    by_cases hlt : q < m
    · have hl : l[q]? = some (l[q]'(by rw [HI.out.2.2]; exact hlt)) := List.getElem?_eq_getElem _
      generalize (l[q]'(by rw [HI.out.2.2]; exact hlt)) = y at hl
      obtain ⟨b1, o1, rfl, hb1, h8, hA⟩ := HI.out.2.1.at hl
      have hb1 : b1 < g := by omega
      have HSP := Lib.hid (HS20.out y (List.mem_of_getElem? hl))
      obtain ⟨⟨rA, rn, rc, sB, sp, sd⟩, ⟨ak, asl, ac, arow, ⟨vk, vn, vs⟩, al⟩⟩ := y
      simp only at hA
      have i1 : (q : Int) < (m : Int) := by omega
      have i0 : (0 : Int) ≤ (q : Int) := by omega
      clear hl
      have h8 := h8.below hD.b hb1
      have a0 := h8.c0
      have a1 := h8.c1
      have a2 := h8.c2
      have a3 := h8.c3
      have a4 := h8.c4
      have a5 := h8.c5
      have a6 := h8.c6
      have a7 := h8.c7
      simp only at a0 a1 a2 a3 a4 a5 a6 a7
      have c0 := hD.x.c0
      have c1 := hD.x.c1
      have v0 := hD.v.c0
      have v1 := hD.v.c1
      have v2 := hD.v.c2
      have l1 := hD.x.lt
      have l2 := hD.v.lt
      go_wp2_with fail
      clear a0 a1 a2 a3 a4 a5 a6 a7 c0 c1 v0 v1 v2 l1 l2 h8
      have hn := (Below.refl wr.heap.size wr).alloc (Nat.le_refl _) (.cells #[.int .i64 ak, .int .i64 asl, .int .i64 ac, .slice rA rn rc, .int .i64 vk, .int .i64 vn, .string vs, .slice sB sp sd] 39)
      have hb := BoxA.new wr ⟨rA, rn, rc, sB, sp, sd⟩ ⟨ak, asl, ac, arow, ⟨vk, vn, vs⟩, al⟩ 39
      simp only at hb
      have hne : Hid (wr.heap.size ≠ gt ∧ wr.heap.size ≠ gr) := Lib.hid ⟨by have := hD.v.lt; omega, by have := hD.gl; omega⟩
      have hD := hD.below hn
      clear hn
      generalize wr.alloc (.cells #[.int .i64 ak, .int .i64 asl, .int .i64 ac, .slice rA rn rc, .int .i64 vk, .int .i64 vn, .string vs, .slice sB sp sd] 39) = z1 at hD hb ⊢
      generalize wr.heap.size = ga at hb hne ⊢
      have hcl := does_any (w := z1) hD.hX (hD.sch HI.out.1 HC.out.1) hD.t ((hA.below hD.b hle).mono hD.old) HSP.out
      obtain ⟨r', ys, ye, hdd⟩ : ∃ r' ys ye, doesR cs r ⟨ak, asl, ac, arow, ⟨vk, vn, vs⟩, al⟩ = (r', ys, ye) := ⟨_, _, _, rfl⟩
      rw [hdd] at hcl
      refine hcl.mono ?_
      rintro e y1 ⟨u, rfl, hU, hy⟩
      have hD := hD.below hy
      have hb := hb.below hy
      clear hy hcl
      simp only [TV.v]
      simp only at hU
      have v0 := hD.v.c0
      have v1 := hD.v.c1
      have v2 := hD.v.c2
      have vf := hD.v.f
      have l2 := hD.v.lt
      go_upto_region 11 with fail
      generalize hW : ((y1.setCell ⟨gt, 0, none⟩ (.slice u.A u.n u.c)).setCell ⟨gt, 1, none⟩ (.int .i64 u.m)).setCell ⟨gt, 2, none⟩ (.slice u.B u.n u.d) = W8
      have hP := hD.put hU hW
      have hw8 : Bar gt y1 W8 := hW ▸ bar_put y1 gt (.slice u.A u.n u.c) (.int .i64 u.m) (.slice u.B u.n u.d)
      have hb := hb.bar hw8 hne.out.1
      have hn := (Below.refl W8.heap.size W8).alloc (Nat.le_refl _) (.cells #[.slice u.A u.n u.c, .int .i64 u.m, .slice u.B u.n u.d] 32)
      have hP := hP.below hn
      have hb := hb.below hn
      clear hn hw8 hU hD v0 v1 v2 vf l2 hW
      generalize W8.alloc (.cells #[.slice u.A u.n u.c, .int .i64 u.m, .slice u.B u.n u.d] 32) = z2 at hP hb ⊢
      generalize y1.heap.size = gx
      go_cut [12] from 30 to 204 (fun s12 wx => z2 = wx ∧ s12 = .bool (takenB r asl))
      case first =>
        as_aux_lemma =>
        have b1' := hb.c1
        simp only at b1'
        rcases Int.lt_or_le asl 0 with hs0 | hs0
        · have ht : takenB r asl = false := by unfold takenB; rw [decide_eq_false (by omega)]; rfl
          have d0 : decide (0 ≤ asl) = false := decide_eq_false (by omega)
          go_wp2
          go_meet
          case rel => exact ⟨rfl, by rw [ht]⟩
        rcases Int.lt_or_le asl 8 with hs8 | hs8
        · rcases Int.lt_or_eq_of_le hs0 with hsp | hsp
          · obtain ⟨k, rfl⟩ : ∃ k : Nat, asl = (k : Int) := ⟨asl.toNat, by omega⟩
            have hk8 : k < 8 := by omega
            have hk0 : 0 < k := by omega
            have hc := hP.c k hk8
            have hr := hP.r k hk8
            have d7 : ¬ (7 : Int) < (k : Int) := by omega
            have m7 : min (k : Int) 7 = (k : Int) := by omega
            have x7 : max 0 (k : Int) = (k : Int) := by omega
            cases hf : r.f k
            · have ht : takenB r (k : Int) = false := by unfold takenB; simp [hf]
              rw [hr.no hf] at hc
              clear hr
              go_wp2
              go_meet
              case rel => exact ⟨rfl, by rw [ht]⟩
            · have ht : takenB r (k : Int) = true := by unfold takenB; simp [hf]; omega
              obtain ⟨bk, o, cc, e1, _, _⟩ := hr.yes hf
              rw [e1] at hc
              clear hr
              go_wp2
              go_meet
              case rel => exact ⟨rfl, by rw [ht]⟩
          · subst hsp
            have hc := hP.c 0 (by decide)
            have hr := hP.r 0 (by decide)
            have m7 : min (0 : Int) 7 = 0 := by decide
            have x7 : max (0 : Int) 0 = 0 := by decide
            cases hf : r.f 0
            · have ht : takenB r (0 : Int) = false := by unfold takenB; simp [hf]
              rw [hr.no hf] at hc
              clear hr
              go_wp2
              go_meet
              case rel => exact ⟨rfl, by rw [ht]⟩
            · have ht : takenB r (0 : Int) = true := by unfold takenB; simp [hf]
              obtain ⟨bk, o, cc, e1, _, _⟩ := hr.yes hf
              rw [e1] at hc
              clear hr
              go_wp2
              go_meet
              case rel => exact ⟨rfl, by rw [ht]⟩
        · have ht : takenB r asl = false := by unfold takenB; rw [decide_eq_false (show ¬ asl < 8 by omega), Bool.and_false]; rfl
          have d0 : decide (asl < 8) = false := decide_eq_false (by omega)
          go_wp2
          go_meet
          case rel => exact ⟨rfl, by rw [ht]⟩
      case rest =>
        obtain ⟨rfl, rfl⟩ := hcut
        have b0' := hb.c0
        simp only at b0'
        go_upto_block 2 with fail
        clear b0'
        go_cut [12, 13, 14, 15] from 30 to 204 (fun s12 s13 s14 s15 wx => ∃ rv', MoB w g gt gr mc cp nm A cs u r' rv' r' wx)
        case first =>
          by_cases k0 : ak = 0
          · subst k0
            as_aux_lemma =>
              have hadd := does_0 hdd
              clear hdd
              have qnil : ∀ (W : World) (a : Option Addr) (n c : Nat), (binOp .eql 35 (.slice a n c) (.slice none 0 0)).run Tryd.prog W = .ok (.bool a.isNone) W := fun W a n c => Lib.run_eql_slice_nil W _ _ a n c 0 0 Tryd.underlying35
              go_wp2
              go_loopw [13, 14] (fun x i W => ∃ (p : Nat) (xv : Int), p ≤ 8 ∧ i = .int .i64 ((p : Int) - 1) ∧ x = .int .i64 xv ∧ Hid (FreeP r.f p xv) ∧ z2 = W) (fun _ i _ => (intOf i + 1).toNat)
              case atStart => exact ⟨8, -1, by omega, rfl, rfl, Lib.hid (FreeP.start _), rfl⟩
              case round =>
                obtain ⟨p, xv, hp, rfl, rfl, hF, rfl⟩ := hrel
                by_cases hp0 : 0 < p
                · obtain ⟨p, rfl⟩ : ∃ p', p = p' + 1 := ⟨p - 1, by omega⟩
                  have e1 : ((p + 1 : Nat) : Int) - 1 = (p : Int) := by omega
                  rw [e1]
                  have hc := hP.c p (by omega)
                  have hr := hP.r p (by omega)
                  have j0 : (0 : Int) ≤ (p : Int) := by omega
                  have j1 : (p : Int) < 8 := by omega
                  clear e1
                  cases hf : r.f p
                  · rw [hr.no hf] at hc
                    have hF' := Lib.hid (FreeP.yes hf (by omega))
                    clear hr hf
                    go_wp2
                    clear hc
                    go_roundw
                    case rel => exact ⟨p, p, by omega, by go_num, rfl, hF', trivial⟩
                    case measure => simp [intOf]
                  · obtain ⟨bk, o, cc, e1, _, _⟩ := hr.yes hf
                    rw [e1] at hc
                    have hF' := Lib.hid (hF.out.no hf)
                    clear hr hf e1
                    go_wp2
                    clear hc
                    go_roundw
                    case rel => exact ⟨p, xv, by omega, by go_num, rfl, hF', trivial⟩
                    case measure => simp [intOf]
                · obtain rfl : p = 0 := by omega
                  have c0 := hP.x.c0
                  have c1 := hP.x.c1
                  have b3' := hb.c3
                  simp only at b3'
                  go_wp2_with fail
                  clear c0 c1 b3' qnil
                  refine (check_row cp rc (hP.sch HI.out.1 HC.out.1).c (hA.below hP.b hle).row HC.out.2 HI.out.1.c9 hA.n hA.n9).mono ?_
                  rintro e z3 ⟨rfl, hy⟩
                  have hP := hP.below hy
                  have hb := hb.below hy
                  clear hy
                  rcases Classical.em (¬ Ro.checkE cs arow = 0) with hc | hc
                  · have hc' : (Ro.checkE cs arow == 0) = false := beq_eq_false_iff_ne.2 hc
                    unfold addR at hadd
                    rw [if_pos hc] at hadd
                    injection hadd with h1 h2
                    injection h2 with h2 h3
                    subst h1 h2 h3
                    go_wp2
                    go_meet
                    case rel => exact ⟨rv, hP⟩
                  have hc : Ro.checkE cs arow = 0 := Decidable.not_not.1 hc
                  unfold addR at hadd
                  rw [if_neg (by rw [hc]; decide)] at hadd
                  rw [hc]
                  rcases hF.out.out with ⟨hf, rfl⟩ | ⟨i, hf, rfl, hi⟩
                  · rw [hf] at hadd
                    dsimp only at hadd
                    injection hadd with h1 h2
                    injection h2 with h2 h3
                    subst h1 h2 h3
                    clear hF
                    go_wp2
                    go_meet
                    case rel => exact ⟨rv, hP⟩
                  · rw [hf] at hadd
                    dsimp only at hadd
                    injection hadd with h1 h2
                    injection h2 with h2 h3
                    subst h2 h3
                    clear hF
                    have j0 : (0 : Int) ≤ (i : Int) := by omega
                    have j1 : (i : Int) < 8 := by omega
                    have j2 : ¬ (i : Int) < 0 := by omega
                    have hlen := (Ro.check_ok.1 hc).1
                    have hAn : arow.length = rn := hA.n
                    have hrn : mc = rn := by rw [← hAn, hlen, HC.out.2]
                    subst hrn
                    obtain ⟨b2, o2, rfl, _, _, _⟩ := hA.row (fun e => by have e : arow = [] := e; rw [e] at hAn; have := hl8.1; simp at hAn; omega)
                    obtain ⟨i0, hi0, hz0, hz1, hz2⟩ := info_parts Ro.infoV
                    have hownW := World.ownsRow_lit (e := 37) (size := 3) (base := z3.heap.size) z3 #[] 0 (Nat.le_refl _) (by unfold maxLen; omega) rfl
                    have hBW := (Below.refl z3.heap.size z3).alloc (Nat.le_refl _) (.cells #[] 37)
                    have HW := Lib.hid (And.intro hownW (And.intro hBW hBW.size))
                    have HLN : Hid ((Li.cellsL Ro.cellsV arow).length = mc * 3) := Lib.hid (by rw [Li.cellsL_len Ro.cellsV_len, hAn])
                    have HNW := Lib.hid (news_of (by decide) Ro.cellsV_len (hA.below (hP.below hBW).b hle).row)
                    have HON := Lib.hid (cellsV_one arow)
                    have b3' := (hb.below hBW).c3
                    simp only at b3'
                    have HP := Lib.hid (And.intro hP hb)
                    have HA := Lib.hid (And.intro h1 (And.intro hlen hf))
                    clear hownW hBW hP hb h1 hlen hf hc
                    go_wp2_with (at_builtin; go_must (refine wpList_append_own _ rfl _ _ 35 rfl z3.heap.size 37 i0 (.agg #[.int .i64 0, .int .i64 0, .string ⟨#[]⟩]) 3 32 Tryd.underlying35 hi0 hz0 hz1 hz2 rfl (by decide) (.slice (some ⟨z3.heap.size, 0, none⟩) 0 0) 0 [] rfl HW.out.1 ⟨b2, o2, none⟩ mc rc (Li.cellsL Ro.cellsV arow) rfl HLN.out HNW.out HON.out (by unfold maxLen; omega) (by omega) HW.out.2.2 ?_))
                    intro v5 y5 hown5 hgrow5 _
                    have hB5 := HW.out.2.1.grown hgrow5 HW.out.2.2 (fun k hk => (HW.out.1.lt k hk).1)
                    obtain ⟨hP, hb⟩ := HP.out
                    have hg1 := hP.v.lt
                    have hg2 := hP.gl
                    have hP := hP.below hB5
                    clear hgrow5 HW HNW HON HLN HP b3' hb hB5
                    obtain ⟨g5, cap5, rfl, hb5, hlt5⟩ := hown5.form (by omega)
                    have hV : Ro.HasV y5 0 (some ⟨g5, 0, none⟩) arow := by
                      obtain ⟨_, _, e, _, h⟩ := Li.list_of_own Ro.cellsV_len hown5 (by rw [HA.out.2.1, HC.out.2])
                      injection e with e _ _
                      subst e
                      exact h.lower (Nat.zero_le _)
                    obtain ⟨xr, hxr, hxl⟩ := hP.t.ok.at hi
                    have hro : RowAt y5 (Xm gt gr) mc (.slice (some ⟨g5, 0, none⟩) mc cap5) (r'.f i) ((r'.M[i]?).getD []) := by
                      have hM : r'.M[i]? = some arow := by
                        rw [← HA.out.1] at hxr ⊢
                        simp only [List.getElem?_set_self'] at hxr ⊢
                        cases hh : r.M[i]? with
                        | none => rw [hh] at hxr; simp at hxr
                        | some z => rfl
                      rw [hM]
                      refine ⟨fun e => ?_, fun _ => ⟨g5, 0, cap5, rfl, by rw [Option.getD_some, HA.out.2.1, HC.out.2], hV, ?_⟩⟩
                      · rw [← HA.out.1] at e
                        simp at e
                      · intro _ b o s e
                        injection e with e
                        injection e with e _
                        subst e
                        exact ⟨by omega, by omega⟩
                    have hst := hP.setR (q' := r') hro (fun j hj hji => by rw [← HA.out.1]; exact ⟨if_neg hji, List.getElem?_set_ne (Ne.symm hji)⟩) hi
                    have r1 := hP.c i hi
                    have r2 := hP.f i
                    have HST := Lib.hid hst
                    clear hst hro hV hown5 hP hxr
                    go_wp2
                    go_meet
                    case rel => exact ⟨_, HST.out⟩
          by_cases k1 : ak = 1
          · subst k1
            as_aux_lemma =>
              have hdr := does_1 hdd
              clear hdd
              go_upto_region 28 with fail
              go_cut [12, 145] from 30 to 204 (fun s12 s145 wx => s145 = .bool false ∧ MoB w g gt gr mc cp nm A cs u r' rv r wx ∧ BoxA wx ga ⟨rA, rn, rc, sB, sp, sd⟩ ⟨1, asl, ac, arow, ⟨vk, vn, vs⟩, al⟩)
              case first =>
                as_aux_lemma =>
                cases ht : takenB r asl
                · unfold setR at hdr
                  rw [if_neg (fun h => by rw [ht] at h; exact absurd h.1 (by decide))] at hdr
                  injection hdr with h1 h2
                  subst h1 h2
                  have hd := (Below.refl z2.heap.size z2).drew
                  have hP := hP.below hd
                  have hb := hb.below hd
                  clear hd
                  refine Lex.region_tree (ops := toops) totree (fun W => W.cell? ⟨g, 1, none⟩ = some (.slice (A) mc cp) ∧ W.cell? ⟨ga, 2, none⟩ = some (.int .i64 ac) ∧ W.cell? ⟨ga, 4, none⟩ = some (.int .i64 vk) ∧ W.cell? ⟨ga, 5, none⟩ = some (.int .i64 vn) ∧ W.cell? ⟨ga, 6, none⟩ = some (.string vs)) (by kernel_rfl) (by kernel_rfl) tosel tolex (⟨hP.x.c1, hb.c2, hb.c4, hb.c5, hb.c6⟩) ?_
                  unfold totree
                  generalize z2.drew = v2 at hP hb ⊢
                  refine Lex.tree_take (.int .i64 3) to0 (Lex.want_none rfl) (by intro Wx hSw; (try dsimp only at hSw); go_simp; (try (first | (with_reducible rfl) | assumption | rfl))) ?_
                  simp only [Act.put, List.setIfInBounds_toArray, List.set_cons_zero, List.set_cons_succ]
                  refine Lex.tree_take (.bool false) to1 (Lex.want_none rfl) (by intro Wx hSw; (try dsimp only at hSw); go_simp; (try (first | (with_reducible rfl) | assumption | rfl))) ?_
                  simp only [Act.put, List.setIfInBounds_toArray, List.set_cons_zero, List.set_cons_succ]
                  refine Lex.tree_take (.bool false) to2 (Lex.want_none rfl) (by intro Wx hSw; (try dsimp only at hSw); go_simp; (try (first | (with_reducible rfl) | assumption | rfl))) ?_
                  simp only [Act.put, List.setIfInBounds_toArray, List.set_cons_zero, List.set_cons_succ]
                  refine Lex.tree_take (.bool false) to3 (Lex.want_none rfl) (by intro Wx hSw; (try dsimp only at hSw); go_simp; (try (first | (with_reducible rfl) | assumption | rfl))) ?_
                  simp only [Act.put, List.setIfInBounds_toArray, List.set_cons_zero, List.set_cons_succ]
                  refine Lex.tree_skip to4 (Lex.want_some rfl to3 rfl (b' := false) rfl rfl) ?_
                  simp only [Act.put, List.setIfInBounds_toArray, List.set_cons_zero, List.set_cons_succ]
                  refine Lex.tree_skip to5 (Lex.want_some rfl to3 rfl (b' := false) rfl rfl) ?_
                  simp only [Act.put, List.setIfInBounds_toArray, List.set_cons_zero, List.set_cons_succ]
                  refine Lex.tree_skip to6 (Lex.want_some rfl to3 rfl (b' := false) rfl rfl) ?_
                  simp only [Act.put, List.setIfInBounds_toArray, List.set_cons_zero, List.set_cons_succ]
                  refine Lex.tree_take (.bool false) to7 (Lex.want_none rfl) (by intro Wx hSw; (try dsimp only at hSw); go_simp; (try (first | (with_reducible rfl) | assumption | rfl))) ?_
                  simp only [Act.put, List.setIfInBounds_toArray, List.set_cons_zero, List.set_cons_succ]
                  refine Lex.tree_take (.bool false) to8 (Lex.want_none rfl) (by intro Wx hSw; (try dsimp only at hSw); go_simp; (try (first | (with_reducible rfl) | assumption | rfl))) ?_
                  simp only [Act.put, List.setIfInBounds_toArray, List.set_cons_zero, List.set_cons_succ]
                  refine Lex.tree_skip to9 (Lex.want_some rfl to8 rfl (b' := false) rfl rfl) ?_
                  simp only [Act.put, List.setIfInBounds_toArray, List.set_cons_zero, List.set_cons_succ]
                  refine Lex.tree_skip to10 (Lex.want_some rfl to8 rfl (b' := false) rfl rfl) ?_
                  simp only [Act.put, List.setIfInBounds_toArray, List.set_cons_zero, List.set_cons_succ]
                  refine Lex.tree_skip to11 (Lex.want_some rfl to8 rfl (b' := false) rfl rfl) ?_
                  simp only [Act.put, List.setIfInBounds_toArray, List.set_cons_zero, List.set_cons_succ]
                  refine Lex.tree_skip to12 (Lex.want_some rfl to8 rfl (b' := false) rfl rfl) ?_
                  simp only [Act.put, List.setIfInBounds_toArray, List.set_cons_zero, List.set_cons_succ]
                  refine Lex.tree_skip to13 (Lex.want_some rfl to8 rfl (b' := false) rfl rfl) ?_
                  simp only [Act.put, List.setIfInBounds_toArray, List.set_cons_zero, List.set_cons_succ]
                  refine Lex.tree_skip to14 (Lex.want_some rfl to8 rfl (b' := false) rfl rfl) ?_
                  simp only [Act.put, List.setIfInBounds_toArray, List.set_cons_zero, List.set_cons_succ]
                  refine Lex.tree_take (.bool false) to15 (Lex.want_none rfl) (by intro Wx hSw; (try dsimp only at hSw); go_simp; (try (first | (with_reducible rfl) | assumption | rfl))) ?_
                  simp only [Act.put, List.setIfInBounds_toArray, List.set_cons_zero, List.set_cons_succ]
                  refine Lex.tree_take (.bool false) to16 (Lex.want_none rfl) (by intro Wx hSw; (try dsimp only at hSw); go_simp; (try (first | (with_reducible rfl) | assumption | rfl))) ?_
                  simp only [Act.put, List.setIfInBounds_toArray, List.set_cons_zero, List.set_cons_succ]
                  refine Lex.tree_skip to17 (Lex.want_some rfl to16 rfl (b' := false) rfl rfl) ?_
                  simp only [Act.put, List.setIfInBounds_toArray, List.set_cons_zero, List.set_cons_succ]
                  refine Lex.tree_skip to18 (Lex.want_some rfl to16 rfl (b' := false) rfl rfl) ?_
                  simp only [Act.put, List.setIfInBounds_toArray, List.set_cons_zero, List.set_cons_succ]
                  refine Lex.tree_skip to19 (Lex.want_some rfl to16 rfl (b' := false) rfl rfl) ?_
                  simp only [Act.put, List.setIfInBounds_toArray, List.set_cons_zero, List.set_cons_succ]
                  refine Lex.tree_skip to20 (Lex.want_some rfl to16 rfl (b' := false) rfl rfl) ?_
                  simp only [Act.put, List.setIfInBounds_toArray, List.set_cons_zero, List.set_cons_succ]
                  refine Lex.tree_skip to21 (Lex.want_some rfl to16 rfl (b' := false) rfl rfl) ?_
                  simp only [Act.put, List.setIfInBounds_toArray, List.set_cons_zero, List.set_cons_succ]
                  refine Lex.tree_skip to22 (Lex.want_some rfl to16 rfl (b' := false) rfl rfl) ?_
                  simp only [Act.put, List.setIfInBounds_toArray, List.set_cons_zero, List.set_cons_succ]
                  refine Lex.tree_skip to23 (Lex.want_some rfl to16 rfl (b' := false) rfl rfl) ?_
                  simp only [Act.put, List.setIfInBounds_toArray, List.set_cons_zero, List.set_cons_succ]
                  refine Lex.tree_skip to24 (Lex.want_some rfl to16 rfl (b' := false) rfl rfl) ?_
                  simp only [Act.put, List.setIfInBounds_toArray, List.set_cons_zero, List.set_cons_succ]
                  refine Lex.tree_skip to25 (Lex.want_some rfl to16 rfl (b' := false) rfl rfl) ?_
                  simp only [Act.put, List.setIfInBounds_toArray, List.set_cons_zero, List.set_cons_succ]
                  refine Lex.tree_skip to26 (Lex.want_some rfl to16 rfl (b' := false) rfl rfl) ?_
                  simp only [Act.put, List.setIfInBounds_toArray, List.set_cons_zero, List.set_cons_succ]
                  refine Lex.tree_skip to27 (Lex.want_some rfl to16 rfl (b' := false) rfl rfl) ?_
                  simp only [Act.put, List.setIfInBounds_toArray, List.set_cons_zero, List.set_cons_succ]
                  refine Lex.tree_skip to28 (Lex.want_some rfl to16 rfl (b' := false) rfl rfl) ?_
                  simp only [Act.put, List.setIfInBounds_toArray, List.set_cons_zero, List.set_cons_succ]
                  refine Lex.tree_skip to29 (Lex.want_some rfl to16 rfl (b' := false) rfl rfl) ?_
                  simp only [Act.put, List.setIfInBounds_toArray, List.set_cons_zero, List.set_cons_succ]
                  refine Lex.tree_skip to30 (Lex.want_some rfl to16 rfl (b' := false) rfl rfl) ?_
                  simp only [Act.put, List.setIfInBounds_toArray, List.set_cons_zero, List.set_cons_succ]
                  refine Lex.tree_pass to31 (Lex.want_some rfl to16 rfl (b' := false) rfl rfl) ?_ Lex.tree_no
                  simp only [Act.put, List.setIfInBounds_toArray, List.set_cons_zero, List.set_cons_succ]
                  refine Lex.tree_skip to32 (Lex.want_some rfl to16 rfl (b' := false) rfl rfl) ?_
                  simp only [Act.put, List.setIfInBounds_toArray, List.set_cons_zero, List.set_cons_succ]
                  refine Lex.tree_take (.bool false) to33 (Lex.want_none rfl) (by intro Wx hSw; (try dsimp only at hSw); go_simp; (try (first | (with_reducible rfl) | assumption | rfl))) ?_
                  simp only [Act.put, List.setIfInBounds_toArray, List.set_cons_zero, List.set_cons_succ]
                  refine Lex.tree_take (.bool false) to34 (Lex.want_none rfl) (by intro Wx hSw; (try dsimp only at hSw); go_simp; (try (first | (with_reducible rfl) | assumption | rfl))) ?_
                  simp only [Act.put, List.setIfInBounds_toArray, List.set_cons_zero, List.set_cons_succ]
                  refine Lex.tree_end ?_
                  refine NoPanic.normal ?_
                  go_wp2
                  go_meet
                  case rel => exact ⟨rfl, hP, hb⟩
                by_cases hc0 : 0 ≤ ac
                · by_cases hc1 : ac < (mc : Int)
                  · obtain ⟨q, rfl⟩ : ∃ q : Nat, ac = (q : Int) := ⟨ac.toNat, by omega⟩
                    have hq : q < mc := by omega
                    have hqc : q < cs.length := by rw [HC.out.2]; exact hq
                    have hg1 : cs[q]? = some (cs[q]'hqc) := List.getElem?_eq_getElem _
                    generalize (cs[q]'hqc) = cl at hg1
                    unfold setR at hdr
                    rw [if_pos ⟨ht, hc0, by omega⟩, Int.toNat_natCast, hg1] at hdr
                    dsimp only at hdr
                    obtain ⟨b3, o3, rfl, _, hb3, hcc1⟩ := (hP.sch HI.out.1 HC.out.1).c (fun e => by rw [e] at hqc; simp at hqc)
                    have hD3 : ColAt z2 b3 (o3 + q * 3) cl := ⟨hb3, hcc1 q _ hg1⟩
                    obtain ⟨cn, ck, cz⟩ := cl
                    clear hcc1 hb3
                    have hl81 := hl8.1
                    have hl82 := hl8.2
                    have hwm : IntKind.i64.wrap ((mc : Int) - 1) = (mc : Int) - 1 := IntWalk.i64_in _ (by omega)
                    have q1 : ¬ (mc : Int) - 1 < (q : Int) := by omega
                    by_cases hfe : Ro.fitsE ⟨cn, ck, cz⟩ ⟨vk, vn, vs⟩ = 0
                    · rw [if_pos hfe] at hdr
                      injection hdr with h1 h2
                      subst h2
                      have hd := (Below.refl z2.heap.size z2).drew
                      have hP := hP.below hd
                      have hb := hb.below hd
                      have hD3 := hD3.below hd
                      clear hd
                      refine Lex.region_tree (ops := toops) totree (fun W => W.cell? ⟨g, 1, none⟩ = some (.slice (some ⟨b3, o3, none⟩) mc cp) ∧ W.cell? ⟨ga, 2, none⟩ = some (.int .i64 (q : Int)) ∧ W.cell? ⟨ga, 4, none⟩ = some (.int .i64 vk) ∧ W.cell? ⟨ga, 5, none⟩ = some (.int .i64 vn) ∧ W.cell? ⟨ga, 6, none⟩ = some (.string vs) ∧ W.cell? ⟨b3, o3 + q * 3, none⟩ = some (.string cn) ∧ W.cell? ⟨b3, o3 + q * 3 + 1, none⟩ = some (.int .i64 ck) ∧ W.cell? ⟨b3, o3 + q * 3 + 2, none⟩ = some (.bool cz)) (by kernel_rfl) (by kernel_rfl) tosel tolex (⟨hP.x.c1, hb.c2, hb.c4, hb.c5, hb.c6, hD3.c0, hD3.c1, hD3.c2⟩) ?_
                      unfold totree
                      generalize z2.drew = v2 at hP hb hD3 ⊢
                      refine Lex.tree_take (.int .i64 0) to0 (Lex.want_none rfl) (by intro Wx hSw; (try dsimp only at hSw); go_simp; (try (first | (with_reducible rfl) | assumption | rfl))) ?_
                      simp only [Act.put, List.setIfInBounds_toArray, List.set_cons_zero, List.set_cons_succ]
                      refine Lex.tree_take (.bool true) to1 (Lex.want_none rfl) (by intro Wx hSw; (try dsimp only at hSw); go_simp; (try (first | (with_reducible rfl) | assumption | rfl))) ?_
                      simp only [Act.put, List.setIfInBounds_toArray, List.set_cons_zero, List.set_cons_succ]
                      refine Lex.tree_take (.bool true) to2 (Lex.want_none rfl) (by intro Wx hSw; (try dsimp only at hSw); go_simp; (try (first | (with_reducible rfl) | assumption | rfl))) ?_
                      simp only [Act.put, List.setIfInBounds_toArray, List.set_cons_zero, List.set_cons_succ]
                      refine Lex.tree_take (.bool true) to3 (Lex.want_none rfl) (by intro Wx hSw; (try dsimp only at hSw); go_simp; (try (first | (with_reducible rfl) | assumption | rfl))) ?_
                      simp only [Act.put, List.setIfInBounds_toArray, List.set_cons_zero, List.set_cons_succ]
                      refine Lex.tree_take (.pointer (some ⟨ga, 2, none⟩)) to4 (Lex.want_some rfl to3 rfl (b' := true) rfl rfl) (by intro Wx hSw; (try dsimp only at hSw); go_simp; (try (first | (with_reducible rfl) | assumption | rfl))) ?_
                      simp only [Act.put, List.setIfInBounds_toArray, List.set_cons_zero, List.set_cons_succ]
                      refine Lex.tree_take (.int .i64 (q : Int)) to5 (Lex.want_some rfl to3 rfl (b' := true) rfl rfl) (by intro Wx hSw; (try dsimp only at hSw); go_simp; (try (first | (with_reducible rfl) | assumption | rfl))) ?_
                      simp only [Act.put, List.setIfInBounds_toArray, List.set_cons_zero, List.set_cons_succ]
                      refine Lex.tree_take (.bool true) to6 (Lex.want_some rfl to3 rfl (b' := true) rfl rfl) (by intro Wx hSw; (try dsimp only at hSw); go_simp; (try (first | (with_reducible rfl) | assumption | rfl))) ?_
                      simp only [Act.put, List.setIfInBounds_toArray, List.set_cons_zero, List.set_cons_succ]
                      refine Lex.tree_take (.bool true) to7 (Lex.want_none rfl) (by intro Wx hSw; (try dsimp only at hSw); go_simp; (try (first | (with_reducible rfl) | assumption | rfl))) ?_
                      simp only [Act.put, List.setIfInBounds_toArray, List.set_cons_zero, List.set_cons_succ]
                      refine Lex.tree_take (.bool true) to8 (Lex.want_none rfl) (by intro Wx hSw; (try dsimp only at hSw); go_simp; (try (first | (with_reducible rfl) | assumption | rfl))) ?_
                      simp only [Act.put, List.setIfInBounds_toArray, List.set_cons_zero, List.set_cons_succ]
                      refine Lex.tree_take (.pointer (some ⟨ga, 2, none⟩)) to9 (Lex.want_some rfl to8 rfl (b' := true) rfl rfl) (by intro Wx hSw; (try dsimp only at hSw); go_simp; (try (first | (with_reducible rfl) | assumption | rfl))) ?_
                      simp only [Act.put, List.setIfInBounds_toArray, List.set_cons_zero, List.set_cons_succ]
                      refine Lex.tree_take (.int .i64 (q : Int)) to10 (Lex.want_some rfl to8 rfl (b' := true) rfl rfl) (by intro Wx hSw; (try dsimp only at hSw); go_simp; (try (first | (with_reducible rfl) | assumption | rfl))) ?_
                      simp only [Act.put, List.setIfInBounds_toArray, List.set_cons_zero, List.set_cons_succ]
                      refine Lex.tree_take (.pointer (some ⟨g, 1, none⟩)) to11 (Lex.want_some rfl to8 rfl (b' := true) rfl rfl) (by intro Wx hSw; (try dsimp only at hSw); go_simp; (try (first | (with_reducible rfl) | assumption | rfl))) ?_
                      simp only [Act.put, List.setIfInBounds_toArray, List.set_cons_zero, List.set_cons_succ]
                      refine Lex.tree_take (.slice (some ⟨b3, o3, none⟩) mc cp) to12 (Lex.want_some rfl to8 rfl (b' := true) rfl rfl) (by intro Wx hSw; (try dsimp only at hSw); go_simp; (try (first | (with_reducible rfl) | assumption | rfl))) ?_
                      simp only [Act.put, List.setIfInBounds_toArray, List.set_cons_zero, List.set_cons_succ]
                      refine Lex.tree_take (.int .i64 (mc : Int)) to13 (Lex.want_some rfl to8 rfl (b' := true) rfl rfl) (by intro Wx hSw; (try dsimp only at hSw); go_simp; (try (first | (with_reducible rfl) | assumption | rfl))) ?_
                      simp only [Act.put, List.setIfInBounds_toArray, List.set_cons_zero, List.set_cons_succ]
                      refine Lex.tree_take (.bool true) to14 (Lex.want_some rfl to8 rfl (b' := true) rfl rfl) (by intro Wx hSw; (try dsimp only at hSw); go_simp; (try (first | (with_reducible rfl) | assumption | rfl))) ?_
                      simp only [Act.put, List.setIfInBounds_toArray, List.set_cons_zero, List.set_cons_succ]
                      refine Lex.tree_take (.bool true) to15 (Lex.want_none rfl) (by intro Wx hSw; (try dsimp only at hSw); go_simp; (try (first | (with_reducible rfl) | assumption | rfl))) ?_
                      simp only [Act.put, List.setIfInBounds_toArray, List.set_cons_zero, List.set_cons_succ]
                      refine Lex.tree_take (.bool true) to16 (Lex.want_none rfl) (by intro Wx hSw; (try dsimp only at hSw); go_simp; (try (first | (with_reducible rfl) | assumption | rfl))) ?_
                      simp only [Act.put, List.setIfInBounds_toArray, List.set_cons_zero, List.set_cons_succ]
                      refine Lex.tree_take (.pointer (some ⟨g, 1, none⟩)) to17 (Lex.want_some rfl to16 rfl (b' := true) rfl rfl) (by intro Wx hSw; (try dsimp only at hSw); go_simp; (try (first | (with_reducible rfl) | assumption | rfl))) ?_
                      simp only [Act.put, List.setIfInBounds_toArray, List.set_cons_zero, List.set_cons_succ]
                      refine Lex.tree_take (.slice (some ⟨b3, o3, none⟩) mc cp) to18 (Lex.want_some rfl to16 rfl (b' := true) rfl rfl) (by intro Wx hSw; (try dsimp only at hSw); go_simp; (try (first | (with_reducible rfl) | assumption | rfl))) ?_
                      simp only [Act.put, List.setIfInBounds_toArray, List.set_cons_zero, List.set_cons_succ]
                      refine Lex.tree_take (.pointer (some ⟨ga, 2, none⟩)) to19 (Lex.want_some rfl to16 rfl (b' := true) rfl rfl) (by intro Wx hSw; (try dsimp only at hSw); go_simp; (try (first | (with_reducible rfl) | assumption | rfl))) ?_
                      simp only [Act.put, List.setIfInBounds_toArray, List.set_cons_zero, List.set_cons_succ]
                      refine Lex.tree_take (.int .i64 (q : Int)) to20 (Lex.want_some rfl to16 rfl (b' := true) rfl rfl) (by intro Wx hSw; (try dsimp only at hSw); go_simp; (try (first | (with_reducible rfl) | assumption | rfl))) ?_
                      simp only [Act.put, List.setIfInBounds_toArray, List.set_cons_zero, List.set_cons_succ]
                      refine Lex.tree_take (.pointer (some ⟨g, 1, none⟩)) to21 (Lex.want_some rfl to16 rfl (b' := true) rfl rfl) (by intro Wx hSw; (try dsimp only at hSw); go_simp; (try (first | (with_reducible rfl) | assumption | rfl))) ?_
                      simp only [Act.put, List.setIfInBounds_toArray, List.set_cons_zero, List.set_cons_succ]
                      refine Lex.tree_take (.slice (some ⟨b3, o3, none⟩) mc cp) to22 (Lex.want_some rfl to16 rfl (b' := true) rfl rfl) (by intro Wx hSw; (try dsimp only at hSw); go_simp; (try (first | (with_reducible rfl) | assumption | rfl))) ?_
                      simp only [Act.put, List.setIfInBounds_toArray, List.set_cons_zero, List.set_cons_succ]
                      refine Lex.tree_take (.int .i64 (mc : Int)) to23 (Lex.want_some rfl to16 rfl (b' := true) rfl rfl) (by intro Wx hSw; (try dsimp only at hSw); go_simp; (try (first | (with_reducible rfl) | assumption | rfl))) ?_
                      simp only [Act.put, List.setIfInBounds_toArray, List.set_cons_zero, List.set_cons_succ]
                      refine Lex.tree_take (.int .i64 ((mc : Int) - 1)) to24 (Lex.want_some rfl to16 rfl (b' := true) rfl rfl) (by intro Wx hSw; (try dsimp only at hSw); go_simp; (try (first | (with_reducible rfl) | assumption | rfl | go_num | (intros; omega)))) ?_
                      simp only [Act.put, List.setIfInBounds_toArray, List.set_cons_zero, List.set_cons_succ]
                      refine Lex.tree_take (.int .i64 (q : Int)) to25 (Lex.want_some rfl to16 rfl (b' := true) rfl rfl) (by intro Wx hSw; (try dsimp only at hSw); go_simp; (try (first | (with_reducible rfl) | assumption | rfl | go_num | (intros; omega)))) ?_
                      simp only [Act.put, List.setIfInBounds_toArray, List.set_cons_zero, List.set_cons_succ]
                      refine Lex.tree_take (.int .i64 (q : Int)) to26 (Lex.want_some rfl to16 rfl (b' := true) rfl rfl) (by intro Wx hSw; (try dsimp only at hSw); go_simp; (try (first | (with_reducible rfl) | assumption | rfl | go_num | (intros; omega)))) ?_
                      simp only [Act.put, List.setIfInBounds_toArray, List.set_cons_zero, List.set_cons_succ]
                      refine Lex.tree_take (.pointer (some ⟨b3, o3 + q * 3, none⟩)) to27 (Lex.want_some rfl to16 rfl (b' := true) rfl rfl) (by intro Wx hSw; (try dsimp only at hSw); go_simp; (try (first | (with_reducible rfl) | assumption | rfl))) ?_
                      simp only [Act.put, List.setIfInBounds_toArray, List.set_cons_zero, List.set_cons_succ]
                      refine Lex.tree_take (.agg #[.string cn, .int .i64 ck, .bool cz]) to28 (Lex.want_some rfl to16 rfl (b' := true) rfl rfl) (by intro Wx hSw; (try dsimp only at hSw); go_simp; (try (first | (with_reducible rfl) | assumption | rfl))) ?_
                      simp only [Act.put, List.setIfInBounds_toArray, List.set_cons_zero, List.set_cons_succ]
                      refine Lex.tree_take (.pointer (some ⟨ga, 4, none⟩)) to29 (Lex.want_some rfl to16 rfl (b' := true) rfl rfl) (by intro Wx hSw; (try dsimp only at hSw); go_simp; (try (first | (with_reducible rfl) | assumption | rfl))) ?_
                      simp only [Act.put, List.setIfInBounds_toArray, List.set_cons_zero, List.set_cons_succ]
                      refine Lex.tree_take (.agg #[.int .i64 vk, .int .i64 vn, .string vs]) to30 (Lex.want_some rfl to16 rfl (b' := true) rfl rfl) (by intro Wx hSw; (try dsimp only at hSw); go_simp; (try (first | (with_reducible rfl) | assumption | rfl))) ?_
                      simp only [Act.put, List.setIfInBounds_toArray, List.set_cons_zero, List.set_cons_succ]
                      refine Lex.tree_call to31 (Lex.want_some rfl to16 rfl (b' := true) rfl rfl) (fun K hK => ?_) Lex.tree_no
                      go_simp
                      refine (Ro.refFits_any ⟨cn, ck, cz⟩ ⟨vk, vn, vs⟩ v2).mono ?_
                      rintro e y31 ⟨rfl, hy31⟩
                      rw [hfe]
                      have hP := hP.below hy31
                      have hb := hb.below hy31
                      have hD3 := hD3.below hy31
                      clear hy31
                      refine hK.out _ _ _ (fun _ h => h) (⟨hP.x.c1, hb.c2, hb.c4, hb.c5, hb.c6, hD3.c0, hD3.c1, hD3.c2⟩) ?_
                      clear hK K
                      try simp only [Act.put, List.setIfInBounds_toArray, List.set_cons_zero, List.set_cons_succ]
                      refine Lex.tree_take (.bool true) to32 (Lex.want_some rfl to16 rfl (b' := true) rfl rfl) (by intro Wx hSw; (try dsimp only at hSw); go_simp; (try (first | (with_reducible rfl) | assumption | rfl))) ?_
                      simp only [Act.put, List.setIfInBounds_toArray, List.set_cons_zero, List.set_cons_succ]
                      refine Lex.tree_take (.bool true) to33 (Lex.want_none rfl) (by intro Wx hSw; (try dsimp only at hSw); go_simp; (try (first | (with_reducible rfl) | assumption | rfl))) ?_
                      simp only [Act.put, List.setIfInBounds_toArray, List.set_cons_zero, List.set_cons_succ]
                      refine Lex.tree_take (.bool false) to34 (Lex.want_none rfl) (by intro Wx hSw; (try dsimp only at hSw); go_simp; (try (first | (with_reducible rfl) | assumption | rfl))) ?_
                      simp only [Act.put, List.setIfInBounds_toArray, List.set_cons_zero, List.set_cons_succ]
                      refine Lex.tree_end ?_
                      refine NoPanic.normal ?_
                      go_wp2
                      go_meet
                      case rel => exact ⟨rfl, hP, hb⟩
                    · rw [if_neg hfe] at hdr
                      injection hdr with h1 h2
                      subst h1
                      have hye : (ye == 0) = false := by rw [← h2]; exact beq_eq_false_iff_ne.2 hfe
                      have hfe := h2
                      clear h2
                      have hd := (Below.refl z2.heap.size z2).drew
                      have hP := hP.below hd
                      have hb := hb.below hd
                      have hD3 := hD3.below hd
                      clear hd
                      refine Lex.region_tree (ops := toops) totree (fun W => W.cell? ⟨g, 1, none⟩ = some (.slice (some ⟨b3, o3, none⟩) mc cp) ∧ W.cell? ⟨ga, 2, none⟩ = some (.int .i64 (q : Int)) ∧ W.cell? ⟨ga, 4, none⟩ = some (.int .i64 vk) ∧ W.cell? ⟨ga, 5, none⟩ = some (.int .i64 vn) ∧ W.cell? ⟨ga, 6, none⟩ = some (.string vs) ∧ W.cell? ⟨b3, o3 + q * 3, none⟩ = some (.string cn) ∧ W.cell? ⟨b3, o3 + q * 3 + 1, none⟩ = some (.int .i64 ck) ∧ W.cell? ⟨b3, o3 + q * 3 + 2, none⟩ = some (.bool cz)) (by kernel_rfl) (by kernel_rfl) tosel tolex (⟨hP.x.c1, hb.c2, hb.c4, hb.c5, hb.c6, hD3.c0, hD3.c1, hD3.c2⟩) ?_
                      unfold totree
                      generalize z2.drew = v2 at hP hb hD3 ⊢
                      refine Lex.tree_take (.int .i64 ye) to0 (Lex.want_none rfl) (by intro Wx hSw; (try dsimp only at hSw); go_simp; (try (first | (with_reducible rfl) | assumption | rfl))) ?_
                      simp only [Act.put, List.setIfInBounds_toArray, List.set_cons_zero, List.set_cons_succ]
                      refine Lex.tree_take (.bool false) to1 (Lex.want_none rfl) (by intro Wx hSw; (try dsimp only at hSw); go_simp; (try (first | (with_reducible rfl) | assumption | rfl))) ?_
                      simp only [Act.put, List.setIfInBounds_toArray, List.set_cons_zero, List.set_cons_succ]
                      refine Lex.tree_take (.bool true) to2 (Lex.want_none rfl) (by intro Wx hSw; (try dsimp only at hSw); go_simp; (try (first | (with_reducible rfl) | assumption | rfl))) ?_
                      simp only [Act.put, List.setIfInBounds_toArray, List.set_cons_zero, List.set_cons_succ]
                      refine Lex.tree_take (.bool true) to3 (Lex.want_none rfl) (by intro Wx hSw; (try dsimp only at hSw); go_simp; (try (first | (with_reducible rfl) | assumption | rfl))) ?_
                      simp only [Act.put, List.setIfInBounds_toArray, List.set_cons_zero, List.set_cons_succ]
                      refine Lex.tree_take (.pointer (some ⟨ga, 2, none⟩)) to4 (Lex.want_some rfl to3 rfl (b' := true) rfl rfl) (by intro Wx hSw; (try dsimp only at hSw); go_simp; (try (first | (with_reducible rfl) | assumption | rfl))) ?_
                      simp only [Act.put, List.setIfInBounds_toArray, List.set_cons_zero, List.set_cons_succ]
                      refine Lex.tree_take (.int .i64 (q : Int)) to5 (Lex.want_some rfl to3 rfl (b' := true) rfl rfl) (by intro Wx hSw; (try dsimp only at hSw); go_simp; (try (first | (with_reducible rfl) | assumption | rfl))) ?_
                      simp only [Act.put, List.setIfInBounds_toArray, List.set_cons_zero, List.set_cons_succ]
                      refine Lex.tree_take (.bool true) to6 (Lex.want_some rfl to3 rfl (b' := true) rfl rfl) (by intro Wx hSw; (try dsimp only at hSw); go_simp; (try (first | (with_reducible rfl) | assumption | rfl))) ?_
                      simp only [Act.put, List.setIfInBounds_toArray, List.set_cons_zero, List.set_cons_succ]
                      refine Lex.tree_take (.bool true) to7 (Lex.want_none rfl) (by intro Wx hSw; (try dsimp only at hSw); go_simp; (try (first | (with_reducible rfl) | assumption | rfl))) ?_
                      simp only [Act.put, List.setIfInBounds_toArray, List.set_cons_zero, List.set_cons_succ]
                      refine Lex.tree_take (.bool true) to8 (Lex.want_none rfl) (by intro Wx hSw; (try dsimp only at hSw); go_simp; (try (first | (with_reducible rfl) | assumption | rfl))) ?_
                      simp only [Act.put, List.setIfInBounds_toArray, List.set_cons_zero, List.set_cons_succ]
                      refine Lex.tree_take (.pointer (some ⟨ga, 2, none⟩)) to9 (Lex.want_some rfl to8 rfl (b' := true) rfl rfl) (by intro Wx hSw; (try dsimp only at hSw); go_simp; (try (first | (with_reducible rfl) | assumption | rfl))) ?_
                      simp only [Act.put, List.setIfInBounds_toArray, List.set_cons_zero, List.set_cons_succ]
                      refine Lex.tree_take (.int .i64 (q : Int)) to10 (Lex.want_some rfl to8 rfl (b' := true) rfl rfl) (by intro Wx hSw; (try dsimp only at hSw); go_simp; (try (first | (with_reducible rfl) | assumption | rfl))) ?_
                      simp only [Act.put, List.setIfInBounds_toArray, List.set_cons_zero, List.set_cons_succ]
                      refine Lex.tree_take (.pointer (some ⟨g, 1, none⟩)) to11 (Lex.want_some rfl to8 rfl (b' := true) rfl rfl) (by intro Wx hSw; (try dsimp only at hSw); go_simp; (try (first | (with_reducible rfl) | assumption | rfl))) ?_
                      simp only [Act.put, List.setIfInBounds_toArray, List.set_cons_zero, List.set_cons_succ]
                      refine Lex.tree_take (.slice (some ⟨b3, o3, none⟩) mc cp) to12 (Lex.want_some rfl to8 rfl (b' := true) rfl rfl) (by intro Wx hSw; (try dsimp only at hSw); go_simp; (try (first | (with_reducible rfl) | assumption | rfl))) ?_
                      simp only [Act.put, List.setIfInBounds_toArray, List.set_cons_zero, List.set_cons_succ]
                      refine Lex.tree_take (.int .i64 (mc : Int)) to13 (Lex.want_some rfl to8 rfl (b' := true) rfl rfl) (by intro Wx hSw; (try dsimp only at hSw); go_simp; (try (first | (with_reducible rfl) | assumption | rfl))) ?_
                      simp only [Act.put, List.setIfInBounds_toArray, List.set_cons_zero, List.set_cons_succ]
                      refine Lex.tree_take (.bool true) to14 (Lex.want_some rfl to8 rfl (b' := true) rfl rfl) (by intro Wx hSw; (try dsimp only at hSw); go_simp; (try (first | (with_reducible rfl) | assumption | rfl))) ?_
                      simp only [Act.put, List.setIfInBounds_toArray, List.set_cons_zero, List.set_cons_succ]
                      refine Lex.tree_take (.bool true) to15 (Lex.want_none rfl) (by intro Wx hSw; (try dsimp only at hSw); go_simp; (try (first | (with_reducible rfl) | assumption | rfl))) ?_
                      simp only [Act.put, List.setIfInBounds_toArray, List.set_cons_zero, List.set_cons_succ]
                      refine Lex.tree_take (.bool true) to16 (Lex.want_none rfl) (by intro Wx hSw; (try dsimp only at hSw); go_simp; (try (first | (with_reducible rfl) | assumption | rfl))) ?_
                      simp only [Act.put, List.setIfInBounds_toArray, List.set_cons_zero, List.set_cons_succ]
                      refine Lex.tree_take (.pointer (some ⟨g, 1, none⟩)) to17 (Lex.want_some rfl to16 rfl (b' := true) rfl rfl) (by intro Wx hSw; (try dsimp only at hSw); go_simp; (try (first | (with_reducible rfl) | assumption | rfl))) ?_
                      simp only [Act.put, List.setIfInBounds_toArray, List.set_cons_zero, List.set_cons_succ]
                      refine Lex.tree_take (.slice (some ⟨b3, o3, none⟩) mc cp) to18 (Lex.want_some rfl to16 rfl (b' := true) rfl rfl) (by intro Wx hSw; (try dsimp only at hSw); go_simp; (try (first | (with_reducible rfl) | assumption | rfl))) ?_
                      simp only [Act.put, List.setIfInBounds_toArray, List.set_cons_zero, List.set_cons_succ]
                      refine Lex.tree_take (.pointer (some ⟨ga, 2, none⟩)) to19 (Lex.want_some rfl to16 rfl (b' := true) rfl rfl) (by intro Wx hSw; (try dsimp only at hSw); go_simp; (try (first | (with_reducible rfl) | assumption | rfl))) ?_
                      simp only [Act.put, List.setIfInBounds_toArray, List.set_cons_zero, List.set_cons_succ]
                      refine Lex.tree_take (.int .i64 (q : Int)) to20 (Lex.want_some rfl to16 rfl (b' := true) rfl rfl) (by intro Wx hSw; (try dsimp only at hSw); go_simp; (try (first | (with_reducible rfl) | assumption | rfl))) ?_
                      simp only [Act.put, List.setIfInBounds_toArray, List.set_cons_zero, List.set_cons_succ]
                      refine Lex.tree_take (.pointer (some ⟨g, 1, none⟩)) to21 (Lex.want_some rfl to16 rfl (b' := true) rfl rfl) (by intro Wx hSw; (try dsimp only at hSw); go_simp; (try (first | (with_reducible rfl) | assumption | rfl))) ?_
                      simp only [Act.put, List.setIfInBounds_toArray, List.set_cons_zero, List.set_cons_succ]
                      refine Lex.tree_take (.slice (some ⟨b3, o3, none⟩) mc cp) to22 (Lex.want_some rfl to16 rfl (b' := true) rfl rfl) (by intro Wx hSw; (try dsimp only at hSw); go_simp; (try (first | (with_reducible rfl) | assumption | rfl))) ?_
                      simp only [Act.put, List.setIfInBounds_toArray, List.set_cons_zero, List.set_cons_succ]
                      refine Lex.tree_take (.int .i64 (mc : Int)) to23 (Lex.want_some rfl to16 rfl (b' := true) rfl rfl) (by intro Wx hSw; (try dsimp only at hSw); go_simp; (try (first | (with_reducible rfl) | assumption | rfl))) ?_
                      simp only [Act.put, List.setIfInBounds_toArray, List.set_cons_zero, List.set_cons_succ]
                      refine Lex.tree_take (.int .i64 ((mc : Int) - 1)) to24 (Lex.want_some rfl to16 rfl (b' := true) rfl rfl) (by intro Wx hSw; (try dsimp only at hSw); go_simp; (try (first | (with_reducible rfl) | assumption | rfl | go_num | (intros; omega)))) ?_
                      simp only [Act.put, List.setIfInBounds_toArray, List.set_cons_zero, List.set_cons_succ]
                      refine Lex.tree_take (.int .i64 (q : Int)) to25 (Lex.want_some rfl to16 rfl (b' := true) rfl rfl) (by intro Wx hSw; (try dsimp only at hSw); go_simp; (try (first | (with_reducible rfl) | assumption | rfl | go_num | (intros; omega)))) ?_
                      simp only [Act.put, List.setIfInBounds_toArray, List.set_cons_zero, List.set_cons_succ]
                      refine Lex.tree_take (.int .i64 (q : Int)) to26 (Lex.want_some rfl to16 rfl (b' := true) rfl rfl) (by intro Wx hSw; (try dsimp only at hSw); go_simp; (try (first | (with_reducible rfl) | assumption | rfl | go_num | (intros; omega)))) ?_
                      simp only [Act.put, List.setIfInBounds_toArray, List.set_cons_zero, List.set_cons_succ]
                      refine Lex.tree_take (.pointer (some ⟨b3, o3 + q * 3, none⟩)) to27 (Lex.want_some rfl to16 rfl (b' := true) rfl rfl) (by intro Wx hSw; (try dsimp only at hSw); go_simp; (try (first | (with_reducible rfl) | assumption | rfl))) ?_
                      simp only [Act.put, List.setIfInBounds_toArray, List.set_cons_zero, List.set_cons_succ]
                      refine Lex.tree_take (.agg #[.string cn, .int .i64 ck, .bool cz]) to28 (Lex.want_some rfl to16 rfl (b' := true) rfl rfl) (by intro Wx hSw; (try dsimp only at hSw); go_simp; (try (first | (with_reducible rfl) | assumption | rfl))) ?_
                      simp only [Act.put, List.setIfInBounds_toArray, List.set_cons_zero, List.set_cons_succ]
                      refine Lex.tree_take (.pointer (some ⟨ga, 4, none⟩)) to29 (Lex.want_some rfl to16 rfl (b' := true) rfl rfl) (by intro Wx hSw; (try dsimp only at hSw); go_simp; (try (first | (with_reducible rfl) | assumption | rfl))) ?_
                      simp only [Act.put, List.setIfInBounds_toArray, List.set_cons_zero, List.set_cons_succ]
                      refine Lex.tree_take (.agg #[.int .i64 vk, .int .i64 vn, .string vs]) to30 (Lex.want_some rfl to16 rfl (b' := true) rfl rfl) (by intro Wx hSw; (try dsimp only at hSw); go_simp; (try (first | (with_reducible rfl) | assumption | rfl))) ?_
                      simp only [Act.put, List.setIfInBounds_toArray, List.set_cons_zero, List.set_cons_succ]
                      refine Lex.tree_call to31 (Lex.want_some rfl to16 rfl (b' := true) rfl rfl) (fun K hK => ?_) Lex.tree_no
                      go_simp
                      refine (Ro.refFits_any ⟨cn, ck, cz⟩ ⟨vk, vn, vs⟩ v2).mono ?_
                      rintro e y31 ⟨rfl, hy31⟩
                      rw [hfe]
                      have hP := hP.below hy31
                      have hb := hb.below hy31
                      have hD3 := hD3.below hy31
                      clear hy31
                      refine hK.out _ _ _ (fun _ h => h) (⟨hP.x.c1, hb.c2, hb.c4, hb.c5, hb.c6, hD3.c0, hD3.c1, hD3.c2⟩) ?_
                      clear hK K
                      try simp only [Act.put, List.setIfInBounds_toArray, List.set_cons_zero, List.set_cons_succ]
                      refine Lex.tree_take (.bool false) to32 (Lex.want_some rfl to16 rfl (b' := true) rfl rfl) (by intro Wx hSw; (try dsimp only at hSw); go_simp; (try (first | (with_reducible rfl) | assumption | rfl))) ?_
                      simp only [Act.put, List.setIfInBounds_toArray, List.set_cons_zero, List.set_cons_succ]
                      refine Lex.tree_take (.bool false) to33 (Lex.want_none rfl) (by intro Wx hSw; (try dsimp only at hSw); go_simp; (try (first | (with_reducible rfl) | assumption | rfl))) ?_
                      simp only [Act.put, List.setIfInBounds_toArray, List.set_cons_zero, List.set_cons_succ]
                      refine Lex.tree_take (.bool false) to34 (Lex.want_none rfl) (by intro Wx hSw; (try dsimp only at hSw); go_simp; (try (first | (with_reducible rfl) | assumption | rfl))) ?_
                      simp only [Act.put, List.setIfInBounds_toArray, List.set_cons_zero, List.set_cons_succ]
                      refine Lex.tree_end ?_
                      refine NoPanic.normal ?_
                      go_wp2
                      go_meet
                      case rel => exact ⟨rfl, hP, hb⟩
                  · unfold setR at hdr
                    rw [if_neg (fun h => by have := HC.out.2; have := h.2.2; omega)] at hdr
                    injection hdr with h1 h2
                    subst h1 h2
                    have hc1' : decide (ac < (mc : Int)) = false := decide_eq_false hc1
                    have hd := (Below.refl z2.heap.size z2).drew
                    have hP := hP.below hd
                    have hb := hb.below hd
                    clear hd
                    refine Lex.region_tree (ops := toops) totree (fun W => W.cell? ⟨g, 1, none⟩ = some (.slice (A) mc cp) ∧ W.cell? ⟨ga, 2, none⟩ = some (.int .i64 ac) ∧ W.cell? ⟨ga, 4, none⟩ = some (.int .i64 vk) ∧ W.cell? ⟨ga, 5, none⟩ = some (.int .i64 vn) ∧ W.cell? ⟨ga, 6, none⟩ = some (.string vs)) (by kernel_rfl) (by kernel_rfl) tosel tolex (⟨hP.x.c1, hb.c2, hb.c4, hb.c5, hb.c6⟩) ?_
                    unfold totree
                    generalize z2.drew = v2 at hP hb ⊢
                    refine Lex.tree_take (.int .i64 3) to0 (Lex.want_none rfl) (by intro Wx hSw; (try dsimp only at hSw); go_simp; (try (first | (with_reducible rfl) | assumption | rfl))) ?_
                    simp only [Act.put, List.setIfInBounds_toArray, List.set_cons_zero, List.set_cons_succ]
                    refine Lex.tree_take (.bool false) to1 (Lex.want_none rfl) (by intro Wx hSw; (try dsimp only at hSw); go_simp; (try (first | (with_reducible rfl) | assumption | rfl))) ?_
                    simp only [Act.put, List.setIfInBounds_toArray, List.set_cons_zero, List.set_cons_succ]
                    refine Lex.tree_take (.bool true) to2 (Lex.want_none rfl) (by intro Wx hSw; (try dsimp only at hSw); go_simp; (try (first | (with_reducible rfl) | assumption | rfl))) ?_
                    simp only [Act.put, List.setIfInBounds_toArray, List.set_cons_zero, List.set_cons_succ]
                    refine Lex.tree_take (.bool true) to3 (Lex.want_none rfl) (by intro Wx hSw; (try dsimp only at hSw); go_simp; (try (first | (with_reducible rfl) | assumption | rfl))) ?_
                    simp only [Act.put, List.setIfInBounds_toArray, List.set_cons_zero, List.set_cons_succ]
                    refine Lex.tree_take (.pointer (some ⟨ga, 2, none⟩)) to4 (Lex.want_some rfl to3 rfl (b' := true) rfl rfl) (by intro Wx hSw; (try dsimp only at hSw); go_simp; (try (first | (with_reducible rfl) | assumption | rfl))) ?_
                    simp only [Act.put, List.setIfInBounds_toArray, List.set_cons_zero, List.set_cons_succ]
                    refine Lex.tree_take (.int .i64 ac) to5 (Lex.want_some rfl to3 rfl (b' := true) rfl rfl) (by intro Wx hSw; (try dsimp only at hSw); go_simp; (try (first | (with_reducible rfl) | assumption | rfl))) ?_
                    simp only [Act.put, List.setIfInBounds_toArray, List.set_cons_zero, List.set_cons_succ]
                    refine Lex.tree_take (.bool true) to6 (Lex.want_some rfl to3 rfl (b' := true) rfl rfl) (by intro Wx hSw; (try dsimp only at hSw); go_simp; (try (first | (with_reducible rfl) | assumption | rfl))) ?_
                    simp only [Act.put, List.setIfInBounds_toArray, List.set_cons_zero, List.set_cons_succ]
                    refine Lex.tree_take (.bool true) to7 (Lex.want_none rfl) (by intro Wx hSw; (try dsimp only at hSw); go_simp; (try (first | (with_reducible rfl) | assumption | rfl))) ?_
                    simp only [Act.put, List.setIfInBounds_toArray, List.set_cons_zero, List.set_cons_succ]
                    refine Lex.tree_take (.bool true) to8 (Lex.want_none rfl) (by intro Wx hSw; (try dsimp only at hSw); go_simp; (try (first | (with_reducible rfl) | assumption | rfl))) ?_
                    simp only [Act.put, List.setIfInBounds_toArray, List.set_cons_zero, List.set_cons_succ]
                    refine Lex.tree_take (.pointer (some ⟨ga, 2, none⟩)) to9 (Lex.want_some rfl to8 rfl (b' := true) rfl rfl) (by intro Wx hSw; (try dsimp only at hSw); go_simp; (try (first | (with_reducible rfl) | assumption | rfl))) ?_
                    simp only [Act.put, List.setIfInBounds_toArray, List.set_cons_zero, List.set_cons_succ]
                    refine Lex.tree_take (.int .i64 ac) to10 (Lex.want_some rfl to8 rfl (b' := true) rfl rfl) (by intro Wx hSw; (try dsimp only at hSw); go_simp; (try (first | (with_reducible rfl) | assumption | rfl))) ?_
                    simp only [Act.put, List.setIfInBounds_toArray, List.set_cons_zero, List.set_cons_succ]
                    refine Lex.tree_take (.pointer (some ⟨g, 1, none⟩)) to11 (Lex.want_some rfl to8 rfl (b' := true) rfl rfl) (by intro Wx hSw; (try dsimp only at hSw); go_simp; (try (first | (with_reducible rfl) | assumption | rfl))) ?_
                    simp only [Act.put, List.setIfInBounds_toArray, List.set_cons_zero, List.set_cons_succ]
                    refine Lex.tree_take (.slice (A) mc cp) to12 (Lex.want_some rfl to8 rfl (b' := true) rfl rfl) (by intro Wx hSw; (try dsimp only at hSw); go_simp; (try (first | (with_reducible rfl) | assumption | rfl))) ?_
                    simp only [Act.put, List.setIfInBounds_toArray, List.set_cons_zero, List.set_cons_succ]
                    refine Lex.tree_take (.int .i64 (mc : Int)) to13 (Lex.want_some rfl to8 rfl (b' := true) rfl rfl) (by intro Wx hSw; (try dsimp only at hSw); go_simp; (try (first | (with_reducible rfl) | assumption | rfl))) ?_
                    simp only [Act.put, List.setIfInBounds_toArray, List.set_cons_zero, List.set_cons_succ]
                    refine Lex.tree_take (.bool false) to14 (Lex.want_some rfl to8 rfl (b' := true) rfl rfl) (by intro Wx hSw; (try dsimp only at hSw); go_simp; (try (first | (with_reducible rfl) | assumption | rfl))) ?_
                    simp only [Act.put, List.setIfInBounds_toArray, List.set_cons_zero, List.set_cons_succ]
                    refine Lex.tree_take (.bool false) to15 (Lex.want_none rfl) (by intro Wx hSw; (try dsimp only at hSw); go_simp; (try (first | (with_reducible rfl) | assumption | rfl))) ?_
                    simp only [Act.put, List.setIfInBounds_toArray, List.set_cons_zero, List.set_cons_succ]
                    refine Lex.tree_take (.bool false) to16 (Lex.want_none rfl) (by intro Wx hSw; (try dsimp only at hSw); go_simp; (try (first | (with_reducible rfl) | assumption | rfl))) ?_
                    simp only [Act.put, List.setIfInBounds_toArray, List.set_cons_zero, List.set_cons_succ]
                    refine Lex.tree_skip to17 (Lex.want_some rfl to16 rfl (b' := false) rfl rfl) ?_
                    simp only [Act.put, List.setIfInBounds_toArray, List.set_cons_zero, List.set_cons_succ]
                    refine Lex.tree_skip to18 (Lex.want_some rfl to16 rfl (b' := false) rfl rfl) ?_
                    simp only [Act.put, List.setIfInBounds_toArray, List.set_cons_zero, List.set_cons_succ]
                    refine Lex.tree_skip to19 (Lex.want_some rfl to16 rfl (b' := false) rfl rfl) ?_
                    simp only [Act.put, List.setIfInBounds_toArray, List.set_cons_zero, List.set_cons_succ]
                    refine Lex.tree_skip to20 (Lex.want_some rfl to16 rfl (b' := false) rfl rfl) ?_
                    simp only [Act.put, List.setIfInBounds_toArray, List.set_cons_zero, List.set_cons_succ]
                    refine Lex.tree_skip to21 (Lex.want_some rfl to16 rfl (b' := false) rfl rfl) ?_
                    simp only [Act.put, List.setIfInBounds_toArray, List.set_cons_zero, List.set_cons_succ]
                    refine Lex.tree_skip to22 (Lex.want_some rfl to16 rfl (b' := false) rfl rfl) ?_
                    simp only [Act.put, List.setIfInBounds_toArray, List.set_cons_zero, List.set_cons_succ]
                    refine Lex.tree_skip to23 (Lex.want_some rfl to16 rfl (b' := false) rfl rfl) ?_
                    simp only [Act.put, List.setIfInBounds_toArray, List.set_cons_zero, List.set_cons_succ]
                    refine Lex.tree_skip to24 (Lex.want_some rfl to16 rfl (b' := false) rfl rfl) ?_
                    simp only [Act.put, List.setIfInBounds_toArray, List.set_cons_zero, List.set_cons_succ]
                    refine Lex.tree_skip to25 (Lex.want_some rfl to16 rfl (b' := false) rfl rfl) ?_
                    simp only [Act.put, List.setIfInBounds_toArray, List.set_cons_zero, List.set_cons_succ]
                    refine Lex.tree_skip to26 (Lex.want_some rfl to16 rfl (b' := false) rfl rfl) ?_
                    simp only [Act.put, List.setIfInBounds_toArray, List.set_cons_zero, List.set_cons_succ]
                    refine Lex.tree_skip to27 (Lex.want_some rfl to16 rfl (b' := false) rfl rfl) ?_
                    simp only [Act.put, List.setIfInBounds_toArray, List.set_cons_zero, List.set_cons_succ]
                    refine Lex.tree_skip to28 (Lex.want_some rfl to16 rfl (b' := false) rfl rfl) ?_
                    simp only [Act.put, List.setIfInBounds_toArray, List.set_cons_zero, List.set_cons_succ]
                    refine Lex.tree_skip to29 (Lex.want_some rfl to16 rfl (b' := false) rfl rfl) ?_
                    simp only [Act.put, List.setIfInBounds_toArray, List.set_cons_zero, List.set_cons_succ]
                    refine Lex.tree_skip to30 (Lex.want_some rfl to16 rfl (b' := false) rfl rfl) ?_
                    simp only [Act.put, List.setIfInBounds_toArray, List.set_cons_zero, List.set_cons_succ]
                    refine Lex.tree_pass to31 (Lex.want_some rfl to16 rfl (b' := false) rfl rfl) ?_ Lex.tree_no
                    simp only [Act.put, List.setIfInBounds_toArray, List.set_cons_zero, List.set_cons_succ]
                    refine Lex.tree_skip to32 (Lex.want_some rfl to16 rfl (b' := false) rfl rfl) ?_
                    simp only [Act.put, List.setIfInBounds_toArray, List.set_cons_zero, List.set_cons_succ]
                    refine Lex.tree_take (.bool false) to33 (Lex.want_none rfl) (by intro Wx hSw; (try dsimp only at hSw); go_simp; (try (first | (with_reducible rfl) | assumption | rfl))) ?_
                    simp only [Act.put, List.setIfInBounds_toArray, List.set_cons_zero, List.set_cons_succ]
                    refine Lex.tree_take (.bool false) to34 (Lex.want_none rfl) (by intro Wx hSw; (try dsimp only at hSw); go_simp; (try (first | (with_reducible rfl) | assumption | rfl))) ?_
                    simp only [Act.put, List.setIfInBounds_toArray, List.set_cons_zero, List.set_cons_succ]
                    refine Lex.tree_end ?_
                    refine NoPanic.normal ?_
                    go_wp2
                    go_meet
                    case rel => exact ⟨rfl, hP, hb⟩
                · unfold setR at hdr
                  rw [if_neg (fun h => hc0 h.2.1)] at hdr
                  injection hdr with h1 h2
                  subst h1 h2
                  have hc0' : decide (0 ≤ ac) = false := decide_eq_false hc0
                  have hd := (Below.refl z2.heap.size z2).drew
                  have hP := hP.below hd
                  have hb := hb.below hd
                  clear hd
                  refine Lex.region_tree (ops := toops) totree (fun W => W.cell? ⟨g, 1, none⟩ = some (.slice (A) mc cp) ∧ W.cell? ⟨ga, 2, none⟩ = some (.int .i64 ac) ∧ W.cell? ⟨ga, 4, none⟩ = some (.int .i64 vk) ∧ W.cell? ⟨ga, 5, none⟩ = some (.int .i64 vn) ∧ W.cell? ⟨ga, 6, none⟩ = some (.string vs)) (by kernel_rfl) (by kernel_rfl) tosel tolex (⟨hP.x.c1, hb.c2, hb.c4, hb.c5, hb.c6⟩) ?_
                  unfold totree
                  generalize z2.drew = v2 at hP hb ⊢
                  refine Lex.tree_take (.int .i64 3) to0 (Lex.want_none rfl) (by intro Wx hSw; (try dsimp only at hSw); go_simp; (try (first | (with_reducible rfl) | assumption | rfl))) ?_
                  simp only [Act.put, List.setIfInBounds_toArray, List.set_cons_zero, List.set_cons_succ]
                  refine Lex.tree_take (.bool false) to1 (Lex.want_none rfl) (by intro Wx hSw; (try dsimp only at hSw); go_simp; (try (first | (with_reducible rfl) | assumption | rfl))) ?_
                  simp only [Act.put, List.setIfInBounds_toArray, List.set_cons_zero, List.set_cons_succ]
                  refine Lex.tree_take (.bool true) to2 (Lex.want_none rfl) (by intro Wx hSw; (try dsimp only at hSw); go_simp; (try (first | (with_reducible rfl) | assumption | rfl))) ?_
                  simp only [Act.put, List.setIfInBounds_toArray, List.set_cons_zero, List.set_cons_succ]
                  refine Lex.tree_take (.bool true) to3 (Lex.want_none rfl) (by intro Wx hSw; (try dsimp only at hSw); go_simp; (try (first | (with_reducible rfl) | assumption | rfl))) ?_
                  simp only [Act.put, List.setIfInBounds_toArray, List.set_cons_zero, List.set_cons_succ]
                  refine Lex.tree_take (.pointer (some ⟨ga, 2, none⟩)) to4 (Lex.want_some rfl to3 rfl (b' := true) rfl rfl) (by intro Wx hSw; (try dsimp only at hSw); go_simp; (try (first | (with_reducible rfl) | assumption | rfl))) ?_
                  simp only [Act.put, List.setIfInBounds_toArray, List.set_cons_zero, List.set_cons_succ]
                  refine Lex.tree_take (.int .i64 ac) to5 (Lex.want_some rfl to3 rfl (b' := true) rfl rfl) (by intro Wx hSw; (try dsimp only at hSw); go_simp; (try (first | (with_reducible rfl) | assumption | rfl))) ?_
                  simp only [Act.put, List.setIfInBounds_toArray, List.set_cons_zero, List.set_cons_succ]
                  refine Lex.tree_take (.bool false) to6 (Lex.want_some rfl to3 rfl (b' := true) rfl rfl) (by intro Wx hSw; (try dsimp only at hSw); go_simp; (try (first | (with_reducible rfl) | assumption | rfl))) ?_
                  simp only [Act.put, List.setIfInBounds_toArray, List.set_cons_zero, List.set_cons_succ]
                  refine Lex.tree_take (.bool false) to7 (Lex.want_none rfl) (by intro Wx hSw; (try dsimp only at hSw); go_simp; (try (first | (with_reducible rfl) | assumption | rfl))) ?_
                  simp only [Act.put, List.setIfInBounds_toArray, List.set_cons_zero, List.set_cons_succ]
                  refine Lex.tree_take (.bool false) to8 (Lex.want_none rfl) (by intro Wx hSw; (try dsimp only at hSw); go_simp; (try (first | (with_reducible rfl) | assumption | rfl))) ?_
                  simp only [Act.put, List.setIfInBounds_toArray, List.set_cons_zero, List.set_cons_succ]
                  refine Lex.tree_skip to9 (Lex.want_some rfl to8 rfl (b' := false) rfl rfl) ?_
                  simp only [Act.put, List.setIfInBounds_toArray, List.set_cons_zero, List.set_cons_succ]
                  refine Lex.tree_skip to10 (Lex.want_some rfl to8 rfl (b' := false) rfl rfl) ?_
                  simp only [Act.put, List.setIfInBounds_toArray, List.set_cons_zero, List.set_cons_succ]
                  refine Lex.tree_skip to11 (Lex.want_some rfl to8 rfl (b' := false) rfl rfl) ?_
                  simp only [Act.put, List.setIfInBounds_toArray, List.set_cons_zero, List.set_cons_succ]
                  refine Lex.tree_skip to12 (Lex.want_some rfl to8 rfl (b' := false) rfl rfl) ?_
                  simp only [Act.put, List.setIfInBounds_toArray, List.set_cons_zero, List.set_cons_succ]
                  refine Lex.tree_skip to13 (Lex.want_some rfl to8 rfl (b' := false) rfl rfl) ?_
                  simp only [Act.put, List.setIfInBounds_toArray, List.set_cons_zero, List.set_cons_succ]
                  refine Lex.tree_skip to14 (Lex.want_some rfl to8 rfl (b' := false) rfl rfl) ?_
                  simp only [Act.put, List.setIfInBounds_toArray, List.set_cons_zero, List.set_cons_succ]
                  refine Lex.tree_take (.bool false) to15 (Lex.want_none rfl) (by intro Wx hSw; (try dsimp only at hSw); go_simp; (try (first | (with_reducible rfl) | assumption | rfl))) ?_
                  simp only [Act.put, List.setIfInBounds_toArray, List.set_cons_zero, List.set_cons_succ]
                  refine Lex.tree_take (.bool false) to16 (Lex.want_none rfl) (by intro Wx hSw; (try dsimp only at hSw); go_simp; (try (first | (with_reducible rfl) | assumption | rfl))) ?_
                  simp only [Act.put, List.setIfInBounds_toArray, List.set_cons_zero, List.set_cons_succ]
                  refine Lex.tree_skip to17 (Lex.want_some rfl to16 rfl (b' := false) rfl rfl) ?_
                  simp only [Act.put, List.setIfInBounds_toArray, List.set_cons_zero, List.set_cons_succ]
                  refine Lex.tree_skip to18 (Lex.want_some rfl to16 rfl (b' := false) rfl rfl) ?_
                  simp only [Act.put, List.setIfInBounds_toArray, List.set_cons_zero, List.set_cons_succ]
                  refine Lex.tree_skip to19 (Lex.want_some rfl to16 rfl (b' := false) rfl rfl) ?_
                  simp only [Act.put, List.setIfInBounds_toArray, List.set_cons_zero, List.set_cons_succ]
                  refine Lex.tree_skip to20 (Lex.want_some rfl to16 rfl (b' := false) rfl rfl) ?_
                  simp only [Act.put, List.setIfInBounds_toArray, List.set_cons_zero, List.set_cons_succ]
                  refine Lex.tree_skip to21 (Lex.want_some rfl to16 rfl (b' := false) rfl rfl) ?_
                  simp only [Act.put, List.setIfInBounds_toArray, List.set_cons_zero, List.set_cons_succ]
                  refine Lex.tree_skip to22 (Lex.want_some rfl to16 rfl (b' := false) rfl rfl) ?_
                  simp only [Act.put, List.setIfInBounds_toArray, List.set_cons_zero, List.set_cons_succ]
                  refine Lex.tree_skip to23 (Lex.want_some rfl to16 rfl (b' := false) rfl rfl) ?_
                  simp only [Act.put, List.setIfInBounds_toArray, List.set_cons_zero, List.set_cons_succ]
                  refine Lex.tree_skip to24 (Lex.want_some rfl to16 rfl (b' := false) rfl rfl) ?_
                  simp only [Act.put, List.setIfInBounds_toArray, List.set_cons_zero, List.set_cons_succ]
                  refine Lex.tree_skip to25 (Lex.want_some rfl to16 rfl (b' := false) rfl rfl) ?_
                  simp only [Act.put, List.setIfInBounds_toArray, List.set_cons_zero, List.set_cons_succ]
                  refine Lex.tree_skip to26 (Lex.want_some rfl to16 rfl (b' := false) rfl rfl) ?_
                  simp only [Act.put, List.setIfInBounds_toArray, List.set_cons_zero, List.set_cons_succ]
                  refine Lex.tree_skip to27 (Lex.want_some rfl to16 rfl (b' := false) rfl rfl) ?_
                  simp only [Act.put, List.setIfInBounds_toArray, List.set_cons_zero, List.set_cons_succ]
                  refine Lex.tree_skip to28 (Lex.want_some rfl to16 rfl (b' := false) rfl rfl) ?_
                  simp only [Act.put, List.setIfInBounds_toArray, List.set_cons_zero, List.set_cons_succ]
                  refine Lex.tree_skip to29 (Lex.want_some rfl to16 rfl (b' := false) rfl rfl) ?_
                  simp only [Act.put, List.setIfInBounds_toArray, List.set_cons_zero, List.set_cons_succ]
                  refine Lex.tree_skip to30 (Lex.want_some rfl to16 rfl (b' := false) rfl rfl) ?_
                  simp only [Act.put, List.setIfInBounds_toArray, List.set_cons_zero, List.set_cons_succ]
                  refine Lex.tree_pass to31 (Lex.want_some rfl to16 rfl (b' := false) rfl rfl) ?_ Lex.tree_no
                  simp only [Act.put, List.setIfInBounds_toArray, List.set_cons_zero, List.set_cons_succ]
                  refine Lex.tree_skip to32 (Lex.want_some rfl to16 rfl (b' := false) rfl rfl) ?_
                  simp only [Act.put, List.setIfInBounds_toArray, List.set_cons_zero, List.set_cons_succ]
                  refine Lex.tree_take (.bool false) to33 (Lex.want_none rfl) (by intro Wx hSw; (try dsimp only at hSw); go_simp; (try (first | (with_reducible rfl) | assumption | rfl))) ?_
                  simp only [Act.put, List.setIfInBounds_toArray, List.set_cons_zero, List.set_cons_succ]
                  refine Lex.tree_take (.bool false) to34 (Lex.want_none rfl) (by intro Wx hSw; (try dsimp only at hSw); go_simp; (try (first | (with_reducible rfl) | assumption | rfl))) ?_
                  simp only [Act.put, List.setIfInBounds_toArray, List.set_cons_zero, List.set_cons_succ]
                  refine Lex.tree_end ?_
                  refine NoPanic.normal ?_
                  go_wp2
                  go_meet
                  case rel => exact ⟨rfl, hP, hb⟩
              case rest =>
                obtain ⟨rfl, hQ, hbq⟩ := hcut
                clear hP hb
                generalize wc = wq at hQ hbq ⊢
                rcases setR_case hdr with ⟨hy, rfl⟩ | ⟨rfl, k, q, rfl, rfl, hk8, hqc, hf, hr'⟩
                · have hy' : (ye == 0) = false := beq_eq_false_iff_ne.2 hy
                  go_wp2
                  go_meet
                  case rel => exact ⟨rv, hQ⟩
                · clear hdr
                  have hqm : q < mc := by rw [← HC.out.2]; exact hqc
                  have j0 : (0 : Int) ≤ (k : Int) := by omega
                  have j1 : (k : Int) < 8 := by omega
                  have j2 : (0 : Int) ≤ (q : Int) := by omega
                  have j3 : (q : Int) < (mc : Int) := by omega
                  have hl81 := hl8.1
                  have hl82 := hl8.2
                  obtain ⟨bk, o, cc, hrk, hxl, hxV⟩ := (hQ.r k hk8).yes hf
                  generalize hx : (r.M[k]?).getD [] = x at hxl hxV
                  obtain ⟨i0, hi0, hz0, hz1, hz2⟩ := info_parts Ro.infoV
                  have HLN : Hid ((Li.cellsL Ro.cellsV x).length = mc * 3) := Lib.hid (by rw [Li.cellsL_len Ro.cellsV_len, hxl])
                  go_upto_region 31 with fail
                  go_cut [12] from 30 to 204 (fun s12 wx => ∃ (g5 cap5 : Nat) (y5 : World), y5.ownsRow wq.heap.size 37 3 (.slice (some ⟨g5, 0, none⟩) mc cap5) mc (Li.cellsL Ro.cellsV x) ∧ Below wq.heap.size wq y5 ∧ wq.heap.size ≤ g5 ∧ g5 < y5.heap.size ∧ y5.setCell ⟨gr, k, none⟩ (.slice (some ⟨g5, 0, none⟩) mc cap5) = wx)
                  case first =>
                    have hdr0 := (Below.refl wq.heap.size wq).drew
                    have hsz : wq.drew.heap.size = wq.heap.size := rfl
                    have hQ := hQ.below hdr0
                    have hbq := hbq.below hdr0
                    have hxV := hxV.below hdr0 (Nat.le_refl _)
                    refine Lex.region_tree (ops := tpops) tptree (fun W => W.cell? ⟨ga, 1, none⟩ = some (.int .i64 (k : Int))) (by kernel_rfl) (by kernel_rfl) tpsel tplex (hbq.c1) ?_
                    unfold tptree
                    generalize hv3 : wq.drew = v3 at hdr0 hsz hQ hbq hxV ⊢
                    have hdr0 : Below v3.heap.size wq v3 := by rw [hsz]; exact hdr0
                    have HSZ := Lib.hid hsz
                    clear hsz
                    have hQ0 := hQ
                    have hbq0 := hbq
                    refine Lex.tree_take (.pointer (some ⟨ga, 1, none⟩)) tp0 (Lex.want_none rfl) (by intro Wx hSw; (try dsimp only at hSw); go_simp; (try (first | (with_reducible rfl) | assumption | rfl))) ?_
                    simp only [Act.put, List.setIfInBounds_toArray, List.set_cons_zero, List.set_cons_succ]
                    refine Lex.tree_take (.int .i64 (k : Int)) tp1 (Lex.want_none rfl) (by intro Wx hSw; (try dsimp only at hSw); go_simp; (try (first | (with_reducible rfl) | assumption | rfl))) ?_
                    simp only [Act.put, List.setIfInBounds_toArray, List.set_cons_zero, List.set_cons_succ]
                    refine Lex.tree_take (.pointer (some ⟨ga, 1, none⟩)) tp3 (Lex.want_none rfl) (by intro Wx hSw; (try dsimp only at hSw); go_simp; (try (first | (with_reducible rfl) | assumption | rfl))) ?_
                    simp only [Act.put, List.setIfInBounds_toArray, List.set_cons_zero, List.set_cons_succ]
                    refine Lex.tree_take (.int .i64 (k : Int)) tp4 (Lex.want_none rfl) (by intro Wx hSw; (try dsimp only at hSw); go_simp; (try (first | (with_reducible rfl) | assumption | rfl))) ?_
                    simp only [Act.put, List.setIfInBounds_toArray, List.set_cons_zero, List.set_cons_succ]
                    refine Lex.tree_take (.pointer (some ⟨gr, k, none⟩)) tp5 (Lex.want_none rfl) (by intro Wx hSw; (try dsimp only at hSw); go_simp; (try (first | (with_reducible rfl) | assumption | rfl))) ?_
                    simp only [Act.put, List.setIfInBounds_toArray, List.set_cons_zero, List.set_cons_succ]
                    refine Lex.tree_call tp2 (Lex.want_none rfl) (fun K hK => ?_) ?_
                    · go_simp
                      have hownW := World.ownsRow_lit (e := 37) (size := 3) (base := v3.heap.size) v3 #[] 0 (Nat.le_refl _) (by unfold maxLen; omega) rfl
                      have hBW := (Below.refl v3.heap.size v3).alloc (Nat.le_refl _) (.cells #[] 37)
                      have hQ := hQ.below hBW
                      have hbq := hbq.below hBW
                      have hxW := hxV.1.below hBW (Nat.le_refl _)
                      have hsW := hBW.size
                      refine hK.out _ _ _ (fun _ h => h) (hbq.c1) ?_
                      clear hK K
                      try simp only [Act.put, List.setIfInBounds_toArray, List.set_cons_zero, List.set_cons_succ]
                      refine Lex.tree_call tp6 (Lex.want_none rfl) (fun K hK => ?_) Lex.tree_no
                      have rr := hQ.c k hk8
                      rw [hrk] at rr
                      go_simp
                      clear rr
                      refine hK.out _ _ _ (fun _ h => h) (hbq.c1) ?_
                      clear hK K
                      try simp only [Act.put, List.setIfInBounds_toArray, List.set_cons_zero, List.set_cons_succ]
                      refine Lex.tree_call tp7 (Lex.want_none rfl) (fun K hK => ?_) Lex.tree_no
                      refine wp_append_lies _ (.tmp 150) (.tmp 154) 35 (by rfl) v3.heap.size 37 i0 _ 3 32 Tryd.underlying35 hi0 hz0 hz1 hz2 rfl (by omega) (.slice (some ⟨v3.heap.size, 0, none⟩) 0 0) 0 [] (by rfl) hownW ⟨bk, o, none⟩ mc cc (Li.cellsL Ro.cellsV x) (by rfl) HLN.out (news_of (by decide) Ro.cellsV_len hxW) (cellsV_one x) (by omega) (by unfold maxLen; omega) (by omega) hsW _ rfl ?_
                      intro g5 cap5 y5 hown5 hgrow5 _ hlt5
                      have hB5 := hBW.grown hgrow5 hsW (fun k hk => (hownW.lt k hk).1)
                      have hQ := hQ0.below hB5
                      have hbq := hbq0.below hB5
                      clear hgrow5 hBW hsW hxW hownW
                      rw [List.nil_append, Nat.zero_add] at hown5
                      have hb5 : v3.heap.size ≤ g5 := by obtain ⟨g6, c6, e, h6, _⟩ := hown5.form (by omega); injection e with e _ _; injection e with e; injection e with e _; rw [e]; exact h6
                      simp only [Nat.zero_add]
                      refine hK.out _ _ _ (fun _ h => h) (hbq.c1) ?_
                      clear hK K
                      try simp only [Act.put, List.setIfInBounds_toArray, List.set_cons_zero, List.set_cons_succ]
                      refine Lex.tree_take (.pointer (some ⟨gr, k, none⟩)) tp8 (Lex.want_none rfl) (by intro Wx hSw; (try dsimp only at hSw); go_simp; (try (first | (with_reducible rfl) | assumption | rfl))) ?_
                      simp only [Act.put, List.setIfInBounds_toArray, List.set_cons_zero, List.set_cons_succ]
                      refine Lex.tree_call tp9 (Lex.want_none rfl) (fun K hK => ?_) Lex.tree_no
                      have r1 := hQ.c k hk8
                      have r2 := hQ.f k
                      go_simp
                      clear r1 r2
                      refine hK.out _ _ _ (fun _ h => h) ((hbq.bar ((Bar.refl gr y5).setCell k (.slice (some ⟨g5, 0, none⟩) mc cap5)) hne.out.2).c1) ?_
                      clear hK K
                      try simp only [Act.put, List.setIfInBounds_toArray, List.set_cons_zero, List.set_cons_succ]
                      refine Lex.tree_end ?_
                      refine NoPanic.normal ?_
                      clear hQ hbq
                      go_wp2
                      go_meet
                      case rel => exact ⟨g5, cap5, y5, HSZ.out ▸ hown5, HSZ.out ▸ hdr0.trans hB5, HSZ.out ▸ hb5, hlt5, rfl⟩
                    refine Lex.tree_call tp6 (Lex.want_none rfl) (fun K hK => ?_) Lex.tree_no
                    have rr := hQ.c k hk8
                    rw [hrk] at rr
                    go_simp
                    clear rr
                    refine hK.out _ _ _ (fun _ h => h) (hbq.c1) ?_
                    clear hK K
                    try simp only [Act.put, List.setIfInBounds_toArray, List.set_cons_zero, List.set_cons_succ]
                    refine Lex.tree_call tp2 (Lex.want_none rfl) (fun K hK => ?_) Lex.tree_no
                    go_simp
                    have hownW := World.ownsRow_lit (e := 37) (size := 3) (base := v3.heap.size) v3 #[] 0 (Nat.le_refl _) (by unfold maxLen; omega) rfl
                    have hBW := (Below.refl v3.heap.size v3).alloc (Nat.le_refl _) (.cells #[] 37)
                    have hQ := hQ.below hBW
                    have hbq := hbq.below hBW
                    have hxW := hxV.1.below hBW (Nat.le_refl _)
                    have hsW := hBW.size
                    refine hK.out _ _ _ (fun _ h => h) (hbq.c1) ?_
                    clear hK K
                    try simp only [Act.put, List.setIfInBounds_toArray, List.set_cons_zero, List.set_cons_succ]
                    refine Lex.tree_call tp7 (Lex.want_none rfl) (fun K hK => ?_) Lex.tree_no
                    refine wp_append_lies _ (.tmp 150) (.tmp 154) 35 (by rfl) v3.heap.size 37 i0 _ 3 32 Tryd.underlying35 hi0 hz0 hz1 hz2 rfl (by omega) (.slice (some ⟨v3.heap.size, 0, none⟩) 0 0) 0 [] (by rfl) hownW ⟨bk, o, none⟩ mc cc (Li.cellsL Ro.cellsV x) (by rfl) HLN.out (news_of (by decide) Ro.cellsV_len hxW) (cellsV_one x) (by omega) (by unfold maxLen; omega) (by omega) hsW _ rfl ?_
                    intro g5 cap5 y5 hown5 hgrow5 _ hlt5
                    have hB5 := hBW.grown hgrow5 hsW (fun k hk => (hownW.lt k hk).1)
                    have hQ := hQ0.below hB5
                    have hbq := hbq0.below hB5
                    clear hgrow5 hBW hsW hxW hownW
                    rw [List.nil_append, Nat.zero_add] at hown5
                    have hb5 : v3.heap.size ≤ g5 := by obtain ⟨g6, c6, e, h6, _⟩ := hown5.form (by omega); injection e with e _ _; injection e with e; injection e with e _; rw [e]; exact h6
                    simp only [Nat.zero_add]
                    refine hK.out _ _ _ (fun _ h => h) (hbq.c1) ?_
                    clear hK K
                    try simp only [Act.put, List.setIfInBounds_toArray, List.set_cons_zero, List.set_cons_succ]
                    refine Lex.tree_take (.pointer (some ⟨gr, k, none⟩)) tp8 (Lex.want_none rfl) (by intro Wx hSw; (try dsimp only at hSw); go_simp; (try (first | (with_reducible rfl) | assumption | rfl))) ?_
                    simp only [Act.put, List.setIfInBounds_toArray, List.set_cons_zero, List.set_cons_succ]
                    refine Lex.tree_call tp9 (Lex.want_none rfl) (fun K hK => ?_) Lex.tree_no
                    have r1 := hQ.c k hk8
                    have r2 := hQ.f k
                    go_simp
                    clear r1 r2
                    refine hK.out _ _ _ (fun _ h => h) ((hbq.bar ((Bar.refl gr y5).setCell k (.slice (some ⟨g5, 0, none⟩) mc cap5)) hne.out.2).c1) ?_
                    clear hK K
                    try simp only [Act.put, List.setIfInBounds_toArray, List.set_cons_zero, List.set_cons_succ]
                    refine Lex.tree_end ?_
                    refine NoPanic.normal ?_
                    clear hQ hbq
                    go_wp2
                    go_meet
                    case rel => exact ⟨g5, cap5, y5, HSZ.out ▸ hown5, HSZ.out ▸ hdr0.trans hB5, HSZ.out ▸ hb5, hlt5, rfl⟩
                  case rest =>
                    obtain ⟨g5, cap5, y5, hown5, hB5, hb5, hlt5, rfl⟩ := hcut
                    obtain ⟨yd, hyd⟩ : ∃ yd, y5.drew = yd := ⟨_, rfl⟩
                    have hydr : (y5.setCell ⟨gr, k, none⟩ (.slice (some ⟨g5, 0, none⟩) mc cap5)).drew = yd.setCell ⟨gr, k, none⟩ (.slice (some ⟨g5, 0, none⟩) mc cap5) := by rw [← hyd]; rfl
                    have hown5 := Li.own_below hown5 (Below.refl y5.heap.size y5).drew (Nat.le_refl _)
                    have hB5 := hB5.drew
                    have hlt5 : g5 < y5.drew.heap.size := hlt5
                    rw [hyd] at hown5 hB5 hlt5
                    clear hyd
                    have hg1 := hQ.v.lt
                    have hg2 := hQ.gl
                    have hgb := hbq.lt
                    have hg5s := hB5.size
                    have HA := Lib.hid (And.intro hr' (And.intro hx (And.intro hxl hf)))
                    have hQ5 := hQ.below hB5
                    have hV5 : Ro.HasV yd 0 (some ⟨g5, 0, none⟩) x := by
                      obtain ⟨_, _, e, _, h⟩ := Li.list_of_own Ro.cellsV_len hown5 HA.out.2.2.1
                      injection e with e _ _
                      subst e
                      exact h.lower (Nat.zero_le _)
                    have hon : ∀ l : List V, On (Xm gt gr) (some ⟨g5, 0, none⟩) l := fun l _ b o s e => by
                      injection e with e
                      injection e with e _
                      subst e
                      exact ⟨by omega, by omega⟩
                    have hst0 := hQ5.setR (q' := r) (k := k) (val := .slice (some ⟨g5, 0, none⟩) mc cap5) ⟨fun e => by rw [HA.out.2.2.2] at e; simp at e, fun _ => ⟨g5, 0, cap5, rfl, by rw [HA.out.2.1]; exact HA.out.2.2.1, by rw [HA.out.2.1]; exact ⟨hV5, hon _⟩⟩⟩ (fun j hj hji => ⟨rfl, rfl⟩) hk8
                    have r1 := hQ5.c k hk8
                    have r2 := hQ5.f k
                    have r3 := hst0.c k hk8
                    rw [if_pos rfl] at r3
                    have hb6 := (hbq.below hB5).bar ((Bar.refl gr yd).setCell k (.slice (some ⟨g5, 0, none⟩) mc cap5)) hne.out.2
                    have b1' := hb6.c1
                    have b2' := hb6.c2
                    have b4' := hb6.c4
                    have b5' := hb6.c5
                    have b6' := hb6.c6
                    simp only at b1' b2' b4' b5' b6'
                    have h6 := ownsRow_setCell_below hown5 (a := ⟨gr, k, none⟩) hg2 (.slice (some ⟨g5, 0, none⟩) mc cap5)
                    have hgq : x[q]? = some (x[q]'(by rw [HA.out.2.2.1]; exact hqm)) := List.getElem?_eq_getElem _
                    generalize (x[q]'(by rw [HA.out.2.2.1]; exact hqm)) = vq at hgq
                    have x0 := (h6.cellAt (q * 3) (by omega)).trans (Li.cellsL_at Ro.cellsV_len x q vq hgq 0 _ rfl)
                    have x1 := (h6.cellAt (q * 3 + 1) (by omega)).trans (Li.cellsL_at Ro.cellsV_len x q vq hgq 1 _ rfl)
                    have x2 := (h6.cellAt (q * 3 + 2) (by omega)).trans (Li.cellsL_at Ro.cellsV_len x q vq hgq 2 _ rfl)
                    have xf := fun i => h6.frozenAt i
                    have hV := hasV_set (v := ⟨vk, vn, vs⟩) hown5 HA.out.2.2.1 hqm
                    have hBs := ((hB5.setCell (p := ⟨g5, q * 3, none⟩) hb5 (.int .i64 vk)).setCell (p := ⟨g5, q * 3 + 1, none⟩) hb5 (.int .i64 vn)).setCell (p := ⟨g5, q * 3 + 2, none⟩) hb5 (.string vs)
                    have hQs := hQ.below hBs
                    have hM : (r'.M[k]?).getD [] = x.set q ⟨vk, vn, vs⟩ := by
                      obtain ⟨z, hz, _⟩ := hQ.t.ok.at hk8
                      rw [HA.out.1] at hz ⊢
                      unfold setM at hz ⊢
                      rw [HA.out.2.1] at hz ⊢
                      simp only [List.getElem?_set_self'] at hz ⊢
                      cases hh : r.M[k]? with
                      | none => rw [hh] at hz; simp at hz
                      | some y => rfl
                    have hfin := hQs.setR (q' := r') (k := k) (val := .slice (some ⟨g5, 0, none⟩) mc cap5) ⟨fun e => by rw [HA.out.1, HA.out.2.2.2] at e; simp at e, fun _ => ⟨g5, 0, cap5, rfl, by rw [hM, List.length_set]; exact HA.out.2.2.1, by rw [hM]; exact ⟨hV, hon _⟩⟩⟩ (fun j hj hji => by rw [HA.out.1]; exact ⟨rfl, List.getElem?_set_ne (Ne.symm hji)⟩) hk8
                    rw [← setCell_back yd (g := gr) (d := g5) (by omega)] at hfin
                    have HST := Lib.hid hfin
                    clear hfin hM hQs hBs hV hgq hst0 hon hV5 hQ5 hown5 hQ hbq hB5 h6
                    go_upto_region 32 with fail
                    refine Lex.region_tree (ops := tqops) tqtree (fun W => W.cell? ⟨ga, 1, none⟩ = some (.int .i64 (k : Int)) ∧ W.cell? ⟨ga, 2, none⟩ = some (.int .i64 (q : Int)) ∧ W.cell? ⟨ga, 4, none⟩ = some (.int .i64 vk) ∧ W.cell? ⟨ga, 5, none⟩ = some (.int .i64 vn) ∧ W.cell? ⟨ga, 6, none⟩ = some (.string vs) ∧ W.cell? ⟨gr, k, none⟩ = some (.slice (some ⟨g5, 0, none⟩) mc cap5)) (by kernel_rfl) (by kernel_rfl) tqsel tqlex (by rw [hydr]; exact ⟨b1', b2', b4', b5', b6', r3⟩) ?_
                    unfold tqtree
                    rw [hydr]
                    clear hydr
                    refine Lex.tree_take (.pointer (some ⟨ga, 1, none⟩)) tq0 (Lex.want_none rfl) (by intro Wx hSw; (try dsimp only at hSw); go_simp; (try (first | (with_reducible rfl) | assumption | rfl))) ?_
                    simp only [Act.put, List.setIfInBounds_toArray, List.set_cons_zero, List.set_cons_succ]
                    refine Lex.tree_take (.int .i64 (k : Int)) tq1 (Lex.want_none rfl) (by intro Wx hSw; (try dsimp only at hSw); go_simp; (try (first | (with_reducible rfl) | assumption | rfl))) ?_
                    simp only [Act.put, List.setIfInBounds_toArray, List.set_cons_zero, List.set_cons_succ]
                    refine Lex.tree_take (.pointer (some ⟨gr, k, none⟩)) tq2 (Lex.want_none rfl) (by intro Wx hSw; (try dsimp only at hSw); go_simp; (try (first | (with_reducible rfl) | assumption | rfl))) ?_
                    simp only [Act.put, List.setIfInBounds_toArray, List.set_cons_zero, List.set_cons_succ]
                    refine Lex.tree_take (.slice (some ⟨g5, 0, none⟩) mc cap5) tq3 (Lex.want_none rfl) (by intro Wx hSw; (try dsimp only at hSw); go_simp; (try (first | (with_reducible rfl) | assumption | rfl))) ?_
                    simp only [Act.put, List.setIfInBounds_toArray, List.set_cons_zero, List.set_cons_succ]
                    refine Lex.tree_take (.pointer (some ⟨ga, 2, none⟩)) tq4 (Lex.want_none rfl) (by intro Wx hSw; (try dsimp only at hSw); go_simp; (try (first | (with_reducible rfl) | assumption | rfl))) ?_
                    simp only [Act.put, List.setIfInBounds_toArray, List.set_cons_zero, List.set_cons_succ]
                    refine Lex.tree_take (.int .i64 (q : Int)) tq5 (Lex.want_none rfl) (by intro Wx hSw; (try dsimp only at hSw); go_simp; (try (first | (with_reducible rfl) | assumption | rfl))) ?_
                    simp only [Act.put, List.setIfInBounds_toArray, List.set_cons_zero, List.set_cons_succ]
                    refine Lex.tree_take (.pointer (some ⟨ga, 4, none⟩)) tq6 (Lex.want_none rfl) (by intro Wx hSw; (try dsimp only at hSw); go_simp; (try (first | (with_reducible rfl) | assumption | rfl))) ?_
                    simp only [Act.put, List.setIfInBounds_toArray, List.set_cons_zero, List.set_cons_succ]
                    refine Lex.tree_take (.agg #[.int .i64 vk, .int .i64 vn, .string vs]) tq7 (Lex.want_none rfl) (by intro Wx hSw; (try dsimp only at hSw); go_simp; (try (first | (with_reducible rfl) | assumption | rfl))) ?_
                    simp only [Act.put, List.setIfInBounds_toArray, List.set_cons_zero, List.set_cons_succ]
                    refine Lex.tree_take (.pointer (some ⟨g5, q * 3, none⟩)) tq8 (Lex.want_none rfl) (by intro Wx hSw; (try dsimp only at hSw); go_simp; (try (first | (with_reducible rfl) | assumption | rfl))) ?_
                    simp only [Act.put, List.setIfInBounds_toArray, List.set_cons_zero, List.set_cons_succ]
                    refine Lex.tree_call tq9 (Lex.want_none rfl) (fun K hK => ?_) Lex.tree_no
                    go_simp
                    have hbar := (((Bar.refl g5 (yd.setCell ⟨gr, k, none⟩ (.slice (some ⟨g5, 0, none⟩) mc cap5))).setCell (q * 3) (.int .i64 vk)).setCell (q * 3 + 1) (.int .i64 vn)).setCell (q * 3 + 2) (.string vs)
                    have hb7 := hb6.bar hbar (by omega)
                    have r7 := (hbar.cell (p := ⟨gr, k, none⟩) (by rw [World.size_setCell]; show gr < yd.heap.size; omega) (by show gr ≠ g5; omega)).trans r3
                    clear x0 x1 x2 xf hbar
                    refine hK.out _ _ _ (fun _ h => h) ⟨hb7.c1, hb7.c2, hb7.c4, hb7.c5, hb7.c6, r7⟩ ?_
                    clear hK K
                    try simp only [Act.put, List.setIfInBounds_toArray, List.set_cons_zero, List.set_cons_succ]
                    refine Lex.tree_end ?_
                    refine NoPanic.normal ?_
                    clear hb7 r7 hb6 r3
                    go_wp2
                    go_meet
                    case rel => exact ⟨_, HST.out⟩
          by_cases k2 : ak = 2
          · subst k2
            as_aux_lemma =>
              have hdr := does_2 hdd
              clear hdd
              have b1' := hb.c1
              simp only at b1'
              unfold dropR at hdr
              cases ht : takenB r asl
              · rw [ht, if_neg (by decide)] at hdr
                injection hdr with h1 h2
                subst h1 h2
                go_wp2
                go_meet
                case rel => exact ⟨rv, hP⟩
              · rw [if_pos ht] at hdr
                injection hdr with h1 h2
                subst h2
                have ht' : 0 ≤ asl ∧ asl < 8 := by unfold takenB at ht; simp at ht; omega
                obtain ⟨k, rfl⟩ : ∃ k : Nat, asl = (k : Int) := ⟨asl.toNat, by omega⟩
                have hk8 : k < 8 := by omega
                have j0 : (0 : Int) ≤ (k : Int) := by omega
                have j1 : (k : Int) < 8 := by omega
                rw [Int.toNat_natCast] at h1
                have hro : RowAt z2 (Xm gt gr) mc (.slice none 0 0) (r'.f k) ((r'.M[k]?).getD []) := ⟨fun _ => rfl, fun e => by rw [← h1] at e; simp at e⟩
                have hst := hP.setR (q' := r') hro (fun j hj hji => by rw [← h1]; exact ⟨if_neg hji, List.getElem?_set_ne (Ne.symm hji)⟩) hk8
                have r1 := hP.c k hk8
                have r2 := hP.f k
                have HST := Lib.hid hst
                clear hst hro hP h1 ht'
                go_wp2
                go_meet
                case rel => exact ⟨_, HST.out⟩
          · skip
            as_aux_lemma =>
              have k0' : (ak == 0) = false := beq_eq_false_iff_ne.2 k0
              have k1' : (ak == 1) = false := beq_eq_false_iff_ne.2 k1
              have k2' : (ak == 2) = false := beq_eq_false_iff_ne.2 k2
              have hsame := does_else_rows hdd k0 k1 k2
              go_wp2
              go_meet
              case rel => exact ⟨rv, hP.rows hsame⟩
        case rest =>
          obtain ⟨rv', hD⟩ := hcut
          clear hP hb hne
          go_wp2
          go_loopw [16] (fun i W => ∃ (k : Nat), k ≤ 8 ∧ i = .int .i64 k ∧ MoB w g gt gr mc cp nm A cs u r' rv' r' W) (fun i _ => 8 - (intOf i).toNat)
          case atStart => exact ⟨0, Nat.zero_le _, rfl, hD⟩
          case round =>
            clear hD
            obtain ⟨k, hk, rfl, hD⟩ := hrel
            by_cases hk8 : k < 8
            · have j1 : (k : Int) < 8 := by omega
              have j0 : (0 : Int) ≤ (k : Int) := by omega
              have c0 := hD.x.c0
              have c1 := hD.x.c1
              have v0 := hD.v.c0
              have v1 := hD.v.c1
              have v2 := hD.v.c2
              go_wp2_with fail
              clear c0 c1 v0 v1 v2
              have hcl := row_any (k : Int) (hD.sch HI.out.1 HC.out.1) hD.t (by omega) (by omega)
              have hr := hD.r k hk8
              cases hf : r'.f k
              · have ho : rowR r' (k : Int) = none := by unfold rowR takenB; rw [Int.toNat_natCast, hf, Bool.and_false, if_neg (by decide)]
                rw [ho] at hcl
                refine hcl.mono ?_
                rintro e y2 ⟨B, n2, c2, rfl, _, _, hy⟩
                have hD := hD.below hy
                clear hy hcl
                have hc := hD.c k hk8
                rw [hr.no hf] at hc
                clear hr
                go_wp2
                clear hc
                go_roundw
                case rel => exact ⟨k + 1, by omega, by go_num, hD⟩
                case measure => simp [intOf]; omega
              · obtain ⟨x, hx, hxl⟩ := hD.t.ok.at hk8
                have ho : rowR r' (k : Int) = some x := by unfold rowR takenB; rw [Int.toNat_natCast, hf, decide_eq_true j0, decide_eq_true j1]; exact hx
                rw [ho] at hcl
                obtain ⟨bk, o, cc, e1, e2, e3⟩ := hr.yes hf
                rw [hx] at e2 e3
                have e2 : x.length = mc := e2
                refine hcl.mono ?_
                rintro e y2 ⟨B, n2, c2, rfl, hn2, hV, hy⟩
                have hn2 : x.length = n2 := hn2
                have hV : Ro.HasV y2 0 B x := hV
                have e3 : Ro.HasV y2 0 (some ⟨bk, o, none⟩) x := e3.1.below hy (Nat.le_refl _)
                have hD := hD.below hy
                clear hy hcl
                have hc := hD.c k hk8
                rw [e1] at hc
                clear hr
                go_wp2_with fail
                clear hc
                have hcs := Ro.refSame_any B (some ⟨bk, o, none⟩) c2 cc x x 0 0 y2 hV e3 (by omega) (by omega)
                have hnm : n2 = mc := by rw [← hn2, e2]
                rw [e2] at hcs
                rw [hnm]
                refine hcs.mono ?_
                rintro e y3 ⟨b, rfl, hb, hy⟩
                obtain rfl : b = true := hb.2 rfl
                have hD := hD.below hy
                clear hy hcs hb hV e3 e1 e2 hn2 hnm
                go_wp2
                go_roundw
                case rel => exact ⟨k + 1, by omega, by go_num, hD⟩
                case measure => simp [intOf]; omega
            · obtain rfl : k = 8 := by omega
              go_wp2
              go_roundw
              case rel => exact ⟨q + 1, u, r', rv', by omega, by go_num, hD⟩
              case measure => simp [intOf]; omega
    · obtain rfl : q = m := by omega
      go_wp2_with fail
      refine (awake_any _ (by first | exact HI.out.1.tab.below (B := g) hB hle | exact HI.out.1.tab.below (B := g) hD.b hle)).mono ?_
      rintro e y9 ⟨rfl, hy⟩
      have hB := (hD.below hy).b
      clear hy hD
      go_wp2
      go_ret
      exact ⟨rfl, hB⟩
end Go.Proofs.YtpnnkhpokangfaaDoor.Ti
