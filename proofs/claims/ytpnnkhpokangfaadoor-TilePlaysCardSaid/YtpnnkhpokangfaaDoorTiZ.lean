/- TilePlays: whatever deeds, walked. -/
import Derived.Test.YtpnnkhpokangfaaDoorTiY
import Derived.Test.YtpnnkhpokangfaaDoorMgZ
namespace Go.Proofs.YtpnnkhpokangfaaDoor.Ti
open Go.RowKit Pac Va Sc Mi Sp Lex

theorem row_few {cs : List C} {r : R} {s : Int} (h : Tile cs r) : ((rowR r s).getD []).length ≤ 8 := by
 unfold rowR
 split
 ·rename_i ht
  obtain ⟨h0, h8, _⟩ := taken_in ht
  obtain ⟨x, hx, hxl⟩ := h.at (show s.toNat < 8 by omega)
  have := h.s.n8
  rw [hx]
  show x.length ≤ 8
  omega
 ·exact Nat.zero_le _

set_option maxRecDepth 20000 in
set_option maxHeartbeats 16000000 in
theorem plays_any {nm : ByteArray} {cs : List C} {A A2 : Option Addr} {mc cp m cp2 : Nat} {w : World} {l : List (AV × Ac)} (hS : InS w A mc cp nm cs) (hAc : HasAcs w (fun b => b < w.heap.size) A2 l) (hm : l.length = m) (hm9 : m ≤ 9223372036854775807) :
  Calls Tryd.prog 3 #[.agg #[.string nm, .slice A mc cp], .slice A2 m cp2] w fun e w' => e = .returned (.bool true) ∧ Below w.heap.size w w' := by
 obtain ⟨g, hg⟩ : ∃ g, w.heap.size = g := ⟨_, rfl⟩
 have hx := Box2.new w (.string nm) (.slice A mc cp) 24
 have hB := (Below.refl w.heap.size w).alloc (Nat.le_refl _) (.cells #[.string nm, .slice A mc cp] 24)
 rw [hg] at hx hB hAc
 rw [show (fun (e : Ending) (w' : World) => e = .returned (.bool true) ∧ Below w.heap.size w w') = (fun e w' => e = .returned (.bool true) ∧ Below g w w') by rw [hg]]
 have HI := Lib.hid (And.intro hS (And.intro hAc hm))
 clear hS hAc hm
 go_enter Tryd.func3, Tryd.ntmps3
 generalize hw1 : w.alloc (.cells #[.string nm, .slice A mc cp] 24) = w1 at hx hB
 have hle : w.heap.size ≤ g := Nat.le_of_eq hg
 have c0 := hx.c0
 have c1 := hx.c1
 go_wp2_with fail
 clear hw1 c0 c1
 refine (small_any (HI.out.1.below (B := g) hB hle) (HI.out.2.1.below (B := g) hB hle) HI.out.2.2 hm9).mono ?_
 rintro e w2 ⟨bb, rfl, hb1, hb2, hy⟩
 have hB := hB.trans (hy.mono (Nat.le_of_lt hx.lt))
 have hx := hx.below hy hx.lt
 clear hy
 cases bb
 ·go_wp2_with fail
  refine (awake_any _ (HI.out.1.tab.below (B := g) hB hle)).mono ?_
  rintro e y9 ⟨rfl, hy⟩
  have hB := hB.trans (hy.mono (Nat.le_of_lt hx.lt))
  clear hy
  go_wp2
  go_ret
  exact ⟨rfl, hB⟩
 obtain ⟨hr, _, hs20⟩ := hb1 rfl
 have HS20 := Lib.hid hs20
 clear hs20 hb1 hb2
 have hmc : cs.length = mc := HI.out.1.n
 have hl8 := rightS_len hr
 rw [hmc] at hl8
 have HC := Lib.hid (And.intro hr hmc)
 have HSP := Lib.hid (show IsSplit (oneS mc) cs.length by rw [hmc]; exact one_split hl8.1 hl8.2)
 have HSC := Lib.hid (HI.out.1.sch hr)
 clear hr hmc
 have c1 := hx.c1
 go_wp2_with fail
 clear c1
 refine (one_sp (w := w2) hl8.2).mono ?_
 rintro e w3 ⟨Ao, co, rfl, hco, hO, hy⟩
 have hB := hB.trans (hy.mono (Nat.le_of_lt hx.lt))
 have hx := hx.below hy hx.lt
 have hO := sp_of (X := X2 none none) hO (fun b _ _ => ⟨fun k e => (nomatch e), fun k e => (nomatch e)⟩)
 clear hy
 have hD : Two w g mc cp nm A cs Ao (oneS mc) (newR (oneS mc) cs.length) none none none none tvZ tvZ w3 := ⟨hB, hx, HSC.out, HI.out.1.tab, hO, fun _ e => (nomatch e), fun _ e => (nomatch e), fun _ e => (nomatch e), fun _ e => (nomatch e), fun _ _ e => (nomatch e), fun _ e => (nomatch e), fun _ e => (nomatch e), hg⟩
 clear hB hx hO
 go_upto_region 4 with fail
 refine Lex.region_cut (fun (a' : Act) (W : World) => ∃ (t u : TV) (gx gy : Nat), a' = ⟨#[.agg #[.string nm, .slice A mc cp], .slice A2 m cp2, .pointer (some ⟨g, 0, none⟩), undef, .bool false, .slice Ao (oneS mc).length co, .pointer (some ⟨gx, 0, none⟩), .pointer (some ⟨gy, 0, none⟩), undef, undef, undef, undef, undef, undef, undef, undef, undef, undef, undef, undef, undef, undef, undef, undef, undef, .agg #[.string nm, .slice A mc cp], .slice A2 m cp2, .bool true, .bool false, undef, .pointer (some ⟨g, 1, none⟩), .slice A mc cp, .int .i64 mc, .slice Ao (oneS mc).length co, .agg #[.string nm, .slice A mc cp], .slice Ao (oneS mc).length co, .agg #[.slice t.A t.n t.c, .int .i64 t.m, .slice t.B t.n t.d], .agg #[.string nm, .slice A mc cp], .slice Ao (oneS mc).length co, .agg #[.slice u.A u.n u.c, .int .i64 u.m, .slice u.B u.n u.d], undef, undef, undef, undef, undef, undef, undef, undef, undef, undef, undef, undef, undef, undef, undef, undef, undef, undef, undef, undef, undef, undef, undef, undef, undef, undef, undef, undef, undef, undef, undef, undef, undef, undef, undef, undef, undef, undef, undef, undef, undef, undef, undef, undef, undef, undef, undef, undef, undef, undef, undef, undef, undef, undef, undef, undef, undef, undef, undef, undef, undef, undef, undef, undef, undef, undef, undef, undef, undef, undef, undef, undef, undef, undef, undef, undef, undef, undef, undef, undef, undef, undef, undef, undef, undef, undef, undef, undef, undef, undef, undef, undef, undef, undef, undef, undef, undef, undef, undef, undef, undef, undef, undef, undef, undef, undef, undef, undef, undef, undef, undef, undef, undef, undef, undef, undef, undef, undef, undef, undef, undef, undef, undef, undef, undef, undef, undef, undef, undef, undef, undef, undef, undef, undef, undef, undef, undef, undef, undef, undef, undef, undef, undef, undef, undef, undef, undef, undef, undef, undef, undef, undef, undef, undef, undef, undef, undef, undef, undef, undef, undef, undef], []⟩ ∧ PlB w g gx gy mc cp nm A cs t u (newR (oneS mc) cs.length) (newR (oneS mc) cs.length) W) ?_ ?_
 ·have hD := hD.below (Below.refl w3.heap.size w3).drew
  refine Lex.region_tree (ops := paops) patree (fun W => W.cell? ⟨g, 0, none⟩ = some (.string nm) ∧ W.cell? ⟨g, 1, none⟩ = some (.slice A mc cp)) (by kernel_rfl) (by kernel_rfl) pasel palex (⟨hD.x.c0, hD.x.c1⟩) ?_
  unfold patree
  generalize w3.drew = v3 at hD ⊢
  refine Lex.tree_take (.agg #[.string nm, .slice A mc cp]) pa0 (Lex.want_none rfl) (by intro Wx hSw; (try dsimp only at hSw); go_simp; (try (first | (with_reducible rfl) | assumption | rfl))) ?_
  simp only [Act.put, List.setIfInBounds_toArray, List.set_cons_zero, List.set_cons_succ]
  refine Lex.tree_take (.slice Ao (oneS mc).length co) pa1 (Lex.want_none rfl) (by intro Wx hSw; (try dsimp only at hSw); go_simp; (try (first | (with_reducible rfl) | assumption | rfl))) ?_
  simp only [Act.put, List.setIfInBounds_toArray, List.set_cons_zero, List.set_cons_succ]
  refine Lex.tree_take (.agg #[.string nm, .slice A mc cp]) pa3 (Lex.want_none rfl) (by intro Wx hSw; (try dsimp only at hSw); go_simp; (try (first | (with_reducible rfl) | assumption | rfl))) ?_
  simp only [Act.put, List.setIfInBounds_toArray, List.set_cons_zero, List.set_cons_succ]
  refine Lex.tree_take (.slice Ao (oneS mc).length co) pa4 (Lex.want_none rfl) (by intro Wx hSw; (try dsimp only at hSw); go_simp; (try (first | (with_reducible rfl) | assumption | rfl))) ?_
  simp only [Act.put, List.setIfInBounds_toArray, List.set_cons_zero, List.set_cons_succ]
  refine Lex.tree_call pa2 (Lex.want_none rfl) (fun K hK => ?_) ?_
  ·go_simp
   refine (new_any (w := v3) Ao _ co hD.tab hD.x0 hD.hX hD.sch hD.o rfl hco HSP.out).mono ?_
   rintro e y2 ⟨t, rfl, hT, hy⟩
   have hD := (hD.below hy).newX hT
   clear hy hT
   simp only [TV.v]
   refine hK.out _ _ _ (fun _ h => h) (⟨hD.x.c0, hD.x.c1⟩) ?_
   clear hK K
   try simp only [Act.put, List.setIfInBounds_toArray, List.set_cons_zero, List.set_cons_succ]
   refine Lex.tree_call pa5 (Lex.want_none rfl) (fun K hK => ?_) ?_
   ·go_simp
    refine (refNew_any (w := y2) Ao _ co hD.tab hD.x0 hD.hX hD.sch hD.o rfl hco HSP.out).mono ?_
    rintro e y5 ⟨u, rfl, hT, hy⟩
    have hD := (hD.below hy).newY hT
    clear hy hT
    simp only [TV.v]
    refine hK.out _ _ _ (fun _ h => h) (⟨hD.x.c0, hD.x.c1⟩) ?_
    clear hK K
    try simp only [Act.put, List.setIfInBounds_toArray, List.set_cons_zero, List.set_cons_succ]
    refine Lex.tree_call pa6 (Lex.want_none rfl) (fun K hK => ?_) ?_
    ·go_simp
     have hD := hD.allocX
     generalize y5.alloc (.cells #[.slice none 0 0, .int .i64 0, .slice none 0 0] 32) = z6 at hD ⊢
     generalize y5.heap.size = gx at hD ⊢
     refine hK.out _ _ _ (fun _ h => h) (⟨hD.x.c0, hD.x.c1⟩) ?_
     clear hK K
     try simp only [Act.put, List.setIfInBounds_toArray, List.set_cons_zero, List.set_cons_succ]
     refine Lex.tree_call pa7 (Lex.want_none rfl) (fun K hK => ?_) Lex.tree_no
     go_simp
     have hD := hD.allocY
     generalize z6.alloc (.cells #[.slice none 0 0, .int .i64 0, .slice none 0 0] 32) = z7 at hD ⊢
     generalize z6.heap.size = gy at hD ⊢
     refine hK.out _ _ _ (fun _ h => h) (⟨hD.x.c0, hD.x.c1⟩) ?_
     clear hK K
     try simp only [Act.put, List.setIfInBounds_toArray, List.set_cons_zero, List.set_cons_succ]
     refine Lex.tree_call pa8 (Lex.want_none rfl) (fun K hK => ?_) Lex.tree_no
     have bx := hD.cx _ rfl
     have k0 := bx.c0
     have k1 := bx.c1
     have k2 := bx.c2
     have k3 := bx.f
     go_simp
     clear k0 k1 k2 k3 bx
     have hD := hD.storeX t
     generalize ((z7.setCell ⟨gx, 0, none⟩ (.slice t.A t.n t.c)).setCell ⟨gx, 1, none⟩ (.int .i64 t.m)).setCell ⟨gx, 2, none⟩ (.slice t.B t.n t.d) = s8 at hD ⊢
     refine hK.out _ _ _ (fun _ h => h) (⟨hD.x.c0, hD.x.c1⟩) ?_
     clear hK K
     try simp only [Act.put, List.setIfInBounds_toArray, List.set_cons_zero, List.set_cons_succ]
     refine Lex.tree_call pa9 (Lex.want_none rfl) (fun K hK => ?_) Lex.tree_no
     have bx := hD.cy _ rfl
     have k0 := bx.c0
     have k1 := bx.c1
     have k2 := bx.c2
     have k3 := bx.f
     go_simp
     clear k0 k1 k2 k3 bx
     have hD := hD.storeY u
     generalize ((s8.setCell ⟨gy, 0, none⟩ (.slice u.A u.n u.c)).setCell ⟨gy, 1, none⟩ (.int .i64 u.m)).setCell ⟨gy, 2, none⟩ (.slice u.B u.n u.d) = s9 at hD ⊢
     refine hK.out _ _ _ (fun _ h => h) (⟨hD.x.c0, hD.x.c1⟩) ?_
     clear hK K
     try simp only [Act.put, List.setIfInBounds_toArray, List.set_cons_zero, List.set_cons_succ]
     refine Lex.tree_end ?_
     refine NoPanic.normal ?_
     exact ⟨t, u, gx, gy, rfl, hD.done⟩
    refine Lex.tree_call pa7 (Lex.want_none rfl) (fun K hK => ?_) Lex.tree_no
    go_simp
    have hD := hD.allocY
    generalize y5.alloc (.cells #[.slice none 0 0, .int .i64 0, .slice none 0 0] 32) = z7 at hD ⊢
    generalize y5.heap.size = gy at hD ⊢
    refine hK.out _ _ _ (fun _ h => h) (⟨hD.x.c0, hD.x.c1⟩) ?_
    clear hK K
    try simp only [Act.put, List.setIfInBounds_toArray, List.set_cons_zero, List.set_cons_succ]
    refine Lex.tree_call pa6 (Lex.want_none rfl) (fun K hK => ?_) Lex.tree_no
    go_simp
    have hD := hD.allocX
    generalize z7.alloc (.cells #[.slice none 0 0, .int .i64 0, .slice none 0 0] 32) = z6 at hD ⊢
    generalize z7.heap.size = gx at hD ⊢
    refine hK.out _ _ _ (fun _ h => h) (⟨hD.x.c0, hD.x.c1⟩) ?_
    clear hK K
    try simp only [Act.put, List.setIfInBounds_toArray, List.set_cons_zero, List.set_cons_succ]
    refine Lex.tree_call pa8 (Lex.want_none rfl) (fun K hK => ?_) Lex.tree_no
    have bx := hD.cx _ rfl
    have k0 := bx.c0
    have k1 := bx.c1
    have k2 := bx.c2
    have k3 := bx.f
    go_simp
    clear k0 k1 k2 k3 bx
    have hD := hD.storeX t
    generalize ((z6.setCell ⟨gx, 0, none⟩ (.slice t.A t.n t.c)).setCell ⟨gx, 1, none⟩ (.int .i64 t.m)).setCell ⟨gx, 2, none⟩ (.slice t.B t.n t.d) = s8 at hD ⊢
    refine hK.out _ _ _ (fun _ h => h) (⟨hD.x.c0, hD.x.c1⟩) ?_
    clear hK K
    try simp only [Act.put, List.setIfInBounds_toArray, List.set_cons_zero, List.set_cons_succ]
    refine Lex.tree_call pa9 (Lex.want_none rfl) (fun K hK => ?_) Lex.tree_no
    have bx := hD.cy _ rfl
    have k0 := bx.c0
    have k1 := bx.c1
    have k2 := bx.c2
    have k3 := bx.f
    go_simp
    clear k0 k1 k2 k3 bx
    have hD := hD.storeY u
    generalize ((s8.setCell ⟨gy, 0, none⟩ (.slice u.A u.n u.c)).setCell ⟨gy, 1, none⟩ (.int .i64 u.m)).setCell ⟨gy, 2, none⟩ (.slice u.B u.n u.d) = s9 at hD ⊢
    refine hK.out _ _ _ (fun _ h => h) (⟨hD.x.c0, hD.x.c1⟩) ?_
    clear hK K
    try simp only [Act.put, List.setIfInBounds_toArray, List.set_cons_zero, List.set_cons_succ]
    refine Lex.tree_end ?_
    refine NoPanic.normal ?_
    exact ⟨t, u, gx, gy, rfl, hD.done⟩
   refine Lex.tree_call pa6 (Lex.want_none rfl) (fun K hK => ?_) ?_
   ·go_simp
    have hD := hD.allocX
    generalize y2.alloc (.cells #[.slice none 0 0, .int .i64 0, .slice none 0 0] 32) = z6 at hD ⊢
    generalize y2.heap.size = gx at hD ⊢
    refine hK.out _ _ _ (fun _ h => h) (⟨hD.x.c0, hD.x.c1⟩) ?_
    clear hK K
    try simp only [Act.put, List.setIfInBounds_toArray, List.set_cons_zero, List.set_cons_succ]
    refine Lex.tree_call pa5 (Lex.want_none rfl) (fun K hK => ?_) ?_
    ·go_simp
     refine (refNew_any (w := z6) Ao _ co hD.tab hD.x0 hD.hX hD.sch hD.o rfl hco HSP.out).mono ?_
     rintro e y5 ⟨u, rfl, hT, hy⟩
     have hD := (hD.below hy).newY hT
     clear hy hT
     simp only [TV.v]
     refine hK.out _ _ _ (fun _ h => h) (⟨hD.x.c0, hD.x.c1⟩) ?_
     clear hK K
     try simp only [Act.put, List.setIfInBounds_toArray, List.set_cons_zero, List.set_cons_succ]
     refine Lex.tree_call pa7 (Lex.want_none rfl) (fun K hK => ?_) Lex.tree_no
     go_simp
     have hD := hD.allocY
     generalize y5.alloc (.cells #[.slice none 0 0, .int .i64 0, .slice none 0 0] 32) = z7 at hD ⊢
     generalize y5.heap.size = gy at hD ⊢
     refine hK.out _ _ _ (fun _ h => h) (⟨hD.x.c0, hD.x.c1⟩) ?_
     clear hK K
     try simp only [Act.put, List.setIfInBounds_toArray, List.set_cons_zero, List.set_cons_succ]
     refine Lex.tree_call pa8 (Lex.want_none rfl) (fun K hK => ?_) Lex.tree_no
     have bx := hD.cx _ rfl
     have k0 := bx.c0
     have k1 := bx.c1
     have k2 := bx.c2
     have k3 := bx.f
     go_simp
     clear k0 k1 k2 k3 bx
     have hD := hD.storeX t
     generalize ((z7.setCell ⟨gx, 0, none⟩ (.slice t.A t.n t.c)).setCell ⟨gx, 1, none⟩ (.int .i64 t.m)).setCell ⟨gx, 2, none⟩ (.slice t.B t.n t.d) = s8 at hD ⊢
     refine hK.out _ _ _ (fun _ h => h) (⟨hD.x.c0, hD.x.c1⟩) ?_
     clear hK K
     try simp only [Act.put, List.setIfInBounds_toArray, List.set_cons_zero, List.set_cons_succ]
     refine Lex.tree_call pa9 (Lex.want_none rfl) (fun K hK => ?_) Lex.tree_no
     have bx := hD.cy _ rfl
     have k0 := bx.c0
     have k1 := bx.c1
     have k2 := bx.c2
     have k3 := bx.f
     go_simp
     clear k0 k1 k2 k3 bx
     have hD := hD.storeY u
     generalize ((s8.setCell ⟨gy, 0, none⟩ (.slice u.A u.n u.c)).setCell ⟨gy, 1, none⟩ (.int .i64 u.m)).setCell ⟨gy, 2, none⟩ (.slice u.B u.n u.d) = s9 at hD ⊢
     refine hK.out _ _ _ (fun _ h => h) (⟨hD.x.c0, hD.x.c1⟩) ?_
     clear hK K
     try simp only [Act.put, List.setIfInBounds_toArray, List.set_cons_zero, List.set_cons_succ]
     refine Lex.tree_end ?_
     refine NoPanic.normal ?_
     exact ⟨t, u, gx, gy, rfl, hD.done⟩
    refine Lex.tree_call pa7 (Lex.want_none rfl) (fun K hK => ?_) Lex.tree_no
    go_simp
    have hD := hD.allocY
    generalize z6.alloc (.cells #[.slice none 0 0, .int .i64 0, .slice none 0 0] 32) = z7 at hD ⊢
    generalize z6.heap.size = gy at hD ⊢
    refine hK.out _ _ _ (fun _ h => h) (⟨hD.x.c0, hD.x.c1⟩) ?_
    clear hK K
    try simp only [Act.put, List.setIfInBounds_toArray, List.set_cons_zero, List.set_cons_succ]
    refine Lex.tree_call pa5 (Lex.want_none rfl) (fun K hK => ?_) Lex.tree_no
    go_simp
    refine (refNew_any (w := z7) Ao _ co hD.tab hD.x0 hD.hX hD.sch hD.o rfl hco HSP.out).mono ?_
    rintro e y5 ⟨u, rfl, hT, hy⟩
    have hD := (hD.below hy).newY hT
    clear hy hT
    simp only [TV.v]
    refine hK.out _ _ _ (fun _ h => h) (⟨hD.x.c0, hD.x.c1⟩) ?_
    clear hK K
    try simp only [Act.put, List.setIfInBounds_toArray, List.set_cons_zero, List.set_cons_succ]
    refine Lex.tree_call pa8 (Lex.want_none rfl) (fun K hK => ?_) Lex.tree_no
    have bx := hD.cx _ rfl
    have k0 := bx.c0
    have k1 := bx.c1
    have k2 := bx.c2
    have k3 := bx.f
    go_simp
    clear k0 k1 k2 k3 bx
    have hD := hD.storeX t
    generalize ((y5.setCell ⟨gx, 0, none⟩ (.slice t.A t.n t.c)).setCell ⟨gx, 1, none⟩ (.int .i64 t.m)).setCell ⟨gx, 2, none⟩ (.slice t.B t.n t.d) = s8 at hD ⊢
    refine hK.out _ _ _ (fun _ h => h) (⟨hD.x.c0, hD.x.c1⟩) ?_
    clear hK K
    try simp only [Act.put, List.setIfInBounds_toArray, List.set_cons_zero, List.set_cons_succ]
    refine Lex.tree_call pa9 (Lex.want_none rfl) (fun K hK => ?_) Lex.tree_no
    have bx := hD.cy _ rfl
    have k0 := bx.c0
    have k1 := bx.c1
    have k2 := bx.c2
    have k3 := bx.f
    go_simp
    clear k0 k1 k2 k3 bx
    have hD := hD.storeY u
    generalize ((s8.setCell ⟨gy, 0, none⟩ (.slice u.A u.n u.c)).setCell ⟨gy, 1, none⟩ (.int .i64 u.m)).setCell ⟨gy, 2, none⟩ (.slice u.B u.n u.d) = s9 at hD ⊢
    refine hK.out _ _ _ (fun _ h => h) (⟨hD.x.c0, hD.x.c1⟩) ?_
    clear hK K
    try simp only [Act.put, List.setIfInBounds_toArray, List.set_cons_zero, List.set_cons_succ]
    refine Lex.tree_end ?_
    refine NoPanic.normal ?_
    exact ⟨t, u, gx, gy, rfl, hD.done⟩
   refine Lex.tree_call pa7 (Lex.want_none rfl) (fun K hK => ?_) Lex.tree_no
   go_simp
   have hD := hD.allocY
   generalize y2.alloc (.cells #[.slice none 0 0, .int .i64 0, .slice none 0 0] 32) = z7 at hD ⊢
   generalize y2.heap.size = gy at hD ⊢
   refine hK.out _ _ _ (fun _ h => h) (⟨hD.x.c0, hD.x.c1⟩) ?_
   clear hK K
   try simp only [Act.put, List.setIfInBounds_toArray, List.set_cons_zero, List.set_cons_succ]
   refine Lex.tree_call pa5 (Lex.want_none rfl) (fun K hK => ?_) ?_
   ·go_simp
    refine (refNew_any (w := z7) Ao _ co hD.tab hD.x0 hD.hX hD.sch hD.o rfl hco HSP.out).mono ?_
    rintro e y5 ⟨u, rfl, hT, hy⟩
    have hD := (hD.below hy).newY hT
    clear hy hT
    simp only [TV.v]
    refine hK.out _ _ _ (fun _ h => h) (⟨hD.x.c0, hD.x.c1⟩) ?_
    clear hK K
    try simp only [Act.put, List.setIfInBounds_toArray, List.set_cons_zero, List.set_cons_succ]
    refine Lex.tree_call pa6 (Lex.want_none rfl) (fun K hK => ?_) Lex.tree_no
    go_simp
    have hD := hD.allocX
    generalize y5.alloc (.cells #[.slice none 0 0, .int .i64 0, .slice none 0 0] 32) = z6 at hD ⊢
    generalize y5.heap.size = gx at hD ⊢
    refine hK.out _ _ _ (fun _ h => h) (⟨hD.x.c0, hD.x.c1⟩) ?_
    clear hK K
    try simp only [Act.put, List.setIfInBounds_toArray, List.set_cons_zero, List.set_cons_succ]
    refine Lex.tree_call pa8 (Lex.want_none rfl) (fun K hK => ?_) Lex.tree_no
    have bx := hD.cx _ rfl
    have k0 := bx.c0
    have k1 := bx.c1
    have k2 := bx.c2
    have k3 := bx.f
    go_simp
    clear k0 k1 k2 k3 bx
    have hD := hD.storeX t
    generalize ((z6.setCell ⟨gx, 0, none⟩ (.slice t.A t.n t.c)).setCell ⟨gx, 1, none⟩ (.int .i64 t.m)).setCell ⟨gx, 2, none⟩ (.slice t.B t.n t.d) = s8 at hD ⊢
    refine hK.out _ _ _ (fun _ h => h) (⟨hD.x.c0, hD.x.c1⟩) ?_
    clear hK K
    try simp only [Act.put, List.setIfInBounds_toArray, List.set_cons_zero, List.set_cons_succ]
    refine Lex.tree_call pa9 (Lex.want_none rfl) (fun K hK => ?_) Lex.tree_no
    have bx := hD.cy _ rfl
    have k0 := bx.c0
    have k1 := bx.c1
    have k2 := bx.c2
    have k3 := bx.f
    go_simp
    clear k0 k1 k2 k3 bx
    have hD := hD.storeY u
    generalize ((s8.setCell ⟨gy, 0, none⟩ (.slice u.A u.n u.c)).setCell ⟨gy, 1, none⟩ (.int .i64 u.m)).setCell ⟨gy, 2, none⟩ (.slice u.B u.n u.d) = s9 at hD ⊢
    refine hK.out _ _ _ (fun _ h => h) (⟨hD.x.c0, hD.x.c1⟩) ?_
    clear hK K
    try simp only [Act.put, List.setIfInBounds_toArray, List.set_cons_zero, List.set_cons_succ]
    refine Lex.tree_end ?_
    refine NoPanic.normal ?_
    exact ⟨t, u, gx, gy, rfl, hD.done⟩
   refine Lex.tree_call pa6 (Lex.want_none rfl) (fun K hK => ?_) Lex.tree_no
   go_simp
   have hD := hD.allocX
   generalize z7.alloc (.cells #[.slice none 0 0, .int .i64 0, .slice none 0 0] 32) = z6 at hD ⊢
   generalize z7.heap.size = gx at hD ⊢
   refine hK.out _ _ _ (fun _ h => h) (⟨hD.x.c0, hD.x.c1⟩) ?_
   clear hK K
   try simp only [Act.put, List.setIfInBounds_toArray, List.set_cons_zero, List.set_cons_succ]
   refine Lex.tree_call pa5 (Lex.want_none rfl) (fun K hK => ?_) Lex.tree_no
   go_simp
   refine (refNew_any (w := z6) Ao _ co hD.tab hD.x0 hD.hX hD.sch hD.o rfl hco HSP.out).mono ?_
   rintro e y5 ⟨u, rfl, hT, hy⟩
   have hD := (hD.below hy).newY hT
   clear hy hT
   simp only [TV.v]
   refine hK.out _ _ _ (fun _ h => h) (⟨hD.x.c0, hD.x.c1⟩) ?_
   clear hK K
   try simp only [Act.put, List.setIfInBounds_toArray, List.set_cons_zero, List.set_cons_succ]
   refine Lex.tree_call pa8 (Lex.want_none rfl) (fun K hK => ?_) Lex.tree_no
   have bx := hD.cx _ rfl
   have k0 := bx.c0
   have k1 := bx.c1
   have k2 := bx.c2
   have k3 := bx.f
   go_simp
   clear k0 k1 k2 k3 bx
   have hD := hD.storeX t
   generalize ((y5.setCell ⟨gx, 0, none⟩ (.slice t.A t.n t.c)).setCell ⟨gx, 1, none⟩ (.int .i64 t.m)).setCell ⟨gx, 2, none⟩ (.slice t.B t.n t.d) = s8 at hD ⊢
   refine hK.out _ _ _ (fun _ h => h) (⟨hD.x.c0, hD.x.c1⟩) ?_
   clear hK K
   try simp only [Act.put, List.setIfInBounds_toArray, List.set_cons_zero, List.set_cons_succ]
   refine Lex.tree_call pa9 (Lex.want_none rfl) (fun K hK => ?_) Lex.tree_no
   have bx := hD.cy _ rfl
   have k0 := bx.c0
   have k1 := bx.c1
   have k2 := bx.c2
   have k3 := bx.f
   go_simp
   clear k0 k1 k2 k3 bx
   have hD := hD.storeY u
   generalize ((s8.setCell ⟨gy, 0, none⟩ (.slice u.A u.n u.c)).setCell ⟨gy, 1, none⟩ (.int .i64 u.m)).setCell ⟨gy, 2, none⟩ (.slice u.B u.n u.d) = s9 at hD ⊢
   refine hK.out _ _ _ (fun _ h => h) (⟨hD.x.c0, hD.x.c1⟩) ?_
   clear hK K
   try simp only [Act.put, List.setIfInBounds_toArray, List.set_cons_zero, List.set_cons_succ]
   refine Lex.tree_end ?_
   refine NoPanic.normal ?_
   exact ⟨t, u, gx, gy, rfl, hD.done⟩
  refine Lex.tree_call pa6 (Lex.want_none rfl) (fun K hK => ?_) ?_
  ·go_simp
   have hD := hD.allocX
   generalize v3.alloc (.cells #[.slice none 0 0, .int .i64 0, .slice none 0 0] 32) = z6 at hD ⊢
   generalize v3.heap.size = gx at hD ⊢
   refine hK.out _ _ _ (fun _ h => h) (⟨hD.x.c0, hD.x.c1⟩) ?_
   clear hK K
   try simp only [Act.put, List.setIfInBounds_toArray, List.set_cons_zero, List.set_cons_succ]
   refine Lex.tree_call pa2 (Lex.want_none rfl) (fun K hK => ?_) ?_
   ·go_simp
    refine (new_any (w := z6) Ao _ co hD.tab hD.x0 hD.hX hD.sch hD.o rfl hco HSP.out).mono ?_
    rintro e y2 ⟨t, rfl, hT, hy⟩
    have hD := (hD.below hy).newX hT
    clear hy hT
    simp only [TV.v]
    refine hK.out _ _ _ (fun _ h => h) (⟨hD.x.c0, hD.x.c1⟩) ?_
    clear hK K
    try simp only [Act.put, List.setIfInBounds_toArray, List.set_cons_zero, List.set_cons_succ]
    refine Lex.tree_call pa5 (Lex.want_none rfl) (fun K hK => ?_) ?_
    ·go_simp
     refine (refNew_any (w := y2) Ao _ co hD.tab hD.x0 hD.hX hD.sch hD.o rfl hco HSP.out).mono ?_
     rintro e y5 ⟨u, rfl, hT, hy⟩
     have hD := (hD.below hy).newY hT
     clear hy hT
     simp only [TV.v]
     refine hK.out _ _ _ (fun _ h => h) (⟨hD.x.c0, hD.x.c1⟩) ?_
     clear hK K
     try simp only [Act.put, List.setIfInBounds_toArray, List.set_cons_zero, List.set_cons_succ]
     refine Lex.tree_call pa7 (Lex.want_none rfl) (fun K hK => ?_) Lex.tree_no
     go_simp
     have hD := hD.allocY
     generalize y5.alloc (.cells #[.slice none 0 0, .int .i64 0, .slice none 0 0] 32) = z7 at hD ⊢
     generalize y5.heap.size = gy at hD ⊢
     refine hK.out _ _ _ (fun _ h => h) (⟨hD.x.c0, hD.x.c1⟩) ?_
     clear hK K
     try simp only [Act.put, List.setIfInBounds_toArray, List.set_cons_zero, List.set_cons_succ]
     refine Lex.tree_call pa8 (Lex.want_none rfl) (fun K hK => ?_) Lex.tree_no
     have bx := hD.cx _ rfl
     have k0 := bx.c0
     have k1 := bx.c1
     have k2 := bx.c2
     have k3 := bx.f
     go_simp
     clear k0 k1 k2 k3 bx
     have hD := hD.storeX t
     generalize ((z7.setCell ⟨gx, 0, none⟩ (.slice t.A t.n t.c)).setCell ⟨gx, 1, none⟩ (.int .i64 t.m)).setCell ⟨gx, 2, none⟩ (.slice t.B t.n t.d) = s8 at hD ⊢
     refine hK.out _ _ _ (fun _ h => h) (⟨hD.x.c0, hD.x.c1⟩) ?_
     clear hK K
     try simp only [Act.put, List.setIfInBounds_toArray, List.set_cons_zero, List.set_cons_succ]
     refine Lex.tree_call pa9 (Lex.want_none rfl) (fun K hK => ?_) Lex.tree_no
     have bx := hD.cy _ rfl
     have k0 := bx.c0
     have k1 := bx.c1
     have k2 := bx.c2
     have k3 := bx.f
     go_simp
     clear k0 k1 k2 k3 bx
     have hD := hD.storeY u
     generalize ((s8.setCell ⟨gy, 0, none⟩ (.slice u.A u.n u.c)).setCell ⟨gy, 1, none⟩ (.int .i64 u.m)).setCell ⟨gy, 2, none⟩ (.slice u.B u.n u.d) = s9 at hD ⊢
     refine hK.out _ _ _ (fun _ h => h) (⟨hD.x.c0, hD.x.c1⟩) ?_
     clear hK K
     try simp only [Act.put, List.setIfInBounds_toArray, List.set_cons_zero, List.set_cons_succ]
     refine Lex.tree_end ?_
     refine NoPanic.normal ?_
     exact ⟨t, u, gx, gy, rfl, hD.done⟩
    refine Lex.tree_call pa7 (Lex.want_none rfl) (fun K hK => ?_) Lex.tree_no
    go_simp
    have hD := hD.allocY
    generalize y2.alloc (.cells #[.slice none 0 0, .int .i64 0, .slice none 0 0] 32) = z7 at hD ⊢
    generalize y2.heap.size = gy at hD ⊢
    refine hK.out _ _ _ (fun _ h => h) (⟨hD.x.c0, hD.x.c1⟩) ?_
    clear hK K
    try simp only [Act.put, List.setIfInBounds_toArray, List.set_cons_zero, List.set_cons_succ]
    refine Lex.tree_call pa5 (Lex.want_none rfl) (fun K hK => ?_) Lex.tree_no
    go_simp
    refine (refNew_any (w := z7) Ao _ co hD.tab hD.x0 hD.hX hD.sch hD.o rfl hco HSP.out).mono ?_
    rintro e y5 ⟨u, rfl, hT, hy⟩
    have hD := (hD.below hy).newY hT
    clear hy hT
    simp only [TV.v]
    refine hK.out _ _ _ (fun _ h => h) (⟨hD.x.c0, hD.x.c1⟩) ?_
    clear hK K
    try simp only [Act.put, List.setIfInBounds_toArray, List.set_cons_zero, List.set_cons_succ]
    refine Lex.tree_call pa8 (Lex.want_none rfl) (fun K hK => ?_) Lex.tree_no
    have bx := hD.cx _ rfl
    have k0 := bx.c0
    have k1 := bx.c1
    have k2 := bx.c2
    have k3 := bx.f
    go_simp
    clear k0 k1 k2 k3 bx
    have hD := hD.storeX t
    generalize ((y5.setCell ⟨gx, 0, none⟩ (.slice t.A t.n t.c)).setCell ⟨gx, 1, none⟩ (.int .i64 t.m)).setCell ⟨gx, 2, none⟩ (.slice t.B t.n t.d) = s8 at hD ⊢
    refine hK.out _ _ _ (fun _ h => h) (⟨hD.x.c0, hD.x.c1⟩) ?_
    clear hK K
    try simp only [Act.put, List.setIfInBounds_toArray, List.set_cons_zero, List.set_cons_succ]
    refine Lex.tree_call pa9 (Lex.want_none rfl) (fun K hK => ?_) Lex.tree_no
    have bx := hD.cy _ rfl
    have k0 := bx.c0
    have k1 := bx.c1
    have k2 := bx.c2
    have k3 := bx.f
    go_simp
    clear k0 k1 k2 k3 bx
    have hD := hD.storeY u
    generalize ((s8.setCell ⟨gy, 0, none⟩ (.slice u.A u.n u.c)).setCell ⟨gy, 1, none⟩ (.int .i64 u.m)).setCell ⟨gy, 2, none⟩ (.slice u.B u.n u.d) = s9 at hD ⊢
    refine hK.out _ _ _ (fun _ h => h) (⟨hD.x.c0, hD.x.c1⟩) ?_
    clear hK K
    try simp only [Act.put, List.setIfInBounds_toArray, List.set_cons_zero, List.set_cons_succ]
    refine Lex.tree_end ?_
    refine NoPanic.normal ?_
    exact ⟨t, u, gx, gy, rfl, hD.done⟩
   refine Lex.tree_call pa7 (Lex.want_none rfl) (fun K hK => ?_) Lex.tree_no
   go_simp
   have hD := hD.allocY
   generalize z6.alloc (.cells #[.slice none 0 0, .int .i64 0, .slice none 0 0] 32) = z7 at hD ⊢
   generalize z6.heap.size = gy at hD ⊢
   refine hK.out _ _ _ (fun _ h => h) (⟨hD.x.c0, hD.x.c1⟩) ?_
   clear hK K
   try simp only [Act.put, List.setIfInBounds_toArray, List.set_cons_zero, List.set_cons_succ]
   refine Lex.tree_call pa2 (Lex.want_none rfl) (fun K hK => ?_) Lex.tree_no
   go_simp
   refine (new_any (w := z7) Ao _ co hD.tab hD.x0 hD.hX hD.sch hD.o rfl hco HSP.out).mono ?_
   rintro e y2 ⟨t, rfl, hT, hy⟩
   have hD := (hD.below hy).newX hT
   clear hy hT
   simp only [TV.v]
   refine hK.out _ _ _ (fun _ h => h) (⟨hD.x.c0, hD.x.c1⟩) ?_
   clear hK K
   try simp only [Act.put, List.setIfInBounds_toArray, List.set_cons_zero, List.set_cons_succ]
   refine Lex.tree_call pa5 (Lex.want_none rfl) (fun K hK => ?_) Lex.tree_no
   go_simp
   refine (refNew_any (w := y2) Ao _ co hD.tab hD.x0 hD.hX hD.sch hD.o rfl hco HSP.out).mono ?_
   rintro e y5 ⟨u, rfl, hT, hy⟩
   have hD := (hD.below hy).newY hT
   clear hy hT
   simp only [TV.v]
   refine hK.out _ _ _ (fun _ h => h) (⟨hD.x.c0, hD.x.c1⟩) ?_
   clear hK K
   try simp only [Act.put, List.setIfInBounds_toArray, List.set_cons_zero, List.set_cons_succ]
   refine Lex.tree_call pa8 (Lex.want_none rfl) (fun K hK => ?_) Lex.tree_no
   have bx := hD.cx _ rfl
   have k0 := bx.c0
   have k1 := bx.c1
   have k2 := bx.c2
   have k3 := bx.f
   go_simp
   clear k0 k1 k2 k3 bx
   have hD := hD.storeX t
   generalize ((y5.setCell ⟨gx, 0, none⟩ (.slice t.A t.n t.c)).setCell ⟨gx, 1, none⟩ (.int .i64 t.m)).setCell ⟨gx, 2, none⟩ (.slice t.B t.n t.d) = s8 at hD ⊢
   refine hK.out _ _ _ (fun _ h => h) (⟨hD.x.c0, hD.x.c1⟩) ?_
   clear hK K
   try simp only [Act.put, List.setIfInBounds_toArray, List.set_cons_zero, List.set_cons_succ]
   refine Lex.tree_call pa9 (Lex.want_none rfl) (fun K hK => ?_) Lex.tree_no
   have bx := hD.cy _ rfl
   have k0 := bx.c0
   have k1 := bx.c1
   have k2 := bx.c2
   have k3 := bx.f
   go_simp
   clear k0 k1 k2 k3 bx
   have hD := hD.storeY u
   generalize ((s8.setCell ⟨gy, 0, none⟩ (.slice u.A u.n u.c)).setCell ⟨gy, 1, none⟩ (.int .i64 u.m)).setCell ⟨gy, 2, none⟩ (.slice u.B u.n u.d) = s9 at hD ⊢
   refine hK.out _ _ _ (fun _ h => h) (⟨hD.x.c0, hD.x.c1⟩) ?_
   clear hK K
   try simp only [Act.put, List.setIfInBounds_toArray, List.set_cons_zero, List.set_cons_succ]
   refine Lex.tree_end ?_
   refine NoPanic.normal ?_
   exact ⟨t, u, gx, gy, rfl, hD.done⟩
  refine Lex.tree_call pa7 (Lex.want_none rfl) (fun K hK => ?_) Lex.tree_no
  go_simp
  have hD := hD.allocY
  generalize v3.alloc (.cells #[.slice none 0 0, .int .i64 0, .slice none 0 0] 32) = z7 at hD ⊢
  generalize v3.heap.size = gy at hD ⊢
  refine hK.out _ _ _ (fun _ h => h) (⟨hD.x.c0, hD.x.c1⟩) ?_
  clear hK K
  try simp only [Act.put, List.setIfInBounds_toArray, List.set_cons_zero, List.set_cons_succ]
  refine Lex.tree_call pa2 (Lex.want_none rfl) (fun K hK => ?_) ?_
  ·go_simp
   refine (new_any (w := z7) Ao _ co hD.tab hD.x0 hD.hX hD.sch hD.o rfl hco HSP.out).mono ?_
   rintro e y2 ⟨t, rfl, hT, hy⟩
   have hD := (hD.below hy).newX hT
   clear hy hT
   simp only [TV.v]
   refine hK.out _ _ _ (fun _ h => h) (⟨hD.x.c0, hD.x.c1⟩) ?_
   clear hK K
   try simp only [Act.put, List.setIfInBounds_toArray, List.set_cons_zero, List.set_cons_succ]
   refine Lex.tree_call pa5 (Lex.want_none rfl) (fun K hK => ?_) ?_
   ·go_simp
    refine (refNew_any (w := y2) Ao _ co hD.tab hD.x0 hD.hX hD.sch hD.o rfl hco HSP.out).mono ?_
    rintro e y5 ⟨u, rfl, hT, hy⟩
    have hD := (hD.below hy).newY hT
    clear hy hT
    simp only [TV.v]
    refine hK.out _ _ _ (fun _ h => h) (⟨hD.x.c0, hD.x.c1⟩) ?_
    clear hK K
    try simp only [Act.put, List.setIfInBounds_toArray, List.set_cons_zero, List.set_cons_succ]
    refine Lex.tree_call pa6 (Lex.want_none rfl) (fun K hK => ?_) Lex.tree_no
    go_simp
    have hD := hD.allocX
    generalize y5.alloc (.cells #[.slice none 0 0, .int .i64 0, .slice none 0 0] 32) = z6 at hD ⊢
    generalize y5.heap.size = gx at hD ⊢
    refine hK.out _ _ _ (fun _ h => h) (⟨hD.x.c0, hD.x.c1⟩) ?_
    clear hK K
    try simp only [Act.put, List.setIfInBounds_toArray, List.set_cons_zero, List.set_cons_succ]
    refine Lex.tree_call pa8 (Lex.want_none rfl) (fun K hK => ?_) Lex.tree_no
    have bx := hD.cx _ rfl
    have k0 := bx.c0
    have k1 := bx.c1
    have k2 := bx.c2
    have k3 := bx.f
    go_simp
    clear k0 k1 k2 k3 bx
    have hD := hD.storeX t
    generalize ((z6.setCell ⟨gx, 0, none⟩ (.slice t.A t.n t.c)).setCell ⟨gx, 1, none⟩ (.int .i64 t.m)).setCell ⟨gx, 2, none⟩ (.slice t.B t.n t.d) = s8 at hD ⊢
    refine hK.out _ _ _ (fun _ h => h) (⟨hD.x.c0, hD.x.c1⟩) ?_
    clear hK K
    try simp only [Act.put, List.setIfInBounds_toArray, List.set_cons_zero, List.set_cons_succ]
    refine Lex.tree_call pa9 (Lex.want_none rfl) (fun K hK => ?_) Lex.tree_no
    have bx := hD.cy _ rfl
    have k0 := bx.c0
    have k1 := bx.c1
    have k2 := bx.c2
    have k3 := bx.f
    go_simp
    clear k0 k1 k2 k3 bx
    have hD := hD.storeY u
    generalize ((s8.setCell ⟨gy, 0, none⟩ (.slice u.A u.n u.c)).setCell ⟨gy, 1, none⟩ (.int .i64 u.m)).setCell ⟨gy, 2, none⟩ (.slice u.B u.n u.d) = s9 at hD ⊢
    refine hK.out _ _ _ (fun _ h => h) (⟨hD.x.c0, hD.x.c1⟩) ?_
    clear hK K
    try simp only [Act.put, List.setIfInBounds_toArray, List.set_cons_zero, List.set_cons_succ]
    refine Lex.tree_end ?_
    refine NoPanic.normal ?_
    exact ⟨t, u, gx, gy, rfl, hD.done⟩
   refine Lex.tree_call pa6 (Lex.want_none rfl) (fun K hK => ?_) Lex.tree_no
   go_simp
   have hD := hD.allocX
   generalize y2.alloc (.cells #[.slice none 0 0, .int .i64 0, .slice none 0 0] 32) = z6 at hD ⊢
   generalize y2.heap.size = gx at hD ⊢
   refine hK.out _ _ _ (fun _ h => h) (⟨hD.x.c0, hD.x.c1⟩) ?_
   clear hK K
   try simp only [Act.put, List.setIfInBounds_toArray, List.set_cons_zero, List.set_cons_succ]
   refine Lex.tree_call pa5 (Lex.want_none rfl) (fun K hK => ?_) Lex.tree_no
   go_simp
   refine (refNew_any (w := z6) Ao _ co hD.tab hD.x0 hD.hX hD.sch hD.o rfl hco HSP.out).mono ?_
   rintro e y5 ⟨u, rfl, hT, hy⟩
   have hD := (hD.below hy).newY hT
   clear hy hT
   simp only [TV.v]
   refine hK.out _ _ _ (fun _ h => h) (⟨hD.x.c0, hD.x.c1⟩) ?_
   clear hK K
   try simp only [Act.put, List.setIfInBounds_toArray, List.set_cons_zero, List.set_cons_succ]
   refine Lex.tree_call pa8 (Lex.want_none rfl) (fun K hK => ?_) Lex.tree_no
   have bx := hD.cx _ rfl
   have k0 := bx.c0
   have k1 := bx.c1
   have k2 := bx.c2
   have k3 := bx.f
   go_simp
   clear k0 k1 k2 k3 bx
   have hD := hD.storeX t
   generalize ((y5.setCell ⟨gx, 0, none⟩ (.slice t.A t.n t.c)).setCell ⟨gx, 1, none⟩ (.int .i64 t.m)).setCell ⟨gx, 2, none⟩ (.slice t.B t.n t.d) = s8 at hD ⊢
   refine hK.out _ _ _ (fun _ h => h) (⟨hD.x.c0, hD.x.c1⟩) ?_
   clear hK K
   try simp only [Act.put, List.setIfInBounds_toArray, List.set_cons_zero, List.set_cons_succ]
   refine Lex.tree_call pa9 (Lex.want_none rfl) (fun K hK => ?_) Lex.tree_no
   have bx := hD.cy _ rfl
   have k0 := bx.c0
   have k1 := bx.c1
   have k2 := bx.c2
   have k3 := bx.f
   go_simp
   clear k0 k1 k2 k3 bx
   have hD := hD.storeY u
   generalize ((s8.setCell ⟨gy, 0, none⟩ (.slice u.A u.n u.c)).setCell ⟨gy, 1, none⟩ (.int .i64 u.m)).setCell ⟨gy, 2, none⟩ (.slice u.B u.n u.d) = s9 at hD ⊢
   refine hK.out _ _ _ (fun _ h => h) (⟨hD.x.c0, hD.x.c1⟩) ?_
   clear hK K
   try simp only [Act.put, List.setIfInBounds_toArray, List.set_cons_zero, List.set_cons_succ]
   refine Lex.tree_end ?_
   refine NoPanic.normal ?_
   exact ⟨t, u, gx, gy, rfl, hD.done⟩
  refine Lex.tree_call pa6 (Lex.want_none rfl) (fun K hK => ?_) Lex.tree_no
  go_simp
  have hD := hD.allocX
  generalize z7.alloc (.cells #[.slice none 0 0, .int .i64 0, .slice none 0 0] 32) = z6 at hD ⊢
  generalize z7.heap.size = gx at hD ⊢
  refine hK.out _ _ _ (fun _ h => h) (⟨hD.x.c0, hD.x.c1⟩) ?_
  clear hK K
  try simp only [Act.put, List.setIfInBounds_toArray, List.set_cons_zero, List.set_cons_succ]
  refine Lex.tree_call pa2 (Lex.want_none rfl) (fun K hK => ?_) Lex.tree_no
  go_simp
  refine (new_any (w := z6) Ao _ co hD.tab hD.x0 hD.hX hD.sch hD.o rfl hco HSP.out).mono ?_
  rintro e y2 ⟨t, rfl, hT, hy⟩
  have hD := (hD.below hy).newX hT
  clear hy hT
  simp only [TV.v]
  refine hK.out _ _ _ (fun _ h => h) (⟨hD.x.c0, hD.x.c1⟩) ?_
  clear hK K
  try simp only [Act.put, List.setIfInBounds_toArray, List.set_cons_zero, List.set_cons_succ]
  refine Lex.tree_call pa5 (Lex.want_none rfl) (fun K hK => ?_) Lex.tree_no
  go_simp
  refine (refNew_any (w := y2) Ao _ co hD.tab hD.x0 hD.hX hD.sch hD.o rfl hco HSP.out).mono ?_
  rintro e y5 ⟨u, rfl, hT, hy⟩
  have hD := (hD.below hy).newY hT
  clear hy hT
  simp only [TV.v]
  refine hK.out _ _ _ (fun _ h => h) (⟨hD.x.c0, hD.x.c1⟩) ?_
  clear hK K
  try simp only [Act.put, List.setIfInBounds_toArray, List.set_cons_zero, List.set_cons_succ]
  refine Lex.tree_call pa8 (Lex.want_none rfl) (fun K hK => ?_) Lex.tree_no
  have bx := hD.cx _ rfl
  have k0 := bx.c0
  have k1 := bx.c1
  have k2 := bx.c2
  have k3 := bx.f
  go_simp
  clear k0 k1 k2 k3 bx
  have hD := hD.storeX t
  generalize ((y5.setCell ⟨gx, 0, none⟩ (.slice t.A t.n t.c)).setCell ⟨gx, 1, none⟩ (.int .i64 t.m)).setCell ⟨gx, 2, none⟩ (.slice t.B t.n t.d) = s8 at hD ⊢
  refine hK.out _ _ _ (fun _ h => h) (⟨hD.x.c0, hD.x.c1⟩) ?_
  clear hK K
  try simp only [Act.put, List.setIfInBounds_toArray, List.set_cons_zero, List.set_cons_succ]
  refine Lex.tree_call pa9 (Lex.want_none rfl) (fun K hK => ?_) Lex.tree_no
  have bx := hD.cy _ rfl
  have k0 := bx.c0
  have k1 := bx.c1
  have k2 := bx.c2
  have k3 := bx.f
  go_simp
  clear k0 k1 k2 k3 bx
  have hD := hD.storeY u
  generalize ((s8.setCell ⟨gy, 0, none⟩ (.slice u.A u.n u.c)).setCell ⟨gy, 1, none⟩ (.int .i64 u.m)).setCell ⟨gy, 2, none⟩ (.slice u.B u.n u.d) = s9 at hD ⊢
  refine hK.out _ _ _ (fun _ h => h) (⟨hD.x.c0, hD.x.c1⟩) ?_
  clear hK K
  try simp only [Act.put, List.setIfInBounds_toArray, List.set_cons_zero, List.set_cons_succ]
  refine Lex.tree_end ?_
  refine NoPanic.normal ?_
  exact ⟨t, u, gx, gy, rfl, hD.done⟩
 clear hD hco
 rintro _ w5 ⟨t, u, gx, gy, rfl, hD⟩
 generalize newR (oneS mc) cs.length = r at hD
 have v0 := hD.vx.c0
 have v1 := hD.vx.c1
 have v2 := hD.vx.c2
 have k0 := hD.vy.c0
 have k1 := hD.vy.c1
 have k2 := hD.vy.c2
 go_wp2_with fail
 clear v0 v1 v2 k0 k1 k2
 refine (refSame_any hD.t hD.u rfl rfl rfl).mono ?_
 rintro e w6 ⟨rfl, hy⟩
 have hD := hD.below hy
 clear hy
 go_wp2
 go_loopw [8] (fun i W => ∃ (q : Nat) (t u : TV) (r : R), q ≤ m ∧ i = .int .i64 q ∧ PlB w g gx gy mc cp nm A cs t u r r W) (fun i _ => m - (intOf i).toNat)
 case atStart => exact ⟨0, t, u, r, Nat.zero_le _, rfl, hD⟩
 case round =>
  clear hD
  obtain ⟨q, t, u, r, hq, rfl, hD⟩ := hrel
  by_cases hlt : q < m
  ·have hl : l[q]? = some (l[q]'(by rw [HI.out.2.2]; exact hlt)) := List.getElem?_eq_getElem _
   generalize (l[q]'(by rw [HI.out.2.2]; exact hlt)) = y at hl
   obtain ⟨b1, o1, rfl, hb1, h8, hA⟩ := HI.out.2.1.at hl
   have hb1 : b1 < g := by omega
   have HSP := Lib.hid (HS20.out y (List.mem_of_getElem? hl))
   obtain ⟨⟨rA, rn, rc, sB, sp, sd⟩, ⟨ak, asl, ac, arow, ⟨vk, vn, vs⟩, al⟩⟩ := y
   simp only at hA
   have i1 : (q : Int) < (m : Int) := by omega
   have i0 : (0 : Int) ≤ (q : Int) := by omega
   clear hl
   have h8 := h8.below hD.b hb1
   have a0 := h8.c0
   have a1 := h8.c1
   have a2 := h8.c2
   have a3 := h8.c3
   have a4 := h8.c4
   have a5 := h8.c5
   have a6 := h8.c6
   have a7 := h8.c7
   simp only at a0 a1 a2 a3 a4 a5 a6 a7
   have c0 := hD.x.c0
   have c1 := hD.x.c1
   have v0 := hD.vx.c0
   have v1 := hD.vx.c1
   have v2 := hD.vx.c2
   have l1 := hD.x.lt
   have l2 := hD.vx.lt
   go_wp2_with fail
   clear a0 a1 a2 a3 a4 a5 a6 a7 c0 c1 v0 v1 v2 l1 l2 h8
   have hn := (Below.refl wr.heap.size wr).alloc (Nat.le_refl _) (.cells #[.int .i64 ak, .int .i64 asl, .int .i64 ac, .slice rA rn rc, .int .i64 vk, .int .i64 vn, .string vs, .slice sB sp sd] 39)
   have hb := BoxL.new wr ⟨rA, rn, rc, sB, sp, sd⟩ ⟨ak, asl, ac, arow, ⟨vk, vn, vs⟩, al⟩ 39
   simp only at hb
   have hne : Hid (wr.heap.size ≠ gx ∧ wr.heap.size ≠ gy) := Lib.hid ⟨by have := hD.vx.lt; omega, by have := hD.vy.lt; omega⟩
   have hD := hD.below hn
   clear hn
   generalize wr.alloc (.cells #[.int .i64 ak, .int .i64 asl, .int .i64 ac, .slice rA rn rc, .int .i64 vk, .int .i64 vn, .string vs, .slice sB sp sd] 39) = z1 at hD hb ⊢
   generalize wr.heap.size = ga at hb hne ⊢
   have hcl := does_any (w := z1) hD.hX (hD.sch HI.out.1 HC.out.1) hD.t ((hA.below hD.b hle).mono hD.old) HSP.out
   obtain ⟨r', ys, ye, hdd⟩ : ∃ r' ys ye, doesR cs r ⟨ak, asl, ac, arow, ⟨vk, vn, vs⟩, al⟩ = (r', ys, ye) := ⟨_, _, _, rfl⟩
   rw [hdd] at hcl
   refine hcl.mono ?_
   rintro e y1 ⟨u1, rfl, hU, hy⟩
   have hD := hD.below hy
   have hb := hb.below hy
   clear hy hcl
   simp only [TV.v]
   simp only at hU
   have v0 := hD.vx.c0
   have v1 := hD.vx.c1
   have v2 := hD.vx.c2
   have vf := hD.vx.f
   have l2 := hD.vx.lt
   go_upto_region 14 with fail
   generalize hW : ((y1.setCell ⟨gx, 0, none⟩ (.slice u1.A u1.n u1.c)).setCell ⟨gx, 1, none⟩ (.int .i64 u1.m)).setCell ⟨gx, 2, none⟩ (.slice u1.B u1.n u1.d) = W8
   have hP := hD.putX hU hW
   have hw8 : Bar gx y1 W8 := hW ▸ bar_put y1 gx (.slice u1.A u1.n u1.c) (.int .i64 u1.m) (.slice u1.B u1.n u1.d)
   have hb := hb.bar hw8 hne.out.1
   have hn := (Below.refl W8.heap.size W8).alloc (Nat.le_refl _) (.cells #[.slice u1.A u1.n u1.c, .int .i64 u1.m, .slice u1.B u1.n u1.d] 32)
   have hP := hP.below hn
   have hb := hb.below hn
   clear hn hw8 hU hD v0 v1 v2 vf l2 hW
   generalize W8.alloc (.cells #[.slice u1.A u1.n u1.c, .int .i64 u1.m, .slice u1.B u1.n u1.d] 32) = z2 at hP hb ⊢
   generalize y1.heap.size = gu
   have b0' := hb.a.c0
   simp only at b0'
   go_upto_block 2 with fail
   clear b0'
   go_cut [10, 11, 15, 16] from 44 to 200 (fun s10 s11 s15 s16 wx => s10 = .int .i64 ye ∧ s11 = .int .i64 ys ∧ ∃ v, PlB w g gx gy mc cp nm A cs u1 v r' r' wx ∧ BoxL wx ga ⟨rA, rn, rc, sB, sp, sd⟩ ⟨ak, asl, ac, arow, ⟨vk, vn, vs⟩, al⟩)
   case first =>
    as_aux_lemma =>
     by_cases k0 : ak = 0
     ·subst k0
      have hr := does_0 hdd
      have c0 := hP.x.c0
      have c1 := hP.x.c1
      have v0 := hP.vy.c0
      have v1 := hP.vy.c1
      have v2 := hP.vy.c2
      have a3 := hb.a.c3
      simp only at a3
      have hA := (hA.below hP.b hle).mono hP.old
      go_wp2_with fail
      clear c0 c1 v0 v1 v2 a3
      have hcl := refAdd_any (w := z2) rA rn rc 0 hP.hX (hP.sch HI.out.1 HC.out.1) hP.u hA.row hA.n hA.c hA.n9 hA.ok.r
      rw [hr] at hcl
      refine hcl.mono ?_
      rintro e y3 ⟨v, rfl, hV, hy⟩
      have hP := hP.below hy
      have hb := hb.below hy
      clear hy hcl hdd hr
      simp only [TV.v]
      simp only at hV
      have v0 := hP.vy.c0
      have v1 := hP.vy.c1
      have v2 := hP.vy.c2
      have vf := hP.vy.f
      have l2 := hP.vy.lt
      go_wp2
      go_meet
      case rel => exact ⟨rfl, rfl, v, hP.putY hV rfl, hb.bar (bar_put y3 gy (.slice v.A v.n v.c) (.int .i64 v.m) (.slice v.B v.n v.d)) hne.out.2⟩
     by_cases k1 : ak = 1
     ·subst k1
      have hr := does_1 hdd
      obtain rfl := does_1y hdd
      have c0 := hP.x.c0
      have c1 := hP.x.c1
      have v0 := hP.vy.c0
      have v1 := hP.vy.c1
      have v2 := hP.vy.c2
      have a1 := hb.a.c1
      have a2 := hb.a.c2
      have a4 := hb.a.c4
      have a5 := hb.a.c5
      have a6 := hb.a.c6
      simp only at a1 a2 a4 a5 a6
      have hA := (hA.below hP.b hle).mono hP.old
      go_wp2_with fail
      clear c0 c1 v0 v1 v2 a1 a2 a4 a5 a6
      have hcl := refSet_any (w := z2) asl ac ⟨vk, vn, vs⟩ hP.hX (hP.sch HI.out.1 HC.out.1) hP.u hA.ok.s0 hA.ok.s1 hA.ok.c0 hA.ok.c1 hA.ok.v
      rw [hr] at hcl
      refine hcl.mono ?_
      rintro e y3 ⟨v, rfl, hV, hy⟩
      have hP := hP.below hy
      have hb := hb.below hy
      clear hy hcl hdd hr
      simp only [TV.v]
      simp only at hV
      have v0 := hP.vy.c0
      have v1 := hP.vy.c1
      have v2 := hP.vy.c2
      have vf := hP.vy.f
      have l2 := hP.vy.lt
      go_wp2
      go_meet
      case rel => exact ⟨rfl, rfl, v, hP.putY hV rfl, hb.bar (bar_put y3 gy (.slice v.A v.n v.c) (.int .i64 v.m) (.slice v.B v.n v.d)) hne.out.2⟩
     by_cases k2 : ak = 2
     ·subst k2
      have hr := does_2 hdd
      obtain rfl := does_2y hdd
      have c0 := hP.x.c0
      have c1 := hP.x.c1
      have v0 := hP.vy.c0
      have v1 := hP.vy.c1
      have v2 := hP.vy.c2
      have a1 := hb.a.c1
      simp only at a1
      have hA := (hA.below hP.b hle).mono hP.old
      go_wp2_with fail
      clear c0 c1 v0 v1 v2 a1
      have hcl := refDrop_any (w := z2) asl hP.hX (hP.sch HI.out.1 HC.out.1) hP.u hA.ok.s0 hA.ok.s1
      rw [hr] at hcl
      refine hcl.mono ?_
      rintro e y3 ⟨v, rfl, hV, hy⟩
      have hP := hP.below hy
      have hb := hb.below hy
      clear hy hcl hdd hr
      simp only [TV.v]
      simp only at hV
      have v0 := hP.vy.c0
      have v1 := hP.vy.c1
      have v2 := hP.vy.c2
      have vf := hP.vy.f
      have l2 := hP.vy.lt
      go_wp2
      go_meet
      case rel => exact ⟨rfl, rfl, v, hP.putY hV rfl, hb.bar (bar_put y3 gy (.slice v.A v.n v.c) (.int .i64 v.m) (.slice v.B v.n v.d)) hne.out.2⟩
     by_cases k3 : ak = 3
     ·subst k3
      obtain ⟨bl, hr, hys, rfl⟩ := does_3 hdd
      have c0 := hP.x.c0
      have c1 := hP.x.c1
      have v0 := hP.vy.c0
      have v1 := hP.vy.c1
      have v2 := hP.vy.c2
      have a7 := hb.c7
      simp only at a7
      have hA := (hA.below hP.b hle).mono hP.old
      go_wp2_with fail
      clear c0 c1 v0 v1 v2 a7
      have hcl := refLay_any (w := z2) sB sp sd hP.hX (hP.sch HI.out.1 HC.out.1) hP.u hA.sp hA.p hA.d hA.p9 (fun g hg => Nat.le_trans (hA.g9 g hg) (by decide))
      rw [hr] at hcl
      refine hcl.mono ?_
      rintro e y3 ⟨v, rfl, hV, hy⟩
      have hP := hP.below hy
      have hb := hb.below hy
      clear hy hcl hdd hr
      simp only [TV.v]
      simp only at hV
      have v0 := hP.vy.c0
      have v1 := hP.vy.c1
      have v2 := hP.vy.c2
      have vf := hP.vy.f
      have l2 := hP.vy.lt
      cases bl
      all_goals
       simp only [if_true, if_false, Bool.false_eq_true, if_neg, if_pos] at hys
       subst hys
       go_wp2
       go_meet
       case rel =>
        generalize hW : ((y3.setCell ⟨gy, 0, none⟩ (.slice v.A v.n v.c)).setCell ⟨gy, 1, none⟩ (.int .i64 v.m)).setCell ⟨gy, 2, none⟩ (.slice v.B v.n v.d) = W8
        have hQ := hP.putY hV hW
        have hbq := hb.bar (hW ▸ bar_put y3 gy (.slice v.A v.n v.c) (.int .i64 v.m) (.slice v.B v.n v.d)) hne.out.2
        have hn := (Below.refl W8.heap.size W8).alloc (Nat.le_refl _) (.cells #[.slice v.A v.n v.c, .int .i64 v.m, .slice v.B v.n v.d] 32)
        exact ⟨rfl, rfl, v, hQ.below hn, hbq.below hn⟩
     ·obtain ⟨rfl, rfl, rfl⟩ := does_4 hdd k0 k1 k2 k3
      have k0' : (ak == 0) = false := beq_eq_false_iff_ne.2 k0
      have k1' : (ak == 1) = false := beq_eq_false_iff_ne.2 k1
      have k2' : (ak == 2) = false := beq_eq_false_iff_ne.2 k2
      have k3' : (ak == 3) = false := beq_eq_false_iff_ne.2 k3
      go_wp2
      go_meet
      case rel => exact ⟨rfl, rfl, _, hP, hb⟩
   case rest =>
    obtain ⟨rfl, rfl, v, hQ, hbq⟩ := hcut
    clear hP hb
    have HOK := Lib.hid hA.ok
    have hn1 := row_few (s := asl) hQ.t.ok
    clear hA hdd
    obtain ⟨o, ho⟩ : ∃ o, cellR cs r' asl ac = o := ⟨_, rfl⟩
    obtain ⟨oc, hoc⟩ : ∃ b, o.isSome = b := ⟨_, rfl⟩
    obtain ⟨⟨ck, cn, cz⟩, hcv⟩ : ∃ x : V, o.getD vZ = x := ⟨_, rfl⟩
    obtain ⟨row, hro⟩ : ∃ x, (rowR r' asl).getD [] = x := ⟨_, rfl⟩
    obtain ⟨ob, hob⟩ : ∃ b, (rowR r' asl).isSome = b := ⟨_, rfl⟩
    rw [hro] at hn1
    have HE := Lib.hid (And.intro ho (And.intro hoc (And.intro hcv (And.intro hro hob))))
    clear ho hoc hcv hro hob
    have c0 := hQ.x.c0
    have c1 := hQ.x.c1
    have v0 := hQ.vx.c0
    have v1 := hQ.vx.c1
    have v2 := hQ.vx.c2
    have a1 := hbq.a.c1
    have a2 := hbq.a.c2
    simp only at a1 a2
    go_wp2_with fail
    clear c0 c1 v0 v1 v2 a1 a2
    have hcl := cell_any asl ac (hQ.sch HI.out.1 HC.out.1) hQ.t HOK.out.s0 HOK.out.s1 HOK.out.c0 HOK.out.c1
    unfold CellPost at hcl
    rw [HE.out.1, HE.out.2.1, HE.out.2.2.1] at hcl
    refine hcl.mono ?_
    rintro e y4 ⟨rfl, hy⟩
    have hQ := hQ.below hy
    have hbq := hbq.below hy
    clear hy hcl
    have c0 := hQ.x.c0
    have c1 := hQ.x.c1
    have v0 := hQ.vy.c0
    have v1 := hQ.vy.c1
    have v2 := hQ.vy.c2
    have a1 := hbq.a.c1
    have a2 := hbq.a.c2
    have l1 := hQ.x.lt
    have l2 := hQ.vy.lt
    have l3 := hbq.a.lt
    simp only at a1 a2
    go_wp2_with fail
    clear c0 c1 v0 v1 v2 a1 a2 l1 l2 l3
    have hn := (Below.refl y4.heap.size y4).alloc (Nat.le_refl _) (.cells #[.int .i64 ck, .int .i64 cn, .string cz] 37)
    have hc := Sc.Box3.new y4 (.int .i64 ck) (.int .i64 cn) (.string cz) 37
    have hQ := hQ.below hn
    have hbq := hbq.below hn
    clear hn
    generalize y4.alloc (.cells #[.int .i64 ck, .int .i64 cn, .string cz] 37) = z4 at hQ hbq hc ⊢
    generalize y4.heap.size = gc at hc ⊢
    have hcl := refCell_any (w := z4) asl ac (hQ.sch HI.out.1 HC.out.1) hQ.u.u HOK.out.s0 HOK.out.s1 HOK.out.c0 HOK.out.c1
    unfold CellPost at hcl
    rw [HE.out.1, HE.out.2.1, HE.out.2.2.1] at hcl
    refine hcl.mono ?_
    rintro e y5 ⟨rfl, hy⟩
    have hQ := hQ.below hy
    have hbq := hbq.below hy
    have hc := hc.below hy hc.lt
    clear hy hcl
    have c0 := hQ.x.c0
    have c1 := hQ.x.c1
    have v0 := hQ.vx.c0
    have v1 := hQ.vx.c1
    have v2 := hQ.vx.c2
    have a1 := hbq.a.c1
    have l1 := hQ.x.lt
    have l2 := hQ.vx.lt
    have l3 := hbq.a.lt
    simp only at a1
    go_wp2_with fail
    clear c0 c1 v0 v1 v2 a1 l1 l2 l3
    have hn := (Below.refl y5.heap.size y5).alloc (Nat.le_refl _) (.cells #[.int .i64 ck, .int .i64 cn, .string cz] 37)
    have hd := Sc.Box3.new y5 (.int .i64 ck) (.int .i64 cn) (.string cz) 37
    have hQ := hQ.below hn
    have hbq := hbq.below hn
    have hc := hc.below hn hc.lt
    clear hn
    generalize y5.alloc (.cells #[.int .i64 ck, .int .i64 cn, .string cz] 37) = z5 at hQ hbq hc hd ⊢
    generalize y5.heap.size = gd at hd ⊢
    have hcl := row_any (w := z5) asl (hQ.sch HI.out.1 HC.out.1) hQ.t HOK.out.s0 HOK.out.s1
    unfold RowPost at hcl
    rw [HE.out.2.2.2.1, HE.out.2.2.2.2] at hcl
    refine hcl.mono ?_
    rintro e y6 ⟨B1, n1, cp1, rfl, hl1, hv1, hy⟩
    have hQ := hQ.below hy
    have hbq := hbq.below hy
    have hc := hc.below hy hc.lt
    have hd := hd.below hy hd.lt
    clear hy hcl
    have c0 := hQ.x.c0
    have c1 := hQ.x.c1
    have v0 := hQ.vy.c0
    have v1 := hQ.vy.c1
    have v2 := hQ.vy.c2
    have a1 := hbq.a.c1
    simp only at a1
    go_wp2_with fail
    clear c0 c1 v0 v1 v2 a1
    have hcl := refRow_any (w := y6) asl (hQ.sch HI.out.1 HC.out.1) hQ.u.u HOK.out.s0 HOK.out.s1
    unfold RowPost at hcl
    rw [HE.out.2.2.2.1, HE.out.2.2.2.2] at hcl
    refine hcl.mono ?_
    rintro e y7 ⟨B2, n2, cp3, rfl, hl2, hv2, hy⟩
    obtain rfl : n1 = n2 := hl1.symm.trans hl2
    have hR : PlR w g gx gy ga gc gd mc cp nm A cs u1 v r' ⟨rA, rn, rc, sB, sp, sd⟩ ⟨ak, asl, ac, arow, ⟨vk, vn, vs⟩, al⟩ ck cn cz B1 B2 row y7 := ⟨hQ.below hy, hbq.below hy, hc.below hy hc.lt, hd.below hy hd.lt, hv1.below hy (Nat.le_refl _), hv2⟩
    have HRN := Lib.hid (And.intro hl1 hn1)
    clear hy hcl hQ hbq hc hd hv1 hv2 hl1 hl2 hn1
    go_upto_region 30 with fail
    have hR := hR.below (Below.refl y7.heap.size y7).drew
    refine Lex.region_tree (ops := pbops) pbtree (fun W => W.cell? ⟨gx, 0, none⟩ = some (.slice u1.A u1.n u1.c) ∧ W.cell? ⟨gx, 1, none⟩ = some (.int .i64 u1.m) ∧ W.cell? ⟨gx, 2, none⟩ = some (.slice u1.B u1.n u1.d) ∧ W.cell? ⟨gy, 0, none⟩ = some (.slice v.A v.n v.c) ∧ W.cell? ⟨gy, 1, none⟩ = some (.int .i64 v.m) ∧ W.cell? ⟨gy, 2, none⟩ = some (.slice v.B v.n v.d) ∧ W.cell? ⟨gc, 0, none⟩ = some (.int .i64 ck) ∧ W.cell? ⟨gc, 1, none⟩ = some (.int .i64 cn) ∧ W.cell? ⟨gc, 2, none⟩ = some (.string cz) ∧ W.cell? ⟨gd, 0, none⟩ = some (.int .i64 ck) ∧ W.cell? ⟨gd, 1, none⟩ = some (.int .i64 cn) ∧ W.cell? ⟨gd, 2, none⟩ = some (.string cz) ∧ W.cell? ⟨ga, 1, none⟩ = some (.int .i64 asl)) (by kernel_rfl) (by kernel_rfl) pbsel pblex (⟨hR.p.vx.c0, hR.p.vx.c1, hR.p.vx.c2, hR.p.vy.c0, hR.p.vy.c1, hR.p.vy.c2, hR.c.c0, hR.c.c1, hR.c.c2, hR.d.c0, hR.d.c1, hR.d.c2, hR.a.a.c1⟩) ?_
    unfold pbtree
    generalize y7.drew = v30 at hR ⊢
    refine Lex.tree_take (.int .i64 ye) pb0 (Lex.want_none rfl) (by intro Wx hSw; (try dsimp only at hSw); go_simp; (try (first | (with_reducible rfl) | assumption | rfl))) ?_
    simp only [Act.put, List.setIfInBounds_toArray, List.set_cons_zero, List.set_cons_succ]
    refine Lex.tree_take (.int .i64 ye) pb1 (Lex.want_none rfl) (by intro Wx hSw; (try dsimp only at hSw); go_simp; (try (first | (with_reducible rfl) | assumption | rfl))) ?_
    simp only [Act.put, List.setIfInBounds_toArray, List.set_cons_zero, List.set_cons_succ]
    refine Lex.tree_take (.bool false) pb2 (Lex.want_none rfl) (by intro Wx hSw; (try dsimp only at hSw); go_simp; (try (first | (with_reducible rfl) | assumption | rfl))) ?_
    simp only [Act.put, List.setIfInBounds_toArray, List.set_cons_zero, List.set_cons_succ]
    refine Lex.tree_take (.bool false) pb3 (Lex.want_none rfl) (by intro Wx hSw; (try dsimp only at hSw); go_simp; (try (first | (with_reducible rfl) | assumption | rfl))) ?_
    simp only [Act.put, List.setIfInBounds_toArray, List.set_cons_zero, List.set_cons_succ]
    refine Lex.tree_take (.int .i64 ys) pb4 (Lex.want_some rfl pb3 rfl (b' := false) rfl rfl) (by intro Wx hSw; (try dsimp only at hSw); go_simp; (try (first | (with_reducible rfl) | assumption | rfl))) ?_
    simp only [Act.put, List.setIfInBounds_toArray, List.set_cons_zero, List.set_cons_succ]
    refine Lex.tree_take (.int .i64 ys) pb5 (Lex.want_some rfl pb3 rfl (b' := false) rfl rfl) (by intro Wx hSw; (try dsimp only at hSw); go_simp; (try (first | (with_reducible rfl) | assumption | rfl))) ?_
    simp only [Act.put, List.setIfInBounds_toArray, List.set_cons_zero, List.set_cons_succ]
    refine Lex.tree_take (.bool false) pb6 (Lex.want_some rfl pb3 rfl (b' := false) rfl rfl) (by intro Wx hSw; (try dsimp only at hSw); go_simp; (try (first | (with_reducible rfl) | assumption | rfl))) ?_
    simp only [Act.put, List.setIfInBounds_toArray, List.set_cons_zero, List.set_cons_succ]
    refine Lex.tree_take (.bool false) pb7 (Lex.want_none rfl) (by intro Wx hSw; (try dsimp only at hSw); go_simp; (try (first | (with_reducible rfl) | assumption | rfl))) ?_
    simp only [Act.put, List.setIfInBounds_toArray, List.set_cons_zero, List.set_cons_succ]
    refine Lex.tree_take (.bool false) pb8 (Lex.want_none rfl) (by intro Wx hSw; (try dsimp only at hSw); go_simp; (try (first | (with_reducible rfl) | assumption | rfl))) ?_
    simp only [Act.put, List.setIfInBounds_toArray, List.set_cons_zero, List.set_cons_succ]
    refine Lex.tree_take (.agg #[.slice u1.A u1.n u1.c, .int .i64 u1.m, .slice u1.B u1.n u1.d]) pb9 (Lex.want_some rfl pb8 rfl (b' := false) rfl rfl) (by intro Wx hSw; (try dsimp only at hSw); go_simp; (try (first | (with_reducible rfl) | assumption | rfl))) ?_
    simp only [Act.put, List.setIfInBounds_toArray, List.set_cons_zero, List.set_cons_succ]
    refine Lex.tree_take (.agg #[.slice v.A v.n v.c, .int .i64 v.m, .slice v.B v.n v.d]) pb10 (Lex.want_some rfl pb8 rfl (b' := false) rfl rfl) (by intro Wx hSw; (try dsimp only at hSw); go_simp; (try (first | (with_reducible rfl) | assumption | rfl))) ?_
    simp only [Act.put, List.setIfInBounds_toArray, List.set_cons_zero, List.set_cons_succ]
    refine Lex.tree_call pb11 (Lex.want_some rfl pb8 rfl (b' := false) rfl rfl) (fun K hK => ?_) Lex.tree_no
    go_simp
    refine (refSame_any (w := v30) hR.p.t hR.p.u rfl rfl rfl).mono ?_
    rintro e x11 ⟨rfl, hy⟩
    have hR := hR.below hy
    clear hy
    refine hK.out _ _ _ (fun _ h => h) (⟨hR.p.vx.c0, hR.p.vx.c1, hR.p.vx.c2, hR.p.vy.c0, hR.p.vy.c1, hR.p.vy.c2, hR.c.c0, hR.c.c1, hR.c.c2, hR.d.c0, hR.d.c1, hR.d.c2, hR.a.a.c1⟩) ?_
    clear hK K
    try simp only [Act.put, List.setIfInBounds_toArray, List.set_cons_zero, List.set_cons_succ]
    refine Lex.tree_take (.bool false) pb12 (Lex.want_some rfl pb8 rfl (b' := false) rfl rfl) (by intro Wx hSw; (try dsimp only at hSw); go_simp; (try (first | (with_reducible rfl) | assumption | rfl))) ?_
    simp only [Act.put, List.setIfInBounds_toArray, List.set_cons_zero, List.set_cons_succ]
    refine Lex.tree_take (.bool false) pb13 (Lex.want_none rfl) (by intro Wx hSw; (try dsimp only at hSw); go_simp; (try (first | (with_reducible rfl) | assumption | rfl))) ?_
    simp only [Act.put, List.setIfInBounds_toArray, List.set_cons_zero, List.set_cons_succ]
    refine Lex.tree_take (.bool false) pb14 (Lex.want_none rfl) (by intro Wx hSw; (try dsimp only at hSw); go_simp; (try (first | (with_reducible rfl) | assumption | rfl))) ?_
    simp only [Act.put, List.setIfInBounds_toArray, List.set_cons_zero, List.set_cons_succ]
    refine Lex.tree_take (.agg #[.int .i64 ck, .int .i64 cn, .string cz]) pb15 (Lex.want_some rfl pb14 rfl (b' := false) rfl rfl) (by intro Wx hSw; (try dsimp only at hSw); go_simp; (try (first | (with_reducible rfl) | assumption | rfl))) ?_
    simp only [Act.put, List.setIfInBounds_toArray, List.set_cons_zero, List.set_cons_succ]
    refine Lex.tree_take (.agg #[.int .i64 ck, .int .i64 cn, .string cz]) pb16 (Lex.want_some rfl pb14 rfl (b' := false) rfl rfl) (by intro Wx hSw; (try dsimp only at hSw); go_simp; (try (first | (with_reducible rfl) | assumption | rfl))) ?_
    simp only [Act.put, List.setIfInBounds_toArray, List.set_cons_zero, List.set_cons_succ]
    refine Lex.tree_take (.bool false) pb17 (Lex.want_some rfl pb14 rfl (b' := false) rfl rfl) (by intro Wx hSw; (try dsimp only at hSw); go_simp; (try (first | (with_reducible rfl) | assumption | rfl))) ?_
    simp only [Act.put, List.setIfInBounds_toArray, List.set_cons_zero, List.set_cons_succ]
    refine Lex.tree_take (.bool false) pb18 (Lex.want_none rfl) (by intro Wx hSw; (try dsimp only at hSw); go_simp; (try (first | (with_reducible rfl) | assumption | rfl))) ?_
    simp only [Act.put, List.setIfInBounds_toArray, List.set_cons_zero, List.set_cons_succ]
    refine Lex.tree_take (.bool false) pb19 (Lex.want_none rfl) (by intro Wx hSw; (try dsimp only at hSw); go_simp; (try (first | (with_reducible rfl) | assumption | rfl))) ?_
    simp only [Act.put, List.setIfInBounds_toArray, List.set_cons_zero, List.set_cons_succ]
    refine Lex.tree_take (.bool oc) pb20 (Lex.want_some rfl pb19 rfl (b' := false) rfl rfl) (by intro Wx hSw; (try dsimp only at hSw); go_simp; (try (first | (with_reducible rfl) | assumption | rfl))) ?_
    simp only [Act.put, List.setIfInBounds_toArray, List.set_cons_zero, List.set_cons_succ]
    refine Lex.tree_take (.bool oc) pb21 (Lex.want_some rfl pb19 rfl (b' := false) rfl rfl) (by intro Wx hSw; (try dsimp only at hSw); go_simp; (try (first | (with_reducible rfl) | assumption | rfl))) ?_
    simp only [Act.put, List.setIfInBounds_toArray, List.set_cons_zero, List.set_cons_succ]
    refine Lex.tree_take (.bool false) pb22 (Lex.want_some rfl pb19 rfl (b' := false) rfl rfl) (by intro Wx hSw; (try dsimp only at hSw); go_simp; (try (first | (with_reducible rfl) | assumption | rfl))) ?_
    simp only [Act.put, List.setIfInBounds_toArray, List.set_cons_zero, List.set_cons_succ]
    refine Lex.tree_take (.bool false) pb23 (Lex.want_none rfl) (by intro Wx hSw; (try dsimp only at hSw); go_simp; (try (first | (with_reducible rfl) | assumption | rfl))) ?_
    simp only [Act.put, List.setIfInBounds_toArray, List.set_cons_zero, List.set_cons_succ]
    refine Lex.tree_take (.bool false) pb24 (Lex.want_none rfl) (by intro Wx hSw; (try dsimp only at hSw); go_simp; (try (first | (with_reducible rfl) | assumption | rfl))) ?_
    simp only [Act.put, List.setIfInBounds_toArray, List.set_cons_zero, List.set_cons_succ]
    refine Lex.tree_take (.slice B1 n1 cp1) pb25 (Lex.want_some rfl pb24 rfl (b' := false) rfl rfl) (by intro Wx hSw; (try dsimp only at hSw); go_simp; (try (first | (with_reducible rfl) | assumption | rfl))) ?_
    simp only [Act.put, List.setIfInBounds_toArray, List.set_cons_zero, List.set_cons_succ]
    refine Lex.tree_take (.slice B2 n1 cp3) pb26 (Lex.want_some rfl pb24 rfl (b' := false) rfl rfl) (by intro Wx hSw; (try dsimp only at hSw); go_simp; (try (first | (with_reducible rfl) | assumption | rfl))) ?_
    simp only [Act.put, List.setIfInBounds_toArray, List.set_cons_zero, List.set_cons_succ]
    refine Lex.tree_call pb27 (Lex.want_some rfl pb24 rfl (b' := false) rfl rfl) (fun K hK => ?_) Lex.tree_no
    go_simp
    have hcs := Ro.refSame_any B1 B2 cp1 cp3 row row 0 0 x11 hR.v1 hR.v2 (by have := HRN.out.1; have := HRN.out.2; omega) (by have := HRN.out.1; have := HRN.out.2; omega)
    rw [HRN.out.1] at hcs
    refine (hcs).mono ?_
    rintro e x27 ⟨b, rfl, hb', hy⟩
    obtain rfl : b = true := hb'.2 rfl
    clear hb' hcs
    have hR := hR.below hy
    clear hy
    refine hK.out _ _ _ (fun _ h => h) (⟨hR.p.vx.c0, hR.p.vx.c1, hR.p.vx.c2, hR.p.vy.c0, hR.p.vy.c1, hR.p.vy.c2, hR.c.c0, hR.c.c1, hR.c.c2, hR.d.c0, hR.d.c1, hR.d.c2, hR.a.a.c1⟩) ?_
    clear hK K
    try simp only [Act.put, List.setIfInBounds_toArray, List.set_cons_zero, List.set_cons_succ]
    refine Lex.tree_take (.bool false) pb28 (Lex.want_some rfl pb24 rfl (b' := false) rfl rfl) (by intro Wx hSw; (try dsimp only at hSw); go_simp; (try (first | (with_reducible rfl) | assumption | rfl))) ?_
    simp only [Act.put, List.setIfInBounds_toArray, List.set_cons_zero, List.set_cons_succ]
    refine Lex.tree_take (.bool false) pb29 (Lex.want_none rfl) (by intro Wx hSw; (try dsimp only at hSw); go_simp; (try (first | (with_reducible rfl) | assumption | rfl))) ?_
    simp only [Act.put, List.setIfInBounds_toArray, List.set_cons_zero, List.set_cons_succ]
    refine Lex.tree_take (.bool false) pb30 (Lex.want_none rfl) (by intro Wx hSw; (try dsimp only at hSw); go_simp; (try (first | (with_reducible rfl) | assumption | rfl))) ?_
    simp only [Act.put, List.setIfInBounds_toArray, List.set_cons_zero, List.set_cons_succ]
    refine Lex.tree_take (.bool ob) pb31 (Lex.want_some rfl pb30 rfl (b' := false) rfl rfl) (by intro Wx hSw; (try dsimp only at hSw); go_simp; (try (first | (with_reducible rfl) | assumption | rfl))) ?_
    simp only [Act.put, List.setIfInBounds_toArray, List.set_cons_zero, List.set_cons_succ]
    refine Lex.tree_take (.bool ob) pb32 (Lex.want_some rfl pb30 rfl (b' := false) rfl rfl) (by intro Wx hSw; (try dsimp only at hSw); go_simp; (try (first | (with_reducible rfl) | assumption | rfl))) ?_
    simp only [Act.put, List.setIfInBounds_toArray, List.set_cons_zero, List.set_cons_succ]
    refine Lex.tree_take (.bool false) pb33 (Lex.want_some rfl pb30 rfl (b' := false) rfl rfl) (by intro Wx hSw; (try dsimp only at hSw); go_simp; (try (first | (with_reducible rfl) | assumption | rfl))) ?_
    simp only [Act.put, List.setIfInBounds_toArray, List.set_cons_zero, List.set_cons_succ]
    refine Lex.tree_take (.bool false) pb34 (Lex.want_none rfl) (by intro Wx hSw; (try dsimp only at hSw); go_simp; (try (first | (with_reducible rfl) | assumption | rfl))) ?_
    simp only [Act.put, List.setIfInBounds_toArray, List.set_cons_zero, List.set_cons_succ]
    refine Lex.tree_take (.bool false) pb35 (Lex.want_none rfl) (by intro Wx hSw; (try dsimp only at hSw); go_simp; (try (first | (with_reducible rfl) | assumption | rfl))) ?_
    simp only [Act.put, List.setIfInBounds_toArray, List.set_cons_zero, List.set_cons_succ]
    refine Lex.tree_take (.agg #[.slice u1.A u1.n u1.c, .int .i64 u1.m, .slice u1.B u1.n u1.d]) pb36 (Lex.want_some rfl pb35 rfl (b' := false) rfl rfl) (by intro Wx hSw; (try dsimp only at hSw); go_simp; (try (first | (with_reducible rfl) | assumption | rfl))) ?_
    simp only [Act.put, List.setIfInBounds_toArray, List.set_cons_zero, List.set_cons_succ]
    refine Lex.tree_take (.agg #[.slice v.A v.n v.c, .int .i64 v.m, .slice v.B v.n v.d]) pb38 (Lex.want_some rfl pb35 rfl (b' := false) rfl rfl) (by intro Wx hSw; (try dsimp only at hSw); go_simp; (try (first | (with_reducible rfl) | assumption | rfl))) ?_
    simp only [Act.put, List.setIfInBounds_toArray, List.set_cons_zero, List.set_cons_succ]
    refine Lex.tree_call pb37 (Lex.want_some rfl pb35 rfl (b' := false) rfl rfl) (fun K hK => ?_) Lex.tree_no
    go_simp
    refine (free_any (w := x27) hR.p.t).mono ?_
    rintro e x37 ⟨rfl, hy⟩
    have hR := hR.below hy
    clear hy
    refine hK.out _ _ _ (fun _ h => h) (⟨hR.p.vx.c0, hR.p.vx.c1, hR.p.vx.c2, hR.p.vy.c0, hR.p.vy.c1, hR.p.vy.c2, hR.c.c0, hR.c.c1, hR.c.c2, hR.d.c0, hR.d.c1, hR.d.c2, hR.a.a.c1⟩) ?_
    clear hK K
    try simp only [Act.put, List.setIfInBounds_toArray, List.set_cons_zero, List.set_cons_succ]
    refine Lex.tree_call pb39 (Lex.want_some rfl pb35 rfl (b' := false) rfl rfl) (fun K hK => ?_) Lex.tree_no
    go_simp
    refine (refFree_any (w := x37) hR.p.u.u).mono ?_
    rintro e x39 ⟨rfl, hy⟩
    have hR := hR.below hy
    clear hy
    refine hK.out _ _ _ (fun _ h => h) (⟨hR.p.vx.c0, hR.p.vx.c1, hR.p.vx.c2, hR.p.vy.c0, hR.p.vy.c1, hR.p.vy.c2, hR.c.c0, hR.c.c1, hR.c.c2, hR.d.c0, hR.d.c1, hR.d.c2, hR.a.a.c1⟩) ?_
    clear hK K
    try simp only [Act.put, List.setIfInBounds_toArray, List.set_cons_zero, List.set_cons_succ]
    refine Lex.tree_take (.bool false) pb40 (Lex.want_some rfl pb35 rfl (b' := false) rfl rfl) (by intro Wx hSw; (try dsimp only at hSw); go_simp; (try (first | (with_reducible rfl) | assumption | rfl))) ?_
    simp only [Act.put, List.setIfInBounds_toArray, List.set_cons_zero, List.set_cons_succ]
    refine Lex.tree_take (.bool false) pb41 (Lex.want_none rfl) (by intro Wx hSw; (try dsimp only at hSw); go_simp; (try (first | (with_reducible rfl) | assumption | rfl))) ?_
    simp only [Act.put, List.setIfInBounds_toArray, List.set_cons_zero, List.set_cons_succ]
    refine Lex.tree_take (.bool false) pb42 (Lex.want_none rfl) (by intro Wx hSw; (try dsimp only at hSw); go_simp; (try (first | (with_reducible rfl) | assumption | rfl))) ?_
    simp only [Act.put, List.setIfInBounds_toArray, List.set_cons_zero, List.set_cons_succ]
    refine Lex.tree_take (.agg #[.slice u1.A u1.n u1.c, .int .i64 u1.m, .slice u1.B u1.n u1.d]) pb43 (Lex.want_some rfl pb42 rfl (b' := false) rfl rfl) (by intro Wx hSw; (try dsimp only at hSw); go_simp; (try (first | (with_reducible rfl) | assumption | rfl))) ?_
    simp only [Act.put, List.setIfInBounds_toArray, List.set_cons_zero, List.set_cons_succ]
    refine Lex.tree_take (.pointer (some ⟨ga, 1, none⟩)) pb44 (Lex.want_some rfl pb42 rfl (b' := false) rfl rfl) (by intro Wx hSw; (try dsimp only at hSw); go_simp; (try (first | (with_reducible rfl) | assumption | rfl))) ?_
    simp only [Act.put, List.setIfInBounds_toArray, List.set_cons_zero, List.set_cons_succ]
    refine Lex.tree_take (.int .i64 asl) pb45 (Lex.want_some rfl pb42 rfl (b' := false) rfl rfl) (by intro Wx hSw; (try dsimp only at hSw); go_simp; (try (first | (with_reducible rfl) | assumption | rfl))) ?_
    simp only [Act.put, List.setIfInBounds_toArray, List.set_cons_zero, List.set_cons_succ]
    refine Lex.tree_take (.agg #[.slice v.A v.n v.c, .int .i64 v.m, .slice v.B v.n v.d]) pb47 (Lex.want_some rfl pb42 rfl (b' := false) rfl rfl) (by intro Wx hSw; (try dsimp only at hSw); go_simp; (try (first | (with_reducible rfl) | assumption | rfl))) ?_
    simp only [Act.put, List.setIfInBounds_toArray, List.set_cons_zero, List.set_cons_succ]
    refine Lex.tree_take (.pointer (some ⟨ga, 1, none⟩)) pb48 (Lex.want_some rfl pb42 rfl (b' := false) rfl rfl) (by intro Wx hSw; (try dsimp only at hSw); go_simp; (try (first | (with_reducible rfl) | assumption | rfl))) ?_
    simp only [Act.put, List.setIfInBounds_toArray, List.set_cons_zero, List.set_cons_succ]
    refine Lex.tree_take (.int .i64 asl) pb49 (Lex.want_some rfl pb42 rfl (b' := false) rfl rfl) (by intro Wx hSw; (try dsimp only at hSw); go_simp; (try (first | (with_reducible rfl) | assumption | rfl))) ?_
    simp only [Act.put, List.setIfInBounds_toArray, List.set_cons_zero, List.set_cons_succ]
    refine Lex.tree_call pb46 (Lex.want_some rfl pb42 rfl (b' := false) rfl rfl) (fun K hK => ?_) Lex.tree_no
    go_simp
    refine (taken_any (w := x39) asl hR.p.t HOK.out.s0 HOK.out.s1).mono ?_
    rintro e x46 ⟨rfl, hy⟩
    have hR := hR.below hy
    clear hy
    refine hK.out _ _ _ (fun _ h => h) (⟨hR.p.vx.c0, hR.p.vx.c1, hR.p.vx.c2, hR.p.vy.c0, hR.p.vy.c1, hR.p.vy.c2, hR.c.c0, hR.c.c1, hR.c.c2, hR.d.c0, hR.d.c1, hR.d.c2, hR.a.a.c1⟩) ?_
    clear hK K
    try simp only [Act.put, List.setIfInBounds_toArray, List.set_cons_zero, List.set_cons_succ]
    refine Lex.tree_call pb50 (Lex.want_some rfl pb42 rfl (b' := false) rfl rfl) (fun K hK => ?_) Lex.tree_no
    go_simp
    refine (refTaken_any (w := x46) asl hR.p.u.u HOK.out.s0 HOK.out.s1).mono ?_
    rintro e x50 ⟨rfl, hy⟩
    have hR := hR.below hy
    clear hy
    refine hK.out _ _ _ (fun _ h => h) (⟨hR.p.vx.c0, hR.p.vx.c1, hR.p.vx.c2, hR.p.vy.c0, hR.p.vy.c1, hR.p.vy.c2, hR.c.c0, hR.c.c1, hR.c.c2, hR.d.c0, hR.d.c1, hR.d.c2, hR.a.a.c1⟩) ?_
    clear hK K
    try simp only [Act.put, List.setIfInBounds_toArray, List.set_cons_zero, List.set_cons_succ]
    refine Lex.tree_take (.bool false) pb51 (Lex.want_some rfl pb42 rfl (b' := false) rfl rfl) (by intro Wx hSw; (try dsimp only at hSw); go_simp; (try (first | (with_reducible rfl) | assumption | rfl))) ?_
    simp only [Act.put, List.setIfInBounds_toArray, List.set_cons_zero, List.set_cons_succ]
    refine Lex.tree_take (.bool false) pb52 (Lex.want_none rfl) (by intro Wx hSw; (try dsimp only at hSw); go_simp; (try (first | (with_reducible rfl) | assumption | rfl))) ?_
    simp only [Act.put, List.setIfInBounds_toArray, List.set_cons_zero, List.set_cons_succ]
    refine Lex.tree_end ?_
    refine NoPanic.normal ?_
    have hD := Lib.hid hR.p
    clear hR
    go_wp2
    go_roundw
    case rel => exact ⟨q + 1, u1, v, r', by omega, by go_num, hD.out⟩
    case measure => simp [intOf]; omega
  ·obtain rfl : q = m := by omega
   go_wp2_with fail
   refine (awake_any _ (HI.out.1.tab.below (B := g) hD.b hle)).mono ?_
   rintro e y9 ⟨rfl, hy⟩
   have hB := (hD.below hy).b
   clear hy hD
   go_wp2
   go_ret
   exact ⟨rfl, hB⟩
end Go.Proofs.YtpnnkhpokangfaaDoor.Ti
