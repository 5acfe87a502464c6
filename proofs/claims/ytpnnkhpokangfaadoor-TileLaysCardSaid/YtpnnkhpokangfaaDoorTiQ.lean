/- TileLays: whatever deeds and split, walked. -/
import Derived.Test.YtpnnkhpokangfaaDoorTiO
import Derived.Test.YtpnnkhpokangfaaDoorMgZ
namespace Go.Proofs.YtpnnkhpokangfaaDoor.Ti
open Go.RowKit Pac Va Sc Mi Sp Lex

theorem sp_nil (w : World) (X : Nat → Prop) (A : Option Addr) : HasSp w X A [] := ⟨[], rfl, Li.HasL.nil _ _ _, fun h => absurd rfl h, fun x hx => by simp at hx⟩
theorem At8.below {w W : World} {b i g : Nat} {y : AV × Ac} (h : At8 w b i y) (hb : Below g w W) (hg : b < g) : At8 W b i y :=
  ⟨(hb.cell (p := ⟨b, i, none⟩) hg).trans h.c0, (hb.cell (p := ⟨b, i + 1, none⟩) hg).trans h.c1, (hb.cell (p := ⟨b, i + 2, none⟩) hg).trans h.c2, (hb.cell (p := ⟨b, i + 3, none⟩) hg).trans h.c3, (hb.cell (p := ⟨b, i + 4, none⟩) hg).trans h.c4, (hb.cell (p := ⟨b, i + 5, none⟩) hg).trans h.c5, (hb.cell (p := ⟨b, i + 6, none⟩) hg).trans h.c6, (hb.cell (p := ⟨b, i + 7, none⟩) hg).trans h.c7⟩
theorem rightS_len {nm : ByteArray} {cs : List C} (h : rightS nm cs = true) : 1 ≤ cs.length ∧ cs.length ≤ 8 := by
  constructor
  · by_cases h1 : 1 ≤ cs.length
    · exact h1
    · rw [rightS_few h1] at h; cases h
  · by_cases h1 : cs.length ≤ 8
    · exact h1
    · rw [rightS_many h1] at h; cases h
theorem one_sp {mc : Nat} {w : World} (h : mc ≤ 8) : Calls Tryd.prog 9 #[.int .i64 (mc : Int)] w fun e w' => ∃ (A : Option Addr) (c : Nat), e = .returned (.slice A (oneS mc).length c) ∧ (oneS mc).length ≤ c ∧ HasLL w' w.heap.size A (oneS mc) ∧ Below w.heap.size w w' := by
  have hc := refOne_any (mc : Int) w (by omega) (by omega)
  have e : oneI (mc : Int) = oneS mc := by unfold oneI; rw [Int.toNat_natCast]
  rw [e] at hc
  refine hc.mono ?_
  rintro e w' ⟨A, c, rfl, h1, h2, h3⟩
  exact ⟨A, c, rfl, h1, h2, h3⟩
theorem lay_yes {cs : List C} {r : R} {l : List (List Int)} (h : rightSp l cs.length = true) : layR cs r l = (⟨l, r.f, r.M⟩, true) := by
  unfold layR
  rw [if_pos h]
theorem lay_none {cs : List C} {r : R} : layR cs r [] = (r, false) := by
  have h : rightSp [] (cs.length : Int) = false := rightSp_nat.2 fun h => by
    have h1 := h.n1
    have h2 := h.len
    simp at h2
    omega
  unfold layR
  rw [if_neg (by rw [h]; simp)]

set_option maxRecDepth 20000 in
set_option maxHeartbeats 16000000 in
theorem lays_any {nm : ByteArray} {cs : List C} {A A2 A3 : Option Addr} {mc cp m cp2 p cp3 : Nat} {w : World} {l : List (AV × Ac)} {lay : List (List Int)} (hS : InS w A mc cp nm cs) (hAc : HasAcs w (fun b => b < w.heap.size) A2 l) (hm : l.length = m) (hm9 : m ≤ 9223372036854775807)
    (hL : HasLL w 0 A3 lay) (hp : lay.length = p) (hpc : p ≤ cp3) (hp9 : p ≤ 9223372036854775807) (hg9 : ∀ x ∈ lay, x.length ≤ 9223372036854775807) :
    Calls Tryd.prog 5 #[.agg #[.string nm, .slice A mc cp], .slice A2 m cp2, .slice A3 p cp3] w fun e w' => e = .returned (.bool true) ∧ Below w.heap.size w w' := by
  obtain ⟨g, hg⟩ : ∃ g, w.heap.size = g := ⟨_, rfl⟩
  have hx := Box2.new w (.string nm) (.slice A mc cp) 24
  have hB := (Below.refl w.heap.size w).alloc (Nat.le_refl _) (.cells #[.string nm, .slice A mc cp] 24)
  rw [hg] at hx hB hAc
  rw [show (fun (e : Ending) (w' : World) => e = .returned (.bool true) ∧ Below w.heap.size w w') = (fun e w' => e = .returned (.bool true) ∧ Below g w w') by rw [hg]]
  have hLs : HasSp w (fun b => b < g) A3 lay := sp_of hL (fun b _ hb => by omega)
  have HI := Lib.hid (And.intro hS (And.intro hAc (And.intro hLs (And.intro hm (And.intro hp hg9)))))
  clear hS hAc hL hLs hm hp hg9
  go_enter Tryd.func5, Tryd.ntmps5
  generalize hw1 : w.alloc (.cells #[.string nm, .slice A mc cp] 24) = w1 at hx hB
  have hle : w.heap.size ≤ g := Nat.le_of_eq hg
  have c0 := hx.c0
  have c1 := hx.c1
  go_wp2_with fail
  clear hw1 c0 c1
  refine (small_any (HI.out.1.below (B := g) hB hle) (HI.out.2.1.below (B := g) hB hle) HI.out.2.2.2.1 hm9).mono ?_
  rintro e w2 ⟨bb, rfl, hb1, hb2, hy⟩
  have hB := hB.trans (hy.mono (Nat.le_of_lt hx.lt))
  have hx := hx.below hy hx.lt
  clear hy
  cases bb
  · go_wp2_with fail
    refine (awake_any _ (by first | exact HI.out.1.tab.below (B := g) hB hle | exact HI.out.1.tab.below (B := g) hD.b hle)).mono ?_
    rintro e y9 ⟨rfl, hy⟩
    have hB := hB.trans (hy.mono (Nat.le_of_lt hx.lt))
    clear hy
    go_wp2
    go_ret
    exact ⟨rfl, hB⟩
  obtain ⟨hr, _, hs20⟩ := hb1 rfl
  have HS20 := Lib.hid hs20
  clear hs20
  clear hb1 hb2
  rcases Nat.lt_or_ge 20 p with g20 | g20
  · have e2 : decide ((20 : Int) < (p : Int)) = true := decide_eq_true (by omega)
    go_wp2_with fail
    refine (awake_any _ (by first | exact HI.out.1.tab.below (B := g) hB hle | exact HI.out.1.tab.below (B := g) hD.b hle)).mono ?_
    rintro e y9 ⟨rfl, hy⟩
    have hB := hB.trans (hy.mono (Nat.le_of_lt hx.lt))
    clear hy
    go_wp2
    go_ret
    exact ⟨rfl, hB⟩
  have e2 : decide ((20 : Int) < (p : Int)) = false := decide_eq_false (by omega)
  have hmc : cs.length = mc := HI.out.1.n
  have c0 := hx.c0
  have c1 := hx.c1
  go_wp2_with fail
  clear c0 c1
  refine (right_lay cp3 (HI.out.2.2.1.ll.below (B := g) hB hle) HI.out.2.2.2.2.1 hp9 HI.out.2.2.2.2.2 HI.out.1.c9).mono ?_
  rintro e w3 ⟨rfl, hy⟩
  have hB := hB.trans (hy.mono (Nat.le_of_lt hx.lt))
  have hx := hx.below hy hx.lt
  clear hy
  cases hrs : rightSp lay (mc : Int)
  · go_wp2_with fail
    refine (awake_any _ (by first | exact HI.out.1.tab.below (B := g) hB hle | exact HI.out.1.tab.below (B := g) hD.b hle)).mono ?_
    rintro e y9 ⟨rfl, hy⟩
    have hB := hB.trans (hy.mono (Nat.le_of_lt hx.lt))
    clear hy
    go_wp2
    go_ret
    exact ⟨rfl, hB⟩
  rw [← hmc] at hrs
  have hl8 := rightS_len hr
  rw [hmc] at hl8
  have hSc := (HI.out.1.below (B := g) hB hle).sch hr
  have HC := Lib.hid (And.intro hr (And.intro hrs hmc))
  clear hr hrs hmc
  go_wp2_with fail
  refine Lex.region_cut (fun (a' : Act) (W : World) => ∃ Ao : Option Addr, ∃ co : Nat, ∃ t : TV, ∃ gt : Nat, a' = ⟨#[.agg #[.string nm, .slice A mc cp], .slice A2 m cp2, .slice A3 p cp3, .pointer (some ⟨g, 0, none⟩), undef, undef, .bool false, .pointer (some ⟨gt, 0, none⟩), undef, undef, undef, undef, undef, undef, undef, .agg #[.string nm, .slice A mc cp], .slice A2 m cp2, .bool true, .bool false, .bool false, .slice A3 p cp3, .int .i64 p, .bool false, .bool false, .bool false, .slice A3 p cp3, .pointer (some ⟨g, 1, none⟩), .slice A mc cp, .int .i64 mc, .bool true, .bool false, .bool false, undef, .agg #[.string nm, .slice A mc cp], .pointer (some ⟨g, 1, none⟩), .slice A mc cp, .int .i64 mc, .slice Ao (oneS mc).length co, .agg #[.slice t.A t.n t.c, .int .i64 t.m, .slice t.B t.n t.d], undef, undef, undef, undef, undef, undef, undef, undef, undef, undef, undef, undef, undef, undef, undef, undef, undef, undef, undef, undef, undef, undef, undef, undef, undef, undef, undef, undef, undef, undef, undef, undef, undef, undef, undef, undef, undef, undef, undef, undef, undef, undef, undef, undef, undef, undef, undef, undef, undef, undef, undef, undef, undef, undef, undef, undef, undef, undef, undef, undef, undef, undef, undef, undef, undef, undef, undef, undef], []⟩ ∧ Below g w W ∧ Box2 W g (.string nm) (.slice A mc cp) ∧ HasT cs W (fun b => b ≠ gt) t (newR (oneS mc) cs.length) ∧ Sc.Box3 W gt (.slice t.A t.n t.c) (.int .i64 t.m) (.slice t.B t.n t.d) ∧ g < gt) ?_ ?_
  · have hd := (Below.refl w3.heap.size w3).drew
    have hB := hB.drew
    have hx := hx.drew
    have hSc := hSc.below hd (Nat.le_refl _)
    clear hd
    refine Lex.region_tree (ops := tlops) tltree (fun W => W.cell? ⟨g, 0, none⟩ = some (.string nm) ∧ W.cell? ⟨g, 1, none⟩ = some (.slice A mc cp)) (by kernel_rfl) (by kernel_rfl) tlsel tllex (⟨hx.c0, hx.c1⟩) ?_
    unfold tltree
    generalize w3.drew = v3 at hB hx hSc ⊢
    refine Lex.tree_take (.agg #[.string nm, .slice A mc cp]) tl0 (Lex.want_none rfl) (by intro Wx hSw; (try dsimp only at hSw); go_simp; (try (first | (with_reducible rfl) | assumption | rfl))) ?_
    simp only [Act.put, List.setIfInBounds_toArray, List.set_cons_zero, List.set_cons_succ]
    refine Lex.tree_take (.pointer (some ⟨g, 1, none⟩)) tl1 (Lex.want_none rfl) (by intro Wx hSw; (try dsimp only at hSw); go_simp; (try (first | (with_reducible rfl) | assumption | rfl))) ?_
    simp only [Act.put, List.setIfInBounds_toArray, List.set_cons_zero, List.set_cons_succ]
    refine Lex.tree_take (.slice A mc cp) tl2 (Lex.want_none rfl) (by intro Wx hSw; (try dsimp only at hSw); go_simp; (try (first | (with_reducible rfl) | assumption | rfl))) ?_
    simp only [Act.put, List.setIfInBounds_toArray, List.set_cons_zero, List.set_cons_succ]
    refine Lex.tree_take (.int .i64 mc) tl3 (Lex.want_none rfl) (by intro Wx hSw; (try dsimp only at hSw); go_simp; (try (first | (with_reducible rfl) | assumption | rfl))) ?_
    simp only [Act.put, List.setIfInBounds_toArray, List.set_cons_zero, List.set_cons_succ]
    refine Lex.tree_call tl4 (Lex.want_none rfl) (fun K hK => ?_) ?_
    · go_simp
      refine (one_sp (w := v3) hl8.2).mono ?_
      rintro e y4 ⟨Ao, co, rfl, hco, hO, hy4⟩
      have hO := sp_of (X := (fun _ => True)) hO (fun _ _ _ => trivial)
      have hB := hB.trans (hy4.mono (Nat.le_of_lt hx.lt))
      have hx := hx.below hy4 hx.lt
      have hSc := hSc.below hy4 (Nat.le_refl _)
      clear hy4
      refine hK.out _ _ _ (fun _ h => h) (⟨hx.c0, hx.c1⟩) ?_
      clear hK K
      try simp only [Act.put, List.setIfInBounds_toArray, List.set_cons_zero, List.set_cons_succ]
      refine Lex.tree_call tl5 (Lex.want_none rfl) (fun K hK => ?_) ?_
      · go_simp
        refine (new_any (w := y4) (X := (fun _ => True)) Ao _ co (HI.out.1.tab.below (B := g) hB hle) trivial (fun _ _ => trivial) hSc hO rfl hco (by rw [HC.out.2.2]; exact one_split hl8.1 hl8.2)).mono ?_
        rintro e y5 ⟨t, rfl, hT, hy5⟩
        simp only [TV.v]
        have hB := hB.trans (hy5.mono (Nat.le_of_lt hx.lt))
        have hx := hx.below hy5 hx.lt
        have hSc := hSc.below hy5 (Nat.le_refl _)
        have hO := hO.below hy5 (Nat.le_refl _)
        clear hy5
        refine hK.out _ _ _ (fun _ h => h) (⟨hx.c0, hx.c1⟩) ?_
        clear hK K
        try simp only [Act.put, List.setIfInBounds_toArray, List.set_cons_zero, List.set_cons_succ]
        refine Lex.tree_call tl6 (Lex.want_none rfl) (fun K hK => ?_) Lex.tree_no
        go_simp
        have hn := (Below.refl y5.heap.size y5).alloc (Nat.le_refl _) (.cells #[.slice none 0 0, .int .i64 0, .slice none 0 0] 32)
        have bt := Sc.Box3.new y5 (.slice none 0 0) (.int .i64 0) (.slice none 0 0) 32
        have legt := Nat.le_of_lt hx.lt
        have ltgt := hx.lt
        have nehxgt := Nat.ne_of_lt hx.lt
        have hO := hO.off rfl
        have hT := hT.off rfl
        have hB := hB.trans (hn.mono (Nat.le_of_lt hx.lt))
        have hx := hx.below hn hx.lt
        have hSc := hSc.below hn (Nat.le_refl _)
        have hO := hO.below hn (Nat.le_refl _)
        have hT := hT.below hn (Nat.le_refl _)
        clear hn
        generalize y5.alloc (.cells #[.slice none 0 0, .int .i64 0, .slice none 0 0] 32) = zgt at hB hx hSc hO hT bt ⊢
        generalize y5.heap.size = gt at hO hT nehxgt legt ltgt bt ⊢
        refine hK.out _ _ _ (fun _ h => h) (⟨hx.c0, hx.c1⟩) ?_
        clear hK K
        try simp only [Act.put, List.setIfInBounds_toArray, List.set_cons_zero, List.set_cons_succ]
        refine Lex.tree_call tl7 (Lex.want_none rfl) (fun K hK => ?_) Lex.tree_no
        clear hO
        have k0 := bt.c0
        have k1 := bt.c1
        have k2 := bt.c2
        have k3 := bt.f
        go_simp
        clear k0 k1 k2 k3
        have hw := bar_put zgt gt (.slice t.A t.n t.c) (.int .i64 t.m) (.slice t.B t.n t.d)
        have hB := ((hB.setCell (p := ⟨gt, 0, none⟩) legt (.slice t.A t.n t.c)).setCell (p := ⟨gt, 1, none⟩) legt (.int .i64 t.m)).setCell (p := ⟨gt, 2, none⟩) legt (.slice t.B t.n t.d)
        have hx := hx.bar hw nehxgt
        have hT := hT.bar hw (fun h => h rfl)
        have bt := box3_put bt (.slice t.A t.n t.c) (.int .i64 t.m) (.slice t.B t.n t.d)
        clear hw legt
        clear hSc
        generalize ((zgt.setCell ⟨gt, 0, none⟩ (.slice t.A t.n t.c)).setCell ⟨gt, 1, none⟩ (.int .i64 t.m)).setCell ⟨gt, 2, none⟩ (.slice t.B t.n t.d) = sgt at hB hx hT bt ⊢
        refine hK.out _ _ _ (fun _ h => h) (⟨hx.c0, hx.c1⟩) ?_
        clear hK K
        try simp only [Act.put, List.setIfInBounds_toArray, List.set_cons_zero, List.set_cons_succ]
        refine Lex.tree_end ?_
        refine NoPanic.normal ?_
        exact ⟨Ao, co, t, gt, rfl, hB, hx, hT, bt, ltgt⟩
      refine Lex.tree_call tl6 (Lex.want_none rfl) (fun K hK => ?_) Lex.tree_no
      go_simp
      have hn := (Below.refl y4.heap.size y4).alloc (Nat.le_refl _) (.cells #[.slice none 0 0, .int .i64 0, .slice none 0 0] 32)
      have bt := Sc.Box3.new y4 (.slice none 0 0) (.int .i64 0) (.slice none 0 0) 32
      have legt := Nat.le_of_lt hx.lt
      have ltgt := hx.lt
      have nehxgt := Nat.ne_of_lt hx.lt
      have hO := hO.off rfl
      have hB := hB.trans (hn.mono (Nat.le_of_lt hx.lt))
      have hx := hx.below hn hx.lt
      have hSc := hSc.below hn (Nat.le_refl _)
      have hO := hO.below hn (Nat.le_refl _)
      clear hn
      generalize y4.alloc (.cells #[.slice none 0 0, .int .i64 0, .slice none 0 0] 32) = zgt at hB hx hSc hO bt ⊢
      generalize y4.heap.size = gt at hO nehxgt legt ltgt bt ⊢
      refine hK.out _ _ _ (fun _ h => h) (⟨hx.c0, hx.c1⟩) ?_
      clear hK K
      try simp only [Act.put, List.setIfInBounds_toArray, List.set_cons_zero, List.set_cons_succ]
      refine Lex.tree_call tl5 (Lex.want_none rfl) (fun K hK => ?_) Lex.tree_no
      go_simp
      refine (new_any (w := zgt) (X := (fun b => b ≠ gt)) Ao _ co (HI.out.1.tab.below (B := g) hB hle) (show 1 ≠ gt from by have := HI.out.1.tab.2; omega) (fun b hb => by have := bt.lt; omega) hSc hO rfl hco (by rw [HC.out.2.2]; exact one_split hl8.1 hl8.2)).mono ?_
      rintro e y5 ⟨t, rfl, hT, hy5⟩
      simp only [TV.v]
      have hB := hB.trans (hy5.mono (Nat.le_of_lt hx.lt))
      have hx := hx.below hy5 hx.lt
      have hSc := hSc.below hy5 (Nat.le_refl _)
      have hO := hO.below hy5 (Nat.le_refl _)
      have bt := bt.below hy5 bt.lt
      clear hy5
      refine hK.out _ _ _ (fun _ h => h) (⟨hx.c0, hx.c1⟩) ?_
      clear hK K
      try simp only [Act.put, List.setIfInBounds_toArray, List.set_cons_zero, List.set_cons_succ]
      refine Lex.tree_call tl7 (Lex.want_none rfl) (fun K hK => ?_) Lex.tree_no
      clear hO
      have k0 := bt.c0
      have k1 := bt.c1
      have k2 := bt.c2
      have k3 := bt.f
      go_simp
      clear k0 k1 k2 k3
      have hw := bar_put y5 gt (.slice t.A t.n t.c) (.int .i64 t.m) (.slice t.B t.n t.d)
      have hB := ((hB.setCell (p := ⟨gt, 0, none⟩) legt (.slice t.A t.n t.c)).setCell (p := ⟨gt, 1, none⟩) legt (.int .i64 t.m)).setCell (p := ⟨gt, 2, none⟩) legt (.slice t.B t.n t.d)
      have hx := hx.bar hw nehxgt
      have bt := box3_put bt (.slice t.A t.n t.c) (.int .i64 t.m) (.slice t.B t.n t.d)
      have hT := hT.bar hw (fun h => h rfl)
      clear hw legt
      clear hSc
      generalize ((y5.setCell ⟨gt, 0, none⟩ (.slice t.A t.n t.c)).setCell ⟨gt, 1, none⟩ (.int .i64 t.m)).setCell ⟨gt, 2, none⟩ (.slice t.B t.n t.d) = sgt at hB hx bt hT ⊢
      refine hK.out _ _ _ (fun _ h => h) (⟨hx.c0, hx.c1⟩) ?_
      clear hK K
      try simp only [Act.put, List.setIfInBounds_toArray, List.set_cons_zero, List.set_cons_succ]
      refine Lex.tree_end ?_
      refine NoPanic.normal ?_
      exact ⟨Ao, co, t, gt, rfl, hB, hx, hT, bt, ltgt⟩
    refine Lex.tree_call tl6 (Lex.want_none rfl) (fun K hK => ?_) Lex.tree_no
    go_simp
    have hn := (Below.refl v3.heap.size v3).alloc (Nat.le_refl _) (.cells #[.slice none 0 0, .int .i64 0, .slice none 0 0] 32)
    have bt := Sc.Box3.new v3 (.slice none 0 0) (.int .i64 0) (.slice none 0 0) 32
    have legt := Nat.le_of_lt hx.lt
    have ltgt := hx.lt
    have nehxgt := Nat.ne_of_lt hx.lt
    have hB := hB.trans (hn.mono (Nat.le_of_lt hx.lt))
    have hx := hx.below hn hx.lt
    have hSc := hSc.below hn (Nat.le_refl _)
    clear hn
    generalize v3.alloc (.cells #[.slice none 0 0, .int .i64 0, .slice none 0 0] 32) = zgt at hB hx hSc bt ⊢
    generalize v3.heap.size = gt at  nehxgt legt ltgt bt ⊢
    refine hK.out _ _ _ (fun _ h => h) (⟨hx.c0, hx.c1⟩) ?_
    clear hK K
    try simp only [Act.put, List.setIfInBounds_toArray, List.set_cons_zero, List.set_cons_succ]
    refine Lex.tree_call tl4 (Lex.want_none rfl) (fun K hK => ?_) Lex.tree_no
    go_simp
    refine (one_sp (w := zgt) hl8.2).mono ?_
    rintro e y4 ⟨Ao, co, rfl, hco, hO, hy4⟩
    have hO := sp_of (X := (fun b => b ≠ gt)) hO (fun b hb _ => by have := bt.lt; omega)
    have hB := hB.trans (hy4.mono (Nat.le_of_lt hx.lt))
    have hx := hx.below hy4 hx.lt
    have hSc := hSc.below hy4 (Nat.le_refl _)
    have bt := bt.below hy4 bt.lt
    clear hy4
    refine hK.out _ _ _ (fun _ h => h) (⟨hx.c0, hx.c1⟩) ?_
    clear hK K
    try simp only [Act.put, List.setIfInBounds_toArray, List.set_cons_zero, List.set_cons_succ]
    refine Lex.tree_call tl5 (Lex.want_none rfl) (fun K hK => ?_) Lex.tree_no
    go_simp
    refine (new_any (w := y4) (X := (fun b => b ≠ gt)) Ao _ co (HI.out.1.tab.below (B := g) hB hle) (show 1 ≠ gt from by have := HI.out.1.tab.2; omega) (fun b hb => by have := bt.lt; omega) hSc hO rfl hco (by rw [HC.out.2.2]; exact one_split hl8.1 hl8.2)).mono ?_
    rintro e y5 ⟨t, rfl, hT, hy5⟩
    simp only [TV.v]
    have hB := hB.trans (hy5.mono (Nat.le_of_lt hx.lt))
    have hx := hx.below hy5 hx.lt
    have hSc := hSc.below hy5 (Nat.le_refl _)
    have bt := bt.below hy5 bt.lt
    have hO := hO.below hy5 (Nat.le_refl _)
    clear hy5
    refine hK.out _ _ _ (fun _ h => h) (⟨hx.c0, hx.c1⟩) ?_
    clear hK K
    try simp only [Act.put, List.setIfInBounds_toArray, List.set_cons_zero, List.set_cons_succ]
    refine Lex.tree_call tl7 (Lex.want_none rfl) (fun K hK => ?_) Lex.tree_no
    clear hO
    have k0 := bt.c0
    have k1 := bt.c1
    have k2 := bt.c2
    have k3 := bt.f
    go_simp
    clear k0 k1 k2 k3
    have hw := bar_put y5 gt (.slice t.A t.n t.c) (.int .i64 t.m) (.slice t.B t.n t.d)
    have hB := ((hB.setCell (p := ⟨gt, 0, none⟩) legt (.slice t.A t.n t.c)).setCell (p := ⟨gt, 1, none⟩) legt (.int .i64 t.m)).setCell (p := ⟨gt, 2, none⟩) legt (.slice t.B t.n t.d)
    have hx := hx.bar hw nehxgt
    have bt := box3_put bt (.slice t.A t.n t.c) (.int .i64 t.m) (.slice t.B t.n t.d)
    have hT := hT.bar hw (fun h => h rfl)
    clear hw legt
    clear hSc
    generalize ((y5.setCell ⟨gt, 0, none⟩ (.slice t.A t.n t.c)).setCell ⟨gt, 1, none⟩ (.int .i64 t.m)).setCell ⟨gt, 2, none⟩ (.slice t.B t.n t.d) = sgt at hB hx bt hT ⊢
    refine hK.out _ _ _ (fun _ h => h) (⟨hx.c0, hx.c1⟩) ?_
    clear hK K
    try simp only [Act.put, List.setIfInBounds_toArray, List.set_cons_zero, List.set_cons_succ]
    refine Lex.tree_end ?_
    refine NoPanic.normal ?_
    exact ⟨Ao, co, t, gt, rfl, hB, hx, hT, bt, ltgt⟩
  clear hB hx hSc
  rintro _ w5 ⟨Ao, co, t, gt, rfl, hB, hx, hT, bt, ltgt⟩
  have hD : TiB w g gt mc cp nm A cs t (newR (oneS mc) cs.length) w5 := ⟨hB, hx, bt, hT, hg, ltgt⟩
  clear hB hx bt hT ltgt
  generalize newR (oneS mc) cs.length = r at hD
  go_wp2
  go_loopw [8] (fun i W => ∃ (q : Nat) (t : TV) (r : R), q ≤ m ∧ i = .int .i64 q ∧ TiB w g gt mc cp nm A cs t r W) (fun i _ => m - (intOf i).toNat)
  case atStart => exact ⟨0, t, r, Nat.zero_le _, rfl, hD⟩
  case round =>
    clear hD
    obtain ⟨q, t, r, hq, rfl, hD⟩ := hrel
    by_cases hlt : q < m
    · have hl : l[q]? = some (l[q]'(by rw [HI.out.2.2.2.1]; exact hlt)) := List.getElem?_eq_getElem _
      generalize (l[q]'(by rw [HI.out.2.2.2.1]; exact hlt)) = y at hl
      obtain ⟨b1, o1, rfl, hb1, h8, hA⟩ := HI.out.2.1.at hl
      have hb1 : b1 < g := by omega
      have HSP := Lib.hid (HS20.out y (List.mem_of_getElem? hl))
      obtain ⟨⟨rA, rn, rc, sB, sp, sd⟩, ⟨ak, asl, ac, arow, ⟨vk, vn, vs⟩, al⟩⟩ := y
      simp only at hA
      have i1 : (q : Int) < (m : Int) := by omega
      have i0 : (0 : Int) ≤ (q : Int) := by omega
      clear hl
      go_wp2_with fail
      have hD := hD.below (Below.refl _ _).drew
      refine Lex.region_tree (ops := tmops) tmtree (fun W => W.cell? ⟨g, 0, none⟩ = some (.string nm) ∧ W.cell? ⟨g, 1, none⟩ = some (.slice A mc cp) ∧ W.cell? ⟨b1, o1 + q * 8, none⟩ = some (.int .i64 ak) ∧ W.cell? ⟨b1, o1 + q * 8 + 1, none⟩ = some (.int .i64 asl) ∧ W.cell? ⟨b1, o1 + q * 8 + 2, none⟩ = some (.int .i64 ac) ∧ W.cell? ⟨b1, o1 + q * 8 + 3, none⟩ = some (.slice rA rn rc) ∧ W.cell? ⟨b1, o1 + q * 8 + 4, none⟩ = some (.int .i64 vk) ∧ W.cell? ⟨b1, o1 + q * 8 + 5, none⟩ = some (.int .i64 vn) ∧ W.cell? ⟨b1, o1 + q * 8 + 6, none⟩ = some (.string vs) ∧ W.cell? ⟨b1, o1 + q * 8 + 7, none⟩ = some (.slice sB sp sd)) (by kernel_rfl) (by kernel_rfl) tmsel tmlex (⟨hD.x.c0, hD.x.c1, (h8.below hD.b hb1).c0, (h8.below hD.b hb1).c1, (h8.below hD.b hb1).c2, (h8.below hD.b hb1).c3, (h8.below hD.b hb1).c4, (h8.below hD.b hb1).c5, (h8.below hD.b hb1).c6, (h8.below hD.b hb1).c7⟩) ?_
      unfold tmtree
      generalize wr.drew = wd at hD ⊢
      refine Lex.tree_take (.agg #[.string nm, .slice A mc cp]) tm0 (Lex.want_none rfl) (by intro Wx hSw; (try dsimp only at hSw); go_simp; (try (first | (with_reducible rfl) | assumption | rfl))) ?_
      simp only [Act.put, List.setIfInBounds_toArray, List.set_cons_zero, List.set_cons_succ]
      refine Lex.tree_take (.slice (some ⟨b1, o1, none⟩) m cp2) tm2 (Lex.want_none rfl) (by intro Wx hSw; (try dsimp only at hSw); go_simp; (try (first | (with_reducible rfl) | assumption | rfl))) ?_
      simp only [Act.put, List.setIfInBounds_toArray, List.set_cons_zero, List.set_cons_succ]
      refine Lex.tree_take (.int .i64 q) tm3 (Lex.want_none rfl) (by intro Wx hSw; (try dsimp only at hSw); go_simp; (try (first | (with_reducible rfl) | assumption | rfl))) ?_
      simp only [Act.put, List.setIfInBounds_toArray, List.set_cons_zero, List.set_cons_succ]
      refine Lex.tree_take (.pointer (some ⟨b1, o1 + q * 8, none⟩)) tm4 (Lex.want_none rfl) (by intro Wx hSw; (try dsimp only at hSw); go_simp; (try (first | (with_reducible rfl) | assumption | rfl))) ?_
      simp only [Act.put, List.setIfInBounds_toArray, List.set_cons_zero, List.set_cons_succ]
      refine Lex.tree_take (.agg #[.int .i64 ak, .int .i64 asl, .int .i64 ac, .slice rA rn rc, .int .i64 vk, .int .i64 vn, .string vs, .slice sB sp sd]) tm5 (Lex.want_none rfl) (by intro Wx hSw; (try dsimp only at hSw); go_simp; (try (first | (with_reducible rfl) | assumption | rfl))) ?_
      simp only [Act.put, List.setIfInBounds_toArray, List.set_cons_zero, List.set_cons_succ]
      refine Lex.tree_call tm1 (Lex.want_none rfl) (fun K hK => ?_) Lex.tree_no
      have v0 := hD.v.c0
      have v1 := hD.v.c1
      have v2 := hD.v.c2
      go_simp
      clear v0 v1 v2
      refine hK.out _ _ _ (fun _ h => h) (⟨hD.x.c0, hD.x.c1, (h8.below hD.b hb1).c0, (h8.below hD.b hb1).c1, (h8.below hD.b hb1).c2, (h8.below hD.b hb1).c3, (h8.below hD.b hb1).c4, (h8.below hD.b hb1).c5, (h8.below hD.b hb1).c6, (h8.below hD.b hb1).c7⟩) ?_
      clear hK K
      try simp only [Act.put, List.setIfInBounds_toArray, List.set_cons_zero, List.set_cons_succ]
      refine Lex.tree_call tm6 (Lex.want_none rfl) (fun K hK => ?_) Lex.tree_no
      go_simp
      refine (does_any (w := wd) hD.hX (hD.sch HI.out.1 HC.out.1) hD.t ((hA.below hD.b hle).mono (fun b hb => Nat.ne_of_lt (Nat.lt_trans hb hD.l))) HSP.out).mono ?_
      rintro e y6 ⟨u, rfl, hU, hy6⟩
      generalize doesR cs r ⟨ak, asl, ac, arow, ⟨vk, vn, vs⟩, al⟩ = yy at hU ⊢
      obtain ⟨r', ys, ye⟩ := yy
      simp only [TV.v]
      simp only at hU
      have hD := hD.below hy6
      clear hy6
      refine hK.out _ _ _ (fun _ h => h) (⟨hD.x.c0, hD.x.c1, (h8.below hD.b hb1).c0, (h8.below hD.b hb1).c1, (h8.below hD.b hb1).c2, (h8.below hD.b hb1).c3, (h8.below hD.b hb1).c4, (h8.below hD.b hb1).c5, (h8.below hD.b hb1).c6, (h8.below hD.b hb1).c7⟩) ?_
      clear hK K
      try simp only [Act.put, List.setIfInBounds_toArray, List.set_cons_zero, List.set_cons_succ]
      refine Lex.tree_take (.tuple #[.agg #[.slice u.A u.n u.c, .int .i64 u.m, .slice u.B u.n u.d], .int .i64 ys, .int .i64 ye]) tm7 (Lex.want_none rfl) (by intro Wx hSw; (try dsimp only at hSw); go_simp; (try (first | (with_reducible rfl) | assumption | rfl))) ?_
      simp only [Act.put, List.setIfInBounds_toArray, List.set_cons_zero, List.set_cons_succ]
      refine Lex.tree_take (.agg #[.slice u.A u.n u.c, .int .i64 u.m, .slice u.B u.n u.d]) tm8 (Lex.want_none rfl) (by intro Wx hSw; (try dsimp only at hSw); go_simp; (try (first | (with_reducible rfl) | assumption | rfl))) ?_
      simp only [Act.put, List.setIfInBounds_toArray, List.set_cons_zero, List.set_cons_succ]
      refine Lex.tree_take (.int .i64 ys) tm9 (Lex.want_none rfl) (by intro Wx hSw; (try dsimp only at hSw); go_simp; (try (first | (with_reducible rfl) | assumption | rfl))) ?_
      simp only [Act.put, List.setIfInBounds_toArray, List.set_cons_zero, List.set_cons_succ]
      refine Lex.tree_take (.int .i64 ye) tm10 (Lex.want_none rfl) (by intro Wx hSw; (try dsimp only at hSw); go_simp; (try (first | (with_reducible rfl) | assumption | rfl))) ?_
      simp only [Act.put, List.setIfInBounds_toArray, List.set_cons_zero, List.set_cons_succ]
      refine Lex.tree_call tm11 (Lex.want_none rfl) (fun K hK => ?_) Lex.tree_no
      have v0 := hD.v.c0
      have v1 := hD.v.c1
      have v2 := hD.v.c2
      have vf := hD.v.f
      go_simp
      clear v0 v1 v2 vf
      generalize hW : ((y6.setCell ⟨gt, 0, none⟩ (.slice u.A u.n u.c)).setCell ⟨gt, 1, none⟩ (.int .i64 u.m)).setCell ⟨gt, 2, none⟩ (.slice u.B u.n u.d) = s7
      have hD := hD.put hU hW
      clear hU hW
      refine hK.out _ _ _ (fun _ h => h) (⟨hD.x.c0, hD.x.c1, (h8.below hD.b hb1).c0, (h8.below hD.b hb1).c1, (h8.below hD.b hb1).c2, (h8.below hD.b hb1).c3, (h8.below hD.b hb1).c4, (h8.below hD.b hb1).c5, (h8.below hD.b hb1).c6, (h8.below hD.b hb1).c7⟩) ?_
      clear hK K
      try simp only [Act.put, List.setIfInBounds_toArray, List.set_cons_zero, List.set_cons_succ]
      refine Lex.tree_end ?_
      refine NoPanic.normal ?_
      go_wp2
      go_roundw
      case rel => exact ⟨q + 1, u, r', by omega, by go_num, hD⟩
      case measure => simp [intOf]; omega
    · obtain rfl : q = m := by omega
      clear hlt hq
      have hcl := lay_any A3 p cp3 hD.hX (hD.sch HI.out.1 HC.out.1) hD.t ((HI.out.2.2.1.below hD.b hle).mono (fun b hb => Nat.ne_of_lt (Nat.lt_trans hb hD.l))) HI.out.2.2.2.2.1 hpc (by omega) (fun x hx => by have := grp_len (right_split HC.out.2.1) hx; omega)
      rw [lay_yes HC.out.2.1] at hcl
      have c0 := hD.x.c0
      have c1 := hD.x.c1
      have v0 := hD.v.c0
      have v1 := hD.v.c1
      have v2 := hD.v.c2
      go_wp2_with fail
      clear c0 c1 v0 v1 v2
      refine hcl.mono ?_
      rintro e y1 ⟨u9, rfl, hU9, hy⟩
      have hD := hD.below hy
      clear hy hcl
      simp only [TV.v]
      simp only at hU9
      have c0 := hD.x.c0
      have c1 := hD.x.c1
      have v0 := hD.v.c0
      have l1 := hD.x.lt
      have l2 := hD.v.lt
      go_wp2_with fail
      clear c0 c1 v0 l1 l2
      have hn := (Below.refl y1.heap.size y1).alloc (Nat.le_refl _) (.cells #[.slice u9.A u9.n u9.c, .int .i64 u9.m, .slice u9.B u9.n u9.d] 32)
      have b9 := Sc.Box3.new y1 (.slice u9.A u9.n u9.c) (.int .i64 u9.m) (.slice u9.B u9.n u9.d) 32
      have hD := hD.below hn
      have hU9 := hU9.below hn (Nat.le_refl _)
      clear hn
      generalize y1.alloc (.cells #[.slice u9.A u9.n u9.c, .int .i64 u9.m, .slice u9.B u9.n u9.d] 32) = z1 at hD hU9 b9 ⊢
      generalize y1.heap.size = g9 at b9 ⊢
      have hcl := lay_any t.A t.n t.c hD.hX (hD.sch HI.out.1 HC.out.1) hU9 hD.t.sp hD.t.n hD.t.c (by have := hD.t.few; omega) (fun x hx => by have := grp_len hD.t.ok.s hx; omega)
      rw [lay_yes (rightSp_nat.1 hD.t.ok.s)] at hcl
      simp only at hcl
      refine hcl.mono ?_
      rintro e y2 ⟨u11, rfl, hU11, hy⟩
      have hD := hD.below hy
      have hU9 := hU9.below hy (Nat.le_refl _)
      have b9 := b9.below hy b9.lt
      clear hy hcl
      simp only [TV.v]
      simp only at hU11
      have c0 := hD.x.c0
      have c1 := hD.x.c1
      have v0 := hD.v.c0
      have v1 := hD.v.c1
      have v2 := hD.v.c2
      have l1 := hD.x.lt
      have l2 := hD.v.lt
      go_wp2_with fail
      clear c0 c1 v0 v1 v2 l1 l2
      have hn := (Below.refl y2.heap.size y2).alloc (Nat.le_refl _) (.cells #[.slice u11.A u11.n u11.c, .int .i64 u11.m, .slice u11.B u11.n u11.d] 32)
      have b11 := Sc.Box3.new y2 (.slice u11.A u11.n u11.c) (.int .i64 u11.m) (.slice u11.B u11.n u11.d) 32
      have hn2 := hn.alloc hn.size (.cells #[] 67)
      have hD := hD.below hn2
      have hU9 := hU9.below hn2 (Nat.le_refl _)
      have hU11 := hU11.below hn2 (Nat.le_refl _)
      have b9 := b9.below hn2 b9.lt
      have b11 := b11.alloc (.cells #[] 67)
      clear hn hn2
      generalize (y2.alloc (.cells #[.slice u11.A u11.n u11.c, .int .i64 u11.m, .slice u11.B u11.n u11.d] 32)).alloc (.cells #[] 67) = z2 at hD hU9 hU11 b9 b11 ⊢
      generalize y2.heap.size = g11 at b11 ⊢
      have hcl := lay_any (some ⟨g11 + 1, 0, none⟩) 0 0 hD.hX (hD.sch HI.out.1 HC.out.1) hD.t (sp_nil _ _ _) rfl (Nat.le_refl _) (by decide) (fun x hx => by simp at hx)
      rw [lay_none] at hcl
      refine hcl.mono ?_
      rintro e y3 ⟨u13, rfl, _, hy⟩
      have hD := hD.below hy
      have hU9 := hU9.below hy (Nat.le_refl _)
      have hU11 := hU11.below hy (Nat.le_refl _)
      have b9 := b9.below hy b9.lt
      have b11 := b11.below hy b11.lt
      clear hy hcl
      simp only [TV.v]
      have hn := (Below.refl y3.heap.size y3).alloc (Nat.le_refl _) (.cells #[.slice u13.A u13.n u13.c, .int .i64 u13.m, .slice u13.B u13.n u13.d] 32)
      have hD := hD.below hn
      have hU9 := hU9.below hn (Nat.le_refl _)
      have hU11 := hU11.below hn (Nat.le_refl _)
      have b9 := b9.below hn b9.lt
      have b11 := b11.below hn b11.lt
      clear hn
      go_wp2_with fail
      generalize y3.alloc (.cells #[.slice u13.A u13.n u13.c, .int .i64 u13.m, .slice u13.B u13.n u13.d] 32) = z3 at hD hU9 hU11 b9 b11 ⊢
      refine (awake_any _ (by first | exact HI.out.1.tab.below (B := g) hB hle | exact HI.out.1.tab.below (B := g) hD.b hle)).mono ?_
      rintro e y4 ⟨rfl, hy⟩
      have hD := hD.below hy
      have hU9 := hU9.below hy (Nat.le_refl _)
      have hU11 := hU11.below hy (Nat.le_refl _)
      have b9 := b9.below hy b9.lt
      have b11 := b11.below hy b11.lt
      clear hy
      have v0 := hD.v.c0
      have v1 := hD.v.c1
      have v2 := hD.v.c2
      have k0 := b11.c0
      have k1 := b11.c1
      have k2 := b11.c2
      go_wp2_with fail
      clear v0 v1 v2 k0 k1 k2
      refine (refSame_any hU11 hD.t rfl rfl rfl).mono ?_
      rintro e y5 ⟨rfl, hy⟩
      have hD := hD.below hy
      have hU9 := hU9.below hy (Nat.le_refl _)
      have b9 := b9.below hy b9.lt
      clear hy hU11 b11
      have k0 := b9.c0
      go_wp2_with fail
      clear k0
      have h9n : p = u9.n := by rw [← HI.out.2.2.2.2.1]; exact hU9.n
      have hcs := same_split u9.A A3 u9.c cp3 p lay y5 hU9.sp.ll (HI.out.2.2.1.ll.below (B := g) hD.b hle) HI.out.2.2.2.2.1 hp9 HI.out.2.2.2.2.2
      rw [← h9n]
      refine hcs.mono ?_
      rintro e y6 ⟨rfl, hy⟩
      have hD := hD.below hy
      have b9 := b9.below hy b9.lt
      have hm9 : u9.m = t.m := by rw [hU9.m, hD.t.m]
      clear hy hcs hU9
      have k1 := b9.c1
      rw [hm9] at k1
      have v1 := hD.v.c1
      have hB := hD.b
      go_wp2
      go_ret
      exact ⟨rfl, hB⟩
end Go.Proofs.YtpnnkhpokangfaaDoor.Ti
