/- TileFills: whatever row and split, walked. -/
import Derived.Test.YtpnnkhpokangfaaDoorTiM
namespace Go.Proofs.YtpnnkhpokangfaaDoor.Ti
open Go.RowKit Pac Va Sc Mi Sp Lex

/-- A law of tiles: the schema's variable, the tile's. -/
structure TiB (w : World) (g gt mc cp : Nat) (nm : ByteArray) (A : Option Addr) (cs : List C) (t : TV) (r : R) (W : World) : Prop where
  b : Below g w W
  x : Box2 W g (.string nm) (.slice A mc cp)
  v : Sc.Box3 W gt (.slice t.A t.n t.c) (.int .i64 t.m) (.slice t.B t.n t.d)
  t : HasT cs W (fun b => b ≠ gt) t r
  e : w.heap.size = g
  l : g < gt
section
variable {w W W' : World} {g gt mc cp : Nat} {nm : ByteArray} {A : Option Addr} {cs : List C} {t u : TV} {r q : R}
theorem TiB.below (h : TiB w g gt mc cp nm A cs t r W) (hb : Below W.heap.size W W') : TiB w g gt mc cp nm A cs t r W' :=
  ⟨h.b.trans (hb.mono (by have := h.x.lt; omega)), h.x.below hb h.x.lt, h.v.below hb h.v.lt, h.t.below hb (Nat.le_refl _), h.e, h.l⟩
theorem TiB.sch (h : TiB w g gt mc cp nm A cs t r W) (hS : InS w A mc cp nm cs) (hr : rightS nm cs = true) : HasSch W A mc cp nm cs := (hS.below (B := g) h.b (by rw [h.e]; exact Nat.le_refl _)).sch hr
theorem TiB.hX (h : TiB w g gt mc cp nm A cs t r W) : ∀ b, W.heap.size ≤ b → b ≠ gt := fun b hb => by have := h.v.lt; omega
/-- Another tile is put into the variable. -/
theorem TiB.put (h : TiB w g gt mc cp nm A cs t r W) (hU : HasT cs W (fun b => b ≠ gt) u q) (hW : ((W.setCell ⟨gt, 0, none⟩ (.slice u.A u.n u.c)).setCell ⟨gt, 1, none⟩ (.int .i64 u.m)).setCell ⟨gt, 2, none⟩ (.slice u.B u.n u.d) = W') : TiB w g gt mc cp nm A cs u q W' := by
  subst hW
  have hl := h.l
  have hb := bar_put W gt (.slice u.A u.n u.c) (.int .i64 u.m) (.slice u.B u.n u.d)
  refine ⟨((h.b.setCell (p := ⟨gt, 0, none⟩) (by show g ≤ gt; omega) _).setCell (p := ⟨gt, 1, none⟩) (by show g ≤ gt; omega) _).setCell (p := ⟨gt, 2, none⟩) (by show g ≤ gt; omega) _, h.x.bar hb (by omega), box3_put h.v _ _ _, hU.bar hb (fun h => h rfl), h.e, h.l⟩
end
/-- So many places, from the first one on, are taken by one row. -/
structure Filled (lay : List (List Int)) (row : List V) (q : Nat) (r : R) : Prop where
  l : r.l = lay
  f : ∀ j, j < 8 → r.f j = decide (j < q)
  m : ∀ j, j < q → j < 8 → r.M[j]? = some row
theorem Filled.next {cs : List C} {lay : List (List Int)} {row : List V} {q : Nat} {r : R} (h : Filled lay row q r) (ht : Tile cs r) (hq : q < 8) (hc : Ro.checkE cs row = 0) :
    ∃ r', addR cs r row = (r', (q : Int), 0) ∧ Filled lay row (q + 1) r' := by
  have hf : freeO r.f = some q := free_at hq (by rw [h.f q hq]; simp) (fun j hj => by rw [h.f j (by omega)]; simpa using hj)
  refine ⟨⟨r.l, fun j => if j = q then true else r.f j, r.M.set q row⟩, ?_, h.l, fun j hj => ?_, fun j hj hj8 => ?_⟩
  · unfold addR
    rw [if_neg (fun h => h hc), hf]
  · show (if j = q then true else r.f j) = decide (j < q + 1)
    by_cases e : j = q
    · rw [if_pos e]
      simp [e]
    · rw [if_neg e, h.f j hj]
      have : (j < q) = (j < q + 1) := propext ⟨fun h => by omega, fun h => by omega⟩
      simp only [this]
  · show (r.M.set q row)[j]? = some row
    by_cases e : j = q
    · subst e
      rw [List.getElem?_set_self (by rw [ht.m.len]; exact hj8)]
    · rw [List.getElem?_set_ne (Ne.symm e)]
      exact h.m j (by omega) hj8
theorem Filled.full {cs : List C} {lay : List (List Int)} {row : List V} {q : Nat} {r : R} (h : Filled lay row q r) (hq : 8 ≤ q) (hc : Ro.checkE cs row = 0) : addR cs r row = (r, 0, 9) ∧ Filled lay row (q + 1) r := by
  have hf : freeO r.f = none := free_all fun j hj => by rw [h.f j hj]; simp; omega
  refine ⟨?_, h.l, fun j hj => ?_, fun j hj hj8 => h.m j (by omega) hj8⟩
  · unfold addR
    rw [if_neg (fun h => h hc), hf]
  · rw [h.f j hj]
    have h1 : j < q := by omega
    have h2 : j < q + 1 := by omega
    simp [h1, h2]
theorem Filled.free {lay : List (List Int)} {row : List V} {q : Nat} {r : R} (h : Filled lay row q r) (hq : 8 ≤ q) : freeI r.f = -1 := by
  unfold freeI
  rw [free_all fun j hj => by rw [h.f j hj]; simp; omega]
theorem Filled.row {lay : List (List Int)} {row : List V} {q k : Nat} {r : R} (h : Filled lay row q r) (hq : 8 ≤ q) (hk : k < 8) : rowR r (k : Int) = some row := by
  have h1 : takenB r (k : Int) = true := by
    unfold takenB
    rw [Int.toNat_natCast, h.f k hk]
    simp
    omega
  unfold rowR
  rw [if_pos h1, Int.toNat_natCast]
  exact h.m k (by omega) hk
theorem filled_new (lay : List (List Int)) (row : List V) (n : Nat) : Filled lay row 0 (newR lay n) := ⟨rfl, fun _ _ => rfl, fun j hj => absurd hj (Nat.not_lt_zero j)⟩

theorem right_lay {A3 : Option Addr} {p mc : Nat} {lay : List (List Int)} {W : World} (cp3 : Nat) (h : HasLL W 0 A3 lay) (hp : lay.length = p) (hp9 : p ≤ 9223372036854775807) (hg : ∀ x ∈ lay, x.length ≤ 9223372036854775807) (hmc : mc ≤ 9223372036854775807) :
    Calls Tryd.prog 30 #[.slice A3 p cp3, .int .i64 (mc : Int)] W fun e w' => e = .returned (.bool (rightSp lay (mc : Int))) ∧ Below W.heap.size W w' := by
  subst hp
  exact Sp.refRight_any A3 cp3 lay mc 0 W h hp9 hg (by omega) (by omega)
theorem check_row {A A2 : Option Addr} {mc n : Nat} {nm : ByteArray} {cs : List C} {row : List V} {W : World} (cp cp2 : Nat) (h1 : HasCols W 0 A cs) (h2 : Ro.HasV W 0 A2 row) (hmc : cs.length = mc) (hc9 : mc ≤ 9223372036854775807) (hn : row.length = n) (hn9 : n ≤ 9223372036854775807) :
    Calls Tryd.prog 28 #[.agg #[.string nm, .slice A mc cp], .slice A2 n cp2] W fun e w' => e = .returned (.int .i64 (Ro.checkE cs row)) ∧ Below W.heap.size W w' := by
  subst hmc hn
  exact Ro.refCheck_any A A2 cp cp2 nm cs row 0 0 W h1 h2 hc9 hn9

set_option maxRecDepth 20000 in
set_option maxHeartbeats 16000000 in
theorem fills_any {nm : ByteArray} {cs : List C} {A A2 A3 : Option Addr} {mc cp n cp2 p cp3 : Nat} {w : World} {row : List V} {lay : List (List Int)} (hS : InS w A mc cp nm cs) (hV : Ro.HasV w 0 A2 row) (hn : row.length = n) (hnc : n ≤ cp2) (hn9 : n ≤ 9223372036854775807) (hok : ∀ v ∈ row, v.Ok)
    (hL : HasLL w 0 A3 lay) (hp : lay.length = p) (hpc : p ≤ cp3) (hp9 : p ≤ 9223372036854775807) (hg9 : ∀ x ∈ lay, x.length ≤ 9223372036854775807) :
    Calls Tryd.prog 6 #[.agg #[.string nm, .slice A mc cp], .slice A2 n cp2, .slice A3 p cp3] w fun e w' => e = .returned (.bool true) ∧ Below w.heap.size w w' := by
  obtain ⟨g, hg⟩ : ∃ g, w.heap.size = g := ⟨_, rfl⟩
  have hx := Box2.new w (.string nm) (.slice A mc cp) 24
  have hB := (Below.refl w.heap.size w).alloc (Nat.le_refl _) (.cells #[.string nm, .slice A mc cp] 24)
  rw [hg] at hx hB
  rw [show (fun (e : Ending) (w' : World) => e = .returned (.bool true) ∧ Below w.heap.size w w') = (fun e w' => e = .returned (.bool true) ∧ Below g w w') by rw [hg]]
  have HI := Lib.hid (And.intro hS (And.intro hV (And.intro hL (And.intro hok (And.intro hn (And.intro hp hg9))))))
  clear hS hV hL hok hn hp hg9
  go_enter Tryd.func6, Tryd.ntmps6
  generalize hw1 : w.alloc (.cells #[.string nm, .slice A mc cp] 24) = w1 at hx hB
  rcases Nat.lt_or_ge 20 n with h20 | h20
  · have e1 : decide ((20 : Int) < (n : Int)) = true := decide_eq_true (by omega)
    go_wp2_with fail
    clear hw1
    refine (awake_any _ (by first | exact HI.out.1.tab.below (B := g) hB (by omega) | exact HI.out.1.tab.below (B := g) hD.b (by omega) | exact HI.out.1.tab.below (Below.refl g _) (by omega) | exact HI.out.tab.below (B := g) hB (by omega))).mono ?_
    rintro e y9 ⟨rfl, hy⟩
    have hB := hB.trans (hy.mono (by have := hx.lt; omega))
    clear hy
    go_wp2
    go_ret
    exact ⟨rfl, hB⟩
  have e1 : decide ((20 : Int) < (n : Int)) = false := decide_eq_false (by omega)
  rcases Nat.lt_or_ge 20 p with g20 | g20
  · have e2 : decide ((20 : Int) < (p : Int)) = true := decide_eq_true (by omega)
    go_wp2_with fail
    clear hw1
    refine (awake_any _ (by first | exact HI.out.1.tab.below (B := g) hB (by omega) | exact HI.out.1.tab.below (B := g) hD.b (by omega) | exact HI.out.1.tab.below (Below.refl g _) (by omega) | exact HI.out.tab.below (B := g) hB (by omega))).mono ?_
    rintro e y9 ⟨rfl, hy⟩
    have hB := hB.trans (hy.mono (by have := hx.lt; omega))
    clear hy
    go_wp2
    go_ret
    exact ⟨rfl, hB⟩
  have e2 : decide ((20 : Int) < (p : Int)) = false := decide_eq_false (by omega)
  have c0 := hx.c0
  have c1 := hx.c1
  go_wp2_with fail
  clear hw1 c0 c1
  have hle : g ≤ w1.heap.size := by have := hx.lt; omega
  refine (small_any (X := fun _ => True) (l := []) (HI.out.1.below (B := g) hB (by omega)) ⟨Li.HasL.nil _ _ _, fun y hy => by simp at hy⟩ rfl (by decide)).mono ?_
  rintro e w2 ⟨bb, rfl, hb1, hb2, hy⟩
  have hx := hx.below hy hx.lt
  have hB := hB.trans (hy.mono hle)
  clear hy hle
  cases bb
  · go_wp2_with fail
    refine (awake_any _ (by first | exact HI.out.1.tab.below (B := g) hB (by omega) | exact HI.out.1.tab.below (B := g) hD.b (by omega) | exact HI.out.1.tab.below (Below.refl g _) (by omega) | exact HI.out.tab.below (B := g) hB (by omega))).mono ?_
    rintro e y9 ⟨rfl, hy⟩
    have hB := hB.trans (hy.mono (by have := hx.lt; omega))
    clear hy
    go_wp2
    go_ret
    exact ⟨rfl, hB⟩
  have hr := (hb1 rfl).1
  clear hb1 hb2
  have hmc : cs.length = mc := HI.out.1.n
  have c0 := hx.c0
  have c1 := hx.c1
  go_wp2_with fail
  clear c0 c1
  refine (right_lay cp3 (HI.out.2.2.1.below (B := g) hB (by omega)) HI.out.2.2.2.2.2.1 hp9 HI.out.2.2.2.2.2.2 (by have := HI.out.1.c9; omega)).mono ?_
  rintro e w3 ⟨rfl, hy⟩
  have hx := hx.below hy hx.lt
  have hB := hB.trans (hy.mono (by have := hx.lt; have := hB.size; omega))
  clear hy
  cases hrs : rightSp lay (mc : Int)
  · go_wp2_with fail
    refine (awake_any _ (by first | exact HI.out.1.tab.below (B := g) hB (by omega) | exact HI.out.1.tab.below (B := g) hD.b (by omega) | exact HI.out.1.tab.below (Below.refl g _) (by omega) | exact HI.out.tab.below (B := g) hB (by omega))).mono ?_
    rintro e y9 ⟨rfl, hy⟩
    have hB := hB.trans (hy.mono (by have := hx.lt; omega))
    clear hy
    go_wp2
    go_ret
    exact ⟨rfl, hB⟩
  have c0 := hx.c0
  have c1 := hx.c1
  go_wp2_with fail
  clear c0 c1
  refine (check_row cp cp2 (HI.out.1.c.below (B := g) hB (by omega)) (HI.out.2.1.below (B := g) hB (by omega)) hmc HI.out.1.c9 HI.out.2.2.2.2.1 hn9).mono ?_
  rintro e w4 ⟨rfl, hy⟩
  have hx := hx.below hy hx.lt
  have hB := hB.trans (hy.mono (by have := hx.lt; have := hB.size; omega))
  clear hy
  rcases Classical.em (¬ Ro.checkE cs row = 0) with hc | hc
  · have hc' : (Ro.checkE cs row != 0) = true := bne_iff_ne.2 hc
    go_wp2_with fail
    refine (awake_any _ (by first | exact HI.out.1.tab.below (B := g) hB (by omega) | exact HI.out.1.tab.below (B := g) hD.b (by omega) | exact HI.out.1.tab.below (Below.refl g _) (by omega) | exact HI.out.tab.below (B := g) hB (by omega))).mono ?_
    rintro e y9 ⟨rfl, hy⟩
    have hB := hB.trans (hy.mono (by have := hx.lt; omega))
    clear hy
    go_wp2
    go_ret
    exact ⟨rfl, hB⟩
  have hc : Ro.checkE cs row = 0 := Decidable.not_not.1 hc
  rw [hc]
  rw [← hmc] at hrs
  have hsp := right_split hrs
  have c0 := hx.c0
  have c1 := hx.c1
  go_wp2_with fail
  clear c0 c1
  have hLs : HasSp w4 (fun _ => True) A3 lay := sp_of (HI.out.2.2.1.below (B := g) hB (by omega)) (fun _ _ _ => trivial)
  have hSc := (HI.out.1.below (B := g) hB (by omega)).sch hr
  refine (new_any A3 p cp3 (HI.out.1.tab.below (B := g) hB (by omega)) trivial (fun _ _ => trivial) hSc hLs HI.out.2.2.2.2.2.1 hpc hsp).mono ?_
  rintro e w5 ⟨t, rfl, hT, hy⟩
  have hx := hx.below hy hx.lt
  have hB := hB.trans (hy.mono (by have := hx.lt; have := hB.size; omega))
  clear hy hLs hSc
  unfold TV.v
  have hF := filled_new lay row cs.length
  generalize newR lay cs.length = r at hT hF
  have hv := Sc.Box3.new w5 (.slice t.A t.n t.c) (.int .i64 t.m) (.slice t.B t.n t.d) 32
  have hn5 := (Below.refl w5.heap.size w5).alloc (Nat.le_refl _) (.cells #[.slice t.A t.n t.c, .int .i64 t.m, .slice t.B t.n t.d] 32)
  obtain ⟨gt, hgt⟩ : ∃ gt, w5.heap.size = gt := ⟨_, rfl⟩
  have hD : TiB w g gt mc cp nm A cs t r (w5.alloc (.cells #[.slice t.A t.n t.c, .int .i64 t.m, .slice t.B t.n t.d] 32)) :=
    ⟨hB.trans (hn5.mono (by have := hx.lt; have := hB.size; omega)), hx.below hn5 hx.lt, by rw [← hgt]; exact hv, (hT.off hgt).below hn5 (Nat.le_refl _), hg, by have := hx.lt; omega⟩
  clear hB hx hT hv hn5
  have HC := Lib.hid (And.intro hr (And.intro hc hmc))
  clear hsp hrs hc hr hmc
  go_wp2
  clear hgt
  generalize w5.alloc (.cells #[.slice t.A t.n t.c, .int .i64 t.m, .slice t.B t.n t.d] 32) = w6 at hD ⊢
  go_loopw [8] (fun i W => ∃ (q : Nat) (t : TV) (r : R), q ≤ 10 ∧ i = .int .i64 q ∧ Filled lay row q r ∧ TiB w g gt mc cp nm A cs t r W) (fun i _ => 10 - (intOf i).toNat)
  case atStart => exact ⟨0, t, r, by omega, rfl, hF, hD⟩
  case round =>
    clear hD hF
    obtain ⟨q, t, r, hq, rfl, hF, hD⟩ := hrel
    by_cases hlt10 : q < 10
    · have i1 : (q : Int) < 10 := by omega
      have c0 := hD.x.c0
      have c1 := hD.x.c1
      have v0 := hD.v.c0
      have v1 := hD.v.c1
      have v2 := hD.v.c2
      go_wp2_with fail
      clear c0 c1 v0 v1 v2
      have hle := Nat.le_of_eq hD.e
      have hcl := add_any A2 n cp2 0 hD.hX (hD.sch HI.out.1 HC.out.1) hD.t (HI.out.2.1.below hD.b hle) HI.out.2.2.2.2.1 hnc hn9 HI.out.2.2.2.1
      by_cases h8 : q < 8
      · obtain ⟨r', ha, hF1⟩ := hF.next hD.t.ok h8 HC.out.2.1
        rw [ha] at hcl
        refine hcl.mono ?_
        rintro e y ⟨u, rfl, hU, hy⟩
        have hD := hD.below hy
        clear hy hcl ha hF hle
        simp only [TV.v]
        simp only at hU
        have i8 : (q : Int) < 8 := by omega
        have v0 := hD.v.c0
        have v1 := hD.v.c1
        have v2 := hD.v.c2
        have vf := hD.v.f
        have hlt := hD.v.lt
        go_wp2
        generalize hW : ((y.setCell ⟨gt, 0, none⟩ (.slice u.A u.n u.c)).setCell ⟨gt, 1, none⟩ (.int .i64 u.m)).setCell ⟨gt, 2, none⟩ (.slice u.B u.n u.d) = W8
        have hP := hD.put hU hW
        have hn := (Below.refl W8.heap.size W8).alloc (Nat.le_refl _) (.cells #[.slice u.A u.n u.c, .int .i64 u.m, .slice u.B u.n u.d] 32)
        have hP := hP.below hn
        clear hn hU hD hlt v0 v1 v2 vf
        go_roundw
        case rel => exact ⟨q + 1, u, r', by omega, by go_num, hF1, hP⟩
        case measure => simp [intOf]; omega
      · obtain ⟨ha, hF1⟩ := hF.full (by omega) HC.out.2.1 (cs := cs)
        rw [ha] at hcl
        refine hcl.mono ?_
        rintro e y ⟨u, rfl, hU, hy⟩
        have hD := hD.below hy
        clear hy hcl ha hF hle
        simp only [TV.v]
        simp only at hU
        have i8 : ¬ (q : Int) < 8 := by omega
        have v0 := hD.v.c0
        have v1 := hD.v.c1
        have v2 := hD.v.c2
        have vf := hD.v.f
        have hlt := hD.v.lt
        go_wp2_with fail
        have hn := (Below.refl y.heap.size y).alloc (Nat.le_refl _) (.cells #[.slice u.A u.n u.c, .int .i64 u.m, .slice u.B u.n u.d] 32)
        have h9 := Sc.Box3.new y (.slice u.A u.n u.c) (.int .i64 u.m) (.slice u.B u.n u.d) 32
        refine (refSame_any (hU.below hn (Nat.le_refl _)) (hD.t.below hn (Nat.le_refl _)) rfl rfl rfl).mono ?_
        rintro e y2 ⟨rfl, hy⟩
        have hU := (hU.below hn (Nat.le_refl _)).below hy (Nat.le_refl _)
        have hD := (hD.below hn).below hy
        have h9 := h9.below hy h9.lt
        clear hn hy v0 v1 v2 vf hlt
        generalize y.heap.size = g9 at h9 ⊢
        have k0 := h9.c0
        have k1 := h9.c1
        have k2 := h9.c2
        have v0 := hD.v.c0
        have v1 := hD.v.c1
        have v2 := hD.v.c2
        have vf := hD.v.f
        go_wp2
        generalize hW : ((y2.setCell ⟨gt, 0, none⟩ (.slice u.A u.n u.c)).setCell ⟨gt, 1, none⟩ (.int .i64 u.m)).setCell ⟨gt, 2, none⟩ (.slice u.B u.n u.d) = W8
        have hP := hD.put hU hW
        clear hU hD v0 v1 v2 vf k0 k1 k2 h9
        go_roundw
        case rel => exact ⟨q + 1, u, r, by omega, by go_num, hF1, hP⟩
        case measure => simp [intOf]; omega
    · obtain rfl : q = 10 := by omega
      rw [show ((10 : Nat) : Int) = 10 from rfl]
      go_wp2
      go_loopw [12] (fun i W => ∃ (k : Nat), k ≤ 8 ∧ i = .int .i64 k ∧ TiB w g gt mc cp nm A cs t r W) (fun i _ => 8 - (intOf i).toNat)
      case atStart => exact ⟨0, by omega, rfl, hD⟩
      case round =>
        clear hD
        obtain ⟨k, hk, rfl, hD⟩ := hrel
        by_cases h8 : k < 8
        · have i1 : (k : Int) < 8 := by omega
          have c0 := hD.x.c0
          have c1 := hD.x.c1
          have v0 := hD.v.c0
          have v1 := hD.v.c1
          have v2 := hD.v.c2
          go_wp2_with fail
          clear c0 c1 v0 v1 v2
          have hcl := row_any (k : Int) (hD.sch HI.out.1 HC.out.1) hD.t (by omega) (by omega)
          rw [hF.row (by omega) h8] at hcl
          refine hcl.mono ?_
          rintro e y ⟨B, m, cc, rfl, hm, hV, hy⟩
          have hm : row.length = m := hm
          have hV : Ro.HasV y 0 B row := hV
          have hD := hD.below hy
          clear hcl hy
          go_wp2_with fail
          have hcs := Ro.refSame_any B A2 cc cp2 row row 0 0 y hV (HI.out.2.1.below hD.b (Nat.le_of_eq hD.e)) (by have := HI.out.2.2.2.2.1; omega) (by have := HI.out.2.2.2.2.1; omega)
          rw [hm] at hcs
          have hmn : n = m := by rw [← hm, HI.out.2.2.2.2.1]
          subst hmn
          refine hcs.mono ?_
          rintro e y2 ⟨b, rfl, hb, hy⟩
          obtain rfl : b = true := hb.2 rfl
          have hD := hD.below hy
          clear hcs hy hb hV
          go_wp2
          go_roundw
          case rel => exact ⟨k + 1, by omega, by go_num, hD⟩
          case measure => simp [intOf]; omega
        · obtain rfl : k = 8 := by omega
          go_wp2_with fail
          refine (awake_any _ (by first | exact HI.out.1.tab.below (B := g) hB (by omega) | exact HI.out.1.tab.below (B := g) hD.b (by omega) | exact HI.out.1.tab.below (Below.refl g _) (by omega) | exact HI.out.tab.below (B := g) hB (by omega))).mono ?_
          rintro e y9 ⟨rfl, hy⟩
          have hD := hD.below hy
          clear hy
          have v0 := hD.v.c0
          have v1 := hD.v.c1
          have v2 := hD.v.c2
          go_wp2_with fail
          clear v0 v1 v2
          have hcf := free_any hD.t
          rw [hF.free (by omega)] at hcf
          refine hcf.mono ?_
          rintro e y2 ⟨rfl, hy⟩
          have hB := (hD.below hy).b
          clear hcf hy hD
          go_wp2
          go_ret
          exact ⟨rfl, hB⟩
end Go.Proofs.YtpnnkhpokangfaaDoor.Ti
