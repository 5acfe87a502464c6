/- Whether a row may be of a schema: the document's, walked. -/
import Derived.Test.YtpnnkhpokangfaaDoorRoB
import Derived.Test.YtpnnkhpokangfaaDoorMgX
namespace Go.Proofs.YtpnnkhpokangfaaDoor.Ro
open Go.RowKit Pac Va Sc Lex

theorem cell_below {w w' : World} (h : Below w.heap.size w w') {b i : Nat} {v : Value} (hc : w.cell? ⟨b, i, none⟩ = some v) : w'.cell? ⟨b, i, none⟩ = some v :=
 (h.cell (p := ⟨b, i, none⟩) (World.block_lt_of_cell? w _ hc)).trans hc
/-- A column and a value in memory. -/
def At6 (w : World) (b1 i1 b2 i2 : Nat) (c : C) (a : V) : Prop :=
 w.cell? ⟨b1, i1, none⟩ = some (.string c.n) ∧ w.cell? ⟨b1, i1 + 1, none⟩ = some (.int .i64 c.k) ∧ w.cell? ⟨b1, i1 + 2, none⟩ = some (.bool c.z) ∧ w.cell? ⟨b2, i2, none⟩ = some (.int .i64 a.k) ∧ w.cell? ⟨b2, i2 + 1, none⟩ = some (.int .i64 a.n) ∧ w.cell? ⟨b2, i2 + 2, none⟩ = some (.string a.s)
theorem At6.below {w w' : World} {b1 i1 b2 i2 : Nat} {c : C} {a : V} (h : At6 w b1 i1 b2 i2 c a) (hb : Below w.heap.size w w') : At6 w' b1 i1 b2 i2 c a :=
 ⟨cell_below hb h.1, cell_below hb h.2.1, cell_below hb h.2.2.1, cell_below hb h.2.2.2.1, cell_below hb h.2.2.2.2.1, cell_below hb h.2.2.2.2.2⟩
theorem errs_none {cs : List C} {l : List V} {m : Nat} (hm : cs.length = m) (h : ∀ (j : Nat), j < m → ∀ (c : C) (v : V), cs[j]? = some c → l[j]? = some v → fitsE c v = 0) : errs cs l = 0 :=
 (errs_ok cs l).2 fun j c v hc hv => h j (by rw [← hm]; exact (List.getElem?_eq_some_iff.1 hc).1) c v hc hv

set_option maxRecDepth 20000 in
set_option maxHeartbeats 2000000 in
theorem refCheck_any (A1 A2 : Option Addr) (cp cp2 : Nat) (nm : ByteArray) (cs : List C) (l : List V) (lo1 lo2 : Nat) (w : World) (h1 : HasCols w lo1 A1 cs) (h2 : HasV w lo2 A2 l) (hl1 : cs.length ≤ 9223372036854775807) (hl2 : l.length ≤ 9223372036854775807) :
  Calls Tryd.prog 28 #[.agg #[.string nm, .slice A1 cs.length cp], .slice A2 l.length cp2] w fun e w' => e = .returned (.int .i64 (checkE cs l)) ∧ Below w.heap.size w w' := by
 have hE0 : l.length ≠ cs.length → checkE cs l = 1 := fun h => by unfold checkE; rw [if_neg h]
 have hE1 : l.length = cs.length → checkE cs l = errs cs l := fun h => by unfold checkE; rw [if_pos h]
 generalize checkE cs l = z at hE0 hE1 ⊢
 obtain ⟨m, hm⟩ : ∃ m, cs.length = m := ⟨_, rfl⟩
 obtain ⟨m2, hm2⟩ : ∃ m, l.length = m := ⟨_, rfl⟩
 rw [hm] at hl1 hE0 hE1 ⊢
 rw [hm2] at hl2 hE0 hE1 ⊢
 have HA := Lib.hid h1
 have HB := Lib.hid h2
 have HM := Lib.hid hm
 have HM2 := Lib.hid hm2
 clear h1 h2 hm hm2
 have hB0 := (Below.refl w.heap.size w).alloc (Nat.le_refl _) (.cells #[.string nm, .slice A1 m cp] 24)
 have hx0 := Box2.new w (.string nm) (.slice A1 m cp) 24
 go_enter Tryd.func28, Tryd.ntmps28
 by_cases hmm : m2 = m
 ·subst hmm
  have HZ := Lib.hid (hE1 rfl)
  clear hE0 hE1
  go_wp2
  go_loopw [5] (fun i wr => ∃ q : Nat, q ≤ m2 ∧ i = .int .i64 q ∧ Hid (∀ (j : Nat), j < q → ∀ (c : C) (v : V), cs[j]? = some c → l[j]? = some v → fitsE c v = 0) ∧ Below w.heap.size w wr ∧ Box2 wr w.heap.size (.string nm) (.slice A1 m2 cp)) (fun i _ => m2 - (intOf i).toNat)
  case atStart => exact ⟨0, Nat.zero_le _, rfl, Lib.hid (fun j hj => absurd hj (Nat.not_lt_zero j)), hB0, hx0⟩
  case round =>
   obtain ⟨q, hq, rfl, hH, hB, hx⟩ := hrel
   have c1 := hx.c1
   by_cases hlt : q < m2
   ·have hg1 : cs[q]? = some (cs[q]'(by rw [HM.out]; exact hlt)) := List.getElem?_eq_getElem _
    have hg2 : l[q]? = some (l[q]'(by rw [HM2.out]; exact hlt)) := List.getElem?_eq_getElem _
    obtain ⟨b1, o1, rfl, hlo1, hlb1, hcc1⟩ := (HA.out.below hB (Nat.le_refl _)) (fun e => by have := HM.out; rw [e] at this; simp at this; omega)
    obtain ⟨d0, d1, d2⟩ := hcc1 q _ hg1
    obtain ⟨b2, o2, rfl, hlo2, hlb2, e0, e1, e2⟩ := HasV.at (HB.out.below hB (Nat.le_refl _)) hg2
    generalize (cs[q]'(by rw [HM.out]; exact hlt)) = c at hg1 d0 d1 d2
    generalize (l[q]'(by rw [HM2.out]; exact hlt)) = a at hg2 e0 e1 e2
    have hD : At6 wr b1 (o1 + q * 3) b2 (o2 + q * 3) c a := ⟨d0, d1, d2, e0, e1, e2⟩
    have hc1 := fun W : World => refFits_any c a W
    have HF : Hid (fitsE c a ≠ 0 → errs cs l = fitsE c a) := Lib.hid (errs_at cs l q c a (fun j c v hj hc hv => hH.out j hj c v hc hv) hg1 hg2)
    have HS : Hid (fitsE c a = 0 → ∀ (j : Nat), j < q + 1 → ∀ (c : C) (v : V), cs[j]? = some c → l[j]? = some v → fitsE c v = 0) := Lib.hid (fun h0 j hj c' v' hc hv => by
     by_cases hjq : j < q
     ·exact hH.out j hjq c' v' hc hv
     ·obtain rfl : j = q := by omega
      rw [hg1] at hc
      rw [hg2] at hv
      injection hc with hc
      injection hv with hv
      subst hc hv
      exact h0)
    generalize fitsE c a = r at hc1 HF HS
    obtain ⟨nn, ck, cz⟩ := c
    obtain ⟨k, n, s⟩ := a
    have hc1 : ∀ W : World, Calls Tryd.prog 29 #[.agg #[.string nn, .int .i64 ck, .bool cz], .agg #[.int .i64 k, .int .i64 n, .string s]] W fun e w' => e = .returned (.int .i64 r) ∧ Below W.heap.size W w' := hc1
    clear hcc1 hg1 hg2 d0 d1 d2 e0 e1 e2
    have i1 : (q : Int) < (m2 : Int) := by omega
    have i0 : (0 : Int) ≤ (q : Int) := by omega
    generalize hgw : w.heap.size = g at hx c1 ⊢
    go_wp2_with fail
    clear c1
    have hD := hD.below (Below.refl _ _).drew
    have hx := hx.drew
    have hB := hB.drew
    refine Lex.region_lex (ops := xkops) (calls := xkcalls) xkord (fun W => W.cell? ⟨g, 1, none⟩ = some (.slice (some ⟨b1, o1, none⟩) m2 cp) ∧ W.cell? ⟨b1, o1 + q * 3, none⟩ = some (.string nn) ∧ W.cell? ⟨b1, o1 + q * 3 + 1, none⟩ = some (.int .i64 ck) ∧ W.cell? ⟨b1, o1 + q * 3 + 2, none⟩ = some (.bool cz) ∧ W.cell? ⟨b2, o2 + q * 3, none⟩ = some (.int .i64 k) ∧ W.cell? ⟨b2, o2 + q * 3 + 1, none⟩ = some (.int .i64 n) ∧ W.cell? ⟨b2, o2 + q * 3 + 2, none⟩ = some (.string s)) (by kernel_rfl) (by kernel_rfl) xksel (by kernel_rfl) (by kernel_rfl) xklex (⟨hx.c1, hD.1, hD.2.1, hD.2.2.1, hD.2.2.2.1, hD.2.2.2.2.1, hD.2.2.2.2.2⟩) ?_
    unfold xkord
    refine Lex.step_take (.pointer (some ⟨g, 1, none⟩)) xk0 rfl (Lex.want_none rfl) (by intro Wx hSw; (try dsimp only at hSw); go_simp; (try (first | (with_reducible rfl) | assumption | rfl))) ?_
    simp only [Act.put, List.setIfInBounds_toArray, List.set_cons_zero, List.set_cons_succ]
    refine Lex.step_take (.slice (some ⟨b1, o1, none⟩) m2 cp) xk1 rfl (Lex.want_none rfl) (by intro Wx hSw; (try dsimp only at hSw); go_simp; (try (first | (with_reducible rfl) | assumption | rfl))) ?_
    simp only [Act.put, List.setIfInBounds_toArray, List.set_cons_zero, List.set_cons_succ]
    refine Lex.step_take (.int .i64 q) xk2 rfl (Lex.want_none rfl) (by intro Wx hSw; (try dsimp only at hSw); go_simp; (try (first | (with_reducible rfl) | assumption | rfl))) ?_
    simp only [Act.put, List.setIfInBounds_toArray, List.set_cons_zero, List.set_cons_succ]
    refine Lex.step_take (.pointer (some ⟨b1, o1 + q * 3, none⟩)) xk3 rfl (Lex.want_none rfl) (by intro Wx hSw; (try dsimp only at hSw); go_simp; (try (first | (with_reducible rfl) | assumption | rfl))) ?_
    simp only [Act.put, List.setIfInBounds_toArray, List.set_cons_zero, List.set_cons_succ]
    refine Lex.step_take (.agg #[.string nn, .int .i64 ck, .bool cz]) xk4 rfl (Lex.want_none rfl) (by intro Wx hSw; (try dsimp only at hSw); go_simp; (try (first | (with_reducible rfl) | assumption | rfl))) ?_
    simp only [Act.put, List.setIfInBounds_toArray, List.set_cons_zero, List.set_cons_succ]
    refine Lex.step_take (.slice (some ⟨b2, o2, none⟩) m2 cp2) xk5 rfl (Lex.want_none rfl) (by intro Wx hSw; (try dsimp only at hSw); go_simp; (try (first | (with_reducible rfl) | assumption | rfl))) ?_
    simp only [Act.put, List.setIfInBounds_toArray, List.set_cons_zero, List.set_cons_succ]
    refine Lex.step_take (.int .i64 q) xk6 rfl (Lex.want_none rfl) (by intro Wx hSw; (try dsimp only at hSw); go_simp; (try (first | (with_reducible rfl) | assumption | rfl))) ?_
    simp only [Act.put, List.setIfInBounds_toArray, List.set_cons_zero, List.set_cons_succ]
    refine Lex.step_take (.pointer (some ⟨b2, o2 + q * 3, none⟩)) xk7 rfl (Lex.want_none rfl) (by intro Wx hSw; (try dsimp only at hSw); go_simp; (try (first | (with_reducible rfl) | assumption | rfl))) ?_
    simp only [Act.put, List.setIfInBounds_toArray, List.set_cons_zero, List.set_cons_succ]
    refine Lex.step_take (.agg #[.int .i64 k, .int .i64 n, .string s]) xk8 rfl (Lex.want_none rfl) (by intro Wx hSw; (try dsimp only at hSw); go_simp; (try (first | (with_reducible rfl) | assumption | rfl))) ?_
    simp only [Act.put, List.setIfInBounds_toArray, List.set_cons_zero, List.set_cons_succ]
    refine Lex.step_call xk9 rfl (Lex.want_none rfl) (fun K hK => ?_)
    go_simp
    refine (hc1 _).mono ?_
    rintro e y1 ⟨rfl, hy1⟩
    have hD := hD.below hy1
    have hB := hB.trans (hy1.mono hB.size)
    have hx := hx.below hy1 hx.lt
    clear hy1 hc1
    refine hK.out _ _ _ (fun _ h => h) ⟨hx.c1, hD.1, hD.2.1, hD.2.2.1, hD.2.2.2.1, hD.2.2.2.2.1, hD.2.2.2.2.2⟩ ?_
    clear hK K
    try simp only [Act.put, List.setIfInBounds_toArray, List.set_cons_zero, List.set_cons_succ]
    refine Lex.step_take (.int .i64 r) xk10 rfl (Lex.want_none rfl) (by intro Wx hSw; (try dsimp only at hSw); go_simp; (try (first | (with_reducible rfl) | assumption | rfl))) ?_
    simp only [Act.put, List.setIfInBounds_toArray, List.set_cons_zero, List.set_cons_succ]
    refine NoPanic.normal ?_
    subst hgw
    by_cases hr : r = 0
    ·subst hr
     go_wp2
     go_roundw
     case rel => exact ⟨q + 1, by omega, by go_num, Lib.hid (HS.out rfl), hB, hx⟩
     case measure => simp [intOf]; omega
    ·have hr' : (r != 0) = true := bne_iff_ne.2 hr
     go_wp2
     go_ret
     exact ⟨by rw [HZ.out, HF.out hr]; rfl, hB⟩
   ·obtain rfl : q = m2 := by omega
    have HQ : Hid (z = 0) := Lib.hid (by rw [HZ.out]; exact errs_none HM.out hH.out)
    go_wp2
    go_ret
    exact ⟨by rw [HQ.out]; rfl, hB⟩
 ·have HQ := Lib.hid (hE0 hmm)
  have hmm' : ((m2 : Int) != (m : Int)) = true := bne_iff_ne.2 (by omega)
  go_wp2
  go_ret
  exact ⟨by rw [HQ.out]; rfl, hB0⟩
end Go.Proofs.YtpnnkhpokangfaaDoor.Ro
