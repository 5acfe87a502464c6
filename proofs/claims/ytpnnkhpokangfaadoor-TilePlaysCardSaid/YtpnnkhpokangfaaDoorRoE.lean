/- Rows: what the program says, walked: Fits, Check. -/
import Derived.Test.YtpnnkhpokangfaaDoorRoC
import Derived.Test.YtpnnkhpokangfaaDoorMgX
import Derived.Test.YtpnnkhpokangfaaDoorVaB
namespace Go.Proofs.YtpnnkhpokangfaaDoor.Ro
open Go.RowKit Pac Va Sc Lex

set_option maxHeartbeats 1600000 in
theorem fits_any (c : C) (a : V) (w : World) : Calls Tryd.prog 54 #[c.v, a.v] w fun e w' => e = .returned (.int .i64 (fitsE c a)) ∧ Below w.heap.size w w' := by
 obtain ⟨nm, ck, cz⟩ := c
 obtain ⟨k, n, s⟩ := a
 have hri := fun W : World => Va.right_any ⟨k, n, s⟩ W
 have hF : fitsE ⟨nm, ck, cz⟩ ⟨k, n, s⟩ = if rightV ⟨k, n, s⟩ = false then 1 else if k = 0 then (if cz then 0 else 6) else if k = ck then 0 else 5 := rfl
 generalize fitsE ⟨nm, ck, cz⟩ ⟨k, n, s⟩ = r at hF ⊢
 generalize rightV ⟨k, n, s⟩ = x at hri hF
 have HF := Lib.hid hF
 clear hF
 have hb0 := ((Below.refl w.heap.size w).alloc (Nat.le_refl _) (.cells #[.string nm, .int .i64 ck, .bool cz] 60)).alloc (by simp) (.cells #[.int .i64 k, .int .i64 n, .string s] 37)
 have hx0 := (Box3.new w (.string nm) (.int .i64 ck) (.bool cz) 60).alloc (.cells #[.int .i64 k, .int .i64 n, .string s] 37)
 have hy0 := Box3.new (w.alloc (.cells #[.string nm, .int .i64 ck, .bool cz] 60)) (.int .i64 k) (.int .i64 n) (.string s) 37
 rw [show (w.alloc (.cells #[.string nm, .int .i64 ck, .bool cz] 60)).heap.size = w.heap.size + 1 by simp] at hy0
 show Calls Tryd.prog 54 #[.agg #[.string nm, .int .i64 ck, .bool cz], .agg #[.int .i64 k, .int .i64 n, .string s]] w _
 go_enter Tryd.func54, Tryd.ntmps54
 go_wp2_with fail
 refine (hri _).mono ?_
 rintro e w1 ⟨rfl, hw1⟩
 have hx := hx0.below hw1 (by simp; omega)
 have hy := hy0.below hw1 (by simp)
 have HB := Lib.hid (hb0.trans (hw1.mono hb0.size))
 have c1 := hx.c1
 have c2 := hx.c2
 have d0 := hy.c0
 clear hri hx hx0 hy0 hy hw1 hb0
 cases x
 ·go_wp2
  go_ret
  exact ⟨by rw [HF.out]; rfl, HB.out⟩
 ·by_cases k0 : k = 0
  ·subst k0
   cases cz
   ·go_wp2
    go_ret
    exact ⟨by rw [HF.out]; rfl, HB.out⟩
   ·go_wp2
    go_ret
    exact ⟨by rw [HF.out]; rfl, HB.out⟩
  ·have k0' : (k != 0) = true := bne_iff_ne.2 k0
   by_cases k1 : k = ck
   ·subst k1
    have HZ : Hid (r = 0) := Lib.hid (by rw [HF.out]; simp [k0])
    go_wp2
    go_ret
    exact ⟨by rw [HZ.out]; rfl, HB.out⟩
   ·have HZ : Hid (r = 5) := Lib.hid (by rw [HF.out]; simp [k0, k1])
    have k1' : (k != ck) = true := bne_iff_ne.2 k1
    go_wp2
    go_ret
    exact ⟨by rw [HZ.out]; rfl, HB.out⟩

/-- A value in memory. -/
def At3 (w : World) (b2 i2 : Nat) (a : V) : Prop :=
 w.cell? ⟨b2, i2, none⟩ = some (.int .i64 a.k) ∧ w.cell? ⟨b2, i2 + 1, none⟩ = some (.int .i64 a.n) ∧ w.cell? ⟨b2, i2 + 2, none⟩ = some (.string a.s)
theorem At3.below {w w' : World} {b2 i2 : Nat} {a : V} (h : At3 w b2 i2 a) (hb : Below w.heap.size w w') : At3 w' b2 i2 a :=
 ⟨cell_below hb h.1, cell_below hb h.2.1, cell_below hb h.2.2⟩
set_option maxRecDepth 20000 in
set_option maxHeartbeats 2000000 in
theorem check_any (A1 A2 : Option Addr) (cp cp2 : Nat) (nm : ByteArray) (cs : List C) (l : List V) (lo1 lo2 : Nat) (w : World) (h1 : HasCols w lo1 A1 cs) (h2 : HasV w lo2 A2 l) (hl1 : cs.length ≤ 9223372036854775807) (hl2 : l.length ≤ 9223372036854775807) :
  Calls Tryd.prog 52 #[.agg #[.string nm, .slice A1 cs.length cp], .slice A2 l.length cp2] w fun e w' => e = .returned (.int .i64 (checkE cs l)) ∧ Below w.heap.size w w' := by
 have hE0 : l.length ≠ cs.length → checkE cs l = 1 := fun h => by unfold checkE; rw [if_neg h]
 have hE1 : l.length = cs.length → checkE cs l = errs cs l := fun h => by unfold checkE; rw [if_pos h]
 generalize checkE cs l = z at hE0 hE1 ⊢
 obtain ⟨m, hm⟩ : ∃ m, cs.length = m := ⟨_, rfl⟩
 obtain ⟨m2, hm2⟩ : ∃ m, l.length = m := ⟨_, rfl⟩
 rw [hm] at hl1 hE0 hE1 ⊢
 rw [hm2] at hl2 hE0 hE1 ⊢
 have HA := Lib.hid h1
 have HB := Lib.hid h2
 have HM := Lib.hid hm
 have HM2 := Lib.hid hm2
 clear h1 h2 hm hm2
 have hB0 := (Below.refl w.heap.size w).alloc (Nat.le_refl _) (.cells #[.string nm, .slice A1 m cp] 24)
 have hx0 := Box2.new w (.string nm) (.slice A1 m cp) 24
 go_enter Tryd.func52, Tryd.ntmps52
 by_cases hmm : m2 = m
 ·subst hmm
  have HZ := Lib.hid (hE1 rfl)
  clear hE0 hE1
  have c1 := hx0.c1
  go_wp2
  go_loopw [17] (fun i wr => ∃ q : Nat, q ≤ m2 ∧ i = .int .i64 q ∧ Hid (∀ (j : Nat), j < q → ∀ (c : C) (v : V), cs[j]? = some c → l[j]? = some v → fitsE c v = 0) ∧ Below w.heap.size w wr) (fun i _ => m2 - (intOf i).toNat)
  case atStart => exact ⟨0, Nat.zero_le _, rfl, Lib.hid (fun j hj => absurd hj (Nat.not_lt_zero j)), hB0⟩
  case round =>
   clear c1 hx0
   obtain ⟨q, hq, rfl, hH, hB⟩ := hrel
   by_cases hlt : q < m2
   ·have hg1 : cs[q]? = some (cs[q]'(by rw [HM.out]; exact hlt)) := List.getElem?_eq_getElem _
    have hg2 : l[q]? = some (l[q]'(by rw [HM2.out]; exact hlt)) := List.getElem?_eq_getElem _
    obtain ⟨b1, o1, rfl, hlo1, hlb1, hcc1⟩ := (HA.out.below hB (Nat.le_refl _)) (fun e => by have := HM.out; rw [e] at this; simp at this; omega)
    obtain ⟨d0, d1, d2⟩ := hcc1 q _ hg1
    obtain ⟨b2, o2, rfl, hlo2, hlb2, e0, e1, e2⟩ := HasV.at (HB.out.below hB (Nat.le_refl _)) hg2
    generalize (cs[q]'(by rw [HM.out]; exact hlt)) = c at hg1 d0 d1 d2
    generalize (l[q]'(by rw [HM2.out]; exact hlt)) = a at hg2 e0 e1 e2
    have hD : At3 wr b2 (o2 + q * 3) a := ⟨e0, e1, e2⟩
    have hc1 := fun W : World => fits_any c a W
    have HF : Hid (fitsE c a ≠ 0 → errs cs l = fitsE c a) := Lib.hid (errs_at cs l q c a (fun j c v hj hc hv => hH.out j hj c v hc hv) hg1 hg2)
    have HS : Hid (fitsE c a = 0 → ∀ (j : Nat), j < q + 1 → ∀ (c : C) (v : V), cs[j]? = some c → l[j]? = some v → fitsE c v = 0) := Lib.hid (fun h0 j hj c' v' hc hv => by
     by_cases hjq : j < q
     ·exact hH.out j hjq c' v' hc hv
     ·obtain rfl : j = q := by omega
      rw [hg1] at hc
      rw [hg2] at hv
      injection hc with hc
      injection hv with hv
      subst hc hv
      exact h0)
    generalize fitsE c a = r at hc1 HF HS
    obtain ⟨nn, ck, cz⟩ := c
    obtain ⟨k, n, s⟩ := a
    simp only at d0 d1 d2
    have hc1 : ∀ W : World, Calls Tryd.prog 54 #[.agg #[.string nn, .int .i64 ck, .bool cz], .agg #[.int .i64 k, .int .i64 n, .string s]] W fun e w' => e = .returned (.int .i64 r) ∧ Below W.heap.size W w' := hc1
    clear hcc1 hg1 hg2 e0 e1 e2
    have i1 : (q : Int) < (m2 : Int) := by omega
    have i0 : (0 : Int) ≤ (q : Int) := by omega
    have hv := Box3.new wr (.string nn) (.int .i64 ck) (.bool cz) 60
    have hD := hD.below ((Below.refl wr.heap.size wr).alloc (Nat.le_refl _) (.cells #[.string nn, .int .i64 ck, .bool cz] 60))
    have hB := hB.alloc hB.size (.cells #[.string nn, .int .i64 ck, .bool cz] 60)
    go_wp2_with fail
    clear d0 d1 d2
    generalize wr.alloc (.cells #[.string nn, .int .i64 ck, .bool cz] 60) = w3 at hv hD hB ⊢
    generalize wr.heap.size = v at hv ⊢
    have hD := hD.below (Below.refl _ _).drew
    have hv := hv.drew
    have hB := hB.drew
    refine Lex.region_lex (ops := xjops) (calls := xjcalls) xjord (fun W => W.cell? ⟨v, 0, none⟩ = some (.string nn) ∧ W.cell? ⟨v, 1, none⟩ = some (.int .i64 ck) ∧ W.cell? ⟨v, 2, none⟩ = some (.bool cz) ∧ W.cell? ⟨b2, o2 + q * 3, none⟩ = some (.int .i64 k) ∧ W.cell? ⟨b2, o2 + q * 3 + 1, none⟩ = some (.int .i64 n) ∧ W.cell? ⟨b2, o2 + q * 3 + 2, none⟩ = some (.string s)) (by kernel_rfl) (by kernel_rfl) xjsel (by kernel_rfl) (by kernel_rfl) xjlex (⟨hv.c0, hv.c1, hv.c2, hD.1, hD.2.1, hD.2.2⟩) ?_
    unfold xjord
    refine Lex.step_take (.agg #[.string nn, .int .i64 ck, .bool cz]) xj0 rfl (Lex.want_none rfl) (by intro Wx hSw; (try dsimp only at hSw); go_simp; (try (first | (with_reducible rfl) | assumption | rfl))) ?_
    simp only [Act.put, List.setIfInBounds_toArray, List.set_cons_zero, List.set_cons_succ]
    refine Lex.step_take (.slice (some ⟨b2, o2, none⟩) m2 cp2) xj1 rfl (Lex.want_none rfl) (by intro Wx hSw; (try dsimp only at hSw); go_simp; (try (first | (with_reducible rfl) | assumption | rfl))) ?_
    simp only [Act.put, List.setIfInBounds_toArray, List.set_cons_zero, List.set_cons_succ]
    refine Lex.step_take (.int .i64 q) xj2 rfl (Lex.want_none rfl) (by intro Wx hSw; (try dsimp only at hSw); go_simp; (try (first | (with_reducible rfl) | assumption | rfl))) ?_
    simp only [Act.put, List.setIfInBounds_toArray, List.set_cons_zero, List.set_cons_succ]
    refine Lex.step_take (.pointer (some ⟨b2, o2 + q * 3, none⟩)) xj3 rfl (Lex.want_none rfl) (by intro Wx hSw; (try dsimp only at hSw); go_simp; (try (first | (with_reducible rfl) | assumption | rfl))) ?_
    simp only [Act.put, List.setIfInBounds_toArray, List.set_cons_zero, List.set_cons_succ]
    refine Lex.step_take (.agg #[.int .i64 k, .int .i64 n, .string s]) xj4 rfl (Lex.want_none rfl) (by intro Wx hSw; (try dsimp only at hSw); go_simp; (try (first | (with_reducible rfl) | assumption | rfl))) ?_
    simp only [Act.put, List.setIfInBounds_toArray, List.set_cons_zero, List.set_cons_succ]
    refine Lex.step_call xj5 rfl (Lex.want_none rfl) (fun K hK => ?_)
    go_simp
    refine (hc1 _).mono ?_
    rintro e y1 ⟨rfl, hy1⟩
    have hD := hD.below hy1
    have hB := hB.trans (hy1.mono hB.size)
    have hv := hv.below hy1 hv.lt
    clear hy1 hc1
    refine hK.out _ _ _ (fun _ h => h) ⟨hv.c0, hv.c1, hv.c2, hD.1, hD.2.1, hD.2.2⟩ ?_
    clear hK K
    try simp only [Act.put, List.setIfInBounds_toArray, List.set_cons_zero, List.set_cons_succ]
    refine Lex.step_take (.int .i64 r) xj6 rfl (Lex.want_none rfl) (by intro Wx hSw; (try dsimp only at hSw); go_simp; (try (first | (with_reducible rfl) | assumption | rfl))) ?_
    simp only [Act.put, List.setIfInBounds_toArray, List.set_cons_zero, List.set_cons_succ]
    refine NoPanic.normal ?_
    by_cases hr : r = 0
    ·subst hr
     go_wp2
     go_roundw
     case rel => exact ⟨q + 1, by omega, by go_num, Lib.hid (HS.out rfl), hB⟩
     case measure => simp [intOf]; omega
    ·have hr' : (r != 0) = true := bne_iff_ne.2 hr
     go_wp2
     go_ret
     exact ⟨by rw [HZ.out, HF.out hr]; rfl, hB⟩
   ·obtain rfl : q = m2 := by omega
    have HQ : Hid (z = 0) := Lib.hid (by rw [HZ.out]; exact errs_none HM.out hH.out)
    go_wp2
    go_ret
    exact ⟨by rw [HQ.out]; rfl, hB⟩
 ·have HQ := Lib.hid (hE0 hmm)
  have hmm' : ((m2 : Int) != (m : Int)) = true := bne_iff_ne.2 (by omega)
  have c1 := hx0.c1
  go_wp2
  go_ret
  exact ⟨by rw [HQ.out]; rfl, hB0⟩
end Go.Proofs.YtpnnkhpokangfaaDoor.Ro
