/- Values in memory; whether a value may stand in a column: the document's, walked; whether two rows are the same, a row is short. -/
import Derived.Test.YtpnnkhpokangfaaDoorRoA
import Derived.Test.YtpnnkhpokangfaaDoorMgL
import Derived.Test.YtpnnkhpokangfaaDoorMgS
import Derived.Test.YtpnnkhpokangfaaDoorMgP
namespace Go.Proofs.YtpnnkhpokangfaaDoor.Ro
open Go.RowKit Pac Va Sc

def cellsV (a : V) : List Value := [.int .i64 a.k, .int .i64 a.n, .string a.s]
theorem cellsV_len (a : V) : (cellsV a).length = 3 := rfl
/-- The slice at A holds these values, in memory from lo on. -/
abbrev HasV (w : World) (lo : Nat) (A : Option Addr) (l : List V) : Prop := Li.HasL cellsV 3 w lo A l
theorem HasV.at {w : World} {lo : Nat} {A : Option Addr} {l : List V} (h : HasV w lo A l) {q : Nat} {a : V} (hq : l[q]? = some a) : ∃ b o, A = some ⟨b, o, none⟩ ∧ lo ≤ b ∧ b < w.heap.size ∧ w.cell? ⟨b, o + q * 3, none⟩ = some (.int .i64 a.k) ∧ w.cell? ⟨b, o + q * 3 + 1, none⟩ = some (.int .i64 a.n) ∧ w.cell? ⟨b, o + q * 3 + 2, none⟩ = some (.string a.s) := by
 obtain ⟨b, o, hA, hlo, hlt, hc⟩ := h (fun e => by rw [e] at hq; simp at hq)
 exact ⟨b, o, hA, hlo, hlt, hc q a hq 0 _ rfl, hc q a hq 1 _ rfl, hc q a hq 2 _ rfl⟩

set_option maxHeartbeats 1600000 in
theorem refFits_any (c : C) (a : V) (w : World) : Calls Tryd.prog 29 #[c.v, a.v] w fun e w' => e = .returned (.int .i64 (fitsE c a)) ∧ Below w.heap.size w w' := by
 obtain ⟨nm, ck, cz⟩ := c
 obtain ⟨k, n, s⟩ := a
 have hri := fun W : World => Va.refRight_any ⟨k, n, s⟩ W
 have hF : fitsE ⟨nm, ck, cz⟩ ⟨k, n, s⟩ = if rightV ⟨k, n, s⟩ = false then 1 else if k = 0 then (if cz then 0 else 6) else if k = ck then 0 else 5 := rfl
 generalize fitsE ⟨nm, ck, cz⟩ ⟨k, n, s⟩ = r at hF ⊢
 generalize rightV ⟨k, n, s⟩ = x at hri hF
 have HF := Lib.hid hF
 clear hF
 have hb0 := ((Below.refl w.heap.size w).alloc (Nat.le_refl _) (.cells #[.string nm, .int .i64 ck, .bool cz] 60)).alloc (by simp) (.cells #[.int .i64 k, .int .i64 n, .string s] 37)
 have hx0 := (Box3.new w (.string nm) (.int .i64 ck) (.bool cz) 60).alloc (.cells #[.int .i64 k, .int .i64 n, .string s] 37)
 have hy0 := Box3.new (w.alloc (.cells #[.string nm, .int .i64 ck, .bool cz] 60)) (.int .i64 k) (.int .i64 n) (.string s) 37
 rw [show (w.alloc (.cells #[.string nm, .int .i64 ck, .bool cz] 60)).heap.size = w.heap.size + 1 by simp] at hy0
 show Calls Tryd.prog 29 #[.agg #[.string nm, .int .i64 ck, .bool cz], .agg #[.int .i64 k, .int .i64 n, .string s]] w _
 go_enter Tryd.func29, Tryd.ntmps29
 go_wp2_with fail
 refine (hri _).mono ?_
 rintro e w1 ⟨rfl, hw1⟩
 have hx := hx0.below hw1 (by simp; omega)
 have hy := hy0.below hw1 (by simp)
 have HB := Lib.hid (hb0.trans (hw1.mono hb0.size))
 have c1 := hx.c1
 have c2 := hx.c2
 have d0 := hy.c0
 clear hri hx hx0 hy0 hy hw1 hb0
 cases x
 ·go_wp2
  go_ret
  exact ⟨by rw [HF.out]; rfl, HB.out⟩
 ·by_cases k0 : k = 0
  ·subst k0
   cases cz
   ·go_wp2
    go_ret
    exact ⟨by rw [HF.out]; rfl, HB.out⟩
   ·go_wp2
    go_ret
    exact ⟨by rw [HF.out]; rfl, HB.out⟩
  ·have k0' : (k != 0) = true := bne_iff_ne.2 k0
   by_cases k1 : k = ck
   ·subst k1
    have HZ : Hid (r = 0) := Lib.hid (by rw [HF.out]; simp [k0])
    go_wp2
    go_ret
    exact ⟨by rw [HZ.out]; rfl, HB.out⟩
   ·have HZ : Hid (r = 5) := Lib.hid (by rw [HF.out]; simp [k0, k1])
    have k1' : (k != ck) = true := bne_iff_ne.2 k1
    go_wp2
    go_ret
    exact ⟨by rw [HZ.out]; rfl, HB.out⟩

/-- A row of two that are the same. -/
def SamePost (l1 l2 : List V) (w : World) (e : Ending) (w' : World) : Prop :=
 ∃ r : Bool, e = .returned (.bool r) ∧ (r = true ↔ l1 = l2) ∧ Below w.heap.size w w'
theorem bytesV_iff {a b : ByteArray} : (a.toList == b.toList) = true ↔ a = b := by
 rw [beq_iff_eq, ByteArray.toList_eq, ByteArray.toList_eq]
 exact ⟨fun e => bytesEq e, fun e => by rw [e]⟩
theorem ne_at {l1 l2 : List V} {q : Nat} {a b : V} (h1 : l1[q]? = some a) (h2 : l2[q]? = some b) (h : a ≠ b) : ¬ l1 = l2 := fun e => by
 rw [e, h2] at h1
 injection h1 with h1
 exact h h1.symm
set_option maxRecDepth 20000 in
set_option maxHeartbeats 2000000 in
theorem refSame_any (A1 A2 : Option Addr) (p1 p2 : Nat) (l1 l2 : List V) (lo1 lo2 : Nat) (w : World) (ha : HasV w lo1 A1 l1) (hb : HasV w lo2 A2 l2) (hl1 : l1.length ≤ 9223372036854775807) (hl2 : l2.length ≤ 9223372036854775807) :
  Calls Tryd.prog 22 #[.slice A1 l1.length p1, .slice A2 l2.length p2] w (SamePost l1 l2 w) := by
 obtain ⟨m, hm⟩ : ∃ m, l1.length = m := ⟨_, rfl⟩
 obtain ⟨m2, hm2⟩ : ∃ m, l2.length = m := ⟨_, rfl⟩
 rw [hm] at hl1 ⊢
 rw [hm2] at hl2 ⊢
 have HA := Lib.hid ha
 have HB := Lib.hid hb
 have HM := Lib.hid hm
 have HM2 := Lib.hid hm2
 clear ha hb hm hm2
 go_enter Tryd.func22, Tryd.ntmps22
 by_cases hmm : m = m2
 ·subst hmm
  go_wp2
  go_loopw [5] (fun i wr => ∃ q : Nat, q ≤ m ∧ i = .int .i64 q ∧ Hid (l1.take q = l2.take q) ∧ Below w.heap.size w wr) (fun i _ => m - (intOf i).toNat)
  case atStart => exact ⟨0, Nat.zero_le _, rfl, Lib.hid rfl, Below.refl _ w⟩
  case round =>
   obtain ⟨q, hq, rfl, hH, hB⟩ := hrel
   by_cases hlt : q < m
   ·have hg1 : l1[q]? = some (l1[q]'(by rw [HM.out]; exact hlt)) := List.getElem?_eq_getElem _
    have hg2 : l2[q]? = some (l2[q]'(by rw [HM2.out]; exact hlt)) := List.getElem?_eq_getElem _
    obtain ⟨b1, o1, rfl, hlo1, hlb1, d0, d1, d2⟩ := HasV.at (HA.out.below hB (Nat.le_refl _)) hg1
    obtain ⟨b2, o2, rfl, hlo2, hlb2, e0, e1, e2⟩ := HasV.at (HB.out.below hB (Nat.le_refl _)) hg2
    generalize (l1[q]'(by rw [HM.out]; exact hlt)) = cA at hg1 d0 d1 d2
    generalize (l2[q]'(by rw [HM2.out]; exact hlt)) = cB at hg2 e0 e1 e2
    have HG1 := Lib.hid hg1
    have HG2 := Lib.hid hg2
    obtain ⟨k1, n1, s1⟩ := cA
    obtain ⟨k2, n2, s2⟩ := cB
    simp only at d0 d1 d2 e0 e1 e2
    have i1 : (q : Int) < (m : Int) := by omega
    have i0 : (0 : Int) ≤ (q : Int) := by omega
    clear hg1 hg2
    by_cases q1 : k1 = k2
    ·subst q1
     by_cases q2 : n1 = n2
     ·subst q2
      by_cases q3 : s1 = s2
      ·subst q3
       go_wp2
       go_region
       go_wp2
       go_roundw
       case rel => exact ⟨q + 1, by omega, by go_num, Lib.hid (by rw [List.take_add_one, List.take_add_one, hH.out, HG1.out, HG2.out]), hB.drew⟩
       case measure => simp [intOf]; omega
      ·have q3' : ¬ s1.toList = s2.toList := fun e => q3 (bytesV_iff.1 (beq_iff_eq.2 e))
       have HQ : Hid (¬ l1 = l2) := Lib.hid (ne_at HG1.out HG2.out (fun e => by injection e with _ _ e; exact q3 e))
       go_wp2
       go_region
       go_wp2
       go_ret
       exact ⟨false, rfl, ⟨fun e => (by cases e), fun e => absurd e HQ.out⟩, hB.drew⟩
     ·have HQ : Hid (¬ l1 = l2) := Lib.hid (ne_at HG1.out HG2.out (fun e => by injection e with _ e _; exact q2 e))
      go_wp2
      go_region
      go_wp2
      go_ret
      exact ⟨false, rfl, ⟨fun e => (by cases e), fun e => absurd e HQ.out⟩, hB.drew⟩
    ·have HQ : Hid (¬ l1 = l2) := Lib.hid (ne_at HG1.out HG2.out (fun e => by injection e with e _ _; exact q1 e))
     go_wp2
     go_region
     go_wp2
     go_ret
     exact ⟨false, rfl, ⟨fun e => (by cases e), fun e => absurd e HQ.out⟩, hB.drew⟩
   ·obtain rfl : q = m := by omega
    have HQ : Hid (l1 = l2) := Lib.hid (by
     have e := hH.out
     rw [List.take_of_length_le (by rw [HM.out]; exact Nat.le_refl _), List.take_of_length_le (by rw [HM2.out]; exact Nat.le_refl _)] at e
     exact e)
    go_wp2
    go_ret
    exact ⟨true, rfl, ⟨fun _ => HQ.out, fun _ => rfl⟩, hB⟩
 ·have HQ : Hid (¬ l1 = l2) := Lib.hid (fun h => hmm (by rw [← HM.out, ← HM2.out, h]))
  have hmm' : ((m : Int) == (m2 : Int)) = false := beq_eq_false_iff_ne.2 (by omega)
  go_wp2
  go_ret
  exact ⟨false, rfl, ⟨fun e => (by cases e), fun e => absurd e HQ.out⟩, Below.refl _ w⟩

def SmallPost (l : List V) (w : World) (e : Ending) (w' : World) : Prop :=
 ∃ r : Bool, e = .returned (.bool r) ∧ (r = true → l.length ≤ 30 ∧ ∀ (j : Nat) (a : V), l[j]? = some a → a.s.size ≤ 200) ∧ Below w.heap.size w w'
end Go.Proofs.YtpnnkhpokangfaaDoor.Ro
