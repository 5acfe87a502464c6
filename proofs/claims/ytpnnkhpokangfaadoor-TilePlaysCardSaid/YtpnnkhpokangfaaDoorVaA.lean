/- Values, plainly; whether one may be, which is ahead: the document's, walked. -/
import Derived.Test.YtpnnkhpokangfaaDoorMgP
namespace Go.Proofs.YtpnnkhpokangfaaDoor.Va
open Go.RowKit Pac

/-- A value. -/
structure V where
 k : Int
 n : Int
 s : ByteArray
abbrev V.v (a : V) : Value := .agg #[.int .i64 a.k, .int .i64 a.n, .string a.s]
structure V.Ok (a : V) : Prop where
 k0 : -9223372036854775808 ≤ a.k
 k1 : a.k ≤ 9223372036854775807
 n0 : -9223372036854775808 ≤ a.n
 n1 : a.n ≤ 9223372036854775807
/-- May it be? -/
def rightV (a : V) : Bool :=
 if a.k = 0 then (a.n == 0 && a.s.toList.isEmpty) else if a.k = 1 then a.s.toList.isEmpty else if a.k = 2 then ((a.n == 0 || a.n == 1) && a.s.toList.isEmpty) else if a.k = 3 then (a.n == 0 && decide ((a.s.size : Int) ≤ 60)) else false
theorem less_irrefl (l : List UInt8) : Op.bytesLess l l = false := by
 induction l with
 | nil => rfl
 | cons a l ih => simp [Op.bytesLess, ih]
theorem less_cons (a b : UInt8) (l m : List UInt8) : Op.bytesLess (a :: l) (b :: m) = true ↔ a.toNat < b.toNat ∨ (a = b ∧ Op.bytesLess l m = true) := by
 simp only [Op.bytesLess, Bool.or_eq_true, decide_eq_true_eq, Bool.and_eq_true, beq_iff_eq, UInt8.lt_iff_toNat_lt]
set_option maxHeartbeats 800000 in
theorem refRight_any (a : V) (w : World) : Calls Tryd.prog 50 #[a.v] w fun e w' => e = .returned (.bool (rightV a)) ∧ Below w.heap.size w w' := by
 obtain ⟨k, n, s⟩ := a
 have hR : rightV ⟨k, n, s⟩ = if k = 0 then (n == 0 && s.toList.isEmpty) else if k = 1 then s.toList.isEmpty else if k = 2 then ((n == 0 || n == 1) && s.toList.isEmpty) else if k = 3 then (n == 0 && decide ((s.size : Int) ≤ 60)) else false := rfl
 generalize rightV ⟨k, n, s⟩ = r at hR ⊢
 have HR := Lib.hid hR
 clear hR
 show Calls Tryd.prog 50 #[.agg #[.int .i64 k, .int .i64 n, .string s]] w _
 go_enter Tryd.func50, Tryd.ntmps50
 by_cases q0 : k = 0
 ·subst q0
  by_cases p0 : n = 0
  ·subst p0
   have HZ : Hid (r = s.toList.isEmpty) := Lib.hid (by have := HR.out; simpa using this)
   go_wp2
   go_ret
   exact ⟨by rw [HZ.out]; rfl, (Below.refl _ w).alloc (Nat.le_refl _) _⟩
  ·have p1 : (n == 0) = false := beq_eq_false_iff_ne.2 p0
   have HZ : Hid (r = false) := Lib.hid (by have := HR.out; simpa [p1] using this)
   go_wp2
   go_ret
   exact ⟨by rw [HZ.out]; rfl, (Below.refl _ w).alloc (Nat.le_refl _) _⟩
 ·by_cases q1 : k = 1
  ·subst q1
   have HZ : Hid (r = s.toList.isEmpty) := Lib.hid (by have := HR.out; simpa using this)
   go_wp2
   go_ret
   exact ⟨by rw [HZ.out]; rfl, (Below.refl _ w).alloc (Nat.le_refl _) _⟩
  ·by_cases q2 : k = 2
   ·subst q2
    by_cases p0 : n = 0 ∨ n = 1
    ·have HZ : Hid (r = s.toList.isEmpty) := Lib.hid (by have := HR.out; rcases p0 with rfl | rfl <;> simpa using this)
     rcases p0 with rfl | rfl
     all_goals
      go_wp2
      go_ret
      exact ⟨by rw [HZ.out]; rfl, (Below.refl _ w).alloc (Nat.le_refl _) _⟩
    ·have p1 : (n == 0) = false := beq_eq_false_iff_ne.2 (fun h => p0 (Or.inl h))
     have p2 : (n == 1) = false := beq_eq_false_iff_ne.2 (fun h => p0 (Or.inr h))
     have HZ : Hid (r = false) := Lib.hid (by have := HR.out; simpa [p1, p2] using this)
     have p3 : n ≠ 0 := fun h => p0 (Or.inl h)
     have p4 : n ≠ 1 := fun h => p0 (Or.inr h)
     clear p0
     go_wp2
     go_ret
     exact ⟨by rw [HZ.out]; rfl, (Below.refl _ w).alloc (Nat.le_refl _) _⟩
   ·by_cases q3 : k = 3
    ·subst q3
     by_cases p0 : n = 0
     ·subst p0
      have HZ : Hid (r = decide ((s.size : Int) ≤ 60)) := Lib.hid (by have := HR.out; simpa using this)
      go_wp2
      go_ret
      exact ⟨by rw [HZ.out]; rfl, (Below.refl _ w).alloc (Nat.le_refl _) _⟩
     ·have p1 : (n == 0) = false := beq_eq_false_iff_ne.2 p0
      have HZ : Hid (r = false) := Lib.hid (by have := HR.out; simpa [p1] using this)
      go_wp2
      go_ret
      exact ⟨by rw [HZ.out]; rfl, (Below.refl _ w).alloc (Nat.le_refl _) _⟩
    ·have e0 : (k == 0) = false := beq_eq_false_iff_ne.2 q0
     have e1 : (k == 1) = false := beq_eq_false_iff_ne.2 q1
     have e2 : (k == 2) = false := beq_eq_false_iff_ne.2 q2
     have e3 : (k == 3) = false := beq_eq_false_iff_ne.2 q3
     have HZ : Hid (r = false) := Lib.hid (by have := HR.out; simpa [q0, q1, q2, q3] using this)
     go_wp2
     go_ret
     exact ⟨by rw [HZ.out]; rfl, (Below.refl _ w).alloc (Nat.le_refl _) _⟩

end Go.Proofs.YtpnnkhpokangfaaDoor.Va
