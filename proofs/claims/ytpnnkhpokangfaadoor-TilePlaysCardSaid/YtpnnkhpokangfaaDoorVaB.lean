/- Whether a value may be, which is ahead: the program's, walked. -/
import Derived.Test.YtpnnkhpokangfaaDoorVaA
import Derived.Test.YtpnnkhpokangfaaDoorMgX
namespace Go.Proofs.YtpnnkhpokangfaaDoor.Va
open Go.RowKit Pac Lex

set_option maxHeartbeats 800000 in
theorem right_any (a : V) (w : World) : Calls Tryd.prog 72 #[a.v] w fun e w' => e = .returned (.bool (rightV a)) ∧ Below w.heap.size w w' := by
 obtain ⟨k, n, s⟩ := a
 have hR : rightV ⟨k, n, s⟩ = if k = 0 then (n == 0 && s.toList.isEmpty) else if k = 1 then s.toList.isEmpty else if k = 2 then ((n == 0 || n == 1) && s.toList.isEmpty) else if k = 3 then (n == 0 && decide ((s.size : Int) ≤ 60)) else false := rfl
 generalize rightV ⟨k, n, s⟩ = r at hR ⊢
 have HR := Lib.hid hR
 clear hR
 show Calls Tryd.prog 72 #[.agg #[.int .i64 k, .int .i64 n, .string s]] w _
 go_enter Tryd.func72, Tryd.ntmps72
 by_cases q0 : k = 0
 ·subst q0
  by_cases p0 : n = 0
  ·subst p0
   have HZ : Hid (r = s.toList.isEmpty) := Lib.hid (by have := HR.out; simpa using this)
   go_wp2
   go_ret
   exact ⟨by rw [HZ.out]; rfl, (Below.refl _ w).alloc (Nat.le_refl _) _⟩
  ·have p1 : (n == 0) = false := beq_eq_false_iff_ne.2 p0
   have HZ : Hid (r = false) := Lib.hid (by have := HR.out; simpa [p1] using this)
   go_wp2
   go_ret
   exact ⟨by rw [HZ.out]; rfl, (Below.refl _ w).alloc (Nat.le_refl _) _⟩
 ·by_cases q1 : k = 1
  ·subst q1
   have HZ : Hid (r = s.toList.isEmpty) := Lib.hid (by have := HR.out; simpa using this)
   go_wp2
   go_ret
   exact ⟨by rw [HZ.out]; rfl, (Below.refl _ w).alloc (Nat.le_refl _) _⟩
  ·by_cases q2 : k = 2
   ·subst q2
    by_cases p0 : n = 0 ∨ n = 1
    ·have HZ : Hid (r = s.toList.isEmpty) := Lib.hid (by have := HR.out; rcases p0 with rfl | rfl <;> simpa using this)
     rcases p0 with rfl | rfl
     all_goals
      go_wp2
      go_ret
      exact ⟨by rw [HZ.out]; rfl, (Below.refl _ w).alloc (Nat.le_refl _) _⟩
    ·have p1 : (n == 0) = false := beq_eq_false_iff_ne.2 (fun h => p0 (Or.inl h))
     have p2 : (n == 1) = false := beq_eq_false_iff_ne.2 (fun h => p0 (Or.inr h))
     have HZ : Hid (r = false) := Lib.hid (by have := HR.out; simpa [p1, p2] using this)
     have p3 : n ≠ 0 := fun h => p0 (Or.inl h)
     have p4 : n ≠ 1 := fun h => p0 (Or.inr h)
     clear p0
     go_wp2
     go_ret
     exact ⟨by rw [HZ.out]; rfl, (Below.refl _ w).alloc (Nat.le_refl _) _⟩
   ·by_cases q3 : k = 3
    ·subst q3
     by_cases p0 : n = 0
     ·subst p0
      have HZ : Hid (r = decide ((s.size : Int) ≤ 60)) := Lib.hid (by have := HR.out; simpa using this)
      go_wp2
      go_ret
      exact ⟨by rw [HZ.out]; rfl, (Below.refl _ w).alloc (Nat.le_refl _) _⟩
     ·have p1 : (n == 0) = false := beq_eq_false_iff_ne.2 p0
      have HZ : Hid (r = false) := Lib.hid (by have := HR.out; simpa [p1] using this)
      go_wp2
      go_ret
      exact ⟨by rw [HZ.out]; rfl, (Below.refl _ w).alloc (Nat.le_refl _) _⟩
    ·have e0 : (k == 0) = false := beq_eq_false_iff_ne.2 q0
     have e1 : (k == 1) = false := beq_eq_false_iff_ne.2 q1
     have e2 : (k == 2) = false := beq_eq_false_iff_ne.2 q2
     have e3 : (k == 3) = false := beq_eq_false_iff_ne.2 q3
     have HZ : Hid (r = false) := Lib.hid (by have := HR.out; simpa [q0, q1, q2, q3] using this)
     go_wp2
     go_ret
     exact ⟨by rw [HZ.out]; rfl, (Below.refl _ w).alloc (Nat.le_refl _) _⟩

end Go.Proofs.YtpnnkhpokangfaaDoor.Va
