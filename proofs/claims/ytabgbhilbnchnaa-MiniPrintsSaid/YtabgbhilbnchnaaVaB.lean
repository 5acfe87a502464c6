/- Whether a value may be, which is ahead: the program's, walked. -/
import Derived.Test.YtabgbhilbnchnaaVaA
import Derived.Test.YtabgbhilbnchnaaXtf
namespace Go.Proofs.Ytabgbhilbnchnaa.Va
open Go.RowKit Pac Lex

set_option maxHeartbeats 800000 in
theorem right_any (a : V) (w : World) : Calls Try.prog 32 #[a.v] w fun e w' => e = .returned (.bool (rightV a)) ∧ Below w.heap.size w w' := by
  obtain ⟨k, n, s⟩ := a
  have hR : rightV ⟨k, n, s⟩ = if k = 0 then (n == 0 && s.toList.isEmpty) else if k = 1 then s.toList.isEmpty else if k = 2 then ((n == 0 || n == 1) && s.toList.isEmpty) else if k = 3 then (n == 0 && decide ((s.size : Int) ≤ 60)) else false := rfl
  generalize rightV ⟨k, n, s⟩ = r at hR ⊢
  have HR := Lib.hid hR
  clear hR
  show Calls Try.prog 32 #[.agg #[.int .i64 k, .int .i64 n, .string s]] w _
  go_enter Try.func32, Try.ntmps32
  by_cases q0 : k = 0
  · subst q0
    by_cases p0 : n = 0
    · subst p0
      have HZ : Hid (r = s.toList.isEmpty) := Lib.hid (by have := HR.out; simpa using this)
      go_wp2
      go_ret
      exact ⟨by rw [HZ.out]; rfl, (Below.refl _ w).alloc (Nat.le_refl _) _⟩
    · have p1 : (n == 0) = false := beq_eq_false_iff_ne.2 p0
      have HZ : Hid (r = false) := Lib.hid (by have := HR.out; simpa [p1] using this)
      go_wp2
      go_ret
      exact ⟨by rw [HZ.out]; rfl, (Below.refl _ w).alloc (Nat.le_refl _) _⟩
  · by_cases q1 : k = 1
    · subst q1
      have HZ : Hid (r = s.toList.isEmpty) := Lib.hid (by have := HR.out; simpa using this)
      go_wp2
      go_ret
      exact ⟨by rw [HZ.out]; rfl, (Below.refl _ w).alloc (Nat.le_refl _) _⟩
    · by_cases q2 : k = 2
      · subst q2
        by_cases p0 : n = 0 ∨ n = 1
        · have HZ : Hid (r = s.toList.isEmpty) := Lib.hid (by have := HR.out; rcases p0 with rfl | rfl <;> simpa using this)
          rcases p0 with rfl | rfl
          all_goals
            go_wp2
            go_ret
            exact ⟨by rw [HZ.out]; rfl, (Below.refl _ w).alloc (Nat.le_refl _) _⟩
        · have p1 : (n == 0) = false := beq_eq_false_iff_ne.2 (fun h => p0 (Or.inl h))
          have p2 : (n == 1) = false := beq_eq_false_iff_ne.2 (fun h => p0 (Or.inr h))
          have HZ : Hid (r = false) := Lib.hid (by have := HR.out; simpa [p1, p2] using this)
          have p3 : n ≠ 0 := fun h => p0 (Or.inl h)
          have p4 : n ≠ 1 := fun h => p0 (Or.inr h)
          clear p0
          go_wp2
          go_ret
          exact ⟨by rw [HZ.out]; rfl, (Below.refl _ w).alloc (Nat.le_refl _) _⟩
      · by_cases q3 : k = 3
        · subst q3
          by_cases p0 : n = 0
          · subst p0
            have HZ : Hid (r = decide ((s.size : Int) ≤ 60)) := Lib.hid (by have := HR.out; simpa using this)
            go_wp2
            go_ret
            exact ⟨by rw [HZ.out]; rfl, (Below.refl _ w).alloc (Nat.le_refl _) _⟩
          · have p1 : (n == 0) = false := beq_eq_false_iff_ne.2 p0
            have HZ : Hid (r = false) := Lib.hid (by have := HR.out; simpa [p1] using this)
            go_wp2
            go_ret
            exact ⟨by rw [HZ.out]; rfl, (Below.refl _ w).alloc (Nat.le_refl _) _⟩
        · have e0 : (k == 0) = false := beq_eq_false_iff_ne.2 q0
          have e1 : (k == 1) = false := beq_eq_false_iff_ne.2 q1
          have e2 : (k == 2) = false := beq_eq_false_iff_ne.2 q2
          have e3 : (k == 3) = false := beq_eq_false_iff_ne.2 q3
          have HZ : Hid (r = false) := Lib.hid (by have := HR.out; simpa [q0, q1, q2, q3] using this)
          go_wp2
          go_ret
          exact ⟨by rw [HZ.out]; rfl, (Below.refl _ w).alloc (Nat.le_refl _) _⟩

/-- cmp.Compare at numbers. -/
def cmpI (x y : Int) : Int := if x < y then -1 else if y < x then 1 else 0
/-- cmp.Compare at texts. -/
def cmpT (x y : ByteArray) : Int := if Op.bytesLess x.toList y.toList = true then -1 else if Op.bytesLess y.toList x.toList = true then 1 else 0
/-- cmp.Or of three numbers. -/
def orI (x y z : Int) : Int := if x ≠ 0 then x else if y ≠ 0 then y else z

theorem or_cmp (k n k2 n2 : Int) (s s2 : ByteArray) : orI (cmpI k k2) (cmpI n n2) (cmpT s s2) = cmpV ⟨k, n, s⟩ ⟨k2, n2, s2⟩ := by
  have hT : cmpT s s2 = if (s.toList == s2.toList) = true then 0 else if Op.bytesLess s.toList s2.toList = true then -1 else 1 := by
    unfold cmpT
    by_cases q : (s.toList == s2.toList) = true
    · have h := less_same q
      rw [if_pos q, if_neg (by rw [h.1]; simp), if_neg (by rw [h.2]; simp)]
    · rw [if_neg q]
      by_cases q2 : Op.bytesLess s.toList s2.toList = true
      · rw [if_pos q2, if_pos q2]
      · rw [if_neg q2, if_neg q2, if_pos (less_flip (by simpa using q) (by simpa using q2))]
  unfold orI cmpV
  rw [hT]
  unfold cmpI
  by_cases q0 : k < k2
  · simp [q0]
  · by_cases q1 : k2 < k
    · simp [q0, q1]
    · by_cases q2 : n < n2
      · simp [q0, q1, q2]
      · by_cases q3 : n2 < n
        · simp [q0, q1, q2, q3]
        · simp [q0, q1, q2, q3]

end Go.Proofs.Ytabgbhilbnchnaa.Va
