/- Values, plainly; whether one may be, which is ahead: the document's, walked. -/
import Derived.Test.YtabgbhilbnchnaaMgP
namespace Go.Proofs.Ytabgbhilbnchnaa.Va
open Go.RowKit Pac

/-- A value. -/
structure V where
  k : Int
  n : Int
  s : ByteArray
abbrev V.v (a : V) : Value := .agg #[.int .i64 a.k, .int .i64 a.n, .string a.s]
structure V.Ok (a : V) : Prop where
  k0 : -9223372036854775808 ≤ a.k
  k1 : a.k ≤ 9223372036854775807
  n0 : -9223372036854775808 ≤ a.n
  n1 : a.n ≤ 9223372036854775807
/-- May it be? -/
def rightV (a : V) : Bool :=
  if a.k = 0 then (a.n == 0 && a.s.toList.isEmpty) else if a.k = 1 then a.s.toList.isEmpty else if a.k = 2 then ((a.n == 0 || a.n == 1) && a.s.toList.isEmpty) else if a.k = 3 then (a.n == 0 && decide ((a.s.size : Int) ≤ 60)) else false
/-- Which is ahead? -/
def cmpV (a b : V) : Int :=
  if a.k < b.k then -1 else if b.k < a.k then 1 else if a.n < b.n then -1 else if b.n < a.n then 1 else if (a.s.toList == b.s.toList) = true then 0 else if Op.bytesLess a.s.toList b.s.toList = true then -1 else 1

theorem less_irrefl (l : List UInt8) : Op.bytesLess l l = false := by
  induction l with
  | nil => rfl
  | cons a l ih => simp [Op.bytesLess, ih]
theorem less_cons (a b : UInt8) (l m : List UInt8) : Op.bytesLess (a :: l) (b :: m) = true ↔ a.toNat < b.toNat ∨ (a = b ∧ Op.bytesLess l m = true) := by
  simp only [Op.bytesLess, Bool.or_eq_true, decide_eq_true_eq, Bool.and_eq_true, beq_iff_eq, UInt8.lt_iff_toNat_lt]
theorem less_asymm : ∀ (l m : List UInt8), Op.bytesLess l m = true → Op.bytesLess m l = false
  | [], [], h => by simp [Op.bytesLess] at h
  | [], _ :: _, _ => by simp [Op.bytesLess]
  | _ :: _, [], h => by simp [Op.bytesLess] at h
  | a :: l, b :: m, h => by
    have ih := less_asymm l m
    cases e : Op.bytesLess (b :: m) (a :: l) with
    | false => rfl
    | true =>
      rw [less_cons] at h e
      rcases h with h | ⟨rfl, h⟩
      · rcases e with e | ⟨rfl, _⟩
        · omega
        · omega
      · rcases e with e | ⟨_, e⟩
        · omega
        · rw [ih h] at e; cases e
theorem less_trans : ∀ (l m r : List UInt8), Op.bytesLess l m = true → Op.bytesLess m r = true → Op.bytesLess l r = true
  | _, [], _, h, _ => by simp [Op.bytesLess] at h
  | _, _ :: _, [], _, h => by simp [Op.bytesLess] at h
  | [], _ :: _, _ :: _, _, _ => by simp [Op.bytesLess]
  | a :: l, b :: m, c :: r, h, h' => by
    have ih := less_trans l m r
    rw [less_cons] at h h' ⊢
    rcases h with h | ⟨rfl, h⟩
    · rcases h' with h' | ⟨rfl, _⟩
      · exact Or.inl (by omega)
      · exact Or.inl h
    · rcases h' with h' | ⟨rfl, h'⟩
      · exact Or.inl h'
      · exact Or.inr ⟨rfl, ih h h'⟩
theorem less_same {l m : List UInt8} (h : (l == m) = true) : Op.bytesLess l m = false ∧ Op.bytesLess m l = false := by
  obtain rfl := beq_iff_eq.1 h
  exact ⟨less_irrefl l, less_irrefl l⟩
theorem less_total : ∀ (l m : List UInt8), Op.bytesLess l m = false → Op.bytesLess m l = false → l = m
  | [], [], _, _ => rfl
  | [], _ :: _, h, _ => by simp [Op.bytesLess] at h
  | _ :: _, [], _, h => by simp [Op.bytesLess] at h
  | a :: l, b :: m, h, h' => by
    have ih := less_total l m
    have n1 : ¬ (a.toNat < b.toNat ∨ (a = b ∧ Op.bytesLess l m = true)) := by rw [← less_cons, h]; simp
    have n2 : ¬ (b.toNat < a.toNat ∨ (b = a ∧ Op.bytesLess m l = true)) := by rw [← less_cons, h']; simp
    have e : a = b := UInt8.toNat_inj.1 (by omega)
    subst e
    have e1 : Op.bytesLess l m = false := by
      cases q : Op.bytesLess l m with
      | false => rfl
      | true => exact absurd (Or.inr ⟨rfl, q⟩) n1
    have e2 : Op.bytesLess m l = false := by
      cases q : Op.bytesLess m l with
      | false => rfl
      | true => exact absurd (Or.inr ⟨rfl, q⟩) n2
    rw [ih e1 e2]
theorem less_flip {l m : List UInt8} (h : (l == m) = false) (h' : Op.bytesLess l m = false) : Op.bytesLess m l = true := by
  cases e : Op.bytesLess m l with
  | true => rfl
  | false =>
    have := less_total l m h' e
    subst this
    simp at h

set_option maxHeartbeats 800000 in
theorem refRight_any (a : V) (w : World) : Calls Try.prog 17 #[a.v] w fun e w' => e = .returned (.bool (rightV a)) ∧ Below w.heap.size w w' := by
  obtain ⟨k, n, s⟩ := a
  have hR : rightV ⟨k, n, s⟩ = if k = 0 then (n == 0 && s.toList.isEmpty) else if k = 1 then s.toList.isEmpty else if k = 2 then ((n == 0 || n == 1) && s.toList.isEmpty) else if k = 3 then (n == 0 && decide ((s.size : Int) ≤ 60)) else false := rfl
  generalize rightV ⟨k, n, s⟩ = r at hR ⊢
  have HR := Lib.hid hR
  clear hR
  show Calls Try.prog 17 #[.agg #[.int .i64 k, .int .i64 n, .string s]] w _
  go_enter Try.func17, Try.ntmps17
  by_cases q0 : k = 0
  · subst q0
    by_cases p0 : n = 0
    · subst p0
      have HZ : Hid (r = s.toList.isEmpty) := Lib.hid (by have := HR.out; simpa using this)
      go_wp2
      go_ret
      exact ⟨by rw [HZ.out]; rfl, (Below.refl _ w).alloc (Nat.le_refl _) _⟩
    · have p1 : (n == 0) = false := beq_eq_false_iff_ne.2 p0
      have HZ : Hid (r = false) := Lib.hid (by have := HR.out; simpa [p1] using this)
      go_wp2
      go_ret
      exact ⟨by rw [HZ.out]; rfl, (Below.refl _ w).alloc (Nat.le_refl _) _⟩
  · by_cases q1 : k = 1
    · subst q1
      have HZ : Hid (r = s.toList.isEmpty) := Lib.hid (by have := HR.out; simpa using this)
      go_wp2
      go_ret
      exact ⟨by rw [HZ.out]; rfl, (Below.refl _ w).alloc (Nat.le_refl _) _⟩
    · by_cases q2 : k = 2
      · subst q2
        by_cases p0 : n = 0 ∨ n = 1
        · have HZ : Hid (r = s.toList.isEmpty) := Lib.hid (by have := HR.out; rcases p0 with rfl | rfl <;> simpa using this)
          rcases p0 with rfl | rfl
          all_goals
            go_wp2
            go_ret
            exact ⟨by rw [HZ.out]; rfl, (Below.refl _ w).alloc (Nat.le_refl _) _⟩
        · have p1 : (n == 0) = false := beq_eq_false_iff_ne.2 (fun h => p0 (Or.inl h))
          have p2 : (n == 1) = false := beq_eq_false_iff_ne.2 (fun h => p0 (Or.inr h))
          have HZ : Hid (r = false) := Lib.hid (by have := HR.out; simpa [p1, p2] using this)
          have p3 : n ≠ 0 := fun h => p0 (Or.inl h)
          have p4 : n ≠ 1 := fun h => p0 (Or.inr h)
          clear p0
          go_wp2
          go_ret
          exact ⟨by rw [HZ.out]; rfl, (Below.refl _ w).alloc (Nat.le_refl _) _⟩
      · by_cases q3 : k = 3
        · subst q3
          by_cases p0 : n = 0
          · subst p0
            have HZ : Hid (r = decide ((s.size : Int) ≤ 60)) := Lib.hid (by have := HR.out; simpa using this)
            go_wp2
            go_ret
            exact ⟨by rw [HZ.out]; rfl, (Below.refl _ w).alloc (Nat.le_refl _) _⟩
          · have p1 : (n == 0) = false := beq_eq_false_iff_ne.2 p0
            have HZ : Hid (r = false) := Lib.hid (by have := HR.out; simpa [p1] using this)
            go_wp2
            go_ret
            exact ⟨by rw [HZ.out]; rfl, (Below.refl _ w).alloc (Nat.le_refl _) _⟩
        · have e0 : (k == 0) = false := beq_eq_false_iff_ne.2 q0
          have e1 : (k == 1) = false := beq_eq_false_iff_ne.2 q1
          have e2 : (k == 2) = false := beq_eq_false_iff_ne.2 q2
          have e3 : (k == 3) = false := beq_eq_false_iff_ne.2 q3
          have HZ : Hid (r = false) := Lib.hid (by have := HR.out; simpa [q0, q1, q2, q3] using this)
          go_wp2
          go_ret
          exact ⟨by rw [HZ.out]; rfl, (Below.refl _ w).alloc (Nat.le_refl _) _⟩

end Go.Proofs.Ytabgbhilbnchnaa.Va
