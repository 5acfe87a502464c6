/- The order of values, plainly. -/
import Derived.Test.YtabgbhilbnchnaaVaA
namespace Go.Proofs.Ytabgbhilbnchnaa.Va
open Go.RowKit Pac

def ltV (a b : V) : Prop := a.k < b.k ∨ (a.k = b.k ∧ (a.n < b.n ∨ (a.n = b.n ∧ Op.bytesLess a.s.toList b.s.toList = true)))
def eqV (a b : V) : Prop := a.k = b.k ∧ a.n = b.n ∧ a.s.toList = b.s.toList
theorem cmp_three (a b : V) : (cmpV a b = -1 ∧ ltV a b ∧ ¬ eqV a b ∧ ¬ ltV b a) ∨ (cmpV a b = 0 ∧ eqV a b ∧ ¬ ltV a b ∧ ¬ ltV b a) ∨ (cmpV a b = 1 ∧ ltV b a ∧ ¬ eqV a b ∧ ¬ ltV a b) := by
  unfold cmpV ltV eqV
  by_cases q0 : a.k < b.k
  · exact Or.inl ⟨if_pos q0, Or.inl q0, by omega, by omega⟩
  · by_cases q1 : b.k < a.k
    · exact Or.inr (Or.inr ⟨by rw [if_neg q0, if_pos q1], Or.inl q1, by omega, by omega⟩)
    · rw [if_neg q0, if_neg q1]
      have ek : a.k = b.k := by omega
      by_cases q2 : a.n < b.n
      · exact Or.inl ⟨if_pos q2, Or.inr ⟨ek, Or.inl q2⟩, by omega, by omega⟩
      · by_cases q3 : b.n < a.n
        · exact Or.inr (Or.inr ⟨by rw [if_neg q2, if_pos q3], Or.inr ⟨ek.symm, Or.inl q3⟩, by omega, by omega⟩)
        · rw [if_neg q2, if_neg q3]
          have en : a.n = b.n := by omega
          by_cases q4 : (a.s.toList == b.s.toList) = true
          · have L := less_same q4
            rw [if_pos q4]
            refine Or.inr (Or.inl ⟨rfl, ⟨ek, en, beq_iff_eq.1 q4⟩, ?_, ?_⟩)
            · rw [L.1]; rintro (h | ⟨_, h | ⟨_, h⟩⟩) <;> first | omega | exact absurd h (by simp)
            · rw [L.2]; rintro (h | ⟨_, h | ⟨_, h⟩⟩) <;> first | omega | exact absurd h (by simp)
          · rw [if_neg q4]
            have q4' : (a.s.toList == b.s.toList) = false := by simpa using q4
            have ne : a.s.toList ≠ b.s.toList := fun h => q4 (beq_iff_eq.2 h)
            by_cases q5 : Op.bytesLess a.s.toList b.s.toList = true
            · rw [if_pos q5, less_asymm _ _ q5]
              exact Or.inl ⟨rfl, Or.inr ⟨ek, Or.inr ⟨en, q5⟩⟩, fun h => ne h.2.2, by rintro (h | ⟨_, h | ⟨_, h⟩⟩) <;> first | omega | exact absurd h (by simp)⟩
            · have q5' : Op.bytesLess a.s.toList b.s.toList = false := by simpa using q5
              have q6 := less_flip q4' q5'
              rw [if_neg q5]
              refine Or.inr (Or.inr ⟨rfl, Or.inr ⟨ek.symm, Or.inr ⟨en.symm, q6⟩⟩, fun h => ne h.2.2, ?_⟩)
              rw [q5']
              rintro (h | ⟨_, h | ⟨_, h⟩⟩) <;> first | omega | exact absurd h (by simp)
theorem lt_trans' {a b c : V} (h : ltV a b) (h' : ltV b c) : ltV a c := by
  unfold ltV at *
  rcases h with h | ⟨e1, h | ⟨e2, h⟩⟩
  · rcases h' with h' | ⟨f1, _⟩
    · exact Or.inl (by omega)
    · exact Or.inl (by omega)
  · rcases h' with h' | ⟨f1, h' | ⟨f2, _⟩⟩
    · exact Or.inl (by omega)
    · exact Or.inr ⟨by omega, Or.inl (by omega)⟩
    · exact Or.inr ⟨by omega, Or.inl (by omega)⟩
  · rcases h' with h' | ⟨f1, h' | ⟨f2, h'⟩⟩
    · exact Or.inl (by omega)
    · exact Or.inr ⟨by omega, Or.inl (by omega)⟩
    · exact Or.inr ⟨by omega, Or.inr ⟨by omega, less_trans _ _ _ h h'⟩⟩
theorem lt_eq {a b c : V} (h : ltV a b) (h' : eqV b c) : ltV a c := by
  obtain ⟨h1, h2, h3⟩ := h'
  unfold ltV at *
  rw [← h1, ← h2, ← h3]
  exact h
theorem eq_lt {a b c : V} (h' : eqV a b) (h : ltV b c) : ltV a c := by
  obtain ⟨h1, h2, h3⟩ := h'
  unfold ltV at *
  rw [h1, h2, h3]
  exact h
theorem eq_eq {a b c : V} (h : eqV a b) (h' : eqV b c) : eqV a c := ⟨h.1.trans h'.1, h.2.1.trans h'.2.1, h.2.2.trans h'.2.2⟩
theorem cmp_flip (a b : V) : cmpV b a = -cmpV a b := by
  have s : eqV a b → eqV b a := fun h => ⟨h.1.symm, h.2.1.symm, h.2.2.symm⟩
  rcases cmp_three a b with ⟨e, h1, h2, h3⟩ | ⟨e, h1, h2, h3⟩ | ⟨e, h1, h2, h3⟩ <;> rcases cmp_three b a with ⟨f, g1, g2, g3⟩ | ⟨f, g1, g2, g3⟩ | ⟨f, g1, g2, g3⟩
  all_goals first | omega | exact absurd g1 h3 | exact absurd g1 h2 | exact absurd h1 g3 | exact absurd (s h1) g2 | exact absurd h1 g2
theorem cmp_le {a b c : V} (h : cmpV a b ≤ 0) (h' : cmpV b c ≤ 0) : cmpV a c ≤ 0 := by
  rcases cmp_three a b with ⟨e, h1, h2, h3⟩ | ⟨e, h1, h2, h3⟩ | ⟨e, h1, h2, h3⟩
  · rcases cmp_three b c with ⟨f, g1, g2, g3⟩ | ⟨f, g1, g2, g3⟩ | ⟨f, g1, g2, g3⟩
    · rcases cmp_three a c with ⟨d, k1, k2, k3⟩ | ⟨d, k1, k2, k3⟩ | ⟨d, k1, k2, k3⟩
      · omega
      · omega
      · exact absurd (lt_trans' h1 g1) k3
    · rcases cmp_three a c with ⟨d, k1, k2, k3⟩ | ⟨d, k1, k2, k3⟩ | ⟨d, k1, k2, k3⟩
      · omega
      · omega
      · exact absurd (lt_eq h1 g1) k3
    · omega
  · rcases cmp_three b c with ⟨f, g1, g2, g3⟩ | ⟨f, g1, g2, g3⟩ | ⟨f, g1, g2, g3⟩
    · rcases cmp_three a c with ⟨d, k1, k2, k3⟩ | ⟨d, k1, k2, k3⟩ | ⟨d, k1, k2, k3⟩
      · omega
      · omega
      · exact absurd (eq_lt h1 g1) k3
    · rcases cmp_three a c with ⟨d, k1, k2, k3⟩ | ⟨d, k1, k2, k3⟩ | ⟨d, k1, k2, k3⟩
      · omega
      · omega
      · exact absurd (eq_eq h1 g1) k2
    · omega
  · omega
theorem cmp_lt {a b c : V} (h : cmpV a b < 0) (h' : cmpV b c < 0) : cmpV a c < 0 := by
  rcases cmp_three a b with ⟨e, h1, h2, h3⟩ | ⟨e, h1, h2, h3⟩ | ⟨e, h1, h2, h3⟩
  · rcases cmp_three b c with ⟨f, g1, g2, g3⟩ | ⟨f, g1, g2, g3⟩ | ⟨f, g1, g2, g3⟩
    · rcases cmp_three a c with ⟨d, k1, k2, k3⟩ | ⟨d, k1, k2, k3⟩ | ⟨d, k1, k2, k3⟩
      · omega
      · exact absurd (lt_trans' h1 g1) k2
      · exact absurd (lt_trans' h1 g1) k3
    · omega
    · omega
  · omega
  · omega
end Go.Proofs.Ytabgbhilbnchnaa.Va
