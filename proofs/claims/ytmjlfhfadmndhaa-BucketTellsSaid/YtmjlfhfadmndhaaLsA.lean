/- The order of bytes. No program. -/
import Derived.Test.YtmjlfhfadmndhaaPacL
namespace Go.Proofs.Ytmjlfhfadmndhaa.Ls
open Go.RowKit

theorem less_irrefl (l : List UInt8) : Op.bytesLess l l = false := by
  induction l with
  | nil => rfl
  | cons a l ih => simp [Op.bytesLess, ih]
theorem less_cons (a b : UInt8) (l m : List UInt8) : Op.bytesLess (a :: l) (b :: m) = true ↔ a.toNat < b.toNat ∨ (a = b ∧ Op.bytesLess l m = true) := by
  simp only [Op.bytesLess, Bool.or_eq_true, decide_eq_true_eq, Bool.and_eq_true, beq_iff_eq, UInt8.lt_iff_toNat_lt]
theorem less_asymm : ∀ (l m : List UInt8), Op.bytesLess l m = true → Op.bytesLess m l = false
  | [], [], h => by simp [Op.bytesLess] at h
  | [], _ :: _, _ => by simp [Op.bytesLess]
  | _ :: _, [], h => by simp [Op.bytesLess] at h
  | a :: l, b :: m, h => by
    have ih := less_asymm l m
    cases e : Op.bytesLess (b :: m) (a :: l) with
    | false => rfl
    | true =>
      rw [less_cons] at h e
      rcases h with h | ⟨rfl, h⟩
      · rcases e with e | ⟨rfl, _⟩
        · omega
        · omega
      · rcases e with e | ⟨_, e⟩
        · omega
        · rw [ih h] at e; cases e
theorem less_trans : ∀ (l m r : List UInt8), Op.bytesLess l m = true → Op.bytesLess m r = true → Op.bytesLess l r = true
  | _, [], _, h, _ => by simp [Op.bytesLess] at h
  | _, _ :: _, [], _, h => by simp [Op.bytesLess] at h
  | [], _ :: _, _ :: _, _, _ => by simp [Op.bytesLess]
  | a :: l, b :: m, c :: r, h, h' => by
    have ih := less_trans l m r
    rw [less_cons] at h h' ⊢
    rcases h with h | ⟨rfl, h⟩
    · rcases h' with h' | ⟨rfl, _⟩
      · exact Or.inl (by omega)
      · exact Or.inl h
    · rcases h' with h' | ⟨rfl, h'⟩
      · exact Or.inl h'
      · exact Or.inr ⟨rfl, ih h h'⟩
theorem less_same {l m : List UInt8} (h : (l == m) = true) : Op.bytesLess l m = false ∧ Op.bytesLess m l = false := by
  obtain rfl := beq_iff_eq.1 h
  exact ⟨less_irrefl l, less_irrefl l⟩
theorem less_total : ∀ (l m : List UInt8), Op.bytesLess l m = false → Op.bytesLess m l = false → l = m
  | [], [], _, _ => rfl
  | [], _ :: _, h, _ => by simp [Op.bytesLess] at h
  | _ :: _, [], _, h => by simp [Op.bytesLess] at h
  | a :: l, b :: m, h, h' => by
    have ih := less_total l m
    have n1 : ¬ (a.toNat < b.toNat ∨ (a = b ∧ Op.bytesLess l m = true)) := by rw [← less_cons, h]; simp
    have n2 : ¬ (b.toNat < a.toNat ∨ (b = a ∧ Op.bytesLess m l = true)) := by rw [← less_cons, h']; simp
    have e : a = b := UInt8.toNat_inj.1 (by omega)
    subst e
    have e1 : Op.bytesLess l m = false := by
      cases q : Op.bytesLess l m with
      | false => rfl
      | true => exact absurd (Or.inr ⟨rfl, q⟩) n1
    have e2 : Op.bytesLess m l = false := by
      cases q : Op.bytesLess m l with
      | false => rfl
      | true => exact absurd (Or.inr ⟨rfl, q⟩) n2
    rw [ih e1 e2]
theorem less_flip {l m : List UInt8} (h : (l == m) = false) (h' : Op.bytesLess l m = false) : Op.bytesLess m l = true := by
  cases e : Op.bytesLess m l with
  | true => rfl
  | false =>
    have := less_total l m h' e
    subst this
    simp at h

end Go.Proofs.Ytmjlfhfadmndhaa.Ls
