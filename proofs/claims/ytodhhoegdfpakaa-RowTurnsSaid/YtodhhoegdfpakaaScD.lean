/- Whether a schema may be: the program's, walked. -/
import Derived.Test.YtodhhoegdfpakaaScC
import Derived.Test.YtodhhoegdfpakaaPacW
namespace Go.Proofs.Ytodhhoegdfpakaa.Sc
open Go.RowKit Pac Lex

theorem not_plain {l : List C} {j : Nat} {c : C} (h : plainB c = false) : ¬ oneB l j c := by
  rintro ⟨h1, _⟩
  cases j with
  | zero => rw [colB_zero, h] at h1; cases h1
  | succ j => rw [colB_succ c (Nat.succ_pos j), h] at h1; cases h1
theorem not_new {l : List C} {j : Nat} {c : C} (h : nameIn (l.take j) c.n = true) : ¬ oneB l j c := by
  rintro ⟨_, h2⟩
  rw [h] at h2
  cases h2
theorem fin_right {l : List C} {m : Nat} {c0 : C} (hm : l.length = m) (h : ∀ j, j < m → ∀ c, l[j]? = some c → plainB c = true ∧ nameIn (l.take j) c.n = false) (hg : l[0]? = some c0) :
    (keyB c0 = true → ∀ j c, l[j]? = some c → oneB l j c) ∧ (keyB c0 = false → ¬ oneB l 0 c0) := by
  refine ⟨fun hk j c hc => ?_, fun hk h1 => ?_⟩
  · have hj : j < m := by
      rw [← hm]
      exact (List.getElem?_eq_some_iff.1 hc).1
    obtain ⟨a, b⟩ := h j hj c hc
    refine ⟨?_, b⟩
    cases j with
    | zero =>
      rw [hg] at hc
      injection hc with hc
      subst hc
      rw [colB_zero, a, hk]
      rfl
    | succ j => rw [colB_succ c (Nat.succ_pos j), a]
  · have h1 := h1.1
    rw [colB_zero, hk] at h1
    cases hp : plainB c0 <;> rw [hp] at h1 <;> cases h1

end Go.Proofs.Ytodhhoegdfpakaa.Sc
