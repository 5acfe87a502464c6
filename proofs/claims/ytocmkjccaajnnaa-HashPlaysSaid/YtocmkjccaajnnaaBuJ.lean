/- Buckets: what calls leave behind, in the form that the laws take; whether entries are few: the law's, walked. -/
import Derived.Test.YtocmkjccaajnnaaBuI
namespace Go.Proofs.Ytocmkjccaajnnaa.Bu
open Go.RowKit Pac Ls Lex

/-- What Put and Drop return: a list, wherever it lies; nothing of before is altered. -/
def PutPost0 (l : List E) (w : World) (e : Ending) (w' : World) : Prop := ∃ (A : Option Addr) (n cp : Nat), e = .returned (.slice A n cp) ∧ l.length = n ∧ n ≤ cp ∧ HasE w' 0 A l ∧ Below w.heap.size w w'
theorem PutPost.weak {l : List E} {w : World} (e : Ending) (w' : World) (h : PutPost l w e w') : PutPost0 l w e w' := by
  obtain ⟨A, n, cp, h1, h2, h3, h4, h5⟩ := h
  exact ⟨A, n, cp, h1, h2, h3, h4.lower (Nat.zero_le _), h5⟩
def ParsePost0 (o : Option (List E)) (w : World) (e : Ending) (w' : World) : Prop :=
  ∃ A n cp, e = .returned (.tuple #[.slice A n cp, .bool o.isSome]) ∧ (o.getD []).length = n ∧ n ≤ cp ∧ HasE w' 0 A (o.getD []) ∧ Below w.heap.size w w'
theorem ParsePost.weak {o : Option (List E)} {w : World} (e : Ending) (w' : World) (h : ParsePost o w e w') : ParsePost0 o w e w' := by
  obtain ⟨A, n, cp, h1, h2, h3, h4, h5⟩ := h
  exact ⟨A, n, cp, h1, h2, h3, h4.lower (Nat.zero_le _), h5⟩
section
variable {A : Option Addr} {n cp : Nat} {l : List E} {w : World}
end
end Go.Proofs.Ytocmkjccaajnnaa.Bu
