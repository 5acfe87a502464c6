/- Buckets: the document's Parse, walked. -/
import Derived.Test.YtocmkjccaajnnaaBuH
import Derived.Test.YtocmkjccaajnnaaPacJ
import Derived.Test.YtocmkjccaajnnaaMgP
import Derived.OneCell
namespace Go.Proofs.Ytocmkjccaajnnaa.Bu
open Go.RowKit Pac Ls Lex

theorem done_iff {s : ByteArray} {d : Bool} : doneB s d = true ↔ d = false ∧ s = ⟨#[]⟩ := by
  unfold doneB
  cases d
  · have h : s.toList.isEmpty = true ↔ s = ⟨#[]⟩ := by
      rw [ByteArray.toList_eq]
      constructor
      · intro h
        exact bytesEq' (by rw [List.isEmpty_iff.1 h])
      · rintro rfl
        rfl
    simpa using h
  · simp
/-- What Parse returns. -/
def ParsePost (o : Option (List E)) (w : World) (e : Ending) (w' : World) : Prop :=
  ∃ A n cp, e = .returned (.tuple #[.slice A n cp, .bool o.isSome]) ∧ (o.getD []).length = n ∧ n ≤ cp ∧ HasE w' w.heap.size A (o.getD []) ∧ Below w.heap.size w w'
theorem hasE_nil (w : World) (lo : Nat) (A : Option Addr) : HasE w lo A [] := fun h => absurd rfl h
theorem ParsePost.no {s : ByteArray} {L : List E} {S : ByteArray} {D : Bool} {w w' : World} (hX : seenB s = (L, S, D)) (h : ¬ (doneB S D = true ∧ IsB L)) (hB : Below w.heap.size w w') : ParsePost (parseB s) w (.returned (.tuple #[.slice none 0 0, .bool false])) w' := by
  have e : parseB s = none := by
    unfold parseB
    rw [hX, if_neg]
    rintro ⟨h1, h2, h3⟩
    exact h ⟨done_iff.2 ⟨h1, h2⟩, h3⟩
  rw [e]
  exact ⟨none, 0, 0, rfl, rfl, Nat.le_refl _, hasE_nil _ _ _, hB⟩
section
variable {w : World}
end
end Go.Proofs.Ytocmkjccaajnnaa.Bu
