/- Lists in memory: elements of k cells each, one behind the other (without the rest of LiA). No program. -/
import Derived.ProofKit
import Derived.OpenShut
import Derived.Carry
import Derived.ChangeArms
import Derived.RowKit
import Derived.Deep.AppendLies
import Derived.Deep.Slices
import Derived.Deep.Fields
namespace Go.Proofs.YtdbemkdfndjakaaDoor.Li
open Go.RowKit

/-- The slice at A holds these, in memory from lo on: each as the k cells that R tells. -/
def HasL {α : Type} (R : α → List Value) (k : Nat) (w : World) (lo : Nat) (A : Option Addr) (l : List α) : Prop :=
  l ≠ [] → ∃ b o, A = some ⟨b, o, none⟩ ∧ lo ≤ b ∧ b < w.heap.size ∧ ∀ (j : Nat) (x : α), l[j]? = some x → ∀ (i : Nat) (v : Value), (R x)[i]? = some v → w.cell? ⟨b, o + j * k + i, none⟩ = some v
section
variable {α : Type} {R : α → List Value} {k : Nat} {w w' : World} {lo lo' B g : Nat} {A : Option Addr} {l : List α}
theorem HasL.below (h : HasL R k w lo A l) (hb : Below B w w') (hB : w.heap.size ≤ B) : HasL R k w' lo A l := by
  intro hl
  obtain ⟨b, o, hA, hlo, hlt, hc⟩ := h hl
  exact ⟨b, o, hA, hlo, Nat.lt_of_lt_of_le hlt hb.size, fun j x hj i v hv => (hb.cell (p := ⟨b, o + j * k + i, none⟩) (Nat.lt_of_lt_of_le hlt hB)).trans (hc j x hj i v hv)⟩
theorem HasL.nil (w : World) (lo : Nat) (A : Option Addr) : HasL R k w lo A [] := fun h => absurd rfl h
end
end Go.Proofs.YtdbemkdfndjakaaDoor.Li
