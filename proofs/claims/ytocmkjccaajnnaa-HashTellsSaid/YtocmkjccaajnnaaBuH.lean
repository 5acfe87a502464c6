/- Buckets: the document's Print, walked. -/
import Derived.Test.YtocmkjccaajnnaaMgU
import Derived.Test.YtocmkjccaajnnaaMgP
import Derived.IntWalk
namespace Go.Proofs.Ytocmkjccaajnnaa.Bu
open Go.RowKit Pac Ls Lex

theorem cell_below {w w' : World} (h : Below w.heap.size w w') {b i : Nat} {v : Value} (hc : w.cell? ⟨b, i, none⟩ = some v) : w'.cell? ⟨b, i, none⟩ = some v :=
  (h.cell (p := ⟨b, i, none⟩) (World.block_lt_of_cell? w _ hc)).trans hc
section
variable {A : Option Addr} {n cp : Nat} {l : List E} {w : World}
end
end Go.Proofs.Ytocmkjccaajnnaa.Bu
