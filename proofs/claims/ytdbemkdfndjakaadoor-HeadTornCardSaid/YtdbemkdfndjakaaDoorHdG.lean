/- The document's device: Put, walked. -/
import Derived.Test.YtdbemkdfndjakaaDoorHdF
namespace Go.Proofs.YtdbemkdfndjakaaDoor.Hd
open Go.RowKit Go.Shelf Tal Sla
theorem own_below {w w' : World} {B base : Nat} {e : TypeId} {size : Nat} {v : Value} {n : Nat} {xs : List Value} (h : w.ownsRow base e size v n xs) (hb : Below B w w') (hB : w.heap.size ≤ B) : w'.ownsRow base e size v n xs := by
  refine ⟨h.1, ?_⟩
  rcases h.2 with h2 | ⟨g, cap, cur, e1, e2, e3, r⟩
  · exact Or.inl h2
  · refine Or.inr ⟨g, cap, cur, e1, e2, ?_, r⟩
    have hg : g < w.heap.size := (Array.getElem?_eq_some_iff.1 e3).1
    rw [hb.block g (Nat.lt_of_lt_of_le hg hB)]
    exact e3
end Go.Proofs.YtdbemkdfndjakaaDoor.Hd
