/- The document's device: Flush, walked. -/
import Derived.Test.YtdbemkdfndjakaaDoorHdG
namespace Go.Proofs.YtdbemkdfndjakaaDoor.Hd
open Go.RowKit Go.Shelf Tal Sla
theorem row_of_own {w : World} {base n : Nat} {v : Value} {S : Nat → ByteArray} (hown : w.ownsRow base 9 1 v n ((List.range n).map fun j => Value.string (S j))) (hn : 0 < n) :
    ∃ g cap, v = .slice (some ⟨g, 0, none⟩) n cap ∧ base ≤ g ∧ n ≤ cap ∧ StrRow w g n S := by
  obtain ⟨g, cap, rfl, hg, hlt⟩ := hown.form hn
  have hcap : n ≤ cap := by
    rcases hown.2 with ⟨h0, _⟩ | ⟨g', cap', cur, hv, _, _, hn, _⟩
    · cases h0
    · injection hv with _ _ h3
      subst h3
      exact hn
  refine ⟨g, cap, rfl, hg, hcap, ⟨hlt, fun j hj => ?_, fun i => hown.frozenAt i⟩⟩
  rw [hown.cellAt j (by omega)]
  simp [hj]
end Go.Proofs.YtdbemkdfndjakaaDoor.Hd
