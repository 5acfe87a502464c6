/- The document's device: Flush, walked. -/
import Derived.Test.YtdbemkdfndjakaaDoorHdG
namespace Go.Proofs.YtdbemkdfndjakaaDoor.Hd
open Go.RowKit Go.Shelf Tal Sla
theorem news_of_strs {w : World} {b n : Nat} {S : Nat → ByteArray} (hc : ∀ j, j < n → w.cell? ⟨b, j, none⟩ = some (.string (S j))) :
    ∀ (j : Nat) (u : Value), ((List.range n).map fun j => Value.string (S j))[j]? = some u → w.cell? ((⟨b, 0, none⟩ : Addr).add j) = some u := by
  intro j u hu
  rw [Sla.add_zero_off]
  have hj : j < n := by
    have := (List.getElem?_eq_some_iff.1 hu).1
    simpa using this
  rw [hc j hj]
  simpa [hj] using hu
theorem row_of_own {w : World} {base n : Nat} {v : Value} {S : Nat → ByteArray} (hown : w.ownsRow base 9 1 v n ((List.range n).map fun j => Value.string (S j))) (hn : 0 < n) :
    ∃ g cap, v = .slice (some ⟨g, 0, none⟩) n cap ∧ base ≤ g ∧ n ≤ cap ∧ StrRow w g n S := by
  obtain ⟨g, cap, rfl, hg, hlt⟩ := hown.form hn
  have hcap : n ≤ cap := by
    rcases hown.2 with ⟨h0, _⟩ | ⟨g', cap', cur, hv, _, _, hn, _⟩
    · cases h0
    · injection hv with _ _ h3
      subst h3
      exact hn
  refine ⟨g, cap, rfl, hg, hcap, ⟨hlt, fun j hj => ?_, fun i => hown.frozenAt i⟩⟩
  rw [hown.cellAt j (by omega)]
  simp [hj]
end Go.Proofs.YtdbemkdfndjakaaDoor.Hd
