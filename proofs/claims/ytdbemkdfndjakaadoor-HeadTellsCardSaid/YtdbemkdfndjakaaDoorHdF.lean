/- The document's device: blank, spend, Arm, Get, walked. -/
import Derived.Test.YtdbemkdfndjakaaDoorHdE
import Derived.Test.YtdbemkdfndjakaaDoorMgJ
namespace Go.Proofs.YtdbemkdfndjakaaDoor.Hd
open Go.RowKit Go.Shelf Tal Sla
set_option maxHeartbeats 400000 in
theorem blank_any (t : Nat) (w : World) (h : t ≤ 1000) :
    Calls Tryd.prog 43 #[.int .i64 t] w fun e w' => e = .returned (.string (zeros t)) ∧ Below w.heap.size w w' := by
  obtain ⟨i0, hi, hz0, hz1, hz2⟩ := info_partsF infoU8F
  go_enter Tryd.func43, Tryd.ntmps43
  go_wp2_with
    (at_make
     go_must (refine wpList_make_full _ rfl _ _ 42 rfl (w.heap.size) 5 i0 _ 1 Tryd.underlying42 hi hz0 hz1 _ _ _ _ t rfl rfl rfl rfl (by rw [hz2]; omega) (by unfold maxLen; omega) (by simp) ?_)
     intro w1 hown hgrow
     obtain ⟨hb1, hcv⟩ := noughts_new t hown hgrow
     clear hown hgrow)
  go_ret
  exact ⟨rfl, hb1⟩
end Go.Proofs.YtdbemkdfndjakaaDoor.Hd
