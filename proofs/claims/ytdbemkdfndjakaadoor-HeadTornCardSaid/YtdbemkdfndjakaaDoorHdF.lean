/- The document's device: blank, spend, Arm, Get, walked. -/
import Derived.Test.YtdbemkdfndjakaaDoorHdE
import Derived.Test.YtdbemkdfndjakaaDoorMgJ
namespace Go.Proofs.YtdbemkdfndjakaaDoor.Hd
open Go.RowKit Go.Shelf Tal Sla
set_option maxHeartbeats 400000 in
theorem blank_any (t : Nat) (w : World) (h : t ≤ 1000) :
    Calls Tryd.prog 43 #[.int .i64 t] w fun e w' => e = .returned (.string (zeros t)) ∧ Below w.heap.size w w' := by
  obtain ⟨i0, hi, hz0, hz1, hz2⟩ := info_partsF infoU8F
  go_enter Tryd.func43, Tryd.ntmps43
  go_wp2_with
    (at_make
     go_must (refine wpList_make_full _ rfl _ _ 42 rfl (w.heap.size) 5 i0 _ 1 Tryd.underlying42 hi hz0 hz1 _ _ _ _ t rfl rfl rfl rfl (by rw [hz2]; omega) (by unfold maxLen; omega) (by simp) ?_)
     intro w1 hown hgrow
     obtain ⟨hb1, hcv⟩ := noughts_new t hown hgrow
     clear hown hgrow)
  go_ret
  exact ⟨rfl, hb1⟩
set_option maxHeartbeats 400000 in
theorem refArm_any (A B : Option Addr) (n c m k : Nat) (dead : Bool) (left deeds x : Int) (w : World) :
    Calls Tryd.prog 20 #[.agg #[.slice A n c, .slice B m k, .bool dead, .int .i64 left, .int .i64 deeds], .int .i64 x] w fun e w' =>
      e = .returned (.agg #[.slice A n c, .slice B m k, .bool dead, .int .i64 (max x (-1)), .int .i64 deeds]) ∧ Below w.heap.size w w' := by
  go_enter Tryd.func20, Tryd.ntmps20
  go_wp2
  exact bodyPost_ret (v := .agg #[.slice A n c, .slice B m k, .bool dead, .int .i64 (max x (-1)), .int .i64 deeds]) (by simp [results, Tryd.results20, go_sem]) rfl ⟨rfl, ((Below.refl _ _).alloc (by simp) _).alloc (by simp) _⟩
theorem refArm_dev (v : Value) (D : Dev) (x : Int) (w : World) (h : IsDev w v D) :
    Calls Tryd.prog 20 #[v, .int .i64 x] w fun e w' => ∃ v', e = .returned v' ∧ IsDev w' v' (armed D x) ∧ Below w.heap.size w w' := by
  obtain ⟨b, B, c, k, rfl, hlt, hnc, hc, hl, h0⟩ := h
  refine (refArm_any _ _ _ _ _ _ _ _ _ _ _).mono ?_
  rintro e w' ⟨rfl, hb⟩
  have hd : DevAt w b B (.agg #[.slice (some ⟨b, 0, none⟩) D.n c, .slice B D.m k, .bool D.dead, .int .i64 (max x (-1)), .int .i64 D.deeds]) (armed D x) := ⟨c, k, rfl, hlt, hnc, hc, hl, h0⟩
  exact ⟨_, rfl, ⟨b, B, hd.below hb (Nat.le_refl _)⟩, hb⟩

end Go.Proofs.YtdbemkdfndjakaaDoor.Hd
