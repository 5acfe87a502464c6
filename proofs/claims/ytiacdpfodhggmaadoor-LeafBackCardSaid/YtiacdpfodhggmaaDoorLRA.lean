/- LeafBack: for every input the law returns true, and its arguments read as they did. The listed table is tied to the program's text; no condition beside that tie. -/
import Derived.Test.YtiacdpfodhggmaaDoorRows
import Derived.Test.YtiacdpfodhggmaaDoorCards
import Derived.Test.YtiacdpfodhggmaaDoorTie
import Derived.Test.YtiacdpfodhggmaaDoorLfT
import Derived.Test.YtiacdpfodhggmaaDoorTyB
import Derived.ProofKit
import Derived.OpenShut
import Derived.Carry
import Derived.ChangeSame
import Derived.ChangeVars
import Derived.JoinedOf
import Derived.RowKit
namespace Go.Proofs.YtiacdpfodhggmaaDoor
open Go.ChangeShapes Go.WideShapes Go.ChangeAt Go.RowKit
open Go.ChangeMaps (setBlock shut_map_nil open_string shut_string keptBut_setBlock frozen?_setBlock heap_setBlock_same)

namespace RowLeafBack
theorem own : ownKnob Tryd.prog.godebug = none := by kernel_rfl
theorem laidOut : laidOutB Tryd.prog = true := by kernel_rfl

set_option maxHeartbeats 1000000 in
set_option maxRecDepth 100000 in
theorem lifted (os : Os) (started : os.Started) (H : Type) (enc : TypeId × Value → H) :
    ReturnsInHanded {} Tryd.checked os 3 .any (fun w args => (Rows.leafBackSpec.pre enc Tryd.prog Tryd.f3 [] false w args ∧ laidMet Tryd.prog laidL w) ∧ sizedMet enc Tryd.prog Tryd.f3 (OpenSpec.ofChange Rows.leafBackSpec) false w args) (Rows.leafBackSpec.post enc Tryd.prog Tryd.f3 false true false false) := by
  refine returnsInHanded_of_change_and (C := Tryd.checked) (X := fun w _ => laidMet Tryd.prog laidL w) (fun _ _ _ hh h => h.of_heap hh) own started (by kernel_rfl) Tryd.func3
    (ChangeSpec.witness_at (enc := enc) (C := Tryd.checked) (os := os) (X := fun w _ => laidMet Tryd.prog laidL w) false (laidWorld os) #[.string ⟨#[]⟩, .agg #[.int .u16 0, .int .u16 0, .int .u16 0], .agg #[.int .u8 0, .int .u8 0, .int .u8 0, .int .u8 0]] 8 rfl (by kernel_rfl) (by kernel_rfl) (by kernel_rfl) (by kernel_rfl) (by kernel_rfl)
      (laid_met os _)) ?_
  intro W base args ds gs before hval0 hW _ hwt hL _
  have hval : ∀ (j : Nat) t v, Tryd.f3.params[j]? = some t → args[j]? = some v → Value.okWide Tryd.prog W .any base t v := hval0
  have hW' := hW
  obtain ⟨p, q, hA0, hV, rfl, hfz, hnd⟩ := hW
  have hA : DataW.TrodAll enc Tryd.prog W 0 (fun _ => true) true Tryd.f3.params.toList args.toList ds p := hA0
  rw [Tryd.params3] at hA hval
  obtain ⟨v0, v1, v2, d0, d1, d2, p0, p1, p2, rfl, rfl, rfl, h0, h1, h2⟩ := trodAll_three hA
  obtain ⟨rfl, rfl⟩ := trodVars_none hV
  have hw0 : (d0.weights Tryd.prog 9).all (· ≤ reachBytes) = true := by
    have h : (DataW.weightsEach Tryd.prog (9 :: 23 :: 24 :: (Rows.leafBackSpec.plain.varTypes Tryd.prog)) (d0 :: d1 :: d2 :: [])).all (· ≤ reachBytes) = true := hwt
    simp only [DataW.weightsEach, List.all_append, Bool.and_eq_true] at h
    exact h.1
  have hw1 : (d1.weights Tryd.prog 23).all (· ≤ reachBytes) = true := by
    have h : (DataW.weightsEach Tryd.prog (9 :: 23 :: 24 :: (Rows.leafBackSpec.plain.varTypes Tryd.prog)) (d0 :: d1 :: d2 :: [])).all (· ≤ reachBytes) = true := hwt
    simp only [DataW.weightsEach, List.all_append, Bool.and_eq_true] at h
    exact h.2.1
  have hw2 : (d2.weights Tryd.prog 24).all (· ≤ reachBytes) = true := by
    have h : (DataW.weightsEach Tryd.prog (9 :: 23 :: 24 :: (Rows.leafBackSpec.plain.varTypes Tryd.prog)) (d0 :: d1 :: d2 :: [])).all (· ≤ reachBytes) = true := hwt
    simp only [DataW.weightsEach, List.all_append, Bool.and_eq_true] at h
    exact h.2.2.1
  obtain ⟨data, rfl, rfl, rfl, sz_data⟩ := open_string Tryd.underlying9 (hval 0 9 v0 rfl rfl) h0
  have hk1 := h1
  have hk2 := h2
  obtain ⟨a0, a1, a2, rfl, ha0, ha1, ha2⟩ := Lf.open_three (hval 1 23 v1 rfl rfl) h1
  obtain ⟨b0, b1, b2, b3, rfl⟩ := Lf.open_four (hval 2 24 v2 rfl rfl) h2
  clear hA0 hval0
  simp only [List.append_nil] at hW'
  have hlt1 : ∀ y ∈ p1, y.block < W.heap.size := fun y hy => by simpa using hW'.lt y (by simp [hy])
  have hlt2 : ∀ y ∈ p2, y.block < W.heap.size := fun y hy => by simpa using hW'.lt y (by simp [hy])
  refine (Lf.back_any data a0 a1 a2 b0 b1 b2 b3 (tab_of_laid hL) (by have := sz_data; unfold maxLen at this; exact this) ha0 ha1 ha2).mono fun e W' ⟨he, hb⟩ => ?_
  subst he
  refine ⟨_, rfl, ?_⟩
  refine ⟨_, _, _, [], _, [], hW', trodAll_mk1 (shut_bool Tryd.underlying4 _),
    trodAll_mk3 (shut_string Tryd.underlying9 sz_data) (Below.trod laidOut (by kernel_rfl) (of_decide_eq_true (by kernel_rfl)) hk1 hb hlt1) (Below.trod laidOut (by kernel_rfl) (of_decide_eq_true (by kernel_rfl)) hk2 hb hlt2), rfl, hb.frame _, fun h => by cases h⟩

theorem row : Rows.LeafBackSaid :=
  OpenClaim.holds_of_wide 3 Tryd.f3 rfl rfl rfl rfl rfl rfl rfl ⟨rfl, rfl, rfl, rfl, rfl⟩ rfl rfl rfl rfl rfl (by kernel_rfl) Tryd.func3 (by kernel_rfl)
    (of_decide_eq_true (by kernel_rfl)) (by unfold Func.isWrapper; first | (rw [if_pos (by decide +kernel)]; kernel_rfl) | (rw [if_neg (by decide +kernel)]; exact ⟨rfl, rfl⟩))
    (fun os started H enc _ => lifted os started H enc)
theorem card : Rows.LeafBackCardSaid :=
  Claim7.holds_tied_plain_at .later [] [.data] true (true, "1f1e3b104d36c9cc54800db3d7d488cec98b141b7555b77bc499a29d3174a355") false
    row (fun _ h => by cases h) (by kernel_rfl) (fun _ h => by cases h) leafBack_row_tie rfl ⟨rfl, rfl⟩ (by kernel_rfl) rfl
    (fun f fn hf hfn => by
      obtain rfl : f = 3 := Option.some.inj ((show Tryd.prog.funcNamed "mosaicist/mosaicistlaw13.LeafBack" = some 3 by kernel_rfl).symm.trans hf) |>.symm
      obtain rfl : fn = Tryd.f3 := (Option.some.inj (Tryd.func3.symm.trans hfn)).symm
      exact ⟨by kernel_rfl, fun j t ht => by
        rw [Tryd.params3] at ht
        rcases j with _ | j
        · obtain rfl : t = 9 := by simpa using ht.symm
          exact (show Tryd.prog.wantsStandIn 9 = false by kernel_rfl)
        rcases j with _ | j
        · obtain rfl : t = 23 := by simpa using ht.symm
          exact (show Tryd.prog.wantsStandIn 23 = false by kernel_rfl)
        rcases j with _ | j
        · obtain rfl : t = 24 := by simpa using ht.symm
          exact (show Tryd.prog.wantsStandIn 24 = false by kernel_rfl)
        simp at ht⟩)
    (by kernel_rfl)
#print axioms card
end RowLeafBack
end Go.Proofs.YtiacdpfodhggmaaDoor
