/- HeadNewest: for every input the law returns true, and its arguments read as they did. The listed table is tied to the program's text; no condition beside that tie. -/
import Derived.Test.YtdbemkdfndjakaaDoorRows
import Derived.Test.YtdbemkdfndjakaaDoorCards
import Derived.Test.YtdbemkdfndjakaaDoorTie
import Derived.Test.YtdbemkdfndjakaaDoorHdS
import Derived.Test.YtdbemkdfndjakaaDoorHdX
import Derived.Test.YtdbemkdfndjakaaDoorTyB
import Derived.ProofKit
import Derived.OpenShut
import Derived.Carry
import Derived.ChangeSame
import Derived.ChangeVars
import Derived.JoinedOf
import Derived.RowKit
namespace Go.Proofs.YtdbemkdfndjakaaDoor
open Go.ChangeShapes Go.WideShapes Go.ChangeAt Go.RowKit
open Go.ChangeMaps (setBlock shut_map_nil open_string shut_string keptBut_setBlock frozen?_setBlock heap_setBlock_same)

namespace RowHeadNewest
theorem own : ownKnob Tryd.prog.godebug = none := by kernel_rfl
theorem laidOut : laidOutB Tryd.prog = true := by kernel_rfl

set_option maxHeartbeats 1000000 in
set_option maxRecDepth 100000 in
theorem lifted (os : Os) (started : os.Started) (H : Type) (enc : TypeId × Value → H) :
    ReturnsInHanded {} Tryd.checked os 4 .any (fun w args => (Rows.headNewestSpec.pre enc Tryd.prog Tryd.f4 [] false w args ∧ laidMet Tryd.prog laidL w) ∧ sizedMet enc Tryd.prog Tryd.f4 (OpenSpec.ofChange Rows.headNewestSpec) false w args) (Rows.headNewestSpec.post enc Tryd.prog Tryd.f4 false true false false) := by
  refine returnsInHanded_of_change_and (C := Tryd.checked) (X := fun w _ => laidMet Tryd.prog laidL w) (fun _ _ _ hh h => h.of_heap hh) own started (by kernel_rfl) Tryd.func4
    (ChangeSpec.witness_at (enc := enc) (C := Tryd.checked) (os := os) (X := fun w _ => laidMet Tryd.prog laidL w) false (laidWorld os) #[.slice none 0 0, .agg #[.int .i64 0, .int .i64 0, .int .i64 0], .agg #[.int .u16 0, .int .u16 0, .int .u16 0]] 8 rfl (by kernel_rfl) (by kernel_rfl) (by kernel_rfl) (by kernel_rfl) (by kernel_rfl)
      (laid_met os _)) ?_
  intro W base args ds gs before hval0 hW _ hwt hL _
  have hval : ∀ (j : Nat) t v, Tryd.f4.params[j]? = some t → args[j]? = some v → Value.okWide Tryd.prog W .any base t v := hval0
  have hW' := hW
  obtain ⟨p, q, hA0, hV, rfl, hfz, hnd⟩ := hW
  have hA : DataW.TrodAll enc Tryd.prog W 0 (fun _ => true) true Tryd.f4.params.toList args.toList ds p := hA0
  rw [Tryd.params4] at hA hval
  obtain ⟨v0, v1, v2, d0, d1, d2, p0, p1, p2, rfl, rfl, rfl, h0, h1, h2⟩ := trodAll_three hA
  obtain ⟨rfl, rfl⟩ := trodVars_none hV
  have hw0 : (d0.weights Tryd.prog 33).all (· ≤ reachBytes) = true := by
    have h : (DataW.weightsEach Tryd.prog (33 :: 23 :: 35 :: (Rows.headNewestSpec.plain.varTypes Tryd.prog)) (d0 :: d1 :: d2 :: [])).all (· ≤ reachBytes) = true := hwt
    simp only [DataW.weightsEach, List.all_append, Bool.and_eq_true] at h
    exact h.1
  have hw1 : (d1.weights Tryd.prog 23).all (· ≤ reachBytes) = true := by
    have h : (DataW.weightsEach Tryd.prog (33 :: 23 :: 35 :: (Rows.headNewestSpec.plain.varTypes Tryd.prog)) (d0 :: d1 :: d2 :: [])).all (· ≤ reachBytes) = true := hwt
    simp only [DataW.weightsEach, List.all_append, Bool.and_eq_true] at h
    exact h.2.1
  have hw2 : (d2.weights Tryd.prog 35).all (· ≤ reachBytes) = true := by
    have h : (DataW.weightsEach Tryd.prog (33 :: 23 :: 35 :: (Rows.headNewestSpec.plain.varTypes Tryd.prog)) (d0 :: d1 :: d2 :: [])).all (· ≤ reachBytes) = true := hwt
    simp only [DataW.weightsEach, List.all_append, Bool.and_eq_true] at h
    exact h.2.2.1
  have hk0 := h0
  have hk1 := h1
  have hk2 := h2
  obtain ⟨D1, cp1, l, rfl, hcl, hl9, hl⟩ := Hd.open_heads (hval 0 33 v0 rfl rfl) h0
  obtain ⟨h, rfl, _, _⟩ := Hd.open_head (hval 1 23 v1 rfl rfl) h1
  obtain ⟨a0, a1, a2, rfl, ha0, ha1, ha2⟩ := Hd.open_three (hval 2 35 v2 rfl rfl) h2
  clear hA0 hval0
  simp only [List.append_nil] at hW'
  have hlt0 : ∀ y ∈ p0, y.block < W.heap.size := fun y hy => by simpa using hW'.lt y (by simp [hy])
  have hlt1 : ∀ y ∈ p1, y.block < W.heap.size := fun y hy => by simpa using hW'.lt y (by simp [hy])
  have hlt2 : ∀ y ∈ p2, y.block < W.heap.size := fun y hy => by simpa using hW'.lt y (by simp [hy])
  refine (Hd.newestLaw_any h a0 a1 a2 0 _ (tab_of_laid hL) hl rfl hl9 ha0 ha1 ha2).mono fun e W' ⟨he, hb⟩ => ?_
  subst he
  refine ⟨_, rfl, ?_⟩
  refine ⟨_, _, _, [], _, [], hW', trodAll_mk1 (shut_bool Tryd.underlying4 _),
    trodAll_mk3 (Below.trod laidOut (by kernel_rfl) (of_decide_eq_true (by kernel_rfl)) hk0 hb hlt0) (Below.trod laidOut (by kernel_rfl) (of_decide_eq_true (by kernel_rfl)) hk1 hb hlt1) (Below.trod laidOut (by kernel_rfl) (of_decide_eq_true (by kernel_rfl)) hk2 hb hlt2), rfl, hb.frame _, fun h => by cases h⟩

theorem row : Rows.HeadNewestSaid :=
  OpenClaim.holds_of_wide 4 Tryd.f4 rfl rfl rfl rfl rfl rfl rfl ⟨rfl, rfl, rfl, rfl, rfl⟩ rfl rfl rfl rfl rfl (by kernel_rfl) Tryd.func4 (by kernel_rfl)
    (of_decide_eq_true (by kernel_rfl)) (by unfold Func.isWrapper; first | (rw [if_pos (by decide +kernel)]; kernel_rfl) | (rw [if_neg (by decide +kernel)]; exact ⟨rfl, rfl⟩))
    (fun os started H enc _ => lifted os started H enc)
theorem card : Rows.HeadNewestCardSaid :=
  Claim7.holds_tied_plain_at .later [] [.data] true (true, "efafccdfdcc146234595ea9656d2dc8ce555e85e6f7bfc7fa7ee4b0dc9e2bd9f") false
    row (fun _ h => by cases h) (by kernel_rfl) (fun _ h => by cases h) headNewest_row_tie rfl ⟨rfl, rfl⟩ (by kernel_rfl) rfl
    (fun f fn hf hfn => by
      obtain rfl : f = 4 := Option.some.inj ((show Tryd.prog.funcNamed "mosaicist/mosaicistlaw17.HeadNewest" = some 4 by kernel_rfl).symm.trans hf) |>.symm
      obtain rfl : fn = Tryd.f4 := (Option.some.inj (Tryd.func4.symm.trans hfn)).symm
      exact ⟨by kernel_rfl, fun j t ht => by
        rw [Tryd.params4] at ht
        rcases j with _ | j
        · obtain rfl : t = 33 := by simpa using ht.symm
          exact (show Tryd.prog.wantsStandIn 33 = false by kernel_rfl)
        rcases j with _ | j
        · obtain rfl : t = 23 := by simpa using ht.symm
          exact (show Tryd.prog.wantsStandIn 23 = false by kernel_rfl)
        rcases j with _ | j
        · obtain rfl : t = 35 := by simpa using ht.symm
          exact (show Tryd.prog.wantsStandIn 35 = false by kernel_rfl)
        simp at ht⟩)
    (by kernel_rfl)
#print axioms card
end RowHeadNewest
end Go.Proofs.YtdbemkdfndjakaaDoor
