/- StoreAgain: for every input the law returns true, and its arguments read as they did. The listed table is tied to the program's text; no condition beside that tie. -/
import Derived.Test.YtcgkbcgpnlogoaaGreatDoorRows
import Derived.Test.YtcgkbcgpnlogoaaGreatDoorCards
import Derived.Test.YtcgkbcgpnlogoaaGreatDoorTie
import Derived.Test.YtcgkbcgpnlogoaaGreatDoorSuH
import Derived.Test.YtcgkbcgpnlogoaaGreatDoorMgAK
import Derived.Test.YtcgkbcgpnlogoaaGreatDoorMgAD
import Derived.ProofKit
import Derived.OpenShut
import Derived.Carry
import Derived.ChangeSame
import Derived.ChangeVars
import Derived.JoinedOf
import Derived.RowKit
namespace Go.Proofs.YtcgkbcgpnlogoaaGreatDoor
open Go.ChangeShapes Go.WideShapes Go.ChangeAt Go.RowKit
open Go.ChangeMaps (setBlock shut_map_nil open_string shut_string keptBut_setBlock frozen?_setBlock heap_setBlock_same)

namespace RowStoreAgain
theorem own : ownKnob Tryz.prog.godebug = none := by kernel_rfl
theorem laidOut : laidOutB Tryz.prog = true := by kernel_rfl
theorem wf_u8 {x : Int} (h : (Lit.int .u8 x).wf = true) : 0 ≤ x ∧ x ≤ 255 := by
 simp [Lit.wf, IntKind.min, IntKind.max, IntKind.signed, IntKind.bits] at h
 exact ⟨by omega, by omega⟩

set_option maxHeartbeats 1000000 in
set_option maxRecDepth 100000 in
theorem lifted (os : Os) (started : os.Started) (H : Type) (enc : TypeId × Value → H) :
  ReturnsInHanded {} Tryz.checked os 5 .any (fun w args => (Rows.storeAgainSpec.pre enc Tryz.prog Tryz.f5 [] false w args ∧ laidMet Tryz.prog laidL w) ∧ sizedMet enc Tryz.prog Tryz.f5 (OpenSpec.ofChange Rows.storeAgainSpec) false w args) (Rows.storeAgainSpec.post enc Tryz.prog Tryz.f5 false true false false) := by
 refine returnsInHanded_of_change_and (C := Tryz.checked) (X := fun w _ => laidMet Tryz.prog laidL w) (fun _ _ _ hh h => h.of_heap hh) own started (by kernel_rfl) Tryz.func5
  (ChangeSpec.witness_at (enc := enc) (C := Tryz.checked) (os := os) (X := fun w _ => laidMet Tryz.prog laidL w) false (laidWorld os) #[.int .u8 0, .slice none 0 0, .int .u8 0] 8 rfl (by kernel_rfl) (by kernel_rfl) (by kernel_rfl) (by kernel_rfl) (by kernel_rfl)
   (laid_met os _)) ?_
 intro W base args ds gs before hval0 hW _ hwt hL _
 have hval : ∀ (j : Nat) t v, Tryz.f5.params[j]? = some t → args[j]? = some v → Value.okWide Tryz.prog W .any base t v := hval0
 have hW' := hW
 obtain ⟨p, q, hA0, hV, rfl, hfz, hnd⟩ := hW
 have hA : DataW.TrodAll enc Tryz.prog W 0 (fun _ => true) true Tryz.f5.params.toList args.toList ds p := hA0
 rw [Tryz.params5] at hA hval
 obtain ⟨v0, v1, v2, d0, d1, d2, p0, p1, p2, rfl, rfl, rfl, h0, h1, h2⟩ := trodAll_three hA
 obtain ⟨rfl, rfl⟩ := trodVars_none hV
 have hw0 : (d0.weights Tryz.prog 5).all (· ≤ reachBytes) = true := by
  have h : (DataW.weightsEach Tryz.prog (5 :: 22 :: 5 :: (Rows.storeAgainSpec.plain.varTypes Tryz.prog)) (d0 :: d1 :: d2 :: [])).all (· ≤ reachBytes) = true := hwt
  simp only [DataW.weightsEach, List.all_append, Bool.and_eq_true] at h
  exact h.1
 have hw1 : (d1.weights Tryz.prog 22).all (· ≤ reachBytes) = true := by
  have h : (DataW.weightsEach Tryz.prog (5 :: 22 :: 5 :: (Rows.storeAgainSpec.plain.varTypes Tryz.prog)) (d0 :: d1 :: d2 :: [])).all (· ≤ reachBytes) = true := hwt
  simp only [DataW.weightsEach, List.all_append, Bool.and_eq_true] at h
  exact h.2.1
 have hw2 : (d2.weights Tryz.prog 5).all (· ≤ reachBytes) = true := by
  have h : (DataW.weightsEach Tryz.prog (5 :: 22 :: 5 :: (Rows.storeAgainSpec.plain.varTypes Tryz.prog)) (d0 :: d1 :: d2 :: [])).all (· ≤ reachBytes) = true := hwt
  simp only [DataW.weightsEach, List.all_append, Bool.and_eq_true] at h
  exact h.2.2.1
 obtain ⟨lg, rfl, rfl, rfl, w_lg⟩ := open_int Tryz.underlying5 (hval 0 5 v0 rfl rfl) h0
 have hk1 := h1
 obtain ⟨tt, rfl, rfl, rfl, w_tt⟩ := open_int Tryz.underlying5 (hval 2 5 v2 rfl rfl) h2
 obtain ⟨D1, n1, cp1, l, rfl, hl1, hl9, hlo, hl⟩ := St.open_acts (hval 1 22 v1 rfl rfl) h1
 clear hA0 hval0
 simp only [List.append_nil] at hW'
 have hlt1 : ∀ y ∈ p1, y.block < W.heap.size := fun y hy => by simpa using hW'.lt y (by simp [hy])
 refine (St.again_any (w := W) (n := n1) (cp := cp1) lg tt (wf_u8 w_lg).1 (by have := (wf_u8 w_lg).2; omega) (wf_u8 w_tt).1 (by have := (wf_u8 w_tt).2; omega) 0 hl hl1 hl9 hlo (tab_of_laid hL)).mono fun e W' ⟨he, hb⟩ => ?_
 subst he
 refine ⟨_, rfl, ?_⟩
 refine ⟨_, _, _, [], _, [], hW', trodAll_mk1 (shut_bool Tryz.underlying4 _),
  trodAll_mk3 (shut_int Tryz.underlying5 w_lg) (Below.trod laidOut (by kernel_rfl) (of_decide_eq_true (by kernel_rfl)) hk1 hb hlt1) (shut_int Tryz.underlying5 w_tt), rfl, hb.frame _, fun h => by cases h⟩

end RowStoreAgain
end Go.Proofs.YtcgkbcgpnlogoaaGreatDoor
