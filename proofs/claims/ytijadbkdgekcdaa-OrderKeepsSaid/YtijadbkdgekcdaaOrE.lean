/- The document's examples of layer 7, walked. -/
import Derived.Test.YtijadbkdgekcdaaOrD
namespace Go.Proofs.Ytijadbkdgekcdaa.Or
open Go.RowKit Pac Va

theorem ex_num : keyB ⟨1, 1, ⟨#[]⟩⟩ = ⟨#[1, 128, 0, 0, 0, 0, 0, 0, 1]⟩ := by decide +kernel
theorem ex_text : keyB ⟨3, 0, ⟨#[97, 98]⟩⟩ = ⟨#[3, 97, 98]⟩ := by decide +kernel
theorem ex_none : keyB ⟨0, 0, ⟨#[]⟩⟩ = ⟨#[0]⟩ := by decide +kernel
theorem ex_s0 : spread (⟨#[]⟩ : ByteArray).data.toList = 14695981038468906945 := by decide +kernel
theorem ex_s1 : spread (⟨#[97]⟩ : ByteArray).data.toList ≠ spread (⟨#[98]⟩ : ByteArray).data.toList := by decide +kernel
set_option maxRecDepth 20000 in
set_option maxHeartbeats 1600000 in
theorem awake_any (w : World) : Calls Try.prog 6 #[] w fun e w' => e = .returned (.bool true) ∧ Below w.heap.size w w' := by
  have c1 := fun W : World => key_any ⟨1, 1, ⟨#[]⟩⟩ W ⟨by decide, by decide, by decide, by decide⟩ (by decide)
  have c2 := fun W : World => key_any ⟨3, 0, ⟨#[97, 98]⟩⟩ W ⟨by decide, by decide, by decide, by decide⟩ (by decide)
  have c3 := fun W : World => key_any ⟨0, 0, ⟨#[]⟩⟩ W ⟨by decide, by decide, by decide, by decide⟩ (by decide)
  have c4 := fun W : World => spread_any ⟨#[]⟩ W (by decide)
  have c5 := fun W : World => spread_any ⟨#[97]⟩ W (by decide)
  have c6 := fun W : World => spread_any ⟨#[98]⟩ W (by decide)
  rw [ex_num] at c1
  rw [ex_text] at c2
  rw [ex_none] at c3
  rw [ex_s0] at c4
  have hne := ex_s1
  generalize spread (⟨#[97]⟩ : ByteArray).data.toList = x at c5 hne
  generalize spread (⟨#[98]⟩ : ByteArray).data.toList = y at c6 hne
  have hne' : ((x : Int) != (y : Int)) = true := bne_iff_ne.2 (by omega)
  clear hne
  go_enter Try.func6, Try.ntmps6
  go_wp2_with fail
  refine (c1 _).mono ?_
  rintro e w1 ⟨rfl, hw1⟩
  go_wp2_with fail
  refine (c2 _).mono ?_
  rintro e w2 ⟨rfl, hw2⟩
  have HW := hw1.trans (hw2.mono hw1.size)
  clear hw1 hw2
  go_wp2_with fail
  refine (c3 _).mono ?_
  rintro e w3 ⟨rfl, hw3⟩
  have HW := HW.trans (hw3.mono HW.size)
  clear hw3
  go_wp2_with fail
  refine (c4 _).mono ?_
  rintro e w4 ⟨rfl, hw4⟩
  have HW := HW.trans (hw4.mono HW.size)
  clear hw4
  go_wp2_with fail
  refine (c5 _).mono ?_
  rintro e w5 ⟨rfl, hw5⟩
  have HW := HW.trans (hw5.mono HW.size)
  clear hw5
  go_wp2_with fail
  refine (c6 _).mono ?_
  rintro e w6 ⟨rfl, hw6⟩
  have HW := HW.trans (hw6.mono HW.size)
  clear hw6
  go_wp2
  go_ret
  exact ⟨rfl, HW⟩
end Go.Proofs.Ytijadbkdgekcdaa.Or
