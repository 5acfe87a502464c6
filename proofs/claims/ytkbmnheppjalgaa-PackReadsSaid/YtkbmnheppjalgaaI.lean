/- The document's examples, closed, and walked. -/
import Derived.Test.YtkbmnheppjalgaaPacH
namespace Go.Proofs.Ytkbmnheppjalgaa
open Go.RowKit Pac

theorem f1 : numR ⟨#[128, 1, 5, 4, 97, 98, 33]⟩ false = 64 ∧ numS ⟨#[128, 1, 5, 4, 97, 98, 33]⟩ false = ⟨#[5, 4, 97, 98, 33]⟩ ∧ numBad ⟨#[128, 1, 5, 4, 97, 98, 33]⟩ false = false :=
  ⟨by decide +kernel, bytesEq (by decide +kernel), by decide +kernel⟩
theorem f2 : numR ⟨#[5, 4, 97, 98, 33]⟩ false = -3 ∧ numS ⟨#[5, 4, 97, 98, 33]⟩ false = ⟨#[4, 97, 98, 33]⟩ ∧ numBad ⟨#[5, 4, 97, 98, 33]⟩ false = false :=
  ⟨by decide +kernel, bytesEq (by decide +kernel), by decide +kernel⟩
theorem f3 : txtR ⟨#[4, 97, 98, 33]⟩ false 2 = ⟨#[97, 98]⟩ ∧ txtS ⟨#[4, 97, 98, 33]⟩ false 2 = ⟨#[33]⟩ ∧ txtBad ⟨#[4, 97, 98, 33]⟩ false 2 = false :=
  ⟨bytesEq (by decide +kernel), bytesEq (by decide +kernel), by decide +kernel⟩
theorem f4 : doneB ⟨#[33]⟩ false = false := by
  unfold doneB
  rw [ByteArray.toList_eq]
  decide +kernel
theorem f5 : numR ⟨#[128, 0]⟩ false = 0 ∧ numS ⟨#[128, 0]⟩ false = ⟨#[128, 0]⟩ ∧ numBad ⟨#[128, 0]⟩ false = true :=
  ⟨by decide +kernel, bytesEq (by decide +kernel), by decide +kernel⟩
theorem f6 : btwR ⟨#[14]⟩ false 0 6 = 0 ∧ numS ⟨#[14]⟩ false = ⟨#[]⟩ ∧ btwBad ⟨#[14]⟩ false 0 6 = true :=
  ⟨by decide +kernel, bytesEq (by decide +kernel), by decide +kernel⟩
theorem n7 : encB (zig 7) = ⟨#[14]⟩ := bytesEq (by decide +kernel)
theorem n0 : encB (zig 0) = ⟨#[0]⟩ := bytesEq (by decide +kernel)
theorem n1 : encB (zig (-1)) = ⟨#[1]⟩ := bytesEq (by decide +kernel)
theorem n64 : encB (zig 64) = ⟨#[128, 1]⟩ := bytesEq (by decide +kernel)
theorem nab : txtB ⟨#[97, 98]⟩ = ⟨#[4, 97, 98]⟩ := bytesEq (by decide +kernel)
theorem nmin : encB (zig (-9223372036854775808)) = ⟨#[255, 255, 255, 255, 255, 255, 255, 255, 255, 1]⟩ := bytesEq (by decide +kernel)

theorem k1 (g : Nat) (w : World) (hb : IsBox w g ⟨#[128, 1, 5, 4, 97, 98, 33]⟩ false) : Calls Try.prog 13 #[.pointer (some ⟨g, 0, none⟩)] w fun e w' => e = .returned (.int .i64 64) ∧ IsBox w' g ⟨#[5, 4, 97, 98, 33]⟩ false ∧ Bar g w w' := by
  have h := boxNum_any g _ false w hb (by decide)
  rw [f1.1, f1.2.1, f1.2.2] at h
  exact h
theorem k2 (g : Nat) (w : World) (hb : IsBox w g ⟨#[5, 4, 97, 98, 33]⟩ false) : Calls Try.prog 13 #[.pointer (some ⟨g, 0, none⟩)] w fun e w' => e = .returned (.int .i64 (-3)) ∧ IsBox w' g ⟨#[4, 97, 98, 33]⟩ false ∧ Bar g w w' := by
  have h := boxNum_any g _ false w hb (by decide)
  rw [f2.1, f2.2.1, f2.2.2] at h
  exact h
theorem k3 (g : Nat) (w : World) (hb : IsBox w g ⟨#[4, 97, 98, 33]⟩ false) : Calls Try.prog 17 #[.pointer (some ⟨g, 0, none⟩), .int .i64 2] w fun e w' => e = .returned (.string ⟨#[97, 98]⟩) ∧ IsBox w' g ⟨#[33]⟩ false ∧ Bar g w w' := by
  have h := boxText_any g _ false 2 w hb (by decide)
  rw [f3.1, f3.2.1, f3.2.2] at h
  exact h
theorem k4 (g : Nat) (w : World) (hb : IsBox w g ⟨#[33]⟩ false) : Calls Try.prog 19 #[.pointer (some ⟨g, 0, none⟩)] w fun e w' => e = .returned (.bool false) ∧ w = w' := by
  have h := boxDone_any g _ false w hb
  rw [f4] at h
  exact h
theorem k5 (g : Nat) (w : World) (hb : IsBox w g ⟨#[128, 0]⟩ false) : Calls Try.prog 13 #[.pointer (some ⟨g, 0, none⟩)] w fun e w' => e = .returned (.int .i64 0) ∧ IsBox w' g ⟨#[128, 0]⟩ true ∧ Bar g w w' := by
  have h := boxNum_any g _ false w hb (by decide)
  rw [f5.1, f5.2.1, f5.2.2] at h
  exact h
theorem k6 (g : Nat) (w : World) (hb : IsBox w g ⟨#[14]⟩ false) : Calls Try.prog 15 #[.pointer (some ⟨g, 0, none⟩), .int .i64 0, .int .i64 6] w fun e w' => e = .returned (.int .i64 0) ∧ IsBox w' g ⟨#[]⟩ true ∧ Bar g w w' := by
  have h := boxBetween_any g _ false 0 6 w hb (by decide)
  rw [f6.1, f6.2.1, f6.2.2] at h
  exact h
theorem kn (n : Int) (s : ByteArray) (w : World) (h0 : -9223372036854775808 ≤ n) (h1 : n ≤ 9223372036854775807) (hs : encB (zig n) = s) : Calls Try.prog 9 #[.int .i64 n] w fun e w' => e = .returned (.string s) ∧ Below w.heap.size w w' := by
  have h := num_any n w h0 h1
  rw [hs] at h
  exact h

set_option maxRecDepth 20000 in
set_option maxHeartbeats 1600000 in
theorem awake_any (w : World) : Calls Try.prog 8 #[] w fun e w' => e = .returned (.bool true) ∧ Below w.heap.size w w' := by
  go_enter Try.func8, Try.ntmps8
  go_wp2_with fail
  have hb0 := Box2.new w (.string ⟨#[128, 1, 5, 4, 97, 98, 33]⟩) (.bool false) 29
  have hB0 := (Below.refl w.heap.size w).alloc (Nat.le_refl _) (.cells #[.string ⟨#[128, 1, 5, 4, 97, 98, 33]⟩, .bool false] 29)
  refine (k1 _ _ hb0).mono ?_
  rintro e w1 ⟨rfl, hb1, hw1⟩
  have hB1 := hB0.trans (hw1.below (Nat.le_refl _) hB0.size)
  clear hb0 hB0 hw1
  go_wp2_with fail
  refine (k2 _ _ hb1).mono ?_
  rintro e w2 ⟨rfl, hb2, hw2⟩
  have hB2 := hB1.trans (hw2.below (Nat.le_refl _) hB1.size)
  clear hb1 hB1 hw2
  go_wp2_with fail
  refine (k3 _ _ hb2).mono ?_
  rintro e w3 ⟨rfl, hb3, hw3⟩
  have hB3 := hB2.trans (hw3.below (Nat.le_refl _) hB2.size)
  clear hb2 hB2 hw3
  go_wp2_with fail
  refine (k4 _ _ hb3).mono ?_
  rintro e w4 ⟨rfl, rfl⟩
  clear hb3
  go_wp2_with fail
  have hb4 := Box2.new w3 (.string ⟨#[128, 0]⟩) (.bool false) 29
  have hB4 := hB3.alloc hB3.size (.cells #[.string ⟨#[128, 0]⟩, .bool false] 29)
  have hg4 := hB3.size
  clear hB3
  refine (k5 _ _ hb4).mono ?_
  rintro e w5 ⟨rfl, hb5, hw5⟩
  have hB5 := hB4.trans (hw5.below hg4 hB4.size)
  clear hb4 hB4 hw5
  go_wp2_with fail
  refine (kn 7 _ w5 (by decide) (by decide) n7).mono ?_
  rintro e w6 ⟨rfl, hw6⟩
  have hB6 := hB5.trans (hw6.mono hB5.size)
  have hb6 := hb5.below hw6 hb5.lt
  clear hb5 hB5 hw6
  go_wp2_with fail
  have hb7 := Box2.new w6 (.string ⟨#[14]⟩) (.bool false) 29
  have hb6' := hb6.alloc (.cells #[.string ⟨#[14]⟩, .bool false] 29)
  have hne : w3.heap.size ≠ w6.heap.size := Nat.ne_of_lt hb6.lt
  have hB7 := hB6.alloc hB6.size (.cells #[.string ⟨#[14]⟩, .bool false] 29)
  have hg7 := hB6.size
  clear hB6 hb6
  refine (k6 _ _ hb7).mono ?_
  rintro e w8 ⟨rfl, hb8, hw8⟩
  have hc8 := hb6'.bar hw8 hne
  have hB8 := hB7.trans (hw8.below hg7 hB7.size)
  clear hb7 hB7 hw8 hb6' hne
  go_wp2_with fail
  refine (kn 0 _ w8 (by decide) (by decide) n0).mono ?_
  rintro e w9 ⟨rfl, hw9⟩
  have hB9 := hB8.trans (hw9.mono hB8.size)
  have hb9 := hb8.below hw9 hb8.lt
  have hc9 := hc8.below hw9 hc8.lt
  clear hw9 hB8 hb8 hc8
  go_wp2_with fail
  refine (kn (-1) _ w9 (by decide) (by decide) n1).mono ?_
  rintro e w10 ⟨rfl, hw10⟩
  have hB10 := hB9.trans (hw10.mono hB9.size)
  have hb10 := hb9.below hw10 hb9.lt
  have hc10 := hc9.below hw10 hc9.lt
  clear hw10 hB9 hb9 hc9
  go_wp2_with fail
  refine (kn 64 _ w10 (by decide) (by decide) n64).mono ?_
  rintro e w11 ⟨rfl, hw11⟩
  have hB11 := hB10.trans (hw11.mono hB10.size)
  have hb11 := hb10.below hw11 hb10.lt
  have hc11 := hc10.below hw11 hc10.lt
  clear hw11 hB10 hb10 hc10
  go_wp2_with fail
  have ht := text_any ⟨#[97, 98]⟩ w11 (by decide)
  rw [nab] at ht
  refine ht.mono ?_
  rintro e w12 ⟨rfl, hw12⟩
  have hB12 := hB11.trans (hw12.mono hB11.size)
  have hb12 := hb11.below hw12 hb11.lt
  have hc12 := hc11.below hw12 hc11.lt
  clear hw12 hB11 hb11 hc11 ht
  have cc := hc12.c1
  have cb := hb12.c1
  go_wp2_with fail
  refine (kn (-9223372036854775808) _ w12 (by decide) (by decide) nmin).mono ?_
  rintro e w13 ⟨rfl, hw13⟩
  have hB13 := hB12.trans (hw13.mono hB12.size)
  go_wp2
  go_ret
  exact ⟨rfl, hB13⟩
end Go.Proofs.Ytkbmnheppjalgaa
