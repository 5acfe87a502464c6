/- TallyFills, walked. -/
import Derived.Test.YtcajkkfeancjmaaDoorE
import Derived.Laws.CopyOwn
namespace Go.Proofs.YtcajkkfeancjmaaDoor
open Go.RowKit Go.Shelf

set_option maxHeartbeats 400000 in
theorem sealed_low (s : ByteArray) (z : Int) (w : World) (h4 : z < 4) :
    Calls Tryd.prog 6 #[.string s, .int .i64 z] w fun e w' => e = .returned (.string ⟨#[]⟩) ∧ w = w' := by
  have d1 : decide (z < 4) = true := by simp; omega
  go_enter Tryd.func6, Tryd.ntmps6
  go_wp2
  go_ret
  exact ⟨rfl, rfl⟩
theorem sealed_none (s : ByteArray) (z : Int) (w : World) (hs : s.size ≤ 9223372036854775807) (hz : z ≤ 2147483647) (h : z < (s.size : Int) + 4) :
    Calls Tryd.prog 6 #[.string s, .int .i64 z] w fun e w' => e = .returned (.string ⟨#[]⟩) ∧ w = w' := by
  by_cases h4 : z < 4
  · exact sealed_low s z w h4
  · exact sealed_no s z w hs (by omega) hz h

theorem info5 : (Tryd.prog.info? 5).map (fun i => (i.zero, i.size, i.bytes)) = some (some (.int .u8 0), 1, 1) := by kernel_rfl
theorem strOf_zeros (n : Nat) : strOfNums (List.replicate n 0) = zeros n := by
  unfold strOfNums zeros
  simp

set_option maxHeartbeats 1000000 in
theorem fills_big (s : ByteArray) (n : Int) (w : World) (ht : Tab w) (hs : 500 < s.size) (hs2 : s.size ≤ 9223372036854775807) :
    Calls Tryd.prog 4 #[.string s, .int .u8 n] w fun e w' => e = .returned (.bool true) ∧ Below w.heap.size w w' := by
  have HT := Lib.hid ht
  clear ht
  have d1 : decide ((500 : Int) < (s.size : Int)) = true := by simp; omega
  go_enter Tryd.func4, Tryd.ntmps4
  go_wp2_with (go_at_call 5; refine (awake_any _ HT.out).mono ?_; rintro e w1 ⟨rfl, hb1⟩)
  go_ret
  exact ⟨rfl, hb1⟩

set_option maxRecDepth 100000 in
set_option maxHeartbeats 1000000 in
theorem fills_small (s : ByteArray) (n : Int) (w : World) (ht : Tab w) (hs : s.size ≤ 500) (h0 : 0 ≤ n) (h1 : n ≤ 255) :
    Calls Tryd.prog 4 #[.string s, .int .u8 n] w fun e w' => e = .returned (.bool true) ∧ Below w.heap.size w w' := by
  obtain ⟨i0, hi, hz0, hz1, hz2⟩ := info_parts info5
  have HT := Lib.hid ht
  clear ht
  obtain ⟨t, ht⟩ : ∃ t : Nat, n % 20 = (t : Int) := ⟨(n % 20).toNat, by omega⟩
  have htl : t < 20 := by omega
  have d1 : decide ((500 : Int) < (s.size : Int)) = false := by simp; omega
  obtain ⟨k, hk⟩ : ∃ k : Nat, s.size + 4 + t = k := ⟨_, rfl⟩
  have hkl : k ≤ 600 := by omega
  have e1 : (s.size : Int) + 4 + (t : Int) = (k : Int) := by omega
  have e2 : (k : Int) - 4 - (s.size : Int) = (t : Int) := by omega
  have HB : Hid (s ++ zeros t = body s (k - 4)) := by
    unfold body
    rw [show k - 4 - s.size = t by omega]
    exact Lib.hid rfl
  have HK := Lib.hid hk
  clear hk
  have HX := Lib.hid (sealed_size s k (by have := HK.out; omega))
  have HH := Lib.hid (sealed_head s k (by have := HK.out; omega))
  have HW := Lib.hid (sealed_whole s k (by have := HK.out; omega))
  have HA := Lib.hid (sealed_again s k (by have := HK.out; omega))
  have HL := Lib.hid (body_size s (k - 4) (by have := HK.out; omega))
  go_enter Tryd.func4, Tryd.ntmps4
  go_wp2_with fail
  refine (sealed_any s k w HT.out (by omega) (by have := HK.out; omega)).mono ?_
  rintro e w1 ⟨rfl, hb1⟩
  rw [Int.toNat_natCast]
  generalize sealed s k = x at HX HH HW HA ⊢
  go_wp2_with
    (at_make
     go_must (refine wpList_make_full _ rfl _ _ 25 rfl (w1.heap.size) 5 i0 _ 1 Tryd.underlying25 hi hz0 hz1 _ _ _ _ t rfl rfl rfl rfl (by rw [hz2]; omega) (by unfold maxLen; omega) (by simp) ?_)
     intro w2 hown hgrow
     have hb2 : Below w1.heap.size w1 w2 := (Below.refl _ _).grown hgrow (Nat.le_refl _) (fun k hk => by cases hk)
     have hcv := run_convert_bytes_arg (P := Tryd.prog) w2 25 5 Tryd.underlying25 Tryd.underlying5 w1.heap.size 0 t t (List.replicate t 0) (by simp) (fun i hi => by
       rw [Nat.zero_add, hown.cellAt i (by omega)]
       show (madeCells #[Value.int IntKind.u8 0] (t * 1)).toList[i]? = _
       rw [toList_madeCells_one, Nat.mul_one]
       simp [hi]) 9 Tryd.underlying9
     rw [strOf_zeros] at hcv
     have hrl : s.size + (zeros t).size ≤ 600 := (by rw [zeros_size]; omega)
     clear hown hgrow hi hz0 hz1 hz2
     generalize zeros t = r at HB hcv hrl
     have hbc := hb1.trans (hb2.mono hb1.size)
     clear hb2)
  clear hcv
  generalize s ++ r = p at HB ⊢
  have HT2 := Lib.hid (HT.out.below hbc)
  have HB2 := Lib.hid HB.out.symm
  go_wp2_with fail
  refine (awake_any w2 HT2.out).mono ?_
  rintro e w3 ⟨rfl, hb3⟩
  have hbc3 := hbc.trans (hb3.mono hbc.size)
  have HT3 := Lib.hid (HT.out.below hbc3)
  have z1 : ((x.size : Int) == (k : Int)) = true := by rw [HX.out]; simp
  have z0 : (x.size : Int) ≤ 600 := by rw [HX.out]; omega
  have z2 : ((x.extract 0 (k - 4)).toList == p.toList) = true := by
    rw [Lib.extract_toList, List.drop_zero, Nat.sub_zero, HH.out, HB.out, ByteArray.toList_eq]
    exact beq_self_eq_true _
  have z3 : (4 : Int) ≤ (k : Int) := by have := HK.out; omega
  have z4 : (k : Int) - 4 ≤ (x.size : Int) := by rw [HX.out]; omega
  have z5 : ((k : Int) - 4).toNat = k - 4 := by omega
  have z6 : (0 : Int) ≤ (k : Int) - 4 := by omega
  go_wp2_with fail
  refine (whole_any x w3 (by have := HX.out; have := HK.out; omega) (by omega) HT3.out).mono ?_
  rintro e w4 ⟨rfl, hb4⟩
  rw [HW.out]
  have hbc4 := hbc3.trans (hb4.mono hbc3.size)
  have HT4 := Lib.hid (HT.out.below hbc4)
  have hpl : (p.size : Int) + 4 ≤ (k : Int) := by rw [HB.out, HL.out]; omega
  clear z1 z2 z4 z5 z6
  go_wp2_with fail
  refine (show Calls Tryd.prog 6 #[.string p, .int .i64 k] w4 fun e w' => e = .returned (.string x) ∧ Below w4.heap.size w4 w' from (sealed_any p k w4 HT4.out (by omega) hpl).mono fun e w' h => ⟨by rw [h.1, Int.toNat_natCast, HB.out, HA.out], h.2⟩).mono ?_
  rintro e w5 ⟨rfl, hb5⟩
  have hbc5 := hbc4.trans (hb5.mono hbc4.size)
  go_wp2_with fail
  refine (sealed_none s _ w5 (by omega) (by omega) (by omega)).mono ?_
  rintro e w6 ⟨rfl, rfl⟩
  go_wp2_with fail
  go_ret
  exact ⟨rfl, hbc5⟩

theorem fills_any (s : ByteArray) (n : Int) (w : World) (ht : Tab w) (hs : s.size ≤ 9223372036854775807) (h0 : 0 ≤ n) (h1 : n ≤ 255) :
    Calls Tryd.prog 4 #[.string s, .int .u8 n] w fun e w' => e = .returned (.bool true) ∧ Below w.heap.size w w' := by
  by_cases h : s.size ≤ 500
  · exact fills_small s n w ht h h0 h1
  · exact fills_big s n w ht (by omega) hs
end Go.Proofs.YtcajkkfeancjmaaDoor
