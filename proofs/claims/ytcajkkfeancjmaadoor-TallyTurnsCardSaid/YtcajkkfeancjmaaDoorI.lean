/- TallyTurns, walked. -/
import Derived.Test.YtcajkkfeancjmaaDoorH
namespace Go.Proofs.YtcajkkfeancjmaaDoor
open Go.RowKit Go.Shelf

set_option maxHeartbeats 1000000 in
theorem turns_no (s : ByteArray) (a : Int) (b0 b1 b2 b3 : Int) (w : World) (ht : Tab w) (hs : s.size = 0 ∨ 1000 < s.size) (hs2 : s.size ≤ 9223372036854775807) :
    Calls Tryd.prog 3 #[.string s, .int .u16 a, .agg #[.int .u8 b0, .int .u8 b1, .int .u8 b2, .int .u8 b3]] w fun e w' => e = .returned (.bool true) ∧ Below w.heap.size w w' := by
  have hbox := (Below.refl w.heap.size w).alloc (Nat.le_refl _) (.cells #[.int .u8 b0, .int .u8 b1, .int .u8 b2, .int .u8 b3] 23)
  have HT := Lib.hid (ht.below hbox)
  clear ht
  rcases hs with hs | hs
  · have d1 : ((s.size : Int) == 0) = true := by simp [hs]
    clear hs
    go_enter Tryd.func3, Tryd.ntmps3
    go_wp2_with fail
    refine (awake_any _ HT.out).mono ?_
    rintro e w1 ⟨rfl, hb1⟩
    go_wp2
    go_ret
    exact ⟨rfl, hbox.trans (hb1.mono (by simp))⟩
  · have d1 : ((s.size : Int) == 0) = false := beq_eq_false_iff_ne.2 (by omega)
    have d2 : decide ((1000 : Int) < (s.size : Int)) = true := by simp; omega
    go_enter Tryd.func3, Tryd.ntmps3
    go_wp2_with fail
    refine (awake_any _ HT.out).mono ?_
    rintro e w1 ⟨rfl, hb1⟩
    go_wp2
    go_ret
    exact ⟨rfl, hbox.trans (hb1.mono (by simp))⟩

/-- The bytes of a text, in new memory. -/
theorem bytes_new (s : ByteArray) (w : World) : ∃ (W : World) (cap : Nat), (convert 9 25 (.string s)).run Tryd.prog w = .ok (.slice (some ⟨w.heap.size, 0, none⟩) s.size cap) W ∧ s.size ≤ cap ∧
    (∀ j, j < s.size → W.cell? ⟨w.heap.size, j, none⟩ = some (.int .u8 ((s.data.toList.getD j 0).toNat)) ∧ W.frozen? ⟨w.heap.size, j, none⟩ = false) ∧ Below w.heap.size w W := by
  have hc := Lib.run_convert_string_bytes (P := Tryd.prog) w 9 25 5 s Tryd.underlying9 Tryd.underlying25 Tryd.underlying5
  refine ⟨_, _, hc, grownCap_ge _ _ _ _, fun j hj => ⟨Lib.bytesWorld_cell w 5 s j hj, ?_⟩, ?_⟩
  · have hsz : s.size ≤ (Lib.bytesCells w 5 s).size := by unfold Lib.bytesCells; simp
    simp [World.frozen?, Lib.bytesWorld_at_new]
    omega
  · exact ⟨rfl, rfl, rfl, by rw [Lib.bytesWorld_size]; omega, fun k hk => Lib.bytesWorld_at_old w 5 s k hk⟩
/-- What the loop keeps: the text's bytes, so far turned, and those that turn them. -/
structure Turns (w wr : World) (S E : Nat → UInt8) (n k q : Nat) : Prop where
  b : ∀ j, j < n → wr.cell? ⟨w.heap.size + 1, j, none⟩ = some (.int .u8 (cur S E k q j).toNat)
  f : ∀ j, j < n → wr.frozen? ⟨w.heap.size + 1, j, none⟩ = false
  e : ∀ j, j < 4 → wr.cell? ⟨w.heap.size, j, none⟩ = some (.int .u8 (E j).toNat)
  keep : Below w.heap.size w wr
  size : w.heap.size + 1 < wr.heap.size
theorem box_cells (w : World) (E : Nat → UInt8) (T : TypeId) : ∀ j, j < 4 → (w.alloc (.cells #[.int .u8 (E 0).toNat, .int .u8 (E 1).toNat, .int .u8 (E 2).toNat, .int .u8 (E 3).toNat] T)).cell? ⟨w.heap.size, j, none⟩ = some (.int .u8 (E j).toNat) := by
  intro j hj
  match j, hj with
  | 0, _ => simp
  | 1, _ => simp
  | 2, _ => simp
  | 3, _ => simp
theorem add_zero_off (b j : Nat) : (⟨b, 0, none⟩ : Addr).add j = ⟨b, j, none⟩ := by unfold Addr.add; split <;> simp_all
theorem turns_next {w wr : World} {S E : Nat → UInt8} {n k q y : Nat} (h : Turns w wr S E n k q) (hn : k + q < n) (hy : (cur S E k q (k + q) ^^^ E q).toNat = y) :
    Turns w (wr.drew.setCell ⟨w.heap.size + 1, k + q, none⟩ (.int .u8 y)) S E n k (q + 1) := by
  have hs := h.size
  refine ⟨fun j hj => ?_, fun j hj => ?_, fun j hj => ?_, ?_, ?_⟩
  · by_cases e : j = k + q
    · subst e
      rw [cur_at, hy]
      exact World.cell?_setCell_same wr.drew _ _ (h.b (k + q) hn)
    · rw [cur_off S E k q j e]
      exact (World.cell?_setCell_other wr.drew _ _ _ (fun e' => e (by injection e' with _ e2; exact e2.symm))).trans (h.b j hj)
  · rw [World.frozen?_setCell]
    exact h.f j hj
  · exact (World.cell?_setCell_other wr.drew _ _ _ (fun e' => by injection e' with e1 _; omega)).trans (h.e j hj)
  · exact h.keep.drew.setCell (by simp) _
  · simpa using hs
theorem sealed_prefix (s : ByteArray) (n : Nat) (h : s.size + 4 ≤ n) : (sealed s n).data.toList.take s.size = s.data.toList := by
  have h1 := sealed_head s n h
  have h2 := congrArg (List.take s.size) h1
  rw [List.take_take, body_data, Nat.min_eq_left (by omega)] at h2
  rw [h2, List.take_append_of_le_length (by simp), List.take_of_length_le (by simp)]
theorem curL_get (S E : Nat → UInt8) (k q n j : Nat) (hj : j < (curL S E k q n).length) : (curL S E k q n)[j] = cur S E k q j := by
  simp [curL]
set_option maxHeartbeats 1000000 in
theorem turns_yes (s : ByteArray) (a : Int) (E : Nat → UInt8) (w : World) (ht : Tab w) (hs : s.size ≠ 0) (hs2 : s.size ≤ 1000) (h0 : 0 ≤ a) (h1 : a ≤ 65535) :
    Calls Tryd.prog 3 #[.string s, .int .u16 a, .agg #[.int .u8 (E 0).toNat, .int .u8 (E 1).toNat, .int .u8 (E 2).toNat, .int .u8 (E 3).toNat]] w fun e w' => e = .returned (.bool true) ∧ Below w.heap.size w w' := by
  have hbox := (Below.refl w.heap.size w).alloc (Nat.le_refl _) (.cells #[.int .u8 (E 0).toNat, .int .u8 (E 1).toNat, .int .u8 (E 2).toNat, .int .u8 (E 3).toNat] 23)
  obtain ⟨W, cap, hconv, hcap, hcells, hbW⟩ := bytes_new s (w.alloc (.cells #[.int .u8 (E 0).toNat, .int .u8 (E 1).toNat, .int .u8 (E 2).toNat, .int .u8 (E 3).toNat] 23))
  have hT0 : Turns w W (fun j => s.data.toList.getD j 0) E s.size 0 0 := by
    have hz : (w.alloc (.cells #[.int .u8 (E 0).toNat, .int .u8 (E 1).toNat, .int .u8 (E 2).toNat, .int .u8 (E 3).toNat] 23)).heap.size = w.heap.size + 1 := by simp
    rw [hz] at hcells hbW
    refine ⟨fun j hj => ?_, fun j hj => (hcells j hj).2, fun j hj => ?_, hbox.trans (hbW.mono (by omega)), ?_⟩
    · rw [cur_zero]; exact (hcells j hj).1
    · exact (hbW.cell (p := ⟨w.heap.size, j, none⟩) (by simp)).trans (box_cells w E 23 j hj)
    · have := World.block_lt_of_cell? _ _ (hcells 0 (by omega)).1
      exact this
  have HT0 := Lib.hid hT0
  have HTb := Lib.hid ht
  have hconv2 : (convert 9 25 (.string s)).run Tryd.prog (w.alloc (.cells #[.int .u8 (E 0).toNat, .int .u8 (E 1).toNat, .int .u8 (E 2).toNat, .int .u8 (E 3).toNat] 23)) = .ok (.slice (some ⟨w.heap.size + 1, 0, none⟩) s.size cap) W := by
    rw [hconv]; simp
  clear hconv hcells hbW hbox hT0 ht
  have d1 : ((s.size : Int) == 0) = false := beq_eq_false_iff_ne.2 (by omega)
  have d2 : decide ((1000 : Int) < (s.size : Int)) = false := by simp; omega
  obtain ⟨k, hk⟩ : ∃ k : Nat, a % (s.size : Int) = (k : Int) := ⟨(a % (s.size : Int)).toNat, by have := Int.emod_nonneg a (b := (s.size : Int)) (by omega); omega⟩
  have hkn : k < s.size := by have := Int.emod_lt_of_pos a (b := (s.size : Int)) (by omega); omega
  have hk2 : a.tmod (s.size : Int) = (k : Int) := by rw [Int.tmod_eq_emod_of_nonneg h0]; exact hk
  have hpos : (0 : Int) < (s.size : Int) := by omega
  go_enter Tryd.func3, Tryd.ntmps3
  go_wp2_with fail
  clear hconv2 d1 d2 hk hk2
  go_loopw [9, 10] (fun o i wr => ∃ q : Nat, q ≤ 4 ∧ k + q ≤ s.size ∧ i = .int .i64 q ∧ o = .bool (oth E q) ∧ Turns w wr (fun j => s.data.toList.getD j 0) E s.size k q) (fun _ i _ => 4 - (intOf i).toNat)
  case atStart => exact ⟨0, by omega, by omega, rfl, rfl, ⟨fun j hj => by rw [cur_zero]; have := HT0.out.b j hj; rwa [cur_zero] at this, HT0.out.f, HT0.out.e, HT0.out.keep, HT0.out.size⟩⟩
  case round =>
    obtain ⟨q, hq, hkq, rfl, rfl, hT⟩ := hrel
    by_cases hlt : q < 4 ∧ k + q < s.size
    · obtain ⟨hq4, hkn⟩ := hlt
      have HT := Lib.hid hT
      have d1 : decide ((q : Int) < 4) = true := by simp; omega
      have d2 : decide ((k : Int) + (q : Int) < (s.size : Int)) = true := by simp; omega
      have i1 : IntKind.i64.wrap ((k : Int) + (q : Int)) = (k : Int) + (q : Int) := IntWalk.i64_in _ (by omega)
      have i2 : (0 : Int) ≤ (k : Int) + (q : Int) := by omega
      have i3 : ((k : Int) + (q : Int)).toNat = k + q := by omega
      have i4 : (q : Int) < 4 := by omega
      have c1 := hT.b (k + q) hkn
      have c2 := hT.e q hq4
      have c3 := hT.f (k + q) hkn
      have e1 := u8_xor_nat (cur (fun j => s.data.toList.getD j 0) E k q (k + q)).toNat (E q).toNat (byte_lt _) (byte_lt _)
      have i5 : (k : Int) + (q : Int) < (s.size : Int) := by omega
      rw [← byte_xor] at e1
      generalize (cur (fun j => s.data.toList.getD j 0) E k q (k + q)).toNat = x at c1 e1
      generalize hy : (cur (fun j => s.data.toList.getD j 0) E k q (k + q) ^^^ E q).toNat = y at e1
      have HY := Lib.hid hy
      generalize hz : (E q).toNat = z at c2 e1
      have HZ := Lib.hid hz
      clear hT hy hz
      have HO : Hid (oth E (q + 1) = (oth E q || (E q != 0))) := Lib.hid rfl
      have HB : Hid (((E q != 0) = true ∧ ((z : Int) != 0) = true) ∨ ((E q != 0) = false ∧ ((z : Int) != 0) = false)) := by
        rw [← HZ.out]
        by_cases he : E q = 0
        · right; rw [he]; exact ⟨by decide, by decide⟩
        · left
          refine ⟨by simpa using he, ?_⟩
          rw [bne_iff_ne]
          intro h
          exact he (UInt8.toNat_inj.1 (by simpa using h))
      cases ho : oth E q
      · have HO2 := Lib.hid ho
        clear ho
        rcases HB.out with ⟨hb1, hb2⟩ | ⟨hb1, hb2⟩
        all_goals
          have HB1 := Lib.hid hb1
          clear hb1
          go_wp2
          go_region
          go_wp2
          go_roundw
          case rel => exact ⟨q + 1, by omega, by omega, by go_num, by rw [HO.out, HO2.out, HB1.out]; rfl, turns_next HT.out (by omega) HY.out⟩
          case measure => simp [intOf]; omega
      · have HO2 := Lib.hid ho
        clear ho
        go_wp2
        go_region
        go_wp2
        go_roundw
        case rel => exact ⟨q + 1, by omega, by omega, by go_num, by rw [HO.out, HO2.out]; rfl, turns_next HT.out (by omega) HY.out⟩
        case measure => simp [intOf]; omega
    · have HT := Lib.hid hT
      have hTW := Lib.hid (HTb.out.below hT.keep)
      have HX := Lib.hid (sealed_size s (s.size + 9) (by omega))
      have HP := Lib.hid (sealed_prefix s (s.size + 9) (by omega))
      have HW := Lib.hid (sealed_whole s (s.size + 9) (by omega))
      have HL := Lib.hid (curL_length (fun j => s.data.toList.getD j 0) E k q s.size)
      have HS : Hid ((crc (curL (fun j => s.data.toList.getD j 0) E k q s.size) = crc s.data.toList) ↔ oth E q = false) := by
        have := turns_sum s.data.toList E k q (by simpa using hkq) hq
        rw [show s.data.toList.length = s.size by simp] at this
        exact Lib.hid this
      have i9 : (s.size : Int) + 9 ≤ 1009 := by omega
      have HN := Lib.hid hlt
      clear hT hlt
      have hcase : Hid (((decide ((q : Int) < 4) = false) ∨ (decide ((q : Int) < 4) = true ∧ decide ((k : Int) + (q : Int) < (s.size : Int)) = false))) := by
        have := HN.out
        by_cases h4 : q < 4
        · right; exact ⟨by simp; omega, by simp; omega⟩
        · left; simp; omega
      rcases hcase.out with d1 | ⟨d1, d2⟩
      all_goals
        go_wp2_with fail
        refine (sealed_any s _ wr hTW.out (by omega) (by omega)).mono ?_
        rintro e w1 ⟨rfl, hb1⟩
        rw [show ((s.size : Int) + 9).toNat = s.size + 9 by omega]
        generalize sealed s (s.size + 9) = x at HX HP HW ⊢
        have HT1 := Lib.hid (hTW.out.below hb1)
        go_wp2_with fail
        refine (awake_any w1 HT1.out).mono ?_
        rintro e w2 ⟨rfl, hb2⟩
        have hbc := hb1.trans (hb2.mono hb1.size)
        have HT2 := Lib.hid (hTW.out.below hbc)
        have hcv := run_convert_bytes_back (P := Tryd.prog) w2 25 9 5 ⟨w.heap.size + 1, 0, none⟩ cap (curL (fun j => s.data.toList.getD j 0) E k q s.size) Tryd.underlying25 Tryd.underlying5 Tryd.underlying9 (fun j hj => by
          rw [curL_get, add_zero_off]
          exact (hbc.cell (p := ⟨w.heap.size + 1, j, none⟩) HT.out.size).trans (HT.out.b j (by have := HL.out; omega)))
        rw [HL.out] at hcv
        have hls : (ByteArray.mk (curL (fun j => s.data.toList.getD j 0) E k q s.size).toArray).size ≤ 1000 := by
          show (curL (fun j => s.data.toList.getD j 0) E k q s.size).toArray.size ≤ 1000
          rw [List.size_toArray, HL.out]; exact hs2
        generalize curL (fun j => s.data.toList.getD j 0) E k q s.size = cl at hcv HS HL hls
        go_wp2_with fail
        clear hcv
        refine (show Calls Tryd.prog 7 #[.string ⟨cl.toArray⟩] w2 fun e w' => e = .returned (.int .u32 (crc cl)) ∧ w2 = w' from of_any ⟨cl.toArray⟩ w2 (by omega) HT2.out).mono ?_
        rintro e w3 ⟨rfl, rfl⟩
        generalize crc cl = y1 at HS ⊢
        go_wp2_with fail
        refine (of_any s w2 (by omega) HT2.out).mono ?_
        rintro e w3 ⟨rfl, rfl⟩
        generalize crc s.data.toList = y2 at HS ⊢
        have hbx := HT.out.keep.trans (hbc.mono HT.out.keep.size)
        have z1 : (x.size : Int) ≤ 1009 := by have := HX.out; omega
        have z2 : ((x.size : Int) == (s.size : Int) + 9) = true := by rw [HX.out]; simp
        have z3 : (s.size : Int) ≤ (x.size : Int) := by rw [HX.out]; omega
        have z4 : ((x.extract 0 s.size).toList == s.toList) = true := by
          rw [Lib.extract_toList, List.drop_zero, Nat.sub_zero, HP.out, ByteArray.toList_eq]
          exact beq_self_eq_true _
        cases ho : oth E q
        · have b1 : ((y1 : Int) != (y2 : Int)) = false := by
            have := HS.out.2 ho
            simp [this]
          clear ho
          go_wp2_with fail
          refine (whole_any x w2 (by have := HX.out; omega) (by omega) HT2.out).mono ?_
          rintro e w4 ⟨rfl, hb4⟩
          rw [HW.out]
          go_wp2_with fail
          go_ret
          exact ⟨rfl, hbx.trans (hb4.mono hbx.size)⟩
        · have b1 : ((y1 : Int) != (y2 : Int)) = true := by
            rw [bne_iff_ne]
            intro h
            have := HS.out.1 (by omega)
            rw [this] at ho
            cases ho
          clear ho
          go_wp2_with fail
          refine (whole_any x w2 (by have := HX.out; omega) (by omega) HT2.out).mono ?_
          rintro e w4 ⟨rfl, hb4⟩
          rw [HW.out]
          go_wp2_with fail
          go_ret
          exact ⟨rfl, hbx.trans (hb4.mono hbx.size)⟩
theorem turns_any (s : ByteArray) (a : Int) (b0 b1 b2 b3 : UInt8) (w : World) (ht : Tab w) (hs : s.size ≤ 9223372036854775807) (h0 : 0 ≤ a) (h1 : a ≤ 65535) :
    Calls Tryd.prog 3 #[.string s, .int .u16 a, .agg #[.int .u8 b0.toNat, .int .u8 b1.toNat, .int .u8 b2.toNat, .int .u8 b3.toNat]] w fun e w' => e = .returned (.bool true) ∧ Below w.heap.size w w' := by
  by_cases h : s.size = 0 ∨ 1000 < s.size
  · exact turns_no s a _ _ _ _ w ht h hs
  · exact turns_yes s a (fun j => [b0, b1, b2, b3].getD j 0) w ht (by omega) (by omega) h0 h1
end Go.Proofs.YtcajkkfeancjmaaDoor
