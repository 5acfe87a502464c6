/- LeafBack, walked. -/
import Derived.Test.YtiacdpfodhggmaaDoorLfC
namespace Go.Proofs.YtiacdpfodhggmaaDoor.Lf
open Go.RowKit Go.Shelf Tal
/-- What the loop keeps: the sector's bytes, so far turned, and those that turn them. -/
structure Tur (be bb : Nat) (S E : Nat → UInt8) (n k q : Nat) (wr : World) : Prop where
  b : ∀ j, j < n → wr.cell? ⟨bb, j, none⟩ = some (.int .u8 (cur S E k q j).toNat)
  f : ∀ j, j < n → wr.frozen? ⟨bb, j, none⟩ = false
  e : ∀ j, j < 4 → wr.cell? ⟨be, j, none⟩ = some (.int .u8 (E j).toNat)
theorem Tur.next {be bb : Nat} {wr : World} {S E : Nat → UInt8} {n k q y : Nat} (h : Tur be bb S E n k q wr) (hne : be ≠ bb) (hn : k + q < n) (hy : (cur S E k q (k + q) ^^^ E q).toNat = y) :
    Tur be bb S E n k (q + 1) (wr.drew.setCell ⟨bb, k + q, none⟩ (.int .u8 y)) := by
  refine ⟨fun j hj => ?_, fun j hj => ?_, fun j hj => ?_⟩
  · by_cases e : j = k + q
    · subst e
      rw [cur_at, hy]
      exact World.cell?_setCell_same wr.drew _ _ (h.b (k + q) hn)
    · rw [cur_off S E k q j e]
      exact (World.cell?_setCell_other wr.drew _ _ _ (fun e' => e (by injection e' with _ e2; exact e2.symm))).trans (h.b j hj)
  · rw [World.frozen?_setCell]
    exact h.f j hj
  · exact (World.cell?_setCell_other wr.drew _ _ _ (fun e' => by injection e' with e1 _; exact hne e1.symm)).trans (h.e j hj)
theorem box_cellsE (w : World) (E : Nat → UInt8) (T : TypeId) : ∀ j, j < 4 → (w.alloc (.cells #[.int .u8 (E 0).toNat, .int .u8 (E 1).toNat, .int .u8 (E 2).toNat, .int .u8 (E 3).toNat] T)).cell? ⟨w.heap.size, j, none⟩ = some (.int .u8 (E j).toNat) := box_cells w E T
theorem box_cells3 (w : World) (a b c : Value) (T : TypeId) : (w.alloc (.cells #[a, b, c] T)).cell? ⟨w.heap.size, 0, none⟩ = some a ∧ (w.alloc (.cells #[a, b, c] T)).cell? ⟨w.heap.size, 1, none⟩ = some b ∧ (w.alloc (.cells #[a, b, c] T)).cell? ⟨w.heap.size, 2, none⟩ = some c := by
  refine ⟨?_, ?_, ?_⟩ <;> simp
theorem w64 {x : Int} (h0 : -9223372036854775808 ≤ x) (h1 : x ≤ 9223372036854775807) : wrap64 x = x := by unfold wrap64; omega
section
variable {w : World}
set_option maxRecDepth 10000 in
theorem back_no (s : ByteArray) (a0 a1 a2 : Int) (b0 b1 b2 b3 : Int) (ht : Tab w) (hs : 200 < s.size) (hs2 : s.size ≤ 9223372036854775807) :
    Calls Tryd.prog 3 #[.string s, .agg #[.int .u16 a0, .int .u16 a1, .int .u16 a2], .agg #[.int .u8 b0, .int .u8 b1, .int .u8 b2, .int .u8 b3]] w fun e w' => e = .returned (.bool true) ∧ Below w.heap.size w w' := by
  have hbox := (Below.refl w.heap.size w).alloc (Nat.le_refl _) (.cells #[.int .u16 a0, .int .u16 a1, .int .u16 a2] 23)
  have hbox := hbox.alloc hbox.size (.cells #[.int .u8 b0, .int .u8 b1, .int .u8 b2, .int .u8 b3] 24)
  have HT := Lib.hid (ht.below hbox)
  clear ht
  have d2 : decide ((200 : Int) < (s.size : Int)) = true := by simp; omega
  go_enter Tryd.func3, Tryd.ntmps3
  go_wp2_with fail
  refine (awake_any _ HT.out).mono ?_
  rintro e w1 ⟨rfl, hb1⟩
  go_wp2
  go_ret
  exact ⟨rfl, hbox.trans (hb1.mono hbox.size)⟩
set_option maxRecDepth 20000 in
set_option maxHeartbeats 4000000 in
theorem back_yes (s : ByteArray) (a0 a1 a2 : Nat) (E : Nat → UInt8) (ht : Tab w) (hs : s.size ≤ 200) (h0 : a0 ≤ 65535) (h1 : a1 ≤ 65535) (h2 : a2 ≤ 65535) :
    Calls Tryd.prog 3 #[.string s, .agg #[.int .u16 a0, .int .u16 a1, .int .u16 a2], .agg #[.int .u8 (E 0).toNat, .int .u8 (E 1).toNat, .int .u8 (E 2).toNat, .int .u8 (E 3).toNat]] w fun e w' => e = .returned (.bool true) ∧ Below w.heap.size w w' := by
  obtain ⟨i0, hi, hz0, hz1, hz2⟩ := info_partsF infoU8F
  have hbox := (Below.refl w.heap.size w).alloc (Nat.le_refl _) (.cells #[.int .u16 a0, .int .u16 a1, .int .u16 a2] 23)
  have n3 := box_cells3 w (.int .u16 a0) (.int .u16 a1) (.int .u16 a2) 23
  have hsz1 : (w.alloc (.cells #[.int .u16 a0, .int .u16 a1, .int .u16 a2] 23)).heap.size = w.heap.size + 1 := by simp
  have e4 := box_cells (w.alloc (.cells #[.int .u16 a0, .int .u16 a1, .int .u16 a2] 23)) E 24
  have hbox2 := (Below.refl _ (w.alloc (.cells #[.int .u16 a0, .int .u16 a1, .int .u16 a2] 23))).alloc (Nat.le_refl _) (.cells #[.int .u8 (E 0).toNat, .int .u8 (E 1).toNat, .int .u8 (E 2).toNat, .int .u8 (E 3).toNat] 24)
  have hsz2 : ((w.alloc (.cells #[.int .u16 a0, .int .u16 a1, .int .u16 a2] 23)).alloc (.cells #[.int .u8 (E 0).toNat, .int .u8 (E 1).toNat, .int .u8 (E 2).toNat, .int .u8 (E 3).toNat] 24)).heap.size = w.heap.size + 2 := by simp
  have c0 := (hbox2.cell (p := ⟨w.heap.size, 0, none⟩) (by rw [hsz1]; exact Nat.lt_succ_self _)).trans n3.1
  have c1 := (hbox2.cell (p := ⟨w.heap.size, 1, none⟩) (by rw [hsz1]; exact Nat.lt_succ_self _)).trans n3.2.1
  have c2 := (hbox2.cell (p := ⟨w.heap.size, 2, none⟩) (by rw [hsz1]; exact Nat.lt_succ_self _)).trans n3.2.2
  rw [hsz1] at e4
  have hB := hbox.trans (hbox2.mono hbox.size)
  have HT := Lib.hid (ht.below hB)
  have hTw := Lib.hid ht
  have hB := Lib.hid hB
  have he4 := Lib.hid e4
  clear ht hbox hbox2 n3 e4
  have d2 : decide ((200 : Int) < (s.size : Int)) = false := by simp; omega
  obtain ⟨t, htt⟩ : ∃ t : Nat, 200 - s.size = t := ⟨_, rfl⟩
  have e1 : (200 : Int) - (s.size : Int) = (t : Int) := by omega
  have HD : Hid ((s ++ zeros t).size = 200) := Lib.hid (by rw [ByteArray.size_append, zeros_size]; omega)
  have htl : t ≤ 200 := by omega
  clear hsz1
  go_enter Tryd.func3, Tryd.ntmps3
  go_wp2_with
    (at_make
     generalize hwa : (w.alloc (.cells #[.int .u16 a0, .int .u16 a1, .int .u16 a2] 23)).alloc (.cells #[.int .u8 (E 0).toNat, .int .u8 (E 1).toNat, .int .u8 (E 2).toNat, .int .u8 (E 3).toNat] 24) = wa at *
     go_must (refine wpList_make_full _ rfl _ _ 26 rfl (wa.heap.size) 5 i0 _ 1 Tryd.underlying26 hi hz0 hz1 _ _ _ _ t rfl rfl rfl rfl (by rw [hz2]; omega) (by unfold maxLen; omega) (by simp) ?_)
     intro w1 hown hgrow
     obtain ⟨hb1, hcv⟩ := noughts_new t hown hgrow
     clear hown hgrow hwa
     have hrl : s.size + (zeros t).size ≤ 600 := by rw [zeros_size]; omega
     have c0' := (hb1.cell (p := ⟨w.heap.size, 0, none⟩) (by rw [hsz2]; show w.heap.size < _; omega)).trans c0
     have c1' := (hb1.cell (p := ⟨w.heap.size, 1, none⟩) (by rw [hsz2]; show w.heap.size < _; omega)).trans c1
     have c2' := Lib.hid ((hb1.cell (p := ⟨w.heap.size, 2, none⟩) (by rw [hsz2]; show w.heap.size < _; omega)).trans c2)
     have he4 := Lib.hid (fun j (hj : j < 4) => (hb1.cell (p := ⟨w.heap.size + 1, j, none⟩) (by rw [hsz2]; show w.heap.size + 1 < _; omega)).trans (he4.out j hj))
     have hgw : w.heap.size + 2 ≤ w1.heap.size := by have := hb1.size; omega
     have hB1 := hB.out.trans (hb1.mono hB.out.size)
     have HT1 := Lib.hid (HT.out.below hb1)
     clear c0 c1 c2 hb1 HT hB hsz2
     obtain ⟨x0, hx0⟩ : ∃ x0, x0 = a0 % 512 := ⟨_, rfl⟩
     obtain ⟨x1, hx1⟩ : ∃ x1, x1 = a1 % 512 := ⟨_, rfl⟩
     have q0 : (a0 : Int) % 512 = (x0 : Int) := by omega
     have q1 : (a1 : Int) % 512 = (x1 : Int) := by omega
     have p0 : (a0 : Int).tmod 512 = (x0 : Int) := by rw [Int.tmod_eq_emod_of_nonneg (by omega)]; exact q0
     have p1 : (a1 : Int).tmod 512 = (x1 : Int) := by rw [Int.tmod_eq_emod_of_nonneg (by omega)]; exact q1
     have l0 : x0 < 512 := by omega
     have l1 : x1 < 512 := by omega
     have hbB : Hid (Below w.heap.size w w1) := Lib.hid hB1
     clear hx0 hx1 hB1
     generalize zeros t = r at hcv HD hrl)
  clear hcv
  generalize s ++ r = d at HD ⊢
  have HA := Lib.hid (And.intro (leafB_size (no := x0) HD.out) (fun E k q => parse_turned (no := x0) E k q HD.out))
  have HP : Hid (∀ W, Tab W → Calls Tryd.prog 10 #[.agg #[.int .i64 x0, .string d]] W fun e w' => e = .returned (.string (leafB x0 d)) ∧ Below W.heap.size W w') := Lib.hid (fun W hW => print_any x0 d W hW l0 HD.out)
  have HQ0 : Hid (∀ W, Tab W → Calls Tryd.prog 11 #[.string (leafB x0 d), .int .i64 x0] W fun e w' => e = .returned (.tuple #[.string d, .bool true]) ∧ Below W.heap.size W w') := Lib.hid (fun W hW => by
    have := parse_any (leafB x0 d) x0 W hW l0 (by rw [HA.out.1]; decide)
    rw [parse_own HD.out] at this
    exact this)
  obtain ⟨bb, hbb⟩ : ∃ bb, ((x1 : Int) == (x0 : Int)) = bb := ⟨_, rfl⟩
  have HQ1 : Hid (∀ W, Tab W → Calls Tryd.prog 11 #[.string (leafB x0 d), .int .i64 x1] W fun e w' => ∃ v, e = .returned (.tuple #[.string v, .bool bb]) ∧ Below W.heap.size W w') := Lib.hid (fun W hW => by
    have hz : (parseL (leafB x0 d) x1).isSome = bb := by
      rw [parse_other HD.out (by omega) (by omega), ← hbb]
      by_cases h : x1 = x0
      · subst h; simp
      · have h2 : ¬ ((x1 : Int) = (x0 : Int)) := by omega
        simp [h, h2]
    exact (parse_any (leafB x0 d) x1 W hW l1 (by rw [HA.out.1]; decide)).mono fun e w' h => ⟨(parseL (leafB x0 d) x1).getD ⟨#[]⟩, by rw [h.1, hz], h.2⟩)
  have HQ2 : Hid (∀ (W : World) (s : ByteArray), Tab W → s.size = 256 → Calls Tryd.prog 11 #[.string s, .int .i64 x0] W fun e w' => ∃ v, e = .returned (.tuple #[.string v, .bool (parseL s x0).isSome]) ∧ Below W.heap.size W w') := Lib.hid (fun W s hW hs =>
    (parse_any s x0 W hW l0 (by rw [hs]; decide)).mono fun e w' h => ⟨_, h.1, h.2⟩)
  have HL := Lib.hid l0
  generalize leafB x0 d = x at HA HP HQ0 HQ1
  clear l0 l1 htl htt e1 d2 hs hi hz0 hz1 hz2 hrl hB
  have hh01 := Lib.hid (And.intro h0 h1)
  clear h0 h1
  go_quiet (fail)
  have v0 : (wrap64 (a0 : Int)).tmod 512 = (x0 : Int) := by rw [w64 (by omega) (by have := hh01.out.1; omega)]; exact p0
  have v1 : (wrap64 (a1 : Int)).tmod 512 = (x1 : Int) := by rw [w64 (by omega) (by have := hh01.out.2; omega)]; exact p1
  simp only [v0, v1]
  clear c0' c1' p0 p1 q0 q1 v0 v1 hh01
  rename_i nq
  have hdr : Below w1.heap.size w1 (w1.drewN nq) := below_drewN (Below.refl _ _) nq
  have hT2 := Lib.hid (HT1.out.below hdr)
  have hB2 := hbB.out.trans (hdr.mono (by omega))
  have c2 := Lib.hid ((hdr.cell (p := ⟨w.heap.size, 2, none⟩) (by show w.heap.size < _; omega)).trans c2'.out)
  have he5 := Lib.hid (fun j (hj : j < 4) => (hdr.cell (p := ⟨w.heap.size + 1, j, none⟩) (by show w.heap.size + 1 < _; omega)).trans (he4.out j hj))
  have hg2 : w.heap.size + 2 ≤ (w1.drewN nq).heap.size := by have := hdr.size; omega
  clear HT1 hbB c2' he4 hgw hdr
  generalize w1.drewN nq = w2 at *
  go_wp2_with fail
  refine (HP.out w2 hT2.out).mono ?_
  rintro e w3 ⟨rfl, hb3⟩
  have hB3 := hB2.trans (hb3.mono (by omega))
  have hT3 := Lib.hid (hT2.out.below hb3)
  go_wp2_with fail
  refine (HQ0.out w3 hT3.out).mono ?_
  rintro e w4 ⟨rfl, hb4⟩
  have hb4 := hb3.trans (hb4.mono hb3.size)
  have hT4 := Lib.hid (hT2.out.below hb4)
  go_wp2_with fail
  refine (HQ1.out w4 hT4.out).mono ?_
  rintro e w5 ⟨v, rfl, hb5⟩
  have hb5 := hb4.trans (hb5.mono hb4.size)
  have hT5 := Lib.hid (hT2.out.below hb5)
  have hB5 := hB2.trans (hb5.mono (by omega))
  have c2 := (hb5.cell (p := ⟨w.heap.size, 2, none⟩) (by show w.heap.size < _; omega)).trans c2.out
  have he5 := Lib.hid (fun j (hj : j < 4) => (hb5.cell (p := ⟨w.heap.size + 1, j, none⟩) (by show w.heap.size + 1 < _; omega)).trans (he5.out j hj))
  have hg5 : w.heap.size + 2 ≤ w5.heap.size := by have := hb5.size; omega
  clear hb3 hb4 hb5 hB2 hB3 hT2 hT3 hT4 hg2
  have m1 : (d.toList == d.toList) = true := beq_self_eq_true _
  have m2 : ((x.size : Int) == 256) = true := by rw [HA.out.1]; rfl
  have m3 : (bb != bb) = false := by cases bb <;> rfl
  obtain ⟨w6, cap, hcv, hcap, hcells, hb6⟩ := bytes_new x w5
  rw [HA.out.1] at hcv hcap hcells
  obtain ⟨k, hk⟩ : ∃ k : Nat, k = a2 % 256 := ⟨_, rfl⟩
  have q2 : (a2 : Int) % 256 = (k : Int) := by omega
  have p2 : (a2 : Int).tmod 256 = (k : Int) := by rw [Int.tmod_eq_emod_of_nonneg (by omega)]; exact q2
  have hk2 : k < 256 := by omega
  have hB6 := Lib.hid (hB5.trans (hb6.mono (by omega)))
  have hT6 := Lib.hid (hT5.out.below hb6)
  have c2 := (hb6.cell (p := ⟨w.heap.size, 2, none⟩) (by show w.heap.size < _; omega)).trans c2
  have hTur : Hid (Tur (w.heap.size + 1) w5.heap.size (fun j => x.data.toList.getD j 0) E 256 k 0 w6) := Lib.hid ⟨fun j hj => by rw [cur_zero]; exact (hcells j hj).1, fun j hj => (hcells j hj).2, fun j hj => (hb6.cell (p := ⟨w.heap.size + 1, j, none⟩) (by show w.heap.size + 1 < _; omega)).trans (he5.out j hj)⟩
  have hlt6 := Lib.hid (World.block_lt_of_cell? _ _ (hcells 0 (by decide)).1)
  clear hk hcells hb6 he5 hT5 hB5
  go_wp2_with fail
  clear hcv m1 m2 m3 p2 q2 c2
  obtain ⟨be, hbe⟩ : ∃ b, w.heap.size + 1 = b := ⟨_, rfl⟩
  rw [hbe] at hTur ⊢
  have hne : Hid (w.heap.size ≤ w5.heap.size ∧ be ≠ w5.heap.size) := Lib.hid ⟨by omega, by omega⟩
  clear hg5
  generalize w5.heap.size = bk at hTur hlt6 hne ⊢
  go_loopw [17, 18] (fun o i wr => ∃ q : Nat, q ≤ 4 ∧ k + q ≤ 256 ∧ i = .int .i64 q ∧ o = .bool (oth E q) ∧ Hid (Tur be bk (fun j => x.data.toList.getD j 0) E 256 k q wr) ∧ Hid (Below w.heap.size w wr) ∧ Hid (Tab wr) ∧ Hid (bk < wr.heap.size)) (fun _ i _ => 4 - (intOf i).toNat)
  case atStart => exact ⟨0, by omega, by omega, rfl, rfl, hTur, hB6, hT6, hlt6⟩
  case round =>
    clear hTur hB6 hT6 hlt6
    obtain ⟨q, hq, hkq, rfl, rfl, HT, HB, HTb, HSz⟩ := hrel
    by_cases hlt : q < 4 ∧ k + q < 256
    · obtain ⟨hq4, hkn⟩ := hlt
      have d1 : decide ((q : Int) < 4) = true := by simp; omega
      have d2 : decide ((k : Int) + (q : Int) < 256) = true := by simp; omega
      have i1 : IntKind.i64.wrap ((k : Int) + (q : Int)) = (k : Int) + (q : Int) := IntWalk.i64_in _ (by omega)
      have i2 : (0 : Int) ≤ (k : Int) + (q : Int) := by omega
      have i3 : ((k : Int) + (q : Int)).toNat = k + q := by omega
      have i4 : (q : Int) < 4 := by omega
      have c1 := HT.out.b (k + q) hkn
      have c2 := HT.out.e q hq4
      have c3 := HT.out.f (k + q) hkn
      have e1 := u8_xor_nat (cur (fun j => x.data.toList.getD j 0) E k q (k + q)).toNat (E q).toNat (byte_lt _) (byte_lt _)
      have i5 : (k : Int) + (q : Int) < 256 := by omega
      rw [← byte_xor] at e1
      generalize (cur (fun j => x.data.toList.getD j 0) E k q (k + q)).toNat = xx at c1 e1
      generalize hy : (cur (fun j => x.data.toList.getD j 0) E k q (k + q) ^^^ E q).toNat = y at e1
      have HY := Lib.hid hy
      generalize hz : (E q).toNat = z at c2 e1
      have HZ := Lib.hid hz
      clear hy hz
      have HO : Hid (oth E (q + 1) = (oth E q || (E q != 0))) := Lib.hid rfl
      have HBb : Hid (((E q != 0) = true ∧ ((z : Int) != 0) = true) ∨ ((E q != 0) = false ∧ ((z : Int) != 0) = false)) := by
        rw [← HZ.out]
        by_cases he : E q = 0
        · right; rw [he]; exact ⟨by decide, by decide⟩
        · left
          refine ⟨by simpa using he, ?_⟩
          rw [bne_iff_ne]
          intro h
          exact he (UInt8.toNat_inj.1 (by simpa using h))
      have HN : Hid (Tur be bk (fun j => x.data.toList.getD j 0) E 256 k (q + 1) (wr.drew.setCell ⟨bk, k + q, none⟩ (.int .u8 y)) ∧ Below w.heap.size w (wr.drew.setCell ⟨bk, k + q, none⟩ (.int .u8 y)) ∧ Tab (wr.drew.setCell ⟨bk, k + q, none⟩ (.int .u8 y)) ∧ bk < (wr.drew.setCell ⟨bk, k + q, none⟩ (.int .u8 y)).heap.size) := by
        have hbs : Below w.heap.size w (wr.drew.setCell ⟨bk, k + q, none⟩ (.int .u8 y)) := HB.out.drew.setCell hne.out.1 _
        refine Lib.hid ⟨HT.out.next hne.out.2 hkn HY.out, hbs, hTw.out.below hbs, ?_⟩
        have := HSz.out
        simpa using this
      clear HB HTb HSz HT
      have ne1 : ¬ be = bk := hne.out.2
      have ne2 : ¬ bk = be := fun h => hne.out.2 h.symm
      cases ho : oth E q
      · have HO2 := Lib.hid ho
        clear ho
        rcases HBb.out with ⟨hb1, hb2⟩ | ⟨hb1, hb2⟩
        all_goals
          have HB1 := Lib.hid hb1
          clear hb1
          go_wp2
          go_region
          go_wp2
          go_roundw
          case rel => exact ⟨q + 1, by omega, by omega, by go_num, by rw [HO.out, HO2.out, HB1.out]; rfl, Lib.hid HN.out.1, Lib.hid HN.out.2.1, Lib.hid HN.out.2.2.1, Lib.hid HN.out.2.2.2⟩
          case measure => simp [intOf]; omega
      · have HO2 := Lib.hid ho
        clear ho
        go_wp2
        go_region
        go_wp2
        go_roundw
        case rel => exact ⟨q + 1, by omega, by omega, by go_num, by rw [HO.out, HO2.out]; rfl, Lib.hid HN.out.1, Lib.hid HN.out.2.1, Lib.hid HN.out.2.2.1, Lib.hid HN.out.2.2.2⟩
        case measure => simp [intOf]; omega
    · have hcase : Hid ((decide ((q : Int) < 4) = false) ∨ (decide ((q : Int) < 4) = true ∧ decide ((k : Int) + (q : Int) < 256) = false)) := by
        by_cases h4 : q < 4
        · right; exact ⟨by simp; omega, by simp; omega⟩
        · left; exact by simp; omega
      clear hlt
      have HC := Lib.hid (HA.out.2 E k q hkq hq)
      have HL2 := Lib.hid (curL_length (fun j => x.data.toList.getD j 0) E k q 256)
      have hcv := run_convert_bytes_back (P := Tryd.prog) wr 26 9 5 ⟨bk, 0, none⟩ cap (curL (fun j => x.data.toList.getD j 0) E k q 256) Tryd.underlying26 Tryd.underlying5 Tryd.underlying9 (fun j hj => by
        rw [curL_get, add_zero_off]
        exact HT.out.b j (by have := HL2.out; omega))
      rw [HL2.out] at hcv
      have hls : (ByteArray.mk (curL (fun j => x.data.toList.getD j 0) E k q 256).toArray).size = 256 := by
        show (curL (fun j => x.data.toList.getD j 0) E k q 256).toArray.size = 256
        rw [List.size_toArray, HL2.out]
      generalize curL (fun j => x.data.toList.getD j 0) E k q 256 = cl at hcv HC HL2 hls
      have HLS := Lib.hid hls
      clear hls HT HL2
      generalize oth E q = oq at HC ⊢
      rcases hcase.out with d1 | ⟨d1, d2⟩
      all_goals
        go_wp2_with fail
        clear hcv
        refine (HQ2.out wr ⟨cl.toArray⟩ HTb.out HLS.out).mono ?_
        rintro e w7 ⟨v7, rfl, hb7⟩
        rw [HC.out]
        have HT7 := Lib.hid (HTb.out.below hb7)
        have hB7 := Lib.hid (HB.out.trans (hb7.mono HB.out.size))
        go_wp2_with fail
        refine (awake_any w7 HT7.out).mono ?_
        rintro e w8 ⟨rfl, hb8⟩
        have hz8 : ((!oq) == !oq) = true := beq_self_eq_true _
        go_wp2_with fail
        go_ret
        exact ⟨rfl, hB7.out.trans (hb8.mono hB7.out.size)⟩
end
end Go.Proofs.YtiacdpfodhggmaaDoor.Lf
