/- There and back; other bytes are told: the law, walked. -/
import Derived.Test.YtiacdpfodhggmaaDoorFrF
namespace Go.Proofs.YtiacdpfodhggmaaDoor.Fr
open Go.RowKit Go.Shelf Tal Lf Lex
/-- What the loop keeps: the sector's bytes, so far turned, and those that turn them. -/
structure Tur (be bb : Nat) (S E : Nat → UInt8) (n k q : Nat) (wr : World) : Prop where
  b : ∀ j, j < n → wr.cell? ⟨bb, j, none⟩ = some (.int .u8 (cur S E k q j).toNat)
  f : ∀ j, j < n → wr.frozen? ⟨bb, j, none⟩ = false
  e : ∀ j, j < 4 → wr.cell? ⟨be, j, none⟩ = some (.int .u8 (E j).toNat)
theorem Tur.next {be bb : Nat} {wr : World} {S E : Nat → UInt8} {n k q y : Nat} (h : Tur be bb S E n k q wr) (hne : be ≠ bb) (hn : k + q < n) (hy : (cur S E k q (k + q) ^^^ E q).toNat = y) :
    Tur be bb S E n k (q + 1) (wr.drew.setCell ⟨bb, k + q, none⟩ (.int .u8 y)) := by
  refine ⟨fun j hj => ?_, fun j hj => ?_, fun j hj => ?_⟩
  · by_cases e : j = k + q
    · subst e
      rw [cur_at, hy]
      exact World.cell?_setCell_same wr.drew _ _ (h.b (k + q) hn)
    · rw [cur_off S E k q j e]
      exact (World.cell?_setCell_other wr.drew _ _ _ (fun e' => e (by injection e' with _ e2; exact e2.symm))).trans (h.b j hj)
  · rw [World.frozen?_setCell]
    exact h.f j hj
  · exact (World.cell?_setCell_other wr.drew _ _ _ (fun e' => by injection e' with e1 _; exact hne e1.symm)).trans (h.e j hj)
theorem w64 {x : Int} (h0 : -9223372036854775808 ≤ x) (h1 : x ≤ 9223372036854775807) : wrap64 x = x := by unfold wrap64; omega
theorem below_drewN {B : Nat} {a w : World} (h : Below B a w) (n : Nat) : Below B a (w.drewN n) := h.trans ⟨rfl, rfl, rfl, Nat.le_refl _, fun _ _ => rfl⟩
section
variable {w : World}
set_option maxRecDepth 20000 in
set_option maxHeartbeats 6400000 in
theorem back_any (f : F) (a : Nat) (E : Nat → UInt8) (ht : Tab w) (ha : a ≤ 65535) :
    Calls Tryd.prog 6 #[.agg (cellsF f), .int .u16 a, .agg #[.int .u8 (E 0).toNat, .int .u8 (E 1).toNat, .int .u8 (E 2).toNat, .int .u8 (E 3).toNat]] w fun e w' => e = .returned (.bool true) ∧ Below w.heap.size w w' := by
  have hTw := Lib.hid ht
  have hB := (Below.refl w.heap.size w).alloc (Nat.le_refl _) (.cells (cellsF f) 36)
  have hf := BoxF.new w f 36
  have hz : (w.alloc (.cells (cellsF f) 36)).heap.size = w.heap.size + 1 := by simp
  obtain ⟨gf, hgf⟩ : ∃ g, w.heap.size = g := ⟨_, rfl⟩
  have hgfw : w.heap.size ≤ gf := Nat.le_of_eq hgf
  rw [hgf] at hf hz
  generalize hwa : w.alloc (.cells (cellsF f) 36) = wa at hB hf hz
  have hn := (Below.refl wa.heap.size wa).alloc (Nat.le_refl _) (.cells #[.int .u8 (E 0).toNat, .int .u8 (E 1).toNat, .int .u8 (E 2).toNat, .int .u8 (E 3).toNat] 24)
  have he4 := box_cells wa E 24
  have hf := hf.below hn hf.lt
  have hB := hB.trans (hn.mono hB.size)
  rw [hz] at he4
  obtain ⟨be, hbe⟩ : ∃ b, gf + 1 = b := ⟨_, rfl⟩
  rw [hbe] at he4 hz
  generalize hwb : wa.alloc (.cells #[.int .u8 (E 0).toNat, .int .u8 (E 1).toNat, .int .u8 (E 2).toNat, .int .u8 (E 3).toNat] 24) = wb at hB hf he4
  have hrf := fun W => right_any f W
  have hpf := fun (h : RightF f) W (ht : Tab W) => print_any f W ht h
  clear hn ht
  obtain ⟨fe, fi, fc, fp, fd⟩ := f
  unfold cellsF at hwa hrf hpf ⊢
  simp only at hwa hrf hpf ⊢
  have f0 := hf.c0
  have f1 := hf.c1
  have f2 := hf.c2
  have f3 := hf.c3
  have f4 := hf.c4
  simp only at f0 f1 f2 f3 f4
  have HE := Lib.hid he4
  clear he4
  go_enter Tryd.func6, Tryd.ntmps6
  by_cases hd : 300 < fd.size
  · have i1 : (300 : Int) < (fd.size : Int) := by omega
    go_wp2_with fail
    refine (awake_any _ (hTw.out.below hB)).mono ?_
    rintro e w2 ⟨rfl, hv⟩
    have HB := Lib.hid (hB.trans (hv.mono hB.size))
    clear hv hB hf f0 f1 f2 f3 f4 hwa hwb
    go_wp2
    go_ret
    exact ⟨rfl, HB.out⟩
  have i1 : ¬ (300 : Int) < (fd.size : Int) := by omega
  go_wp2_with fail
  clear hwa hwb hgf hbe hz f0 f1 f2 f3 f4
  refine (hrf _).mono ?_
  rintro e w1 ⟨is, rfl, hb, hv⟩
  have hf := hf.below hv hf.lt
  have hB := hB.trans (hv.mono hB.size)
  have HE := Lib.hid (fun j hj => cell_belowF hv (HE.out j hj))
  clear hv hrf
  cases is
  · go_wp2_with fail
    refine (awake_any _ (hTw.out.below hB)).mono ?_
    rintro e w2 ⟨rfl, hv⟩
    have HB := Lib.hid (hB.trans (hv.mono hB.size))
    clear hv hB hf
    go_wp2
    go_ret
    exact ⟨rfl, HB.out⟩
  have hr := hb.1 rfl
  have hpf := hpf hr
  have HA := Lib.hid (And.intro (frameB_size hr.small) (fun E k q => parse_turned E k q hr))
  have hQ0 : ∀ W, Tab W → Calls Tryd.prog 15 #[.string (frameB ⟨fe, fi, fc, fp, fd⟩)] W fun e w' => e = .returned (.tuple #[.agg #[.int .i64 fe, .int .i64 fi, .bool fc, .int .i64 fp, .string fd], .bool true]) ∧ Below W.heap.size W w' := fun W hW => by
    have := parse_any (frameB ⟨fe, fi, fc, fp, fd⟩) W hW (by rw [HA.out.1]; decide)
    rw [parse_own hr] at this
    exact this
  generalize frameB ⟨fe, fi, fc, fp, fd⟩ = x at HA hpf hQ0
  have HQ2 : Hid (∀ (W : World) (s : ByteArray), Tab W → s.size = 256 → Calls Tryd.prog 15 #[.string s] W fun e w' => ∃ pe pi pc pp pd, e = .returned (.tuple #[.agg #[.int .i64 pe, .int .i64 pi, .bool pc, .int .i64 pp, .string pd], .bool (parseF s).isSome]) ∧ Below W.heap.size W w') := Lib.hid (fun W s hW hs =>
    (parse_any s W hW (by rw [hs]; decide)).mono fun e w' h => ⟨_, _, _, _, _, h.1, h.2⟩)
  clear hb hr
  have f0 := hf.c0
  have f1 := hf.c1
  have f2 := hf.c2
  have f3 := hf.c3
  have f4 := hf.c4
  simp only at f0 f1 f2 f3 f4
  go_wp2_with fail
  refine (hpf _ (hTw.out.below hB)).mono ?_
  rintro e w2 ⟨rfl, hv⟩
  have hf := hf.below hv hf.lt
  have hB := hB.trans (hv.mono hB.size)
  have HE := Lib.hid (fun j hj => cell_belowF hv (HE.out j hj))
  clear hv f0 f1 f2 f3 f4
  go_wp2_with fail
  refine (hQ0 _ (hTw.out.below hB)).mono ?_
  rintro e w3 ⟨rfl, hv⟩
  have hf := hf.below hv hf.lt
  have hB := hB.trans (hv.mono hB.size)
  have HE := Lib.hid (fun j hj => cell_belowF hv (HE.out j hj))
  clear hv
  go_upto_region 5 with fail
  have hn : Below w3.heap.size w3 (w3.alloc (.cells #[.int .i64 fe, .int .i64 fi, .bool fc, .int .i64 fp, .string fd] 36)) := (Below.refl w3.heap.size w3).alloc (Nat.le_refl _) _
  have hx : BoxF (w3.alloc (.cells #[.int .i64 fe, .int .i64 fi, .bool fc, .int .i64 fp, .string fd] 36)) w3.heap.size ⟨fe, fi, fc, fp, fd⟩ := BoxF.new w3 ⟨fe, fi, fc, fp, fd⟩ 36
  have hf := hf.below hn hf.lt
  have hB := hB.trans (hn.mono hB.size)
  have HE := Lib.hid (fun j hj => cell_belowF hn (HE.out j hj))
  clear hn
  generalize w3.alloc (.cells #[.int .i64 fe, .int .i64 fi, .bool fc, .int .i64 fp, .string fd] 36) = w5 at hf hx hB HE ⊢
  generalize w3.heap.size = gx at hx ⊢
  have f0 := hf.c0
  have f1 := hf.c1
  have f2 := hf.c2
  have f3 := hf.c3
  have f4 := hf.c4
  have x0 := hx.c0
  have x1 := hx.c1
  have x2 := hx.c2
  have x3 := hx.c3
  have x4 := hx.c4
  simp only at f0 f1 f2 f3 f4 x0 x1 x2 x3 x4
  have m1 : (fd.toList == fd.toList) = true := beq_self_eq_true _
  have m2 : ((x.size : Int) == 256) = true := by rw [HA.out.1]; rfl
  have m3 : (x.size : Int) = 256 := by rw [HA.out.1]; rfl
  go_upto_region 7 with fail
  clear f0 f1 f2 f3 f4 x0 x1 x2 x3 x4 m1 hf hx
  obtain ⟨w6, cap, hcv, hcap, hcells, hb6⟩ := bytes_new x w5
  rw [HA.out.1] at hcv hcap hcells
  obtain ⟨k, hk⟩ : ∃ k : Nat, k = a % 256 := ⟨_, rfl⟩
  have q2 : (a : Int) % 256 = (k : Int) := by omega
  have p2 : (a : Int).tmod 256 = (k : Int) := by rw [Int.tmod_eq_emod_of_nonneg (by omega)]; exact q2
  have v2 : (wrap64 (a : Int)).tmod 256 = (k : Int) := by rw [w64 (by omega) (by omega)]; exact p2
  have hk2 : k < 256 := by omega
  have hbx : be < w5.heap.size := World.block_lt_of_cell? _ _ (HE.out 0 (by decide))
  have hB6 := Lib.hid (hB.trans (hb6.mono hB.size))
  have hT6 := Lib.hid (hTw.out.below hB6.out)
  have hTur : Hid (Tur be w5.heap.size (fun j => x.data.toList.getD j 0) E 256 k 0 w6) := Lib.hid ⟨fun j hj => by rw [cur_zero]; exact (hcells j hj).1, fun j hj => (hcells j hj).2, fun j hj => cell_belowF hb6 (HE.out j hj)⟩
  have hlt6 := Lib.hid (World.block_lt_of_cell? _ _ (hcells 0 (by decide)).1)
  have hne : Hid (w.heap.size ≤ w5.heap.size ∧ be ≠ w5.heap.size) := Lib.hid ⟨hB.size, by omega⟩
  clear hk hcells hb6 HE hB hbx
  go_wp2_with fail
  clear hcv m2 m3 p2 q2 v2
  generalize w5.heap.size = bk at hTur hlt6 hne ⊢
  go_loopw [12, 13] (fun o i wr => ∃ q : Nat, q ≤ 4 ∧ k + q ≤ 256 ∧ i = .int .i64 q ∧ o = .bool (oth E q) ∧ Hid (Tur be bk (fun j => x.data.toList.getD j 0) E 256 k q wr) ∧ Hid (Below w.heap.size w wr) ∧ Hid (Tab wr) ∧ Hid (bk < wr.heap.size)) (fun _ i _ => 4 - (intOf i).toNat)
  case atStart => exact ⟨0, by omega, by omega, rfl, rfl, hTur, hB6, hT6, hlt6⟩
  case round =>
    clear hTur hB6 hT6 hlt6
    obtain ⟨q, hq, hkq, rfl, rfl, HT, HB, HTb, HSz⟩ := hrel
    by_cases hlt : q < 4 ∧ k + q < 256
    · obtain ⟨hq4, hkn⟩ := hlt
      have d1 : decide ((q : Int) < 4) = true := by simp; omega
      have d2 : decide ((k : Int) + (q : Int) < 256) = true := by simp; omega
      have i1 : IntKind.i64.wrap ((k : Int) + (q : Int)) = (k : Int) + (q : Int) := IntWalk.i64_in _ (by omega)
      have i2 : (0 : Int) ≤ (k : Int) + (q : Int) := by omega
      have i3 : ((k : Int) + (q : Int)).toNat = k + q := by omega
      have i4 : (q : Int) < 4 := by omega
      have c1 := HT.out.b (k + q) hkn
      have c2 := HT.out.e q hq4
      have c3 := HT.out.f (k + q) hkn
      have e1 := u8_xor_nat (cur (fun j => x.data.toList.getD j 0) E k q (k + q)).toNat (E q).toNat (byte_lt _) (byte_lt _)
      have i5 : (k : Int) + (q : Int) < 256 := by omega
      rw [← byte_xor] at e1
      generalize (cur (fun j => x.data.toList.getD j 0) E k q (k + q)).toNat = xx at c1 e1
      generalize hy : (cur (fun j => x.data.toList.getD j 0) E k q (k + q) ^^^ E q).toNat = y at e1
      have HY := Lib.hid hy
      generalize hz : (E q).toNat = z at c2 e1
      have HZ := Lib.hid hz
      clear hy hz
      have HO : Hid (oth E (q + 1) = (oth E q || (E q != 0))) := Lib.hid rfl
      have HBb : Hid (((E q != 0) = true ∧ ((z : Int) != 0) = true) ∨ ((E q != 0) = false ∧ ((z : Int) != 0) = false)) := by
        rw [← HZ.out]
        by_cases he : E q = 0
        · right; rw [he]; exact ⟨by decide, by decide⟩
        · left
          refine ⟨by simpa using he, ?_⟩
          rw [bne_iff_ne]
          intro h
          exact he (UInt8.toNat_inj.1 (by simpa using h))
      have HN : Hid (Tur be bk (fun j => x.data.toList.getD j 0) E 256 k (q + 1) (wr.drew.setCell ⟨bk, k + q, none⟩ (.int .u8 y)) ∧ Below w.heap.size w (wr.drew.setCell ⟨bk, k + q, none⟩ (.int .u8 y)) ∧ Tab (wr.drew.setCell ⟨bk, k + q, none⟩ (.int .u8 y)) ∧ bk < (wr.drew.setCell ⟨bk, k + q, none⟩ (.int .u8 y)).heap.size) := by
        have hbs : Below w.heap.size w (wr.drew.setCell ⟨bk, k + q, none⟩ (.int .u8 y)) := HB.out.drew.setCell hne.out.1 _
        refine Lib.hid ⟨HT.out.next hne.out.2 hkn HY.out, hbs, hTw.out.below hbs, ?_⟩
        have := HSz.out
        simpa using this
      clear HB HTb HSz HT
      have ne1 : ¬ be = bk := hne.out.2
      have ne2 : ¬ bk = be := fun h => hne.out.2 h.symm
      cases ho : oth E q
      · have HO2 := Lib.hid ho
        clear ho
        rcases HBb.out with ⟨hb1, hb2⟩ | ⟨hb1, hb2⟩
        all_goals
          have HB1 := Lib.hid hb1
          clear hb1
          go_wp2
          go_region
          go_wp2
          go_roundw
          case rel => exact ⟨q + 1, by omega, by omega, by go_num, by rw [HO.out, HO2.out, HB1.out]; rfl, Lib.hid HN.out.1, Lib.hid HN.out.2.1, Lib.hid HN.out.2.2.1, Lib.hid HN.out.2.2.2⟩
          case measure => simp [intOf]; omega
      · have HO2 := Lib.hid ho
        clear ho
        go_wp2
        go_region
        go_wp2
        go_roundw
        case rel => exact ⟨q + 1, by omega, by omega, by go_num, by rw [HO.out, HO2.out]; rfl, Lib.hid HN.out.1, Lib.hid HN.out.2.1, Lib.hid HN.out.2.2.1, Lib.hid HN.out.2.2.2⟩
        case measure => simp [intOf]; omega
    · have hcase : Hid ((decide ((q : Int) < 4) = false) ∨ (decide ((q : Int) < 4) = true ∧ decide ((k : Int) + (q : Int) < 256) = false)) := by
        by_cases h4 : q < 4
        · right; exact ⟨by simp; omega, by simp; omega⟩
        · left; exact by simp; omega
      clear hlt
      have HC := Lib.hid (HA.out.2 E k q hkq hq)
      have HL2 := Lib.hid (curL_length (fun j => x.data.toList.getD j 0) E k q 256)
      have hcv := run_convert_bytes_back (P := Tryd.prog) wr 26 9 5 ⟨bk, 0, none⟩ cap (curL (fun j => x.data.toList.getD j 0) E k q 256) Tryd.underlying26 Tryd.underlying5 Tryd.underlying9 (fun j hj => by
        rw [curL_get, add_zero_off]
        exact HT.out.b j (by have := HL2.out; omega))
      rw [HL2.out] at hcv
      have hls : (ByteArray.mk (curL (fun j => x.data.toList.getD j 0) E k q 256).toArray).size = 256 := by
        show (curL (fun j => x.data.toList.getD j 0) E k q 256).toArray.size = 256
        rw [List.size_toArray, HL2.out]
      generalize curL (fun j => x.data.toList.getD j 0) E k q 256 = cl at hcv HC HL2 hls
      have HLS := Lib.hid hls
      clear hls HT HL2
      generalize oth E q = oq at HC ⊢
      rcases hcase.out with d1 | ⟨d1, d2⟩
      all_goals
        go_wp2_with fail
        clear hcv
        refine (HQ2.out wr ⟨cl.toArray⟩ HTb.out HLS.out).mono ?_
        rintro e w7 ⟨pe, pi, pc, pp, pd, rfl, hb7⟩
        rw [HC.out]
        have HT7 := Lib.hid (HTb.out.below hb7)
        have hB7 := Lib.hid (HB.out.trans (hb7.mono HB.out.size))
        go_upto_region 16 with fail
        have hn : Below w7.heap.size w7 (w7.alloc (.cells #[.int .i64 pe, .int .i64 pi, .bool pc, .int .i64 pp, .string pd] 36)) := (Below.refl w7.heap.size w7).alloc (Nat.le_refl _) _
        have HT8 := Lib.hid (HT7.out.below hn)
        have hB8 := Lib.hid (hB7.out.trans (hn.mono hB7.out.size))
        clear hn
        generalize w7.alloc (.cells #[.int .i64 pe, .int .i64 pi, .bool pc, .int .i64 pp, .string pd] 36) = w9 at HT8 hB8 ⊢
        go_wp2_with fail
        refine (awake_any w9 HT8.out).mono ?_
        rintro e w8 ⟨rfl, hb8⟩
        have hz8 : ((!oq) == !oq) = true := beq_self_eq_true _
        go_wp2_with fail
        go_ret
        exact ⟨rfl, hB8.out.trans (hb8.mono hB8.out.size)⟩
end
end Go.Proofs.YtiacdpfodhggmaaDoor.Fr
