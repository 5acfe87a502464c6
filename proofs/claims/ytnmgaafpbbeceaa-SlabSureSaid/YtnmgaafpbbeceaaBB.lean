/- The law SlabSure, walked: what was flushed is there. -/
import Derived.Test.YtnmgaafpbbeceaaBA
namespace Go.Proofs.Ytnmgaafpbbeceaa
open Go.RowKit Go.Shelf

/-- A variable of three cells holds the fate. -/
theorem fate_box (w : World) (st tn bt : Int) : Box3 (w.alloc (.cells #[.int .u64 st, .int .i64 tn, .int .i64 bt] 25)) w.heap.size (.int .u64 st) (.int .i64 tn) (.int .i64 bt) := Box3.new w _ _ _ 25

/-- The device behind so many of the puts, in its variable at g. -/
def PutsRel (S : Nat → ByteArray) (W : World) (g q : Nat) (wr : World) : Prop :=
  ∃ (b c m kk : Nat) (B : Option Addr) (LA : Nat → Int) (LD : Nat → ByteArray) (deeds : Int), IsDev wr (vL b c m kk B deeds) (mkL S m LA LD deeds) ∧ (mkL S m LA LD deeds).Ok (q + 1) ∧
    Box5 wr g (.slice (some ⟨b, 0, none⟩) 5 c) (.slice B m kk) (.bool false) (.int .i64 (-1)) (.int .i64 deeds) ∧ Below g W wr

set_option maxRecDepth 100000 in
set_option maxHeartbeats 8000000 in
theorem sure_walked (aw : Awake) (A A2 : Option Addr) (m c m2 c2 : Nat) (L L2 : Nat → Deed) (st tn bt : Int) (w : World) (hm : m ≤ 9223372036854775807) (hm2 : m2 ≤ 9223372036854775807) (h : Acts w A m L) (h2 : Acts w A2 m2 L2) (f0 : 0 ≤ st) (f1 : st < 18446744073709551616) :
    Calls Try.prog 3 #[.slice A m c, .slice A2 m2 c2, .agg #[.int .u64 st, .int .i64 tn, .int .i64 bt]] w fun e w' => e = .returned (.bool true) ∧ Below w.heap.size w w' := by
  have AW := Lib.hid aw
  have ha0 := (Below.refl w.heap.size w).alloc (Nat.le_refl _) (.cells #[.int .u64 st, .int .i64 tn, .int .i64 bt] 25)
  have HF := Lib.hid (fate_box w st tn bt)
  have HA := Lib.hid (h.below ha0 (Nat.le_refl _))
  have HA2 := Lib.hid (h2.below ha0 (Nat.le_refl _))
  clear aw h h2
  go_enter Try.func3, Try.ntmps3
  go_wp2_with fail
  generalize w.alloc (.cells #[.int .u64 st, .int .i64 tn, .int .i64 bt] 25) = w0 at ha0 HF HA HA2 ⊢
  refine (small_any A m c L w0 hm HA.out).mono ?_
  rintro e w' ⟨r, rfl, hr, rfl⟩
  have HR := Lib.hid hr
  clear hr
  cases r
  · go_wp2_with (go_at_call 8; refine (AW.out _).mono ?_; rintro e w1 ⟨rfl, hb⟩)
    go_ret
    exact ⟨rfl, ha0.trans (hb.mono ha0.size)⟩
  · go_wp2_with fail
    refine (small_any A2 m2 c2 L2 w0 hm2 HA2.out).mono ?_
    rintro e w' ⟨r2, rfl, hr2, rfl⟩
    have HR2 := Lib.hid hr2
    clear hr2
    cases r2
    · go_wp2_with (go_at_call 8; refine (AW.out _).mono ?_; rintro e w1 ⟨rfl, hb⟩)
      go_ret
      exact ⟨rfl, ha0.trans (hb.mono ha0.size)⟩
    · go_wp2_with fail
      obtain ⟨r1, r2⟩ := HR.out (by first | rfl | trivial)
      obtain ⟨p1, p2⟩ := HR2.out (by first | rfl | trivial)
      have HP2 := Lib.hid p2
      refine (played_any A m c L w0 r1 r2 HA.out).mono ?_
      clear HR HR2 r1 r2 p2 HA
      rintro e w1 ⟨v1, rfl, D1, hd1, hok1, hn1, hb1⟩
      have HN1 := Lib.hid hn1
      clear hn1
      go_wp2_with fail
      refine (start5F v1 D1 w1 hd1 hok1 HN1.out).mono ?_
      rintro e w2 ⟨b2, c2', S, rfl, hf2, hsz, hb2⟩
      delta vF
      have HSZ := Lib.hid hsz
      have hbw2 := hb1.trans (hb2.mono hb1.size)
      clear hd1 hok1 HN1 hb1 hb2 hsz
      go_wp2_with fail
      refine (flushF S b2 c2' w2 hf2 HSZ.out).mono ?_
      rintro e w4 ⟨b4, c4, rfl, hf4, hb4⟩
      delta vF
      have hbw4 := hbw2.trans (hb4.mono hbw2.size)
      have hR4 := Box5.new w4 (.slice (some ⟨b4, 0, none⟩) 5 c4) (.slice none 0 0) (.bool false) (.int .i64 (-1)) (.int .i64 1) 31
      have ha4 := (Below.refl w4.heap.size w4).alloc (Nat.le_refl _) (.cells #[.slice (some ⟨b4, 0, none⟩) 5 c4, .slice none 0 0, .bool false, .int .i64 (-1), .int .i64 1] 31)
      have hf4' := hf4.below ha4 (Nat.le_refl _)
      have hbx4 := hbw4.trans (ha4.mono hbw4.size)
      clear hf2 hbw2 hb4 hbw4 hf4 ha4
      go_upto_region 4 with fail
      generalize w4.alloc (.cells #[.slice (some ⟨b4, 0, none⟩) 5 c4, .slice none 0 0, .bool false, .int .i64 (-1), .int .i64 1] 31) = W4 at hR4 hf4' hbx4 ⊢
      generalize w4.heap.size = g4 at hR4 ⊢
      have q0 := hR4.c0
      have q1 := hR4.c1
      have q2 := hR4.c2
      have q3 := hR4.c3
      have q4 := hR4.c4
      go_wp2_with fail
      clear q0 q1 q2 q3 q4
      have ha5 := (Below.refl W4.heap.size W4).alloc (Nat.le_refl _) (.cells #[.slice (some ⟨b4, 0, none⟩) 5 c4, .slice none 0 0, .bool false, .int .i64 (-1), .int .i64 1] 31)
      have hR5 := Box5.new W4 (.slice (some ⟨b4, 0, none⟩) 5 c4) (.slice none 0 0) (.bool false) (.int .i64 (-1)) (.int .i64 1) 31
      have hf5 := hf4'.below ha5 (Nat.le_refl _)
      have hR4_5 := hR4.below ha5 (World.block_lt_of_cell? _ _ hR4.c0)
      have hbx5 := hbx4.trans (ha5.mono hbx4.size)
      have hg4 := World.block_lt_of_cell? _ _ hR4.c0
      have hz0 := hbx4.size
      have hp0 : PutsRel S W4 W4.heap.size 0 (W4.alloc (.cells #[.slice (some ⟨b4, 0, none⟩) 5 c4, .slice none 0 0, .bool false, .int .i64 (-1), .int .i64 1] 31)) :=
        ⟨b4, c4, 0, 0, none, fun _ => 0, fun _ => ⟨#[]⟩, 1, hf5, mkF_ok S 1 HSZ.out, hR5, ha5⟩
      have HP0 := Lib.hid hp0
      have HF4 := Lib.hid hf4'
      clear hp0 ha5 hR5 hf5 hR4_5 hbx5 hf4'
      go_loopw [10] (fun i wr => ∃ q : Nat, q ≤ m2 ∧ i = .int .i64 q ∧ PutsRel S W4 W4.heap.size q wr) (fun i _ => m2 - (intOf i).toNat)
      case atStart => exact ⟨0, Nat.zero_le _, rfl, HP0.out⟩
      case round =>
        obtain ⟨q, hq, rfl, b, c, mm, kk, B, LA, LD, deeds, hd, hok, hbox, hbr⟩ := hrel
        have HD := Lib.hid hd
        clear hd HP0
        by_cases hqm : q < m2
        · obtain ⟨bl, off, rfl, hbl, hlc⟩ := HA2.out.2 (by omega)
          obtain ⟨l0, l1, l2, _⟩ := hlc q hqm
          have hbl4 : bl < W4.heap.size := Nat.lt_of_lt_of_le hbl hz0
          have m0 := (hbr.cell (p := ⟨bl, off + q * 6, none⟩) hbl4).trans ((hbx4.cell (p := ⟨bl, off + q * 6, none⟩) hbl).trans l0)
          have m1 := (hbr.cell (p := ⟨bl, off + q * 6 + 1, none⟩) hbl4).trans ((hbx4.cell (p := ⟨bl, off + q * 6 + 1, none⟩) hbl).trans l1)
          have m2' := (hbr.cell (p := ⟨bl, off + q * 6 + 2, none⟩) hbl4).trans ((hbx4.cell (p := ⟨bl, off + q * 6 + 2, none⟩) hbl).trans l2)
          have hz := HP2.out q hqm
          have i1 : (0 : Int) ≤ (q : Int) := by omega
          have i2 : (q : Int) < (m2 : Int) := by omega
          clear hlc l0 l1 l2
          generalize (L2 q).at_ = xa at m1
          generalize (L2 q).d = xd at m2' hz
          generalize (L2 q).k = xk at m0
          by_cases hk : xk = 0
          · subst hk
            have kx0 := hbox.c0
            have kx1 := hbox.c1
            have kx2 := hbox.c2
            have kx3 := hbox.c3
            have kx4 := hbox.c4
            have hgl : W4.heap.size < wr.heap.size := World.block_lt_of_cell? wr _ kx0
            go_wp2
            go_region_with (go_at_call 12
                            refine (putL S b c mm kk B LA LD deeds xa xd _ (HD.out.below ((Below.refl _ _).drew) (Nat.le_refl _)) hok (by omega) (by omega)).mono ?_
                            rintro e w5 ⟨b5, c5, m5, k5, B5, LA5, LD5, deeds5, err5, rfl, hd5, hok5, hb5⟩
                            delta vL
                            have hb35 : Below wr.heap.size wr w5 := (Below.refl _ wr).drew.trans hb5
                            have hbox5 := hbox.below hb35 hgl
                            have q0 := hbox5.c0
                            have q1 := hbox5.c1
                            have q2 := hbox5.c2
                            have q3 := hbox5.c3
                            have q4 := hbox5.c4
                            have qf := hbox5.f
                            have HD5 := Lib.hid hd5
                            clear hd5)
            all_goals
              go_wp2
              go_roundw
              case rel => exact ⟨q + 1, by omega, by go_num, b5, c5, m5, k5, B5, LA5, LD5, deeds5, HD5.out.but hok5.n1 q0 (but5 w5 _ _ _ _ _ _), hok5, hbox5.set _ _ _ _ _, (hbr.trans (hb35.mono (by omega))).trans ((but5 w5 _ _ _ _ _ _).below (Nat.le_refl _))⟩
              case measure => simp [intOf]; omega
          · have hk2 : (xk == 0) = false := beq_eq_false_iff_ne.2 hk
            go_wp2
            go_roundw
            case rel => exact ⟨q + 1, by omega, by go_num, b, c, mm, kk, B, LA, LD, deeds, HD.out, hok.more (by omega), hbox, hbr⟩
            case measure => simp [intOf]; omega
        · obtain rfl : q = m2 := by omega
          have hbw := hbx4.trans (hbr.mono hz0)
          have hlt0 : w.heap.size < w0.heap.size := World.block_lt_of_cell? w0 _ HF.out.c0
          have hF := HF.out.below hbw hlt0
          have hR4r := hR4.below hbr hg4
          have hf4r := HF4.out.below hbr (Nat.le_refl _)
          have hgl : W4.heap.size < wr.heap.size := World.block_lt_of_cell? wr _ hbox.c0
          have hLZ := Lib.hid hok.lz
          have hmm : mm ≤ 100000 := Nat.le_trans hok.m2 (by omega)
          have e0 := hbox.c0
          have e1 := hbox.c1
          have e2 := hbox.c2
          have e3 := hbox.c3
          have e4 := hbox.c4
          have d0 := hF.c0
          have d1 := hF.c1
          have d2 := hF.c2
          go_wp2_with fail
          clear e0 e1 e2 e3 e4 d0 d1 d2
          refine (startL S b c mm kk B LA LD deeds st tn bt wr HD.out hok (by omega) f0 f1).mono ?_
          rintro e w6 ⟨b6, c6, rfl, hf6, hb6⟩
          delta vF
          have ha6 := (Below.refl w6.heap.size w6).alloc (Nat.le_refl _) (.cells #[.slice (some ⟨b6, 0, none⟩) 5 c6, .slice none 0 0, .bool false, .int .i64 (-1), .int .i64 0] 31)
          have hR6 := Box5.new w6 (.slice (some ⟨b6, 0, none⟩) 5 c6) (.slice none 0 0) (.bool false) (.int .i64 (-1)) (.int .i64 0) 31
          have hf6' := hf6.below ha6 (Nat.le_refl _)
          have hb66 := hb6.trans (ha6.mono hb6.size)
          have hR4_6 := hR4r.below hb66 (World.block_lt_of_cell? _ _ hR4r.c0)
          have hf4_6 := hf4r.below hb66 (Nat.le_refl _)
          have hF_6 := hF.below hb66 (World.block_lt_of_cell? _ _ hF.c0)
          have hbox_6 := hbox.below hb66 hgl
          have hD_6 := HD.out.below hb66 (Nat.le_refl _)
          have hbw6 := (ha0.trans (hbw.mono ha0.size)).trans (hb66.mono (Nat.le_trans ha0.size hbw.size))
          clear hf6 hb6 ha6 hb66 hF hR4r hf4r
          have HD6 := Lib.hid hD_6
          clear hD_6 HD hbox hok
          go_upto_region 11 with fail
          generalize w6.alloc (.cells #[.slice (some ⟨b6, 0, none⟩) 5 c6, .slice none 0 0, .bool false, .int .i64 (-1), .int .i64 0] 31) = W6 at hR6 hf6' hR4_6 hf4_6 hF_6 hbox_6 HD6 hbw6 ⊢
          generalize w6.heap.size = g6 at hR6 ⊢
          have HG : Hid (∀ a, a < 5 → goodB (startS ⟨st, tn, bt⟩ S LA LD mm a) (S a) (tornB tn LA mm a) LA LD a mm = true) := Lib.hid (fun a ha => good_end st tn bt S LA LD mm a ha HSZ.out hLZ.out)
          generalize startS ⟨st, tn, bt⟩ S LA LD mm = Y at hf6' HG
          have HY6 := Lib.hid hf6'
          have HS6 := Lib.hid hf4_6
          clear hf6' hf4_6
          have e0 := hR4_6.c0
          have d0 := hR6.c0
          have d1 := hR6.c1
          have d2 := hR6.c2
          go_wp2_with fail
          clear e0 d0 d1 d2
          have HR4 := Lib.hid hR4_6
          have HR6 := Lib.hid hR6
          have HR9 := Lib.hid hbox_6
          have HFB := Lib.hid hF_6
          clear hR4_6 hR6 hbox_6 hF_6
          go_loopw [12] (fun i wr => ∃ a : Nat, a ≤ 5 ∧ i = .int .i64 a ∧ Below W6.heap.size W6 wr) (fun i _ => 5 - (intOf i).toNat)
          case atStart => exact ⟨0, Nat.zero_le _, rfl, Below.refl _ _⟩
          case round =>
            obtain ⟨a, ha, rfl, hbo⟩ := hrel
            obtain ⟨wo, rfl⟩ : ∃ wo : World, wo = wr := ⟨_, rfl⟩
            by_cases ha5 : a < 5
            · have hY := HY6.out.cells
              have hS := HS6.out.cells
              have k1 := (hbo.cell (p := ⟨b6, a, none⟩) hY.1).trans (hY.2 a ha5)
              have k2 := (hbo.cell (p := ⟨b4, a, none⟩) hS.1).trans (hS.2 a ha5)
              have e0 := (HR6.out.below hbo (World.block_lt_of_cell? _ _ HR6.out.c0)).c0
              have d0 := (HR4.out.below hbo (World.block_lt_of_cell? _ _ HR4.out.c0)).c0
              have i1 : (0 : Int) ≤ (a : Int) := by omega
              have i2 : (a : Int) < 5 := by omega
              have HGa := Lib.hid (HG.out a ha5)
              have HKY := Lib.hid (hY.2 a ha5)
              generalize hya : Y a = ya at k1 HGa HKY
              generalize hsa : S a = sa at k2 HGa
              clear hY hS hya hsa
              go_wp2
              go_quiet (fail)
              clear k1 k2 e0 d0
              go_wp2_with fail
              go_loopw [13, 14] (fun g i wz => ∃ z : Nat, z ≤ mm ∧ i = .int .i64 z ∧ g = .bool (goodB ya sa (tornB tn LA mm a) LA LD a z) ∧ Below W6.heap.size W6 wz) (fun _ i _ => mm - (intOf i).toNat)
              case atStart => exact ⟨0, Nat.zero_le _, rfl, rfl, below_drewN hbo _⟩
              case round =>
                obtain ⟨z, hz, rfl, rfl, hbz⟩ := hrel
                have hR9z := HR9.out.below hbz (World.block_lt_of_cell? _ _ HR9.out.c0)
                have hFz := HFB.out.below hbz (World.block_lt_of_cell? _ _ HFB.out.c0)
                have hR6z := HR6.out.below hbz (World.block_lt_of_cell? _ _ HR6.out.c0)
                have e1 := hR9z.c1
                have d1 := hFz.c1
                have y0 := hR6z.c0
                have hY := HY6.out.cells
                have k1 := (hbz.cell (p := ⟨b6, a, none⟩) hY.1).trans HKY.out
                clear hY
                by_cases hzm : z < mm
                · obtain ⟨l, rfl, hl, hlc⟩ := late_of HD6.out (by omega)
                  have p0 := (hbz.cell (p := ⟨l, z * 2, none⟩) hl).trans (hlc z hzm).1
                  have p1 := (hbz.cell (p := ⟨l, z * 2 + 1, none⟩) hl).trans (hlc z hzm).2
                  have HLC := Lib.hid hlc
                  have j1 : (0 : Int) ≤ (z : Int) := by omega
                  have j2 : (z : Int) < (mm : Int) := by omega
                  generalize hgv : goodB ya sa (tornB tn LA mm a) LA LD a z = gv
                  have HGV := Lib.hid hgv
                  clear hgv hlc
                  by_cases h0 : tn < 0
                  · have HT : Hid (tornB tn LA mm a = false) := Lib.hid (torn_neg tn LA mm a h0)
                    have t1 : decide (0 ≤ tn) = false := by simp; omega
                    clear h0
                    cases gv
                    · by_cases hla : LA z = (a : Int)
                      · have n1 : (LA z == (a : Int)) = true := beq_iff_eq.2 hla
                        have HE := Lib.hid n1
                        clear hla
                        go_wp2
                        go_quiet (fail)
                        go_wp2
                        go_roundw
                        case rel => exact ⟨z + 1, by omega, by go_num, by have h := HGV.out; rw [HT.out] at h ⊢; rw [goodB_hit _ _ _ _ _ _ h HE.out], below_drewN hbz _⟩
                        case measure => simp [intOf]; omega
                      · have n1 : (LA z == (a : Int)) = false := beq_eq_false_iff_ne.2 hla
                        have HE := Lib.hid n1
                        clear hla
                        go_wp2
                        go_quiet (fail)
                        go_wp2
                        go_roundw
                        case rel => exact ⟨z + 1, by omega, by go_num, by have h := HGV.out; rw [HT.out] at h ⊢; rw [goodB_off _ _ _ _ _ _ h HE.out], below_drewN hbz _⟩
                        case measure => simp [intOf]; omega
                    · skip
                      go_wp2
                      go_quiet (fail)
                      go_wp2
                      go_roundw
                      case rel => exact ⟨z + 1, by omega, by go_num, by rw [goodB_keep _ _ _ _ _ _ _ HGV.out], below_drewN hbz _⟩
                      case measure => simp [intOf]; omega
                  · obtain ⟨t, rfl⟩ := Int.eq_ofNat_of_zero_le (by omega : 0 ≤ tn)
                    clear h0
                    by_cases htm : t < mm
                    · have j3 : (t : Int) < (mm : Int) := by omega
                      have j4 : (0 : Int) ≤ (t : Int) := by omega
                      have t1 : decide (t < mm) = true := by simp [htm]
                      have p2 := (hbz.cell (p := ⟨l, t * 2, none⟩) hl).trans (HLC.out t htm).1
                      by_cases hlt : LA t = (a : Int)
                      · have n0 : (LA t == (a : Int)) = true := beq_iff_eq.2 hlt
                        have HT : Hid (tornB t LA mm a = true) := Lib.hid ((torn_in t LA mm a htm).trans n0)
                        clear hlt
                        cases gv
                        · skip
                          go_wp2
                          go_quiet (fail)
                          go_wp2
                          go_roundw
                          case rel => exact ⟨z + 1, by omega, by go_num, by rw [HT.out, goodB_torn], below_drewN hbz _⟩
                          case measure => simp [intOf]; omega
                        · skip
                          go_wp2
                          go_quiet (fail)
                          go_wp2
                          go_roundw
                          case rel => exact ⟨z + 1, by omega, by go_num, by rw [goodB_keep _ _ _ _ _ _ _ HGV.out], below_drewN hbz _⟩
                          case measure => simp [intOf]; omega
                      · have n0 : (LA t == (a : Int)) = false := beq_eq_false_iff_ne.2 hlt
                        have HT : Hid (tornB t LA mm a = false) := Lib.hid ((torn_in t LA mm a htm).trans n0)
                        clear hlt
                        cases gv
                        · by_cases hla : LA z = (a : Int)
                          · have n1 : (LA z == (a : Int)) = true := beq_iff_eq.2 hla
                            have HE := Lib.hid n1
                            clear hla
                            go_wp2
                            go_quiet (fail)
                            go_wp2
                            go_roundw
                            case rel => exact ⟨z + 1, by omega, by go_num, by have h := HGV.out; rw [HT.out] at h ⊢; rw [goodB_hit _ _ _ _ _ _ h HE.out], below_drewN hbz _⟩
                            case measure => simp [intOf]; omega
                          · have n1 : (LA z == (a : Int)) = false := beq_eq_false_iff_ne.2 hla
                            have HE := Lib.hid n1
                            clear hla
                            go_wp2
                            go_quiet (fail)
                            go_wp2
                            go_roundw
                            case rel => exact ⟨z + 1, by omega, by go_num, by have h := HGV.out; rw [HT.out] at h ⊢; rw [goodB_off _ _ _ _ _ _ h HE.out], below_drewN hbz _⟩
                            case measure => simp [intOf]; omega
                        · skip
                          go_wp2
                          go_quiet (fail)
                          go_wp2
                          go_roundw
                          case rel => exact ⟨z + 1, by omega, by go_num, by rw [goodB_keep _ _ _ _ _ _ _ HGV.out], below_drewN hbz _⟩
                          case measure => simp [intOf]; omega
                    · have j3 : (mm : Int) ≤ (t : Int) := by omega
                      have t1 : decide (t < mm) = false := by simp; omega
                      have HT : Hid (tornB t LA mm a = false) := Lib.hid (torn_big t LA mm a (by omega))
                      cases gv
                      · by_cases hla : LA z = (a : Int)
                        · have n1 : (LA z == (a : Int)) = true := beq_iff_eq.2 hla
                          have HE := Lib.hid n1
                          clear hla
                          go_wp2
                          go_quiet (fail)
                          go_wp2
                          go_roundw
                          case rel => exact ⟨z + 1, by omega, by go_num, by have h := HGV.out; rw [HT.out] at h ⊢; rw [goodB_hit _ _ _ _ _ _ h HE.out], below_drewN hbz _⟩
                          case measure => simp [intOf]; omega
                        · have n1 : (LA z == (a : Int)) = false := beq_eq_false_iff_ne.2 hla
                          have HE := Lib.hid n1
                          clear hla
                          go_wp2
                          go_quiet (fail)
                          go_wp2
                          go_roundw
                          case rel => exact ⟨z + 1, by omega, by go_num, by have h := HGV.out; rw [HT.out] at h ⊢; rw [goodB_off _ _ _ _ _ _ h HE.out], below_drewN hbz _⟩
                          case measure => simp [intOf]; omega
                      · skip
                        go_wp2
                        go_quiet (fail)
                        go_wp2
                        go_roundw
                        case rel => exact ⟨z + 1, by omega, by go_num, by rw [goodB_keep _ _ _ _ _ _ _ HGV.out], below_drewN hbz _⟩
                        case measure => simp [intOf]; omega
                · obtain rfl : z = mm := by omega
                  rw [HGa.out]
                  go_wp2
                  go_roundw
                  case rel => exact ⟨a + 1, by omega, by go_num, hbz⟩
                  case measure => simp [intOf]; omega
            · obtain rfl : a = 5 := by omega
              go_wp2_with fail
              refine (AW.out _).mono ?_
              rintro e F0 ⟨rfl, hf0⟩
              go_wp2
              go_ret
              exact ⟨rfl, (hbw6.trans (hbo.mono hbw6.size)).trans (hf0.mono (Nat.le_trans hbw6.size hbo.size))⟩
end Go.Proofs.Ytnmgaafpbbeceaa
