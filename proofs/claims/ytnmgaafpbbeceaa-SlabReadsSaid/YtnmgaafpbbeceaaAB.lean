/- The law SlabReads, walked: what was put is got, others stay. -/
import Derived.Test.YtnmgaafpbbeceaaAA
namespace Go.Proofs.Ytnmgaafpbbeceaa
open Go.RowKit Go.Shelf

set_option maxRecDepth 100000 in
set_option maxHeartbeats 8000000 in
theorem reads_big (aw : Awake) (A : Option Addr) (m c : Nat) (L : Nat → Deed) (x : Int) (d : ByteArray) (w : World) (hm : m ≤ 9223372036854775807) (hd : 256 < d.size) (hdz : d.size ≤ 9223372036854775807) (h : Acts w A m L) :
    Calls Try.prog 5 #[.slice A m c, .int .u8 x, .string d] w fun e w' => e = .returned (.bool true) ∧ Below w.heap.size w w' := by
  have AW := Lib.hid aw
  have HS := Lib.hid (small_any A m c L w hm h)
  clear aw h
  go_enter Try.func5, Try.ntmps5
  go_wp2_with fail
  refine (HS.out).mono ?_
  rintro e w' ⟨r, rfl, _, rfl⟩
  cases r
  · go_wp2_with (go_at_call 8; refine (AW.out _).mono ?_; rintro e w1 ⟨rfl, hb⟩)
    go_ret
    exact ⟨rfl, hb⟩
  · go_wp2_with (go_at_call 8; refine (AW.out _).mono ?_; rintro e w1 ⟨rfl, hb⟩)
    go_ret
    exact ⟨rfl, hb⟩

theorem Box5.set4 {g : Nat} {w : World} {v0 v1 v2 v3 v4 : Value} (h : Box5 w g v0 v1 v2 v3 v4) (u : Value) : Box5 (w.setCell ⟨g, 4, none⟩ u) g v0 v1 v2 v3 u := by
  obtain ⟨h0, h1, h2, h3, h4, hf⟩ := h
  have o : ∀ (j : Nat), 4 ≠ j → (w.setCell ⟨g, 4, none⟩ u).cell? ⟨g, j, none⟩ = w.cell? ⟨g, j, none⟩ := fun j hij => World.cell?_setCell_other w _ _ u (fun e => hij (by injection e))
  exact ⟨(o 0 (by decide)).trans h0, (o 1 (by decide)).trans h1, (o 2 (by decide)).trans h2, (o 3 (by decide)).trans h3, World.cell?_setCell_same _ _ _ h4, fun i => by simp [hf]⟩

set_option maxRecDepth 100000 in
set_option maxHeartbeats 8000000 in
theorem reads_small (aw : Awake) (A : Option Addr) (m c : Nat) (L : Nat → Deed) (x : Int) (d : ByteArray) (w : World) (hm : m ≤ 9223372036854775807) (hx : 0 ≤ x ∧ x < 256) (hd : d.size ≤ 256) (h : Acts w A m L) :
    Calls Try.prog 5 #[.slice A m c, .int .u8 x, .string d] w fun e w' => e = .returned (.bool true) ∧ Below w.heap.size w w' := by
  have AW := Lib.hid aw
  have HS := Lib.hid (small_any A m c L w hm h)
  have HA := Lib.hid h
  clear aw h
  go_enter Try.func5, Try.ntmps5
  go_wp2_with fail
  refine (HS.out).mono ?_
  rintro e w' ⟨r, rfl, hr, rfl⟩
  have HR := Lib.hid hr
  clear hr
  cases r
  · go_wp2_with (go_at_call 8; refine (AW.out _).mono ?_; rintro e w1 ⟨rfl, hb⟩)
    go_ret
    exact ⟨rfl, hb⟩
  · go_wp2_with fail
    obtain ⟨r1, r2⟩ := HR.out (by first | rfl | trivial)
    refine (played_any A m c L w r1 r2 HA.out).mono ?_
    clear HR r1 r2 HS
    rintro e w1 ⟨v1, rfl, D1, hd1, hok1, hn1, hb1⟩
    have HN1 := Lib.hid hn1
    clear hn1
    go_wp2_with fail
    refine (start5F v1 D1 w1 hd1 hok1 HN1.out).mono ?_
    rintro e w2 ⟨b2, c2, S, rfl, hf2, hsz, hb2⟩
    delta vF
    have HSZ := Lib.hid hsz
    have hbw2 := hb1.trans (hb2.mono hb1.size)
    have ha2 := ((Below.refl w2.heap.size w2).alloc (Nat.le_refl _) (.cells #[.slice (some ⟨b2, 0, none⟩) 5 c2, .slice none 0 0, .bool false, .int .i64 (-1), .int .i64 0] 31))
    have hR2 := Box5.new w2 (.slice (some ⟨b2, 0, none⟩) 5 c2) (.slice none 0 0) (.bool false) (.int .i64 (-1)) (.int .i64 0) 31
    have hf2' := hf2.below ha2 (Nat.le_refl _)
    have hbx2 := hbw2.trans (ha2.mono hbw2.size)
    obtain ⟨k, hk, hk5⟩ : ∃ k : Nat, x % 5 = (k : Int) ∧ k < 5 := ⟨(x % 5).toNat, by omega, by omega⟩
    clear hd1 hok1 HN1 hb1 hb2 hsz hf2 hbw2 ha2
    have q0 := hR2.c0
    have q1 := hR2.c1
    have q2 := hR2.c2
    have q3 := hR2.c3
    have q4 := hR2.c4
    go_wp2_with fail
    clear q0 q1 q2 q3 q4 hk
    generalize w2.alloc (.cells #[.slice (some ⟨b2, 0, none⟩) 5 c2, .slice none 0 0, .bool false, .int .i64 (-1), .int .i64 0] 31) = W2 at hR2 hf2' hbx2 ⊢
    generalize w2.heap.size = g2 at hR2 ⊢
    refine (putX S k b2 c2 d W2 hf2' HSZ.out hk5 hd).mono ?_
    rintro e w3 ⟨b3, c3, kk3, B3, rfl, hx3, hb3⟩
    delta vX
    have ha3 := ((Below.refl w3.heap.size w3).alloc (Nat.le_refl _) (.cells #[.slice (some ⟨b3, 0, none⟩) 5 c3, .slice B3 1 kk3, .bool false, .int .i64 (-1), .int .i64 1] 31))
    have hbc3 := hb3.trans (ha3.mono hb3.size)
    have hR2_3 := hR2.below hbc3 (World.block_lt_of_cell? _ _ hR2.c0)
    have hf2_3 := hf2'.below hbc3 (Nat.le_refl _)
    have hR3 := Box5.new w3 (.slice (some ⟨b3, 0, none⟩) 5 c3) (.slice B3 1 kk3) (.bool false) (.int .i64 (-1)) (.int .i64 1) 31
    have hx3' := hx3.below ha3 (Nat.le_refl _)
    have hbx3 := hbx2.trans (hbc3.mono hbx2.size)
    clear hR2 hf2' hbx2 hx3 hb3 ha3 hbc3
    have q0 := hR3.c0
    have q1 := hR3.c1
    have q2 := hR3.c2
    have q3 := hR3.c3
    have q4 := hR3.c4
    go_wp2_with fail
    clear q0 q1 q2 q3 q4
    generalize w3.alloc (.cells #[.slice (some ⟨b3, 0, none⟩) 5 c3, .slice B3 1 kk3, .bool false, .int .i64 (-1), .int .i64 1] 31) = W3 at hR2_3 hf2_3 hR3 hx3' hbx3 ⊢
    generalize w3.heap.size = g3 at hR3 ⊢
    refine (flushX S k b3 c3 kk3 B3 d W3 hx3' HSZ.out hk5 hd).mono ?_
    rintro e w4 ⟨b4, c4, rfl, hf4, hb4⟩
    delta vF
    have ha4 := ((Below.refl w4.heap.size w4).alloc (Nat.le_refl _) (.cells #[.slice (some ⟨b4, 0, none⟩) 5 c4, .slice none 0 0, .bool false, .int .i64 (-1), .int .i64 2] 31))
    have hbc4 := hb4.trans (ha4.mono hb4.size)
    have hR2_4 := hR2_3.below hbc4 (World.block_lt_of_cell? _ _ hR2_3.c0)
    have hR3_4 := hR3.below hbc4 (World.block_lt_of_cell? _ _ hR3.c0)
    have hf2_4 := hf2_3.below hbc4 (Nat.le_refl _)
    have hx3_4 := hx3'.below hbc4 (Nat.le_refl _)
    have hR4 := Box5.new w4 (.slice (some ⟨b4, 0, none⟩) 5 c4) (.slice none 0 0) (.bool false) (.int .i64 (-1)) (.int .i64 2) 31
    have hf4' := hf4.below ha4 (Nat.le_refl _)
    have hbx4 := hbx3.trans (hbc4.mono hbx3.size)
    clear hR2_3 hf2_3 hR3 hx3' hbx3 hf4 hb4 ha4 hbc4
    go_wp2_with fail
    generalize w4.alloc (.cells #[.slice (some ⟨b4, 0, none⟩) 5 c4, .slice none 0 0, .bool false, .int .i64 (-1), .int .i64 2] 31) = W4 at hR2_4 hR3_4 hf2_4 hx3_4 hR4 hf4' hbx4 ⊢
    generalize w4.heap.size = g4 at hR4 ⊢
    go_loopw [13] (fun i wr => ∃ q : Nat, q ≤ 5 ∧ i = .int .i64 q ∧ Below W4.heap.size W4 wr) (fun i _ => 5 - (intOf i).toNat)
    case atStart => exact ⟨0, Nat.zero_le _, rfl, Below.refl _ _⟩
    case round =>
      obtain ⟨q, hq, rfl, hbr⟩ := hrel
      by_cases hqn : q < 5
      · by_cases hqk : q = k
        · obtain rfl : k = q := hqk.symm
          have hg2 := World.block_lt_of_cell? _ _ hR2_4.c0
          have hg3 := World.block_lt_of_cell? _ _ hR3_4.c0
          have hg4 := World.block_lt_of_cell? _ _ hR4.c0
          have hR2r := hR2_4.below hbr hg2
          have hR3r := hR3_4.below hbr hg3
          have hR4r := hR4.below hbr hg4
          have hf2r := hf2_4.below hbr (Nat.le_refl _)
          have hx3r := hx3_4.below hbr (Nat.le_refl _)
          have hf4r := hf4'.below hbr (Nat.le_refl _)
          have hg2r := World.block_lt_of_cell? _ _ hR2r.c0
          have hg3r := World.block_lt_of_cell? _ _ hR3r.c0
          have hg4r := World.block_lt_of_cell? _ _ hR4r.c0
          obtain ⟨r, hr⟩ : ∃ r, padB d = r := ⟨_, rfl⟩
          have HRP := Lib.hid hr
          have HRX : Hid (rdS S k (padB d) k = r) := Lib.hid ((rdS_at S k (padB d)).trans hr)
          obtain ⟨s, hs⟩ : ∃ s, S k = s := ⟨_, rfl⟩
          have HSX := Lib.hid hs
          clear hr hs
          have e0 := hR3r.c0
          have e1 := hR3r.c1
          have e2 := hR3r.c2
          have e3 := hR3r.c3
          have e4 := hR3r.c4
          go_wp2_with fail
          clear e0 e1 e2 e3 e4
          refine (getX S k b3 c3 kk3 k B3 d r wr hx3r HSZ.out hk5 hd (by omega) HRX.out).mono ?_
          rintro e w5 ⟨b5, c5, kk5, B5, rfl, hx5, hb5⟩
          delta vX
          have ha5 := (Below.refl w5.heap.size w5).alloc (Nat.le_refl _) (.cells #[.slice (some ⟨b5, 0, none⟩) 5 c5, .slice B5 1 kk5, .bool false, .int .i64 (-1), .int .i64 2] 31)
          have hR5 := Box5.new w5 (.slice (some ⟨b5, 0, none⟩) 5 c5) (.slice B5 1 kk5) (.bool false) (.int .i64 (-1)) (.int .i64 2) 31
          have hbw5 := hb5.trans (ha5.mono hb5.size)
          have hz5 := hb5.size
          have hR4s := hR4r.below hbw5 hg4r
          have e0 := hR4s.c0
          have e1 := hR4s.c1
          have e2 := hR4s.c2
          have e3 := hR4s.c3
          have e4 := hR4s.c4
          go_wp2_with fail
          clear e0 e1 e2 e3 e4 hR4s hb5
          generalize w5.alloc (.cells #[.slice (some ⟨b5, 0, none⟩) 5 c5, .slice B5 1 kk5, .bool false, .int .i64 (-1), .int .i64 2] 31) = W5 at ha5 hR5 hbw5 ⊢
          refine (getF (rdS S k (padB d)) b4 c4 k 2 r W5 (hf4r.below hbw5 (Nat.le_refl _)) (rdS_size S k d HSZ.out hd) (by omega) (by omega) HRX.out).mono ?_
          rintro e w6 ⟨b6, c6, rfl, _, hb6⟩
          delta vF
          rw [show (((2 : Nat) : Int) + 1) = 3 from rfl]
          have hc6 := hb6.trans (((Below.refl w6.heap.size w6).alloc (Nat.le_refl _) (.cells #[.slice (some ⟨b6, 0, none⟩) 5 c6, .slice none 0 0, .bool false, .int .i64 (-1), .int .i64 3] 31)).mono hb6.size)
          have hbw6 := hbw5.trans (hc6.mono hbw5.size)
          have ha6 := ha5.trans (hc6.mono ha5.size)
          have hR5_6 := hR5.below hc6 (World.block_lt_of_cell? _ _ hR5.c0)
          have hR2s := hR2r.below hbw6 hg2r
          have e0 := hR2s.c0
          have e1 := hR2s.c1
          have e2 := hR2s.c2
          have e3 := hR2s.c3
          have e4 := hR2s.c4
          go_wp2_with fail
          clear e0 e1 e2 e3 e4 hR2s hb6 hc6 hR5 hbw5 ha5
          generalize w6.alloc (.cells #[.slice (some ⟨b6, 0, none⟩) 5 c6, .slice none 0 0, .bool false, .int .i64 (-1), .int .i64 3] 31) = W6 at hbw6 ha6 hR5_6 ⊢
          refine (getF S b2 c2 k 0 s W6 (hf2r.below hbw6 (Nat.le_refl _)) HSZ.out (by omega) (by omega) HSX.out).mono ?_
          rintro e w7 ⟨b7, c7, rfl, _, hb7⟩
          delta vF
          rw [show (((0 : Nat) : Int) + 1) = 1 from rfl]
          have hc7 := hb7.trans (((Below.refl w7.heap.size w7).alloc (Nat.le_refl _) (.cells #[.slice (some ⟨b7, 0, none⟩) 5 c7, .slice none 0 0, .bool false, .int .i64 (-1), .int .i64 1] 31)).mono hb7.size)
          have hbw7 := hbw6.trans (hc7.mono hbw6.size)
          have ha7 := ha6.trans (hc7.mono ha6.size)
          have hR5_7 := hR5_6.below hc7 (World.block_lt_of_cell? _ _ hR5_6.c0)
          go_upto_region 15 with fail
          clear hb7 hc7 hR5_6 hbw6 ha6
          generalize w7.alloc (.cells #[.slice (some ⟨b7, 0, none⟩) 5 c7, .slice none 0 0, .bool false, .int .i64 (-1), .int .i64 1] 31) = W7 at hbw7 ha7 hR5_7 ⊢
          have e0 := hR5_7.c0
          have e1 := hR5_7.c1
          have e2 := hR5_7.c2
          have e3 := hR5_7.c3
          have e4 := hR5_7.c4
          have ef := hR5_7.f
          go_upto_region 16 with fail
          clear e0 e1 e2 e3 e4 ef
          have hR5_8 := hR5_7.set4 (.int .i64 1)
          have hbut := (But.refl w5.heap.size W7).setCell 4 (.int .i64 1)
          have hbw8 := hbw7.trans (hbut.below hz5)
          have ha8 := ha7.trans (hbut.below (Nat.le_refl _))
          clear hR5_7 hbut hbw7 ha7
          generalize W7.setCell ⟨w5.heap.size, 4, none⟩ (.int .i64 1) = W8 at hR5_8 hbw8 ha8 ⊢
          have hR3s := hR3r.below hbw8 hg3r
          go_wp2_with fail
          refine (full_any d W8 hd).mono ?_
          rintro e w9 ⟨rfl, hb9⟩
          rw [HRP.out]
          have hR3t := hR3s.below hb9 (World.block_lt_of_cell? _ _ hR3s.c0)
          have hR5_9 := hR5_8.below hb9 (World.block_lt_of_cell? _ _ hR5_8.c0)
          have hbw9 := hbw8.trans (hb9.mono hbw8.size)
          have ha9 := ha8.trans (hb9.mono ha8.size)
          clear hR3s hR5_8 hbw8 ha8 hb9
          have e0 := hR3t.c0
          have e1 := hR3t.c1
          have e2 := hR3t.c2
          have e3 := hR3t.c3
          have e4 := hR3t.c4
          have f0 := hR5_9.c0
          have f1 := hR5_9.c1
          have f2 := hR5_9.c2
          have f3 := hR5_9.c3
          have f4 := hR5_9.c4
          go_wp2_with fail
          clear e0 e1 e2 e3 e4 f0 f1 f2 f3 f4
          refine (sameX S k b5 c5 kk5 b3 c3 kk3 B5 B3 (padB d) w9 (hx5.below ha9 (Nat.le_refl _)) (hx3r.below hbw9 (Nat.le_refl _))).mono ?_
          rintro e w10 ⟨rfl, hb10⟩
          go_wp2
          go_roundw
          case rel => exact ⟨k + 1, by omega, by go_num, hbr.trans ((hbw9.trans (hb10.mono hbw9.size)).mono hbr.size)⟩
          case measure => simp [intOf]; omega
        · skip
          have hg2 := World.block_lt_of_cell? _ _ hR2_4.c0
          have hg3 := World.block_lt_of_cell? _ _ hR3_4.c0
          have hg4 := World.block_lt_of_cell? _ _ hR4.c0
          have hR2r := hR2_4.below hbr hg2
          have hR3r := hR3_4.below hbr hg3
          have hR4r := hR4.below hbr hg4
          have hf2r := hf2_4.below hbr (Nat.le_refl _)
          have hx3r := hx3_4.below hbr (Nat.le_refl _)
          have hf4r := hf4'.below hbr (Nat.le_refl _)
          have hg2r := World.block_lt_of_cell? _ _ hR2r.c0
          have hg3r := World.block_lt_of_cell? _ _ hR3r.c0
          have hg4r := World.block_lt_of_cell? _ _ hR4r.c0
          obtain ⟨r, hr⟩ : ∃ r, S q = r := ⟨_, rfl⟩
          have HSX := Lib.hid hr
          have HRX : Hid (rdS S k (padB d) q = r) := Lib.hid ((rdS_off S k (padB d) q hqk).trans hr)
          have n1 : ((q : Int) == (k : Int)) = false := beq_eq_false_iff_ne.2 (by omega)
          have n2 : ((q : Int) != (k : Int)) = true := by rw [bne_iff_ne]; omega
          clear hr
          have e0 := hR3r.c0
          have e1 := hR3r.c1
          have e2 := hR3r.c2
          have e3 := hR3r.c3
          have e4 := hR3r.c4
          go_wp2_with fail
          clear e0 e1 e2 e3 e4
          refine (getX S k b3 c3 kk3 q B3 d r wr hx3r HSZ.out hk5 hd (by omega) HRX.out).mono ?_
          rintro e w5 ⟨b5, c5, kk5, B5, rfl, hx5, hb5⟩
          delta vX
          have ha5 := (Below.refl w5.heap.size w5).alloc (Nat.le_refl _) (.cells #[.slice (some ⟨b5, 0, none⟩) 5 c5, .slice B5 1 kk5, .bool false, .int .i64 (-1), .int .i64 2] 31)
          have hR5 := Box5.new w5 (.slice (some ⟨b5, 0, none⟩) 5 c5) (.slice B5 1 kk5) (.bool false) (.int .i64 (-1)) (.int .i64 2) 31
          have hbw5 := hb5.trans (ha5.mono hb5.size)
          have hz5 := hb5.size
          have hR4s := hR4r.below hbw5 hg4r
          have e0 := hR4s.c0
          have e1 := hR4s.c1
          have e2 := hR4s.c2
          have e3 := hR4s.c3
          have e4 := hR4s.c4
          go_wp2_with fail
          clear e0 e1 e2 e3 e4 hR4s hb5
          generalize w5.alloc (.cells #[.slice (some ⟨b5, 0, none⟩) 5 c5, .slice B5 1 kk5, .bool false, .int .i64 (-1), .int .i64 2] 31) = W5 at ha5 hR5 hbw5 ⊢
          refine (getF (rdS S k (padB d)) b4 c4 q 2 r W5 (hf4r.below hbw5 (Nat.le_refl _)) (rdS_size S k d HSZ.out hd) (by omega) (by omega) HRX.out).mono ?_
          rintro e w6 ⟨b6, c6, rfl, _, hb6⟩
          delta vF
          rw [show (((2 : Nat) : Int) + 1) = 3 from rfl]
          have hc6 := hb6.trans (((Below.refl w6.heap.size w6).alloc (Nat.le_refl _) (.cells #[.slice (some ⟨b6, 0, none⟩) 5 c6, .slice none 0 0, .bool false, .int .i64 (-1), .int .i64 3] 31)).mono hb6.size)
          have hbw6 := hbw5.trans (hc6.mono hbw5.size)
          have ha6 := ha5.trans (hc6.mono ha5.size)
          have hR5_6 := hR5.below hc6 (World.block_lt_of_cell? _ _ hR5.c0)
          have hR2s := hR2r.below hbw6 hg2r
          have e0 := hR2s.c0
          have e1 := hR2s.c1
          have e2 := hR2s.c2
          have e3 := hR2s.c3
          have e4 := hR2s.c4
          go_wp2_with fail
          clear e0 e1 e2 e3 e4 hR2s hb6 hc6 hR5 hbw5 ha5
          generalize w6.alloc (.cells #[.slice (some ⟨b6, 0, none⟩) 5 c6, .slice none 0 0, .bool false, .int .i64 (-1), .int .i64 3] 31) = W6 at hbw6 ha6 hR5_6 ⊢
          refine (getF S b2 c2 q 0 r W6 (hf2r.below hbw6 (Nat.le_refl _)) HSZ.out (by omega) (by omega) HSX.out).mono ?_
          rintro e w7 ⟨b7, c7, rfl, _, hb7⟩
          delta vF
          rw [show (((0 : Nat) : Int) + 1) = 1 from rfl]
          have hc7 := hb7.trans (((Below.refl w7.heap.size w7).alloc (Nat.le_refl _) (.cells #[.slice (some ⟨b7, 0, none⟩) 5 c7, .slice none 0 0, .bool false, .int .i64 (-1), .int .i64 1] 31)).mono hb7.size)
          have hbw7 := hbw6.trans (hc7.mono hbw6.size)
          have ha7 := ha6.trans (hc7.mono ha6.size)
          have hR5_7 := hR5_6.below hc7 (World.block_lt_of_cell? _ _ hR5_6.c0)
          go_upto_region 15 with fail
          clear hb7 hc7 hR5_6 hbw6 ha6
          generalize w7.alloc (.cells #[.slice (some ⟨b7, 0, none⟩) 5 c7, .slice none 0 0, .bool false, .int .i64 (-1), .int .i64 1] 31) = W7 at hbw7 ha7 hR5_7 ⊢
          have e0 := hR5_7.c0
          have e1 := hR5_7.c1
          have e2 := hR5_7.c2
          have e3 := hR5_7.c3
          have e4 := hR5_7.c4
          have ef := hR5_7.f
          go_upto_region 16 with fail
          clear e0 e1 e2 e3 e4 ef
          have hR5_8 := hR5_7.set4 (.int .i64 1)
          have hbut := (But.refl w5.heap.size W7).setCell 4 (.int .i64 1)
          have hbw8 := hbw7.trans (hbut.below hz5)
          have ha8 := ha7.trans (hbut.below (Nat.le_refl _))
          clear hR5_7 hbut hbw7 ha7
          generalize W7.setCell ⟨w5.heap.size, 4, none⟩ (.int .i64 1) = W8 at hR5_8 hbw8 ha8 ⊢
          have hR3s := hR3r.below hbw8 hg3r
          have e0 := hR3s.c0
          have e1 := hR3s.c1
          have e2 := hR3s.c2
          have e3 := hR3s.c3
          have e4 := hR3s.c4
          have f0 := hR5_8.c0
          have f1 := hR5_8.c1
          have f2 := hR5_8.c2
          have f3 := hR5_8.c3
          have f4 := hR5_8.c4
          go_wp2_with fail
          clear e0 e1 e2 e3 e4 f0 f1 f2 f3 f4
          refine (sameX S k b5 c5 kk5 b3 c3 kk3 B5 B3 (padB d) W8 (hx5.below ha8 (Nat.le_refl _)) (hx3r.below hbw8 (Nat.le_refl _))).mono ?_
          rintro e w10 ⟨rfl, hb10⟩
          go_wp2
          go_roundw
          case rel => exact ⟨q + 1, by omega, by go_num, hbr.trans ((hbw8.trans (hb10.mono hbw8.size)).mono hbr.size)⟩
          case measure => simp [intOf]; omega
      · obtain rfl : q = 5 := by omega
        go_wp2_with fail
        refine (AW.out _).mono ?_
        rintro e F0 ⟨rfl, hf0⟩
        go_wp2
        go_ret
        exact ⟨rfl, (hbx4.trans (hbr.mono hbx4.size)).trans (hf0.mono (Nat.le_trans hbx4.size hbr.size))⟩

theorem reads_any (aw : Awake) (A : Option Addr) (m c : Nat) (L : Nat → Deed) (x : Int) (d : ByteArray) (w : World) (hm : m ≤ 9223372036854775807) (hx : 0 ≤ x ∧ x < 256) (hdz : d.size ≤ 9223372036854775807) (h : Acts w A m L) :
    Calls Try.prog 5 #[.slice A m c, .int .u8 x, .string d] w fun e w' => e = .returned (.bool true) ∧ Below w.heap.size w w' := by
  by_cases hd : d.size ≤ 256
  · exact reads_small aw A m c L x d w hm hx hd h
  · exact reads_big aw A m c L x d w hm (by omega) hdz h
end Go.Proofs.Ytnmgaafpbbeceaa
