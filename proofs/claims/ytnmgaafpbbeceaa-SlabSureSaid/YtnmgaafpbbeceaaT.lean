/- The law SlabDies, walked: what has no power does nothing, and changes nothing, until it is started. -/
import Derived.Test.YtnmgaafpbbeceaaR
namespace Go.Proofs.Ytnmgaafpbbeceaa
open Go.RowKit Go.Shelf

/-- What the law's other calls need of the examples. -/
def Awake : Prop := ∀ w : World, Calls Try.prog 8 #[] w fun e w' => e = .returned (.bool true) ∧ Below w.heap.size w w'

set_option maxRecDepth 100000 in
set_option maxHeartbeats 8000000 in
theorem dies_big (aw : Awake) (A : Option Addr) (m c : Nat) (L : Nat → Deed) (x : Int) (d : ByteArray) (w : World) (hm : m ≤ 9223372036854775807) (hd : 256 < d.size) (hdz : d.size ≤ 9223372036854775807) (h : Acts w A m L) :
    Calls Try.prog 6 #[.slice A m c, .int .i64 x, .string d] w fun e w' => e = .returned (.bool true) ∧ Below w.heap.size w w' := by
  have AW := Lib.hid aw
  have HS := Lib.hid (small_any A m c L w hm h)
  clear aw h
  go_enter Try.func6, Try.ntmps6
  go_wp2_with fail
  refine (HS.out).mono ?_
  rintro e w' ⟨r, rfl, _, rfl⟩
  cases r
  · go_wp2_with (go_at_call 8; refine (AW.out _).mono ?_; rintro e w1 ⟨rfl, hb⟩)
    go_ret
    exact ⟨rfl, hb⟩
  · go_wp2_with (go_at_call 8; refine (AW.out _).mono ?_; rintro e w1 ⟨rfl, hb⟩)
    go_ret
    exact ⟨rfl, hb⟩

set_option maxRecDepth 100000 in
set_option maxHeartbeats 8000000 in
theorem dies_small (aw : Awake) (A : Option Addr) (m c : Nat) (L : Nat → Deed) (x : Int) (d : ByteArray) (w : World) (hm : m ≤ 9223372036854775807) (hd : d.size ≤ 256) (h : Acts w A m L) :
    Calls Try.prog 6 #[.slice A m c, .int .i64 x, .string d] w fun e w' => e = .returned (.bool true) ∧ Below w.heap.size w w' := by
  have AW := Lib.hid aw
  have HS := Lib.hid (small_any A m c L w hm h)
  have HA := Lib.hid h
  clear aw h
  go_enter Try.func6, Try.ntmps6
  go_wp2_with fail
  refine (HS.out).mono ?_
  rintro e w' ⟨r, rfl, hr, rfl⟩
  have HR := Lib.hid hr
  clear hr
  cases r
  · go_wp2_with (go_at_call 8; refine (AW.out _).mono ?_; rintro e w1 ⟨rfl, hb⟩)
    go_ret
    exact ⟨rfl, hb⟩
  · go_wp2_with fail
    obtain ⟨r1, r2⟩ := HR.out (by first | rfl | trivial)
    refine (played_any A m c L w r1 r2 HA.out).mono ?_
    clear HR r1 r2 HS
    rintro e w1 ⟨v1, rfl, D1, hd1, hok1, hn1, hb1⟩
    have HN1 := Lib.hid hn1
    clear hn1
    go_wp2_with fail
    refine (start5 v1 D1 w1 hd1 hok1 HN1.out).mono ?_
    rintro e w2 ⟨v2, S, rfl, hd2, hsz, hb2⟩
    have HSZ := Lib.hid hsz
    have hbw2 := hb1.trans (hb2.mono hb1.size)
    clear hd1 hok1 HN1 hb1 hb2 hsz
    go_wp2_with fail
    refine (show Calls Try.prog 14 #[_, .int .i64 0] w2 (RetE S false 0 w2) from armE _ S w2 hd2).mono ?_
    rintro e w3 ⟨v3, rfl, ⟨b3, c3, rfl, hlt3, hcc3, hc3⟩, hb3⟩
    have hE3 : IsE w3 (.agg #[.slice (some ⟨b3, 0, none⟩) 5 c3, .slice none 0 0, .bool false, .int .i64 0, .int .i64 0]) S false 0 := ⟨b3, c3, rfl, hlt3, hcc3, hc3⟩
    have ha3 := ((Below.refl w3.heap.size w3).alloc (Nat.le_refl _) (.cells #[.slice (some ⟨b3, 0, none⟩) 5 c3, .slice none 0 0, .bool false, .int .i64 0, .int .i64 0] 31))
    have hbc3 := hb3.trans (ha3.mono hb3.size)
    have hR3 := Box5.new w3 (.slice (some ⟨b3, 0, none⟩) 5 c3) (.slice none 0 0) (.bool false) (.int .i64 0) (.int .i64 0) 31
    have hD3 := hE3.below ha3 (Nat.le_refl _)
    have hbw3 := hbw2.trans (hbc3.mono hbw2.size)
    clear  hbw2 hE3 ha3 hbc3 hb3 hlt3 hcc3 hc3
    have q0 := hR3.c0
    have q1 := hR3.c1
    have q2 := hR3.c2
    have q3 := hR3.c3
    have q4 := hR3.c4
    go_wp2_with fail
    clear q0 q1 q2 q3 q4
    generalize w3.alloc (.cells #[.slice (some ⟨b3, 0, none⟩) 5 c3, .slice none 0 0, .bool false, .int .i64 0, .int .i64 0] 31) = W3 at hR3 hD3 hbw3 ⊢
    generalize w3.heap.size = h3 at hR3 ⊢
    clear hd2
    refine (show Calls Try.prog 12 #[_, .int .i64 1, .string d] W3 (ErrE S true 0 10 W3) from putE _ S false 1 d W3 hD3 (by decide) hd).mono ?_
    rintro e w4 ⟨v4, rfl, ⟨b4, c4, rfl, hlt4, hcc4, hc4⟩, hb4⟩
    have hE4 : IsE w4 (.agg #[.slice (some ⟨b4, 0, none⟩) 5 c4, .slice none 0 0, .bool true, .int .i64 0, .int .i64 0]) S true 0 := ⟨b4, c4, rfl, hlt4, hcc4, hc4⟩
    have ha4 := ((Below.refl w4.heap.size w4).alloc (Nat.le_refl _) (.cells #[.slice (some ⟨b4, 0, none⟩) 5 c4, .slice none 0 0, .bool true, .int .i64 0, .int .i64 0] 31))
    have hbc4 := hb4.trans (ha4.mono hb4.size)
    have hR3_4 := hR3.below hbc4 (World.block_lt_of_cell? _ _ hR3.c0)
    have hD3_4 := hD3.below hbc4 (Nat.le_refl _)
    have hR4 := Box5.new w4 (.slice (some ⟨b4, 0, none⟩) 5 c4) (.slice none 0 0) (.bool true) (.int .i64 0) (.int .i64 0) 31
    have hD4 := hE4.below ha4 (Nat.le_refl _)
    have hbw4 := hbw3.trans (hbc4.mono hbw3.size)
    clear hR3 hD3 hbw3 hE4 ha4 hbc4 hb4 hlt4 hcc4 hc4
    have q0 := hR4.c0
    have q1 := hR4.c1
    have q2 := hR4.c2
    have q3 := hR4.c3
    have q4 := hR4.c4
    go_wp2_with fail
    clear q0 q1 q2 q3 q4
    generalize w4.alloc (.cells #[.slice (some ⟨b4, 0, none⟩) 5 c4, .slice none 0 0, .bool true, .int .i64 0, .int .i64 0] 31) = W4 at hR3_4 hR4 hD3_4 hD4 hbw4 ⊢
    generalize w4.heap.size = h4 at hR4 ⊢
    refine (show Calls Try.prog 12 #[_, .int .i64 2, .string d] W4 (ErrE S true 0 10 W4) from putE _ S true 2 d W4 hD4 (by decide) hd).mono ?_
    rintro e w5 ⟨v5, rfl, ⟨b5, c5, rfl, hlt5, hcc5, hc5⟩, hb5⟩
    have hE5 : IsE w5 (.agg #[.slice (some ⟨b5, 0, none⟩) 5 c5, .slice none 0 0, .bool true, .int .i64 0, .int .i64 0]) S true 0 := ⟨b5, c5, rfl, hlt5, hcc5, hc5⟩
    have ha5 := ((Below.refl w5.heap.size w5).alloc (Nat.le_refl _) (.cells #[.slice (some ⟨b5, 0, none⟩) 5 c5, .slice none 0 0, .bool true, .int .i64 0, .int .i64 0] 31))
    have hbc5 := hb5.trans (ha5.mono hb5.size)
    have hR3_4_5 := hR3_4.below hbc5 (World.block_lt_of_cell? _ _ hR3_4.c0)
    have hR4_5 := hR4.below hbc5 (World.block_lt_of_cell? _ _ hR4.c0)
    have hD3_4_5 := hD3_4.below hbc5 (Nat.le_refl _)
    have hD4_5 := hD4.below hbc5 (Nat.le_refl _)
    have hR5 := Box5.new w5 (.slice (some ⟨b5, 0, none⟩) 5 c5) (.slice none 0 0) (.bool true) (.int .i64 0) (.int .i64 0) 31
    have hD5 := hE5.below ha5 (Nat.le_refl _)
    have hbw5 := hbw4.trans (hbc5.mono hbw4.size)
    clear hR3_4 hR4 hD3_4 hD4 hbw4 hE5 ha5 hbc5 hb5 hlt5 hcc5 hc5
    have q0 := hR5.c0
    have q1 := hR5.c1
    have q2 := hR5.c2
    have q3 := hR5.c3
    have q4 := hR5.c4
    go_wp2_with fail
    clear q0 q1 q2 q3 q4
    generalize w5.alloc (.cells #[.slice (some ⟨b5, 0, none⟩) 5 c5, .slice none 0 0, .bool true, .int .i64 0, .int .i64 0] 31) = W5 at hR3_4_5 hR4_5 hR5 hD3_4_5 hD4_5 hD5 hbw5 ⊢
    generalize w5.heap.size = h5 at hR5 ⊢
    refine (show Calls Try.prog 15 #[_, .int .i64 1] W5 (StrE S true 0 10 W5) from getE _ S true 1 W5 hD5 (by decide)).mono ?_
    rintro e w6 ⟨v6, s6, rfl, ⟨b6, c6, rfl, hlt6, hcc6, hc6⟩, hb6⟩
    have hE6 : IsE w6 (.agg #[.slice (some ⟨b6, 0, none⟩) 5 c6, .slice none 0 0, .bool true, .int .i64 0, .int .i64 0]) S true 0 := ⟨b6, c6, rfl, hlt6, hcc6, hc6⟩
    have ha6 := ((Below.refl w6.heap.size w6).alloc (Nat.le_refl _) (.cells #[.slice (some ⟨b6, 0, none⟩) 5 c6, .slice none 0 0, .bool true, .int .i64 0, .int .i64 0] 31))
    have hbc6 := hb6.trans (ha6.mono hb6.size)
    have hR3_4_5_6 := hR3_4_5.below hbc6 (World.block_lt_of_cell? _ _ hR3_4_5.c0)
    have hR4_5_6 := hR4_5.below hbc6 (World.block_lt_of_cell? _ _ hR4_5.c0)
    have hR5_6 := hR5.below hbc6 (World.block_lt_of_cell? _ _ hR5.c0)
    have hD3_4_5_6 := hD3_4_5.below hbc6 (Nat.le_refl _)
    have hD4_5_6 := hD4_5.below hbc6 (Nat.le_refl _)
    have hD5_6 := hD5.below hbc6 (Nat.le_refl _)
    have hR6 := Box5.new w6 (.slice (some ⟨b6, 0, none⟩) 5 c6) (.slice none 0 0) (.bool true) (.int .i64 0) (.int .i64 0) 31
    have hD6 := hE6.below ha6 (Nat.le_refl _)
    have hbw6 := hbw5.trans (hbc6.mono hbw5.size)
    clear hR3_4_5 hR4_5 hR5 hD3_4_5 hD4_5 hD5 hbw5 hE6 ha6 hbc6 hb6 hlt6 hcc6 hc6
    have q0 := hR6.c0
    have q1 := hR6.c1
    have q2 := hR6.c2
    have q3 := hR6.c3
    have q4 := hR6.c4
    go_wp2_with fail
    clear q0 q1 q2 q3 q4
    generalize w6.alloc (.cells #[.slice (some ⟨b6, 0, none⟩) 5 c6, .slice none 0 0, .bool true, .int .i64 0, .int .i64 0] 31) = W6 at hR3_4_5_6 hR4_5_6 hR5_6 hR6 hD3_4_5_6 hD4_5_6 hD5_6 hD6 hbw6 ⊢
    generalize w6.heap.size = h6 at hR6 ⊢
    refine (show Calls Try.prog 9 #[_] W6 (ErrE S true 0 10 W6) from flushE _ S true W6 hD6).mono ?_
    rintro e w7 ⟨v7, rfl, ⟨b7, c7, rfl, hlt7, hcc7, hc7⟩, hb7⟩
    have hE7 : IsE w7 (.agg #[.slice (some ⟨b7, 0, none⟩) 5 c7, .slice none 0 0, .bool true, .int .i64 0, .int .i64 0]) S true 0 := ⟨b7, c7, rfl, hlt7, hcc7, hc7⟩
    have ha7 := ((Below.refl w7.heap.size w7).alloc (Nat.le_refl _) (.cells #[.slice (some ⟨b7, 0, none⟩) 5 c7, .slice none 0 0, .bool true, .int .i64 0, .int .i64 0] 31))
    have hbc7 := hb7.trans (ha7.mono hb7.size)
    have hR3_4_5_6_7 := hR3_4_5_6.below hbc7 (World.block_lt_of_cell? _ _ hR3_4_5_6.c0)
    have hR4_5_6_7 := hR4_5_6.below hbc7 (World.block_lt_of_cell? _ _ hR4_5_6.c0)
    have hR5_6_7 := hR5_6.below hbc7 (World.block_lt_of_cell? _ _ hR5_6.c0)
    have hR6_7 := hR6.below hbc7 (World.block_lt_of_cell? _ _ hR6.c0)
    have hD3_4_5_6_7 := hD3_4_5_6.below hbc7 (Nat.le_refl _)
    have hD4_5_6_7 := hD4_5_6.below hbc7 (Nat.le_refl _)
    have hD5_6_7 := hD5_6.below hbc7 (Nat.le_refl _)
    have hD6_7 := hD6.below hbc7 (Nat.le_refl _)
    have hR7 := Box5.new w7 (.slice (some ⟨b7, 0, none⟩) 5 c7) (.slice none 0 0) (.bool true) (.int .i64 0) (.int .i64 0) 31
    have hD7 := hE7.below ha7 (Nat.le_refl _)
    have hbw7 := hbw6.trans (hbc7.mono hbw6.size)
    clear hR3_4_5_6 hR4_5_6 hR5_6 hR6 hD3_4_5_6 hD4_5_6 hD5_6 hD6 hbw6 hE7 ha7 hbc7 hb7 hlt7 hcc7 hc7
    have q0 := hR7.c0
    have q1 := hR7.c1
    have q2 := hR7.c2
    have q3 := hR7.c3
    have q4 := hR7.c4
    go_wp2_with fail
    clear q0 q1 q2 q3 q4
    generalize w7.alloc (.cells #[.slice (some ⟨b7, 0, none⟩) 5 c7, .slice none 0 0, .bool true, .int .i64 0, .int .i64 0] 31) = W7 at hR3_4_5_6_7 hR4_5_6_7 hR5_6_7 hR6_7 hR7 hD3_4_5_6_7 hD4_5_6_7 hD5_6_7 hD6_7 hD7 hbw7 ⊢
    generalize w7.heap.size = h7 at hR7 ⊢
    refine (show Calls Try.prog 10 #[_, .agg #[.int .u64 18446744073709551615, .int .i64 x, .int .i64 0]] W7 (RetE S false (-1) W7) from startE _ S true 0 18446744073709551615 x 0 W7 hD7 HSZ.out (by decide) (by decide) (by decide) (by decide)).mono ?_
    rintro e w8 ⟨v8, rfl, ⟨b8, c8, rfl, hlt8, hcc8, hc8⟩, hb8⟩
    have hE8 : IsE w8 (.agg #[.slice (some ⟨b8, 0, none⟩) 5 c8, .slice none 0 0, .bool false, .int .i64 (-1), .int .i64 0]) S false (-1) := ⟨b8, c8, rfl, hlt8, hcc8, hc8⟩
    have ha8 := ((Below.refl w8.heap.size w8).alloc (Nat.le_refl _) (.cells #[.slice (some ⟨b8, 0, none⟩) 5 c8, .slice none 0 0, .bool false, .int .i64 (-1), .int .i64 0] 31))
    have hbc8 := hb8.trans (ha8.mono hb8.size)
    have hR3_4_5_6_7_8 := hR3_4_5_6_7.below hbc8 (World.block_lt_of_cell? _ _ hR3_4_5_6_7.c0)
    have hR4_5_6_7_8 := hR4_5_6_7.below hbc8 (World.block_lt_of_cell? _ _ hR4_5_6_7.c0)
    have hR5_6_7_8 := hR5_6_7.below hbc8 (World.block_lt_of_cell? _ _ hR5_6_7.c0)
    have hR6_7_8 := hR6_7.below hbc8 (World.block_lt_of_cell? _ _ hR6_7.c0)
    have hR7_8 := hR7.below hbc8 (World.block_lt_of_cell? _ _ hR7.c0)
    have hD3_4_5_6_7_8 := hD3_4_5_6_7.below hbc8 (Nat.le_refl _)
    have hD4_5_6_7_8 := hD4_5_6_7.below hbc8 (Nat.le_refl _)
    have hD5_6_7_8 := hD5_6_7.below hbc8 (Nat.le_refl _)
    have hD6_7_8 := hD6_7.below hbc8 (Nat.le_refl _)
    have hD7_8 := hD7.below hbc8 (Nat.le_refl _)
    have hR8 := Box5.new w8 (.slice (some ⟨b8, 0, none⟩) 5 c8) (.slice none 0 0) (.bool false) (.int .i64 (-1)) (.int .i64 0) 31
    have hD8 := hE8.below ha8 (Nat.le_refl _)
    have hbw8 := hbw7.trans (hbc8.mono hbw7.size)
    clear hR3_4_5_6_7 hR4_5_6_7 hR5_6_7 hR6_7 hR7 hD3_4_5_6_7 hD4_5_6_7 hD5_6_7 hD6_7 hD7 hbw7 hE8 ha8 hbc8 hb8 hlt8 hcc8 hc8
    have q0 := hR8.c0
    have q1 := hR8.c1
    have q2 := hR8.c2
    have q3 := hR8.c3
    have q4 := hR8.c4
    go_upto_region 9 with fail
    clear q0 q1 q2 q3 q4
    generalize w8.alloc (.cells #[.slice (some ⟨b8, 0, none⟩) 5 c8, .slice none 0 0, .bool false, .int .i64 (-1), .int .i64 0] 31) = W8 at hR3_4_5_6_7_8 hR4_5_6_7_8 hR5_6_7_8 hR6_7_8 hR7_8 hR8 hD3_4_5_6_7_8 hD4_5_6_7_8 hD5_6_7_8 hD6_7_8 hD7_8 hD8 hbw8 ⊢
    generalize w8.heap.size = h8 at hR8 ⊢
    have hX := hR8
    have hY := hR3_4_5_6_7_8
    have hP := hR4_5_6_7_8
    have hQ := hR7_8
    obtain ⟨bs, cs, es, hbs, _, hcs⟩ := hD8
    obtain ⟨bd, cd, ed, hbd, _, hcd⟩ := hD3_4_5_6_7_8
    obtain ⟨bx, cx, ex, hbx, _, hcx⟩ := hD4_5_6_7_8
    obtain ⟨bw, cw, ew, hbw, _, hcw⟩ := hD7_8
    simp only [Value.agg.injEq, Array.mk.injEq, List.cons.injEq, Value.slice.injEq, Option.some.injEq, Addr.mk.injEq, and_true, true_and] at es ed ex ew
    obtain ⟨rfl, rfl⟩ := es
    obtain ⟨rfl, rfl⟩ := ed
    obtain ⟨rfl, rfl⟩ := ex
    obtain ⟨rfl, rfl⟩ := ew
    have HCS := Lib.hid hcs
    have HCD := Lib.hid hcd
    have HCX := Lib.hid hcx
    have HCW := Lib.hid hcw
    have e0 := hX.c0
    have f0 := hY.c0
    clear hcs hcd hcx hcw HSZ HA hR3_4_5_6_7_8 hR4_5_6_7_8 hR5_6_7_8 hR6_7_8 hR7_8 hR8
    go_wp2_with fail
    clear e0 f0
    go_loopw [18] (fun i wr => ∃ q : Nat, q ≤ 5 ∧ i = .int .i64 q ∧ Below W8.heap.size W8 wr) (fun i _ => 5 - (intOf i).toNat)
    case atStart => exact ⟨0, Nat.zero_le _, rfl, Below.refl _ _⟩
    case round =>
      obtain ⟨q, hq, rfl, hbr⟩ := hrel
      have hX5 := hX.below hbr (World.block_lt_of_cell? _ _ hX.c0)
      have hY5 := hY.below hbr (World.block_lt_of_cell? _ _ hY.c0)
      have e0 := hX5.c0
      have f0 := hY5.c0
      by_cases hqn : q < 5
      · have k1 := (hbr.cell (p := ⟨b8, q, none⟩) hbs).trans (HCS.out q hqn)
        have k2 := (hbr.cell (p := ⟨b3, q, none⟩) hbd).trans (HCD.out q hqn)
        have i1 : (0 : Int) ≤ (q : Int) := by omega
        have i2 : (q : Int) < 5 := by omega
        go_wp2
        go_quiet (fail)
        go_wp2
        go_roundw
        case rel => exact ⟨q + 1, by omega, by go_num, below_drewN hbr _⟩
        case measure => simp [intOf]; omega
      · obtain rfl : q = 5 := by omega
        have hbwr := hbw8.trans (hbr.mono hbw8.size)
        go_wp2_with fail
        refine (AW.out _).mono ?_
        rintro e F0 ⟨rfl, hf0⟩
        have hbF := hbr.trans (hf0.mono hbr.size)
        have hbwF := hbwr.trans (hf0.mono hbwr.size)
        have hX6 := hX.below hbF (World.block_lt_of_cell? _ _ hX.c0)
        have hP6 := hP.below hbF (World.block_lt_of_cell? _ _ hP.c0)
        have hQ6 := hQ.below hbF (World.block_lt_of_cell? _ _ hQ.c0)
        have p0 := hP6.c0
        have p1 := hP6.c1
        have p2 := hP6.c2
        have p3 := hP6.c3
        have p4 := hP6.c4
        have q0 := hQ6.c0
        have q1 := hQ6.c1
        have q2 := hQ6.c2
        have q3 := hQ6.c3
        have q4 := hQ6.c4
        clear e0 f0 hX5 hY5 hbr hf0 hbwr
        go_wp2_with fail
        refine (same_any b4 c4 b7 c7 5 S true 0 0 F0 (by omega) (Nat.lt_of_lt_of_le hbx hbF.size) (Nat.lt_of_lt_of_le hbw hbF.size) (fun j hj => (hbF.cell (p := ⟨b4, j, none⟩) hbx).trans (HCX.out j hj)) (fun j hj => (hbF.cell (p := ⟨b7, j, none⟩) hbw).trans (HCW.out j hj))).mono ?_
        rintro e F1 ⟨rfl, hf1⟩
        have x2 := (hX6.below hf1 (World.block_lt_of_cell? _ _ hX6.c0)).c2
        clear p0 p1 p2 p3 p4 q0 q1 q2 q3 q4
        go_wp2
        go_ret
        exact ⟨rfl, hbwF.trans (hf1.mono hbwF.size)⟩
end Go.Proofs.Ytnmgaafpbbeceaa
