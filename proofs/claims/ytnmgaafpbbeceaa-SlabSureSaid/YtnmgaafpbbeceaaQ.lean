/- The document's examples: awake, as the law calls it. -/
import Derived.Test.YtnmgaafpbbeceaaP
import Derived.Lib.QuietBelow
namespace Go.Proofs.Ytnmgaafpbbeceaa
open Go.RowKit Go.Shelf Go.Sort

set_option maxRecDepth 100000 in
set_option maxHeartbeats 8000000 in
theorem awake_any (w : World) : Calls Try.prog 8 #[] w fun e w' => e = .returned (.bool true) ∧ Below w.heap.size w w' := by
  go_enter Try.func8, Try.ntmps8
  go_wp2_with fail
  refine (new_any 2 _ (by omega) (by omega)).mono ?_
  rintro e w1 ⟨v1, rfl, ⟨b1, B1, c1, k1, rfl, hlt1, hnc1, hc1, hl1, h01⟩, hb1⟩
  have hd1 : IsDev w1 (.agg #[.slice (some ⟨b1, 0, none⟩) (fresh 2).n c1, .slice B1 (fresh 2).m k1, .bool (fresh 2).dead, .int .i64 (fresh 2).left, .int .i64 (fresh 2).deeds]) (fresh 2) := ⟨b1, B1, c1, k1, rfl, hlt1, hnc1, hc1, hl1, h01⟩
  clear hc1 hl1 h01 hlt1 hnc1
  have hx := Box5.new w1 (.slice (some ⟨b1, 0, none⟩) (fresh 2).n c1) (.slice B1 (fresh 2).m k1) (.bool (fresh 2).dead) (.int .i64 (fresh 2).left) (.int .i64 (fresh 2).deeds) 31
  have hdv := hd1.below ((Below.refl w1.heap.size w1).alloc (Nat.le_refl _) (.cells #[.slice (some ⟨b1, 0, none⟩) (fresh 2).n c1, .slice B1 (fresh 2).m k1, .bool (fresh 2).dead, .int .i64 (fresh 2).left, .int .i64 (fresh 2).deeds] 31)) (Nat.le_refl _)
  have hbw := hb1.alloc hb1.size (.cells #[.slice (some ⟨b1, 0, none⟩) (fresh 2).n c1, .slice B1 (fresh 2).m k1, .bool (fresh 2).dead, .int .i64 (fresh 2).left, .int .i64 (fresh 2).deeds] 31)
  have hgw := hb1.size
  clear hd1 hb1
  go_wp2_with fail
  generalize w1.alloc (.cells #[.slice (some ⟨b1, 0, none⟩) (fresh 2).n c1, .slice B1 (fresh 2).m k1, .bool (fresh 2).dead, .int .i64 (fresh 2).left, .int .i64 (fresh 2).deeds] 31) = W1 at hx hdv hbw ⊢
  generalize w1.heap.size = g at hx hgw ⊢
  refine (show Calls Try.prog 12 #[_, .int .i64 1, .string sab] W1 (DevErr dv1 0 W1) from put_ok _ (fresh 2) 1 sab _ hdv ok0 (by omega) sz_ab (has_1 _ rfl) rfl ).mono ?_
  rintro e w2 ⟨v2, rfl, ⟨b2, B2, c2, k2, rfl, hlt2, hnc2, hc2, hl2, h02⟩, hb2⟩
  have hd2 : IsDev w2 (.agg #[.slice (some ⟨b2, 0, none⟩) dv1.n c2, .slice B2 dv1.m k2, .bool dv1.dead, .int .i64 dv1.left, .int .i64 dv1.deeds]) dv1 := ⟨b2, B2, c2, k2, rfl, hlt2, hnc2, hc2, hl2, h02⟩
  clear hc2 hl2 h02 hlt2 hnc2
  have hgl2 : g < W1.heap.size := World.block_lt_of_cell? _ _ hx.c0
  have hx2 := hx.below hb2 hgl2
  have hbw2 := hbw.trans (hb2.mono hbw.size)
  clear hx hbw hb2 hgl2
  go_wp2_with
    (refine wpList_store5 rfl 31 (.tmp 1) (.tmp 24) rfl g _ _ _ _ _ _ _ _ _ _ rfl rfl hx2 size31 (by simp [Value.oneCell']) ?_
     intro W2 hxx2 hbut2
     have hdv2 := hd2.but (D := dv1) (by first | exact ok1.n1 | exact ok2.n1 | exact ok3.n1) hx2.c0 hbut2
     have hbx2 := hbw2.trans (hbut2.below hgw)
     have q0 := hxx2.c0
     have q1 := hxx2.c1
     have q2 := hxx2.c2
     have q3 := hxx2.c3
     have q4 := hxx2.c4
     clear hx2 hd2 hbut2 hbw2)
  clear hdv
  clear q0 q1 q2 q3 q4
  refine (show Calls Try.prog 9 #[_] W2 (DevErr dv2 0 W2) from flush_ok _ dv1 _ hdv2 ok1 (by omega) rfl ).mono ?_
  rintro e w3 ⟨v3, rfl, ⟨b3, B3, c3, k3, rfl, hlt3, hnc3, hc3, hl3, h03⟩, hb3⟩
  have hd3 : IsDev w3 (.agg #[.slice (some ⟨b3, 0, none⟩) dv2.n c3, .slice B3 dv2.m k3, .bool dv2.dead, .int .i64 dv2.left, .int .i64 dv2.deeds]) dv2 := ⟨b3, B3, c3, k3, rfl, hlt3, hnc3, hc3, hl3, h03⟩
  clear hc3 hl3 h03 hlt3 hnc3
  have hgl3 : g < W2.heap.size := World.block_lt_of_cell? _ _ hxx2.c0
  have hx3 := hxx2.below hb3 hgl3
  have hbw3 := hbx2.trans (hb3.mono hbx2.size)
  clear hxx2 hbx2 hb3 hgl3
  go_wp2_with
    (refine wpList_store5 rfl 31 (.tmp 1) (.tmp 29) rfl g _ _ _ _ _ _ _ _ _ _ rfl rfl hx3 size31 (by simp [Value.oneCell']) ?_
     intro W3 hxx3 hbut3
     have hdv3 := hd3.but (D := dv2) (by first | exact ok1.n1 | exact ok2.n1 | exact ok3.n1) hx3.c0 hbut3
     have hbx3 := hbw3.trans (hbut3.below hgw)
     have q0 := hxx3.c0
     have q1 := hxx3.c1
     have q2 := hxx3.c2
     have q3 := hxx3.c3
     have q4 := hxx3.c4
     clear hx3 hd3 hbut3 hbw3)
  clear hdv2
  clear q0 q1 q2 q3 q4
  refine (show Calls Try.prog 12 #[_, .int .i64 1, .string sxyz] W3 (DevErr dv3 0 W3) from put_ok _ dv2 1 sxyz _ hdv3 ok2 (by omega) sz_xyz (has_1 _ rfl) rfl ).mono ?_
  rintro e w4 ⟨v4, rfl, ⟨b4, B4, c4, k4, rfl, hlt4, hnc4, hc4, hl4, h04⟩, hb4⟩
  have hd4 : IsDev w4 (.agg #[.slice (some ⟨b4, 0, none⟩) dv3.n c4, .slice B4 dv3.m k4, .bool dv3.dead, .int .i64 dv3.left, .int .i64 dv3.deeds]) dv3 := ⟨b4, B4, c4, k4, rfl, hlt4, hnc4, hc4, hl4, h04⟩
  clear hc4 hl4 h04 hlt4 hnc4
  have hgl4 : g < W3.heap.size := World.block_lt_of_cell? _ _ hxx3.c0
  have hx4 := hxx3.below hb4 hgl4
  have hbw4 := hbx3.trans (hb4.mono hbx3.size)
  clear hxx3 hbx3 hb4 hgl4
  go_wp2_with
    (refine wpList_store5 rfl 31 (.tmp 1) (.tmp 34) rfl g _ _ _ _ _ _ _ _ _ _ rfl rfl hx4 size31 (by simp [Value.oneCell']) ?_
     intro W4 hxx4 hbut4
     have hdv4 := hd4.but (D := dv3) (by first | exact ok1.n1 | exact ok2.n1 | exact ok3.n1) hx4.c0 hbut4
     have hbx4 := hbw4.trans (hbut4.below hgw)
     have q0 := hxx4.c0
     have q1 := hxx4.c1
     have q2 := hxx4.c2
     have q3 := hxx4.c3
     have q4 := hxx4.c4
     clear hx4 hd4 hbut4 hbw4)
  clear hdv3
  clear q0 q1 q2 q3 q4
  refine (show Calls Try.prog 15 #[_, .int .i64 1] W4 (GetErr dx (padB sxyz) 0 W4) from (by have hh := get_ok (K := 3) _ dv3 1 W4 hdv4 ok3 (by omega) (has_1 _ rfl) rfl; rw [look3] at hh; exact hh)).mono ?_
  rintro e w5 ⟨v5, rfl, ⟨b5, B5, c5, k5, rfl, hlt5, hnc5, hc5, hl5, h05⟩, hb5⟩
  clear hc5 hl5 h05 hlt5 hnc5
  have ha5 := ((Below.refl w5.heap.size w5).alloc (Nat.le_refl _) (.cells #[.slice (some ⟨b5, 0, none⟩) dx.n c5, .slice B5 dx.m k5, .bool dx.dead, .int .i64 dx.left, .int .i64 dx.deeds] 31))
  have hbc5 := hb5.trans (ha5.mono hb5.size)
  have hxx4_5 := hxx4.below hbc5 (World.block_lt_of_cell? _ _ hxx4.c0)
  have hR5 := Box5.new w5 (.slice (some ⟨b5, 0, none⟩) dx.n c5) (.slice B5 dx.m k5) (.bool dx.dead) (.int .i64 dx.left) (.int .i64 dx.deeds) 31
  have hdv5 := hdv4.below hbc5 (Nat.le_refl _)
  have hbx5 := hbx4.trans (hbc5.mono hbx4.size)
  clear hxx4 hdv4 hbx4 ha5 hbc5 hb5
  have q0 := hxx4_5.c0
  have q1 := hxx4_5.c1
  have q2 := hxx4_5.c2
  have q3 := hxx4_5.c3
  have q4 := hxx4_5.c4
  go_wp2_with fail
  clear q0 q1 q2 q3 q4
  generalize w5.alloc (.cells #[.slice (some ⟨b5, 0, none⟩) dx.n c5, .slice B5 dx.m k5, .bool dx.dead, .int .i64 dx.left, .int .i64 dx.deeds] 31) = W5 at hxx4_5 hR5 hdv5 hbx5 ⊢
  generalize w5.heap.size = h5 at hR5 ⊢
  refine (show Calls Try.prog 10 #[_, .agg #[.int .u64 0, .int .i64 0, .int .i64 1]] W5 (DevRet dt W5) from start_any _ dv3 ⟨0, 0, 1⟩ _ hdv5 ok3 (by omega) (by decide) (by decide)).mono ?_
  rintro e w6 ⟨v6, rfl, ⟨b6, B6, c6, k6, rfl, hlt6, hnc6, hc6, hl6, h06⟩, hb6⟩
  have hS6 : w6.cell? ⟨b6, 1, none⟩ = some (.string (padB sxb)) := by rw [← dt_S]; exact hc6 1 (by decide)
  clear hc6 hl6 h06 hlt6 hnc6
  have ha6 := ((Below.refl w6.heap.size w6).alloc (Nat.le_refl _) (.cells #[.slice (some ⟨b6, 0, none⟩) dt.n c6, .slice B6 dt.m k6, .bool dt.dead, .int .i64 dt.left, .int .i64 dt.deeds] 31))
  have hbc6 := hb6.trans (ha6.mono hb6.size)
  have hxx4_5_6 := hxx4_5.below hbc6 (World.block_lt_of_cell? _ _ hxx4_5.c0)
  have hR5_6 := hR5.below hbc6 (World.block_lt_of_cell? _ _ hR5.c0)
  have hSS6 := (ha6.cell (p := ⟨b6, 1, none⟩) (World.block_lt_of_cell? _ _ hS6)).trans hS6
  have hR6 := Box5.new w6 (.slice (some ⟨b6, 0, none⟩) dt.n c6) (.slice B6 dt.m k6) (.bool dt.dead) (.int .i64 dt.left) (.int .i64 dt.deeds) 31
  have hdv6 := hdv5.below hbc6 (Nat.le_refl _)
  have hbx6 := hbx5.trans (hbc6.mono hbx5.size)
  clear hxx4_5 hR5 hdv5 hbx5 ha6 hbc6 hb6 hS6
  have q0 := hxx4_5_6.c0
  have q1 := hxx4_5_6.c1
  have q2 := hxx4_5_6.c2
  have q3 := hxx4_5_6.c3
  have q4 := hxx4_5_6.c4
  go_wp2_with fail
  clear q0 q1 q2 q3 q4
  generalize w6.alloc (.cells #[.slice (some ⟨b6, 0, none⟩) dt.n c6, .slice B6 dt.m k6, .bool dt.dead, .int .i64 dt.left, .int .i64 dt.deeds] 31) = W6 at hxx4_5_6 hR5_6 hR6 hSS6 hdv6 hbx6 ⊢
  generalize w6.heap.size = h6 at hR6 ⊢
  refine (show Calls Try.prog 10 #[_, .agg #[.int .u64 0, .int .i64 (-1), .int .i64 0]] W6 (DevRet du W6) from start_any _ dv3 ⟨0, -1, 0⟩ _ hdv6 ok3 (by omega) (by decide) (by decide)).mono ?_
  rintro e w7 ⟨v7, rfl, ⟨b7, B7, c7, k7, rfl, hlt7, hnc7, hc7, hl7, h07⟩, hb7⟩
  have hS7 : w7.cell? ⟨b7, 1, none⟩ = some (.string (padB sab)) := by rw [← du_S]; exact hc7 1 (by decide)
  clear hc7 hl7 h07 hlt7 hnc7
  have ha7 := ((Below.refl w7.heap.size w7).alloc (Nat.le_refl _) (.cells #[.slice (some ⟨b7, 0, none⟩) du.n c7, .slice B7 du.m k7, .bool du.dead, .int .i64 du.left, .int .i64 du.deeds] 31))
  have hbc7 := hb7.trans (ha7.mono hb7.size)
  have hxx4_5_6_7 := hxx4_5_6.below hbc7 (World.block_lt_of_cell? _ _ hxx4_5_6.c0)
  have hR5_6_7 := hR5_6.below hbc7 (World.block_lt_of_cell? _ _ hR5_6.c0)
  have hR6_7 := hR6.below hbc7 (World.block_lt_of_cell? _ _ hR6.c0)
  have hSS6_7 := (hbc7.cell (p := ⟨b6, 1, none⟩) (World.block_lt_of_cell? _ _ hSS6)).trans hSS6
  have hSS7 := (ha7.cell (p := ⟨b7, 1, none⟩) (World.block_lt_of_cell? _ _ hS7)).trans hS7
  have hR7 := Box5.new w7 (.slice (some ⟨b7, 0, none⟩) du.n c7) (.slice B7 du.m k7) (.bool du.dead) (.int .i64 du.left) (.int .i64 du.deeds) 31
  have hdv7 := hdv6.below hbc7 (Nat.le_refl _)
  have hbx7 := hbx6.trans (hbc7.mono hbx6.size)
  clear hxx4_5_6 hR5_6 hR6 hSS6 hdv6 hbx6 ha7 hbc7 hb7 hS7
  have q0 := hxx4_5_6_7.c0
  have q1 := hxx4_5_6_7.c1
  have q2 := hxx4_5_6_7.c2
  have q3 := hxx4_5_6_7.c3
  have q4 := hxx4_5_6_7.c4
  go_wp2_with fail
  clear q0 q1 q2 q3 q4
  generalize w7.alloc (.cells #[.slice (some ⟨b7, 0, none⟩) du.n c7, .slice B7 du.m k7, .bool du.dead, .int .i64 du.left, .int .i64 du.deeds] 31) = W7 at hxx4_5_6_7 hR5_6_7 hR6_7 hR7 hSS6_7 hSS7 hdv7 hbx7 ⊢
  generalize w7.heap.size = h7 at hR7 ⊢
  refine (show Calls Try.prog 10 #[_, .agg #[.int .u64 1, .int .i64 (-1), .int .i64 0]] W7 (DevRet dw W7) from start_any _ dv3 ⟨1, -1, 0⟩ _ hdv7 ok3 (by omega) (by decide) (by decide)).mono ?_
  rintro e w8 ⟨v8, rfl, ⟨b8, B8, c8, k8, rfl, hlt8, hnc8, hc8, hl8, h08⟩, hb8⟩
  have hS8 : w8.cell? ⟨b8, 1, none⟩ = some (.string (padB sxyz)) := by rw [← dw_S]; exact hc8 1 (by decide)
  clear hc8 hl8 h08 hlt8 hnc8
  have ha8 := ((Below.refl w8.heap.size w8).alloc (Nat.le_refl _) (.cells #[.slice (some ⟨b8, 0, none⟩) dw.n c8, .slice B8 dw.m k8, .bool dw.dead, .int .i64 dw.left, .int .i64 dw.deeds] 31))
  have hbc8 := hb8.trans (ha8.mono hb8.size)
  have hxx4_5_6_7_8 := hxx4_5_6_7.below hbc8 (World.block_lt_of_cell? _ _ hxx4_5_6_7.c0)
  have hR5_6_7_8 := hR5_6_7.below hbc8 (World.block_lt_of_cell? _ _ hR5_6_7.c0)
  have hR6_7_8 := hR6_7.below hbc8 (World.block_lt_of_cell? _ _ hR6_7.c0)
  have hR7_8 := hR7.below hbc8 (World.block_lt_of_cell? _ _ hR7.c0)
  have hSS6_7_8 := (hbc8.cell (p := ⟨b6, 1, none⟩) (World.block_lt_of_cell? _ _ hSS6_7)).trans hSS6_7
  have hSS7_8 := (hbc8.cell (p := ⟨b7, 1, none⟩) (World.block_lt_of_cell? _ _ hSS7)).trans hSS7
  have hSS8 := (ha8.cell (p := ⟨b8, 1, none⟩) (World.block_lt_of_cell? _ _ hS8)).trans hS8
  have hR8 := Box5.new w8 (.slice (some ⟨b8, 0, none⟩) dw.n c8) (.slice B8 dw.m k8) (.bool dw.dead) (.int .i64 dw.left) (.int .i64 dw.deeds) 31
  have hdv8 := hdv7.below hbc8 (Nat.le_refl _)
  have hbx8 := hbx7.trans (hbc8.mono hbx7.size)
  clear hxx4_5_6_7 hR5_6_7 hR6_7 hR7 hSS6_7 hSS7 hdv7 hbx7 ha8 hbc8 hb8 hS8
  have q0 := hxx4_5_6_7_8.c0
  have q1 := hxx4_5_6_7_8.c1
  have q2 := hxx4_5_6_7_8.c2
  have q3 := hxx4_5_6_7_8.c3
  have q4 := hxx4_5_6_7_8.c4
  go_wp2_with fail
  clear q0 q1 q2 q3 q4
  generalize w8.alloc (.cells #[.slice (some ⟨b8, 0, none⟩) dw.n c8, .slice B8 dw.m k8, .bool dw.dead, .int .i64 dw.left, .int .i64 dw.deeds] 31) = W8 at hxx4_5_6_7_8 hR5_6_7_8 hR6_7_8 hR7_8 hR8 hSS6_7_8 hSS7_8 hSS8 hdv8 hbx8 ⊢
  generalize w8.heap.size = h8 at hR8 ⊢
  refine (show Calls Try.prog 15 #[_, .int .i64 2] W8 (GetErr dv3 ⟨#[]⟩ 1 W8) from get_arg _ dv3 2 W8 hdv8 (has_2 _ rfl)).mono ?_
  rintro e w9 ⟨v9, rfl, ⟨b9, B9, c9, k9, rfl, hlt9, hnc9, hc9, hl9, h09⟩, hb9⟩
  clear hc9 hl9 h09 hlt9 hnc9
  have ha9 := ((Below.refl w9.heap.size w9).alloc (Nat.le_refl _) (.cells #[.slice (some ⟨b9, 0, none⟩) dv3.n c9, .slice B9 dv3.m k9, .bool dv3.dead, .int .i64 dv3.left, .int .i64 dv3.deeds] 31))
  have hbc9 := hb9.trans (ha9.mono hb9.size)
  have hxx4_5_6_7_8_9 := hxx4_5_6_7_8.below hbc9 (World.block_lt_of_cell? _ _ hxx4_5_6_7_8.c0)
  have hR5_6_7_8_9 := hR5_6_7_8.below hbc9 (World.block_lt_of_cell? _ _ hR5_6_7_8.c0)
  have hR6_7_8_9 := hR6_7_8.below hbc9 (World.block_lt_of_cell? _ _ hR6_7_8.c0)
  have hR7_8_9 := hR7_8.below hbc9 (World.block_lt_of_cell? _ _ hR7_8.c0)
  have hR8_9 := hR8.below hbc9 (World.block_lt_of_cell? _ _ hR8.c0)
  have hSS6_7_8_9 := (hbc9.cell (p := ⟨b6, 1, none⟩) (World.block_lt_of_cell? _ _ hSS6_7_8)).trans hSS6_7_8
  have hSS7_8_9 := (hbc9.cell (p := ⟨b7, 1, none⟩) (World.block_lt_of_cell? _ _ hSS7_8)).trans hSS7_8
  have hSS8_9 := (hbc9.cell (p := ⟨b8, 1, none⟩) (World.block_lt_of_cell? _ _ hSS8)).trans hSS8
  have hR9 := Box5.new w9 (.slice (some ⟨b9, 0, none⟩) dv3.n c9) (.slice B9 dv3.m k9) (.bool dv3.dead) (.int .i64 dv3.left) (.int .i64 dv3.deeds) 31
  have hdv9 := hdv8.below hbc9 (Nat.le_refl _)
  have hbx9 := hbx8.trans (hbc9.mono hbx8.size)
  clear hxx4_5_6_7_8 hR5_6_7_8 hR6_7_8 hR7_8 hR8 hSS6_7_8 hSS7_8 hSS8 hdv8 hbx8 ha9 hbc9 hb9
  have q0 := hxx4_5_6_7_8_9.c0
  have q1 := hxx4_5_6_7_8_9.c1
  have q2 := hxx4_5_6_7_8_9.c2
  have q3 := hxx4_5_6_7_8_9.c3
  have q4 := hxx4_5_6_7_8_9.c4
  go_wp2_with fail
  clear q0 q1 q2 q3 q4
  generalize w9.alloc (.cells #[.slice (some ⟨b9, 0, none⟩) dv3.n c9, .slice B9 dv3.m k9, .bool dv3.dead, .int .i64 dv3.left, .int .i64 dv3.deeds] 31) = W9 at hxx4_5_6_7_8_9 hR5_6_7_8_9 hR6_7_8_9 hR7_8_9 hR8_9 hR9 hSS6_7_8_9 hSS7_8_9 hSS8_9 hdv9 hbx9 ⊢
  generalize w9.heap.size = h9 at hR9 ⊢
  refine (show Calls Try.prog 14 #[_, .int .i64 0] W9 (fun e w' => ∃ v', e = .returned v' ∧ IsDev w' v' da ∧ Below W9.heap.size W9 w') from arm_dev _ dv3 0 W9 hdv9).mono ?_
  rintro e w10 ⟨v10, rfl, hdv10, hb10⟩
  have hxx4_5_6_7_8_9_a := hxx4_5_6_7_8_9.below hb10 (World.block_lt_of_cell? _ _ hxx4_5_6_7_8_9.c0)
  have hR5_6_7_8_9_a := hR5_6_7_8_9.below hb10 (World.block_lt_of_cell? _ _ hR5_6_7_8_9.c0)
  have hR6_7_8_9_a := hR6_7_8_9.below hb10 (World.block_lt_of_cell? _ _ hR6_7_8_9.c0)
  have hR7_8_9_a := hR7_8_9.below hb10 (World.block_lt_of_cell? _ _ hR7_8_9.c0)
  have hR8_9_a := hR8_9.below hb10 (World.block_lt_of_cell? _ _ hR8_9.c0)
  have hR9_a := hR9.below hb10 (World.block_lt_of_cell? _ _ hR9.c0)
  have hSS6_7_8_9_a := (hb10.cell (p := ⟨b6, 1, none⟩) (World.block_lt_of_cell? _ _ hSS6_7_8_9)).trans hSS6_7_8_9
  have hSS7_8_9_a := (hb10.cell (p := ⟨b7, 1, none⟩) (World.block_lt_of_cell? _ _ hSS7_8_9)).trans hSS7_8_9
  have hSS8_9_a := (hb10.cell (p := ⟨b8, 1, none⟩) (World.block_lt_of_cell? _ _ hSS8_9)).trans hSS8_9
  have hbx10 := hbx9.trans (hb10.mono hbx9.size)
  clear hxx4_5_6_7_8_9 hR5_6_7_8_9 hR6_7_8_9 hR7_8_9 hR8_9 hR9 hSS6_7_8_9 hSS7_8_9 hSS8_9 hdv9 hbx9 hb10
  obtain ⟨ba, Ba, ca, ka, rfl, hlta, hnca, hca, hla, h0a⟩ := hdv10
  have hdv10 : IsDev w10 (.agg #[.slice (some ⟨ba, 0, none⟩) da.n ca, .slice Ba da.m ka, .bool da.dead, .int .i64 da.left, .int .i64 da.deeds]) da := ⟨ba, Ba, ca, ka, rfl, hlta, hnca, hca, hla, h0a⟩
  clear hlta hnca hca hla h0a
  go_wp2_with fail
  refine (show Calls Try.prog 12 #[_, .int .i64 1, .string ⟨#[]⟩] w10 (DevErr dy 10 w10) from put_down _ da 1 ⟨#[]⟩ w10 hdv10 (by decide) (has_1 _ rfl) rfl).mono ?_
  rintro e w11 ⟨v11, rfl, ⟨b11, B11, c11, k11, rfl, hlt11, hnc11, hc11, hl11, h011⟩, hb11⟩
  clear hc11 hl11 h011 hlt11 hnc11
  have ha11 := ((Below.refl w11.heap.size w11).alloc (Nat.le_refl _) (.cells #[.slice (some ⟨b11, 0, none⟩) dy.n c11, .slice B11 dy.m k11, .bool dy.dead, .int .i64 dy.left, .int .i64 dy.deeds] 31))
  have hbc11 := hb11.trans (ha11.mono hb11.size)
  have z_h5 := hR5_6_7_8_9_a.below hbc11 (World.block_lt_of_cell? _ _ hR5_6_7_8_9_a.c0)
  have z_h6 := hR6_7_8_9_a.below hbc11 (World.block_lt_of_cell? _ _ hR6_7_8_9_a.c0)
  have z_h7 := hR7_8_9_a.below hbc11 (World.block_lt_of_cell? _ _ hR7_8_9_a.c0)
  have z_h8 := hR8_9_a.below hbc11 (World.block_lt_of_cell? _ _ hR8_9_a.c0)
  have z_h9 := hR9_a.below hbc11 (World.block_lt_of_cell? _ _ hR9_a.c0)
  have y_b6 := (hbc11.cell (p := ⟨b6, 1, none⟩) (World.block_lt_of_cell? _ _ hSS6_7_8_9_a)).trans hSS6_7_8_9_a
  have y_b7 := (hbc11.cell (p := ⟨b7, 1, none⟩) (World.block_lt_of_cell? _ _ hSS7_8_9_a)).trans hSS7_8_9_a
  have y_b8 := (hbc11.cell (p := ⟨b8, 1, none⟩) (World.block_lt_of_cell? _ _ hSS8_9_a)).trans hSS8_9_a
  have z_h11 := Box5.new w11 (.slice (some ⟨b11, 0, none⟩) dy.n c11) (.slice B11 dy.m k11) (.bool dy.dead) (.int .i64 dy.left) (.int .i64 dy.deeds) 31
  have hbx11 := hbx10.trans (hbc11.mono hbx10.size)
  clear hxx4_5_6_7_8_9_a hR5_6_7_8_9_a hR6_7_8_9_a hR7_8_9_a hR8_9_a hR9_a hSS6_7_8_9_a hSS7_8_9_a hSS8_9_a hdv10 hbx10 ha11 hbc11 hb11
  go_upto_region 11 with fail
  generalize w11.alloc (.cells #[.slice (some ⟨b11, 0, none⟩) dy.n c11, .slice B11 dy.m k11, .bool dy.dead, .int .i64 dy.left, .int .i64 dy.deeds] 31) = W11 at z_h5 z_h6 z_h7 z_h8 z_h9 z_h11 y_b6 y_b7 y_b8 hbx11 ⊢
  generalize w11.heap.size = h11 at z_h11 ⊢
  have t0 : W11.cell? ⟨h6, 0, none⟩ = some (.slice (some ⟨b6, 0, none⟩) 2 c6) := z_h6.c0
  have u0 : W11.cell? ⟨h7, 0, none⟩ = some (.slice (some ⟨b7, 0, none⟩) 2 c7) := z_h7.c0
  have v0 : W11.cell? ⟨h8, 0, none⟩ = some (.slice (some ⟨b8, 0, none⟩) 2 c8) := z_h8.c0
  have v3 : W11.cell? ⟨h8, 3, none⟩ = some (.int .i64 (-1)) := z_h8.c3
  have v4 : W11.cell? ⟨h8, 4, none⟩ = some (.int .i64 0) := z_h8.c4
  have x4 : W11.cell? ⟨h5, 4, none⟩ = some (.int .i64 4) := z_h5.c4
  have y2 : W11.cell? ⟨h11, 2, none⟩ = some (.bool true) := z_h11.c2
  have s6 : W11.cell? ⟨b6, 1, none⟩ = some (.string (padB sxb)) := y_b6
  have s7 : W11.cell? ⟨b7, 1, none⟩ = some (.string (padB sab)) := y_b7
  have s8 : W11.cell? ⟨b8, 1, none⟩ = some (.string (padB sxyz)) := y_b8
  clear z_h5 z_h6 z_h7 z_h8 z_h9 z_h11 y_b6 y_b7 y_b8
  go_wp2_with fail
  have rt0 := cell_regrown t0
  have ru0 := cell_regrown u0
  have rv0 := cell_regrown v0
  have rv3 := cell_regrown v3
  have rv4 := cell_regrown v4
  have rx4 := cell_regrown x4
  have ry2 := cell_regrown y2
  have rs6 := cell_regrown s6
  have rs7 := cell_regrown s7
  have rs8 := cell_regrown s8
  have cC1 : ∀ d os, Calls Try.prog 16 #[.string ⟨#[120, 121, 122]⟩] (grow (redrawn W11 d) os) fun e w'' => e = .returned (.string (padB sxyz)) ∧ ∃ p : Regrown, w'' = grow (redrawn W11 p.d) p.os := fun d os => Calls.regrown_of (full_any sxyz _ sz_xyz)
  have C1 := Lib.hid cC1
  clear cC1
  have cC2 : ∀ d os, Calls Try.prog 16 #[.string ⟨#[120, 98]⟩] (grow (redrawn W11 d) os) fun e w'' => e = .returned (.string (padB sxb)) ∧ ∃ p : Regrown, w'' = grow (redrawn W11 p.d) p.os := fun d os => Calls.regrown_of (full_any sxb _ (by decide))
  have C2 := Lib.hid cC2
  clear cC2
  have cC3 : ∀ d os, Calls Try.prog 16 #[.string ⟨#[97, 98]⟩] (grow (redrawn W11 d) os) fun e w'' => e = .returned (.string (padB sab)) ∧ ∃ p : Regrown, w'' = grow (redrawn W11 p.d) p.os := fun d os => Calls.regrown_of (full_any sab _ sz_ab)
  have C3 := Lib.hid cC3
  clear cC3
  clear t0 u0 v0 v3 v4 x4 y2 s6 s7 s8
  refine wp_region_quiet_below (by kernel_rfl) (by kernel_rfl) ?_
  repeat (quiet_step ((first | exact C1.out _ _ | exact C2.out _ _ | exact C3.out _ _)))
  refine wpQuiet_nil ?_
  intro Wz hw'
  obtain ⟨⟨dq, osq⟩, hw''⟩ := hw'
  subst hw''
  go_wp2
  go_ret
  exact ⟨rfl, hbx11.trans ((below_regrown W11 dq osq).mono hbx11.size)⟩
end Go.Proofs.Ytnmgaafpbbeceaa
