/- PlotTells, walked. -/
import Derived.Test.YtbeojghlldiniaaPlG
import Derived.Test.YtbeojghlldiniaaXuz
namespace Go.Proofs.Ytbeojghlldiniaa.Pl
open Go.RowKit Lex
section
variable {w : World}
theorem tells_no (s : ByteArray) (l0 l1 l2 : Int) (t : Bool) (hs : 300 < s.size ∨ 1000 < l2) (hs2 : s.size ≤ 9223372036854775807) :
    Calls Try.prog 3 #[.string s, .agg #[.int .i64 l0, .int .i64 l1, .int .i64 l2], .bool t] w fun e w' => e = .returned (.bool true) ∧ Below w.heap.size w w' := by
  have hbox := (Below.refl w.heap.size w).alloc (Nat.le_refl _) (.cells #[.int .i64 l0, .int .i64 l1, .int .i64 l2] 22)
  have HH : Hid (decide ((300 : Int) < (s.size : Int)) = true ∨ (decide ((300 : Int) < (s.size : Int)) = false ∧ decide (1000 < l2) = true)) := by
    refine Lib.hid ?_
    by_cases h : 300 < s.size
    · left; exact decide_eq_true (by omega)
    · right; exact ⟨decide_eq_false (by omega), decide_eq_true (by omega)⟩
  clear hs
  rcases HH.out with d1 | ⟨d1, d2⟩
  all_goals
    go_enter Try.func3, Try.ntmps3
    go_wp2_with fail
    refine (awake_any _).mono ?_
    rintro e w1 ⟨rfl, hb1⟩
    go_wp2
    go_ret
    exact ⟨rfl, hbox.trans (hb1.mono hbox.size)⟩
theorem pick_short {l : List UInt8} {p n : Nat} : ((pickL l p n).getD []).length ≤ 1000 := by
  cases h : pickL l p n with
  | none => exact Nat.zero_le _
  | some r =>
    have h1 : r.length ≤ (freeL l p).length := by
      unfold pickL at h
      split at h
      · injection h with h
        rw [← h, List.length_take]; omega
      · cases h
    have h2 : (freeL l p).length ≤ 512 := by
      unfold freeL
      refine Nat.le_trans (List.length_filter_le _ _) ?_
      rw [List.length_range]; omega
    show r.length ≤ 1000
    omega
set_option maxRecDepth 20000 in
set_option maxHeartbeats 8000000 in
theorem tells_yes (s : ByteArray) (l0 l1 l2 : Int) (t : Bool) (hs : s.size ≤ 300) (h2 : l2 ≤ 1000) (a0 : -9223372036854775808 ≤ l0) (b0 : l0 ≤ 9223372036854775807) (a1 : -9223372036854775808 ≤ l1) (b1 : l1 ≤ 9223372036854775807) (a2 : -9223372036854775808 ≤ l2) :
    Calls Try.prog 3 #[.string s, .agg #[.int .i64 l0, .int .i64 l1, .int .i64 l2], .bool t] w fun e w' => e = .returned (.bool true) ∧ Below w.heap.size w w' := by
  have hB := (Below.refl w.heap.size w).alloc (Nat.le_refl _) (.cells #[.int .i64 l0, .int .i64 l1, .int .i64 l2] 22)
  have c0 : (w.alloc (.cells #[.int .i64 l0, .int .i64 l1, .int .i64 l2] 22)).cell? ⟨w.heap.size, 0, none⟩ = some (.int .i64 l0) := by simp
  have c1 : (w.alloc (.cells #[.int .i64 l0, .int .i64 l1, .int .i64 l2] 22)).cell? ⟨w.heap.size, 1, none⟩ = some (.int .i64 l1) := by simp
  have c2 : (w.alloc (.cells #[.int .i64 l0, .int .i64 l1, .int .i64 l2] 22)).cell? ⟨w.heap.size, 2, none⟩ = some (.int .i64 l2) := by simp
  have HC := Lib.hid (And.intro (fun W => pick_any (s := s) (n := l1) (m := l2) W hs a1 b1 a2 h2) (And.intro (fun W => refPick_any (s := s) (n := l1) (m := l2) W hs a1 b1 a2 h2)
    (And.intro (fun W => taken_any (s := s) (n := l0) W hs a0 b0) (And.intro (fun W => refTaken_any (s := s) (n := l0) W hs a0 b0)
    (And.intro (fun W => mark_any (s := s) (n := l0) t W hs a0 b0) (And.intro (fun W => refMark_any (s := s) (n := l0) t W hs a0 b0)
    (And.intro (fun W => free_any (s := s) (n := l1) W hs a1 b1) (And.intro (fun W => refFree_any (s := s) (n := l1) W hs a1 b1)
    (And.intro (fun W => root_any (s := s) W hs) (And.intro (fun W => refRoot_any (s := s) W hs)
    (And.intro (fun W => setRoot_any (s := s) (n := l0) W hs a0 b0) (And.intro (fun W => refSetRoot_any (s := s) (n := l0) W hs a0 b0) (pick_short (l := s.data.toList) (p := l1.toNat) (n := l2.toNat))))))))))))))
  have d1 : decide ((300 : Int) < (s.size : Int)) = false := decide_eq_false (by omega)
  have d2 : decide ((1000 : Int) < l2) = false := decide_eq_false (by omega)
  clear hs h2 a0 b0 a1 b1 a2
  go_enter Try.func3, Try.ntmps3
  go_wp2_with fail
  clear d1 d2
  generalize w.alloc (.cells #[.int .i64 l0, .int .i64 l1, .int .i64 l2] 22) = w1 at hB c0 c1 c2 ⊢
  refine (HC.out.1 w1).mono ?_
  rintro e y2 ⟨A, n, cp, rfl, hn, hcp, hN, hb⟩
  have c0 := (hb.cell (p := ⟨w.heap.size, 0, none⟩) (World.block_lt_of_cell? _ _ c0)).trans c0
  have c1 := (hb.cell (p := ⟨w.heap.size, 1, none⟩) (World.block_lt_of_cell? _ _ c1)).trans c1
  have c2 := (hb.cell (p := ⟨w.heap.size, 2, none⟩) (World.block_lt_of_cell? _ _ c2)).trans c2
  have HN := Lib.hid hN
  clear hN hcp
  have hB := hB.trans (hb.mono hB.size)
  clear hb
  go_wp2_with fail
  refine (HC.out.2.1 y2).mono ?_
  rintro e y3 ⟨A2, n2, cp2, rfl, hn2, hcp2, hM, hb⟩
  have c0 := (hb.cell (p := ⟨w.heap.size, 0, none⟩) (World.block_lt_of_cell? _ _ c0)).trans c0
  have c1 := (hb.cell (p := ⟨w.heap.size, 1, none⟩) (World.block_lt_of_cell? _ _ c1)).trans c1
  have c2 := (hb.cell (p := ⟨w.heap.size, 2, none⟩) (World.block_lt_of_cell? _ _ c2)).trans c2
  have HN := Lib.hid (Li.HasL.below HN.out hb (Nat.le_refl _))
  have HM := Lib.hid hM
  obtain rfl : n = n2 := by omega
  clear hM hcp2 hn2
  have hB := hB.trans (hb.mono hB.size)
  clear hb
  obtain ⟨g, hg⟩ : ∃ g, w.heap.size = g := ⟨_, rfl⟩
  obtain ⟨op, hop⟩ : ∃ op, (pickL s.data.toList l1.toNat l2.toNat).isSome = op := ⟨_, rfl⟩
  have hle := HC.out.2.2.2.2.2.2.2.2.2.2.2.2
  rw [hn] at hle
  generalize tkI s l0 = v1 at HC
  generalize mkB s l0 t = v2 at HC
  generalize setRB s l0 = v6 at HC
  generalize (freeL s.data.toList l1.toNat).length = v3 at HC
  generalize rootN s.data.toList = v5 at HC
  rw [hop] at *
  go_wp2_with fail
  rw [hg] at c0 c1 c2
  try rw [hg]
  have hdr := (Below.refl y3.heap.size y3).drew
  have c0 := (hdr.cell (p := ⟨g, 0, none⟩) (World.block_lt_of_cell? _ _ c0)).trans c0
  have c1 := (hdr.cell (p := ⟨g, 1, none⟩) (World.block_lt_of_cell? _ _ c1)).trans c1
  have c2 := (hdr.cell (p := ⟨g, 2, none⟩) (World.block_lt_of_cell? _ _ c2)).trans c2
  have HN := Lib.hid (Li.HasL.below HN.out hdr (Nat.le_refl _))
  have HM := Lib.hid (Li.HasL.below HM.out hdr (Nat.le_refl _))
  have hB := hB.trans (hdr.mono hB.size)
  clear hdr
  refine Lex.region_lex (ops := ptops) (calls := ptcalls) ptord (fun W => W.cell? ⟨g, 0, none⟩ = some (.int .i64 l0) ∧ W.cell? ⟨g, 1, none⟩ = some (.int .i64 l1) ∧ W.cell? ⟨g, 2, none⟩ = some (.int .i64 l2)) (by kernel_rfl) (by kernel_rfl) ptsel (by kernel_rfl) (by kernel_rfl) ptlex (⟨c0, c1, c2⟩) ?_
  unfold ptord
  generalize y3.drew = yd at hB c0 c1 c2 HN HM ⊢
  refine Lex.step_call pt0 rfl (Lex.want_none rfl) (fun K hK => ?_)
  go_simp
  refine (awake_any _).mono ?_
  rintro e yy ⟨rfl, hb⟩
  have c0 := (hb.cell (p := ⟨g, 0, none⟩) (World.block_lt_of_cell? _ _ c0)).trans c0
  have c1 := (hb.cell (p := ⟨g, 1, none⟩) (World.block_lt_of_cell? _ _ c1)).trans c1
  have c2 := (hb.cell (p := ⟨g, 2, none⟩) (World.block_lt_of_cell? _ _ c2)).trans c2
  have HN := Lib.hid (Li.HasL.below HN.out hb (Nat.le_refl _))
  have HM := Lib.hid (Li.HasL.below HM.out hb (Nat.le_refl _))
  have hB := hB.trans (hb.mono hB.size)
  clear hb
  refine hK.out _ _ _ (fun _ h => h) ⟨c0, c1, c2⟩ ?_
  clear hK K
  try simp only [Act.put, List.setIfInBounds_toArray, List.set_cons_zero, List.set_cons_succ]
  refine Lex.step_take (.bool true) pt1 rfl (Lex.want_none rfl) (by intro Wx hSw; (try dsimp only at hSw); go_simp; (try (first | (with_reducible rfl) | assumption | rfl))) ?_
  simp only [Act.put, List.setIfInBounds_toArray, List.set_cons_zero, List.set_cons_succ]
  refine Lex.step_take (.string s) pt2 rfl (Lex.want_some rfl pt1 rfl (b' := true) rfl rfl) (by intro Wx hSw; (try dsimp only at hSw); go_simp; (try (first | (with_reducible rfl) | assumption | rfl))) ?_
  simp only [Act.put, List.setIfInBounds_toArray, List.set_cons_zero, List.set_cons_succ]
  refine Lex.step_take (.pointer (some ⟨g, 0, none⟩)) pt3 rfl (Lex.want_some rfl pt1 rfl (b' := true) rfl rfl) (by intro Wx hSw; (try dsimp only at hSw); go_simp; (try (first | (with_reducible rfl) | assumption | rfl))) ?_
  simp only [Act.put, List.setIfInBounds_toArray, List.set_cons_zero, List.set_cons_succ]
  refine Lex.step_take (.int .i64 l0) pt4 rfl (Lex.want_some rfl pt1 rfl (b' := true) rfl rfl) (by intro Wx hSw; (try dsimp only at hSw); go_simp; (try (first | (with_reducible rfl) | assumption | rfl))) ?_
  simp only [Act.put, List.setIfInBounds_toArray, List.set_cons_zero, List.set_cons_succ]
  refine Lex.step_take (.string s) pt6 rfl (Lex.want_some rfl pt1 rfl (b' := true) rfl rfl) (by intro Wx hSw; (try dsimp only at hSw); go_simp; (try (first | (with_reducible rfl) | assumption | rfl))) ?_
  simp only [Act.put, List.setIfInBounds_toArray, List.set_cons_zero, List.set_cons_succ]
  refine Lex.step_take (.pointer (some ⟨g, 0, none⟩)) pt7 rfl (Lex.want_some rfl pt1 rfl (b' := true) rfl rfl) (by intro Wx hSw; (try dsimp only at hSw); go_simp; (try (first | (with_reducible rfl) | assumption | rfl))) ?_
  simp only [Act.put, List.setIfInBounds_toArray, List.set_cons_zero, List.set_cons_succ]
  refine Lex.step_take (.int .i64 l0) pt8 rfl (Lex.want_some rfl pt1 rfl (b' := true) rfl rfl) (by intro Wx hSw; (try dsimp only at hSw); go_simp; (try (first | (with_reducible rfl) | assumption | rfl))) ?_
  simp only [Act.put, List.setIfInBounds_toArray, List.set_cons_zero, List.set_cons_succ]
  refine Lex.step_call pt5 rfl (Lex.want_some rfl pt1 rfl (b' := true) rfl rfl) (fun K hK => ?_)
  go_simp
  refine (HC.out.2.2.1 _).mono ?_
  rintro e yy ⟨rfl, hb⟩
  have c0 := (hb.cell (p := ⟨g, 0, none⟩) (World.block_lt_of_cell? _ _ c0)).trans c0
  have c1 := (hb.cell (p := ⟨g, 1, none⟩) (World.block_lt_of_cell? _ _ c1)).trans c1
  have c2 := (hb.cell (p := ⟨g, 2, none⟩) (World.block_lt_of_cell? _ _ c2)).trans c2
  have HN := Lib.hid (Li.HasL.below HN.out hb (Nat.le_refl _))
  have HM := Lib.hid (Li.HasL.below HM.out hb (Nat.le_refl _))
  have hB := hB.trans (hb.mono hB.size)
  clear hb
  refine hK.out _ _ _ (fun _ h => h) ⟨c0, c1, c2⟩ ?_
  clear hK K
  try simp only [Act.put, List.setIfInBounds_toArray, List.set_cons_zero, List.set_cons_succ]
  refine Lex.step_call pt9 rfl (Lex.want_some rfl pt1 rfl (b' := true) rfl rfl) (fun K hK => ?_)
  go_simp
  refine (HC.out.2.2.2.1 _).mono ?_
  rintro e yy ⟨rfl, hb⟩
  have c0 := (hb.cell (p := ⟨g, 0, none⟩) (World.block_lt_of_cell? _ _ c0)).trans c0
  have c1 := (hb.cell (p := ⟨g, 1, none⟩) (World.block_lt_of_cell? _ _ c1)).trans c1
  have c2 := (hb.cell (p := ⟨g, 2, none⟩) (World.block_lt_of_cell? _ _ c2)).trans c2
  have HN := Lib.hid (Li.HasL.below HN.out hb (Nat.le_refl _))
  have HM := Lib.hid (Li.HasL.below HM.out hb (Nat.le_refl _))
  have hB := hB.trans (hb.mono hB.size)
  clear hb
  refine hK.out _ _ _ (fun _ h => h) ⟨c0, c1, c2⟩ ?_
  clear hK K
  try simp only [Act.put, List.setIfInBounds_toArray, List.set_cons_zero, List.set_cons_succ]
  refine Lex.step_take (.bool true) pt10 rfl (Lex.want_some rfl pt1 rfl (b' := true) rfl rfl) (by intro Wx hSw; (try dsimp only at hSw); go_simp; (try (first | (with_reducible rfl) | assumption | rfl))) ?_
  simp only [Act.put, List.setIfInBounds_toArray, List.set_cons_zero, List.set_cons_succ]
  refine Lex.step_take (.bool true) pt11 rfl (Lex.want_none rfl) (by intro Wx hSw; (try dsimp only at hSw); go_simp; (try (first | (with_reducible rfl) | assumption | rfl))) ?_
  simp only [Act.put, List.setIfInBounds_toArray, List.set_cons_zero, List.set_cons_succ]
  refine Lex.step_take (.bool true) pt12 rfl (Lex.want_none rfl) (by intro Wx hSw; (try dsimp only at hSw); go_simp; (try (first | (with_reducible rfl) | assumption | rfl))) ?_
  simp only [Act.put, List.setIfInBounds_toArray, List.set_cons_zero, List.set_cons_succ]
  refine Lex.step_take (.string s) pt13 rfl (Lex.want_some rfl pt12 rfl (b' := true) rfl rfl) (by intro Wx hSw; (try dsimp only at hSw); go_simp; (try (first | (with_reducible rfl) | assumption | rfl))) ?_
  simp only [Act.put, List.setIfInBounds_toArray, List.set_cons_zero, List.set_cons_succ]
  refine Lex.step_take (.pointer (some ⟨g, 0, none⟩)) pt14 rfl (Lex.want_some rfl pt12 rfl (b' := true) rfl rfl) (by intro Wx hSw; (try dsimp only at hSw); go_simp; (try (first | (with_reducible rfl) | assumption | rfl))) ?_
  simp only [Act.put, List.setIfInBounds_toArray, List.set_cons_zero, List.set_cons_succ]
  refine Lex.step_take (.int .i64 l0) pt15 rfl (Lex.want_some rfl pt12 rfl (b' := true) rfl rfl) (by intro Wx hSw; (try dsimp only at hSw); go_simp; (try (first | (with_reducible rfl) | assumption | rfl))) ?_
  simp only [Act.put, List.setIfInBounds_toArray, List.set_cons_zero, List.set_cons_succ]
  refine Lex.step_take (.bool t) pt16 rfl (Lex.want_some rfl pt12 rfl (b' := true) rfl rfl) (by intro Wx hSw; (try dsimp only at hSw); go_simp; (try (first | (with_reducible rfl) | assumption | rfl))) ?_
  simp only [Act.put, List.setIfInBounds_toArray, List.set_cons_zero, List.set_cons_succ]
  refine Lex.step_take (.string s) pt18 rfl (Lex.want_some rfl pt12 rfl (b' := true) rfl rfl) (by intro Wx hSw; (try dsimp only at hSw); go_simp; (try (first | (with_reducible rfl) | assumption | rfl))) ?_
  simp only [Act.put, List.setIfInBounds_toArray, List.set_cons_zero, List.set_cons_succ]
  refine Lex.step_take (.pointer (some ⟨g, 0, none⟩)) pt19 rfl (Lex.want_some rfl pt12 rfl (b' := true) rfl rfl) (by intro Wx hSw; (try dsimp only at hSw); go_simp; (try (first | (with_reducible rfl) | assumption | rfl))) ?_
  simp only [Act.put, List.setIfInBounds_toArray, List.set_cons_zero, List.set_cons_succ]
  refine Lex.step_take (.int .i64 l0) pt20 rfl (Lex.want_some rfl pt12 rfl (b' := true) rfl rfl) (by intro Wx hSw; (try dsimp only at hSw); go_simp; (try (first | (with_reducible rfl) | assumption | rfl))) ?_
  simp only [Act.put, List.setIfInBounds_toArray, List.set_cons_zero, List.set_cons_succ]
  refine Lex.step_take (.bool t) pt21 rfl (Lex.want_some rfl pt12 rfl (b' := true) rfl rfl) (by intro Wx hSw; (try dsimp only at hSw); go_simp; (try (first | (with_reducible rfl) | assumption | rfl))) ?_
  simp only [Act.put, List.setIfInBounds_toArray, List.set_cons_zero, List.set_cons_succ]
  refine Lex.step_call pt17 rfl (Lex.want_some rfl pt12 rfl (b' := true) rfl rfl) (fun K hK => ?_)
  go_simp
  refine (HC.out.2.2.2.2.1 _).mono ?_
  rintro e yy ⟨rfl, hb⟩
  have c0 := (hb.cell (p := ⟨g, 0, none⟩) (World.block_lt_of_cell? _ _ c0)).trans c0
  have c1 := (hb.cell (p := ⟨g, 1, none⟩) (World.block_lt_of_cell? _ _ c1)).trans c1
  have c2 := (hb.cell (p := ⟨g, 2, none⟩) (World.block_lt_of_cell? _ _ c2)).trans c2
  have HN := Lib.hid (Li.HasL.below HN.out hb (Nat.le_refl _))
  have HM := Lib.hid (Li.HasL.below HM.out hb (Nat.le_refl _))
  have hB := hB.trans (hb.mono hB.size)
  clear hb
  refine hK.out _ _ _ (fun _ h => h) ⟨c0, c1, c2⟩ ?_
  clear hK K
  try simp only [Act.put, List.setIfInBounds_toArray, List.set_cons_zero, List.set_cons_succ]
  refine Lex.step_call pt22 rfl (Lex.want_some rfl pt12 rfl (b' := true) rfl rfl) (fun K hK => ?_)
  go_simp
  refine (HC.out.2.2.2.2.2.1 _).mono ?_
  rintro e yy ⟨rfl, hb⟩
  have c0 := (hb.cell (p := ⟨g, 0, none⟩) (World.block_lt_of_cell? _ _ c0)).trans c0
  have c1 := (hb.cell (p := ⟨g, 1, none⟩) (World.block_lt_of_cell? _ _ c1)).trans c1
  have c2 := (hb.cell (p := ⟨g, 2, none⟩) (World.block_lt_of_cell? _ _ c2)).trans c2
  have HN := Lib.hid (Li.HasL.below HN.out hb (Nat.le_refl _))
  have HM := Lib.hid (Li.HasL.below HM.out hb (Nat.le_refl _))
  have hB := hB.trans (hb.mono hB.size)
  clear hb
  refine hK.out _ _ _ (fun _ h => h) ⟨c0, c1, c2⟩ ?_
  clear hK K
  try simp only [Act.put, List.setIfInBounds_toArray, List.set_cons_zero, List.set_cons_succ]
  refine Lex.step_take (.bool true) pt23 rfl (Lex.want_some rfl pt12 rfl (b' := true) rfl rfl) (by intro Wx hSw; (try dsimp only at hSw); go_simp; (try (first | (with_reducible rfl) | assumption | rfl))) ?_
  simp only [Act.put, List.setIfInBounds_toArray, List.set_cons_zero, List.set_cons_succ]
  refine Lex.step_take (.bool true) pt24 rfl (Lex.want_none rfl) (by intro Wx hSw; (try dsimp only at hSw); go_simp; (try (first | (with_reducible rfl) | assumption | rfl))) ?_
  simp only [Act.put, List.setIfInBounds_toArray, List.set_cons_zero, List.set_cons_succ]
  refine Lex.step_take (.bool true) pt25 rfl (Lex.want_none rfl) (by intro Wx hSw; (try dsimp only at hSw); go_simp; (try (first | (with_reducible rfl) | assumption | rfl))) ?_
  simp only [Act.put, List.setIfInBounds_toArray, List.set_cons_zero, List.set_cons_succ]
  refine Lex.step_take (.string s) pt26 rfl (Lex.want_some rfl pt25 rfl (b' := true) rfl rfl) (by intro Wx hSw; (try dsimp only at hSw); go_simp; (try (first | (with_reducible rfl) | assumption | rfl))) ?_
  simp only [Act.put, List.setIfInBounds_toArray, List.set_cons_zero, List.set_cons_succ]
  refine Lex.step_take (.pointer (some ⟨g, 1, none⟩)) pt27 rfl (Lex.want_some rfl pt25 rfl (b' := true) rfl rfl) (by intro Wx hSw; (try dsimp only at hSw); go_simp; (try (first | (with_reducible rfl) | assumption | rfl))) ?_
  simp only [Act.put, List.setIfInBounds_toArray, List.set_cons_zero, List.set_cons_succ]
  refine Lex.step_take (.int .i64 l1) pt28 rfl (Lex.want_some rfl pt25 rfl (b' := true) rfl rfl) (by intro Wx hSw; (try dsimp only at hSw); go_simp; (try (first | (with_reducible rfl) | assumption | rfl))) ?_
  simp only [Act.put, List.setIfInBounds_toArray, List.set_cons_zero, List.set_cons_succ]
  refine Lex.step_take (.string s) pt30 rfl (Lex.want_some rfl pt25 rfl (b' := true) rfl rfl) (by intro Wx hSw; (try dsimp only at hSw); go_simp; (try (first | (with_reducible rfl) | assumption | rfl))) ?_
  simp only [Act.put, List.setIfInBounds_toArray, List.set_cons_zero, List.set_cons_succ]
  refine Lex.step_take (.pointer (some ⟨g, 1, none⟩)) pt31 rfl (Lex.want_some rfl pt25 rfl (b' := true) rfl rfl) (by intro Wx hSw; (try dsimp only at hSw); go_simp; (try (first | (with_reducible rfl) | assumption | rfl))) ?_
  simp only [Act.put, List.setIfInBounds_toArray, List.set_cons_zero, List.set_cons_succ]
  refine Lex.step_take (.int .i64 l1) pt32 rfl (Lex.want_some rfl pt25 rfl (b' := true) rfl rfl) (by intro Wx hSw; (try dsimp only at hSw); go_simp; (try (first | (with_reducible rfl) | assumption | rfl))) ?_
  simp only [Act.put, List.setIfInBounds_toArray, List.set_cons_zero, List.set_cons_succ]
  refine Lex.step_call pt29 rfl (Lex.want_some rfl pt25 rfl (b' := true) rfl rfl) (fun K hK => ?_)
  go_simp
  refine (HC.out.2.2.2.2.2.2.1 _).mono ?_
  rintro e yy ⟨rfl, hb⟩
  have c0 := (hb.cell (p := ⟨g, 0, none⟩) (World.block_lt_of_cell? _ _ c0)).trans c0
  have c1 := (hb.cell (p := ⟨g, 1, none⟩) (World.block_lt_of_cell? _ _ c1)).trans c1
  have c2 := (hb.cell (p := ⟨g, 2, none⟩) (World.block_lt_of_cell? _ _ c2)).trans c2
  have HN := Lib.hid (Li.HasL.below HN.out hb (Nat.le_refl _))
  have HM := Lib.hid (Li.HasL.below HM.out hb (Nat.le_refl _))
  have hB := hB.trans (hb.mono hB.size)
  clear hb
  refine hK.out _ _ _ (fun _ h => h) ⟨c0, c1, c2⟩ ?_
  clear hK K
  try simp only [Act.put, List.setIfInBounds_toArray, List.set_cons_zero, List.set_cons_succ]
  refine Lex.step_call pt33 rfl (Lex.want_some rfl pt25 rfl (b' := true) rfl rfl) (fun K hK => ?_)
  go_simp
  refine (HC.out.2.2.2.2.2.2.2.1 _).mono ?_
  rintro e yy ⟨rfl, hb⟩
  have c0 := (hb.cell (p := ⟨g, 0, none⟩) (World.block_lt_of_cell? _ _ c0)).trans c0
  have c1 := (hb.cell (p := ⟨g, 1, none⟩) (World.block_lt_of_cell? _ _ c1)).trans c1
  have c2 := (hb.cell (p := ⟨g, 2, none⟩) (World.block_lt_of_cell? _ _ c2)).trans c2
  have HN := Lib.hid (Li.HasL.below HN.out hb (Nat.le_refl _))
  have HM := Lib.hid (Li.HasL.below HM.out hb (Nat.le_refl _))
  have hB := hB.trans (hb.mono hB.size)
  clear hb
  refine hK.out _ _ _ (fun _ h => h) ⟨c0, c1, c2⟩ ?_
  clear hK K
  try simp only [Act.put, List.setIfInBounds_toArray, List.set_cons_zero, List.set_cons_succ]
  refine Lex.step_take (.bool true) pt34 rfl (Lex.want_some rfl pt25 rfl (b' := true) rfl rfl) (by intro Wx hSw; (try dsimp only at hSw); go_simp; (try (first | (with_reducible rfl) | assumption | rfl))) ?_
  simp only [Act.put, List.setIfInBounds_toArray, List.set_cons_zero, List.set_cons_succ]
  refine Lex.step_take (.bool true) pt35 rfl (Lex.want_none rfl) (by intro Wx hSw; (try dsimp only at hSw); go_simp; (try (first | (with_reducible rfl) | assumption | rfl))) ?_
  simp only [Act.put, List.setIfInBounds_toArray, List.set_cons_zero, List.set_cons_succ]
  refine Lex.step_take (.bool true) pt36 rfl (Lex.want_none rfl) (by intro Wx hSw; (try dsimp only at hSw); go_simp; (try (first | (with_reducible rfl) | assumption | rfl))) ?_
  simp only [Act.put, List.setIfInBounds_toArray, List.set_cons_zero, List.set_cons_succ]
  refine Lex.step_take (.slice A n cp) pt37 rfl (Lex.want_some rfl pt36 rfl (b' := true) rfl rfl) (by intro Wx hSw; (try dsimp only at hSw); go_simp; (try (first | (with_reducible rfl) | assumption | rfl))) ?_
  simp only [Act.put, List.setIfInBounds_toArray, List.set_cons_zero, List.set_cons_succ]
  refine Lex.step_take (.slice A2 n cp2) pt38 rfl (Lex.want_some rfl pt36 rfl (b' := true) rfl rfl) (by intro Wx hSw; (try dsimp only at hSw); go_simp; (try (first | (with_reducible rfl) | assumption | rfl))) ?_
  simp only [Act.put, List.setIfInBounds_toArray, List.set_cons_zero, List.set_cons_succ]
  refine Lex.step_call pt39 rfl (Lex.want_some rfl pt36 rfl (b' := true) rfl rfl) (fun K hK => ?_)
  go_simp
  refine (same_any HN.out HM.out hn hle).mono ?_
  rintro e yy ⟨rfl, hb⟩
  have c0 := (hb.cell (p := ⟨g, 0, none⟩) (World.block_lt_of_cell? _ _ c0)).trans c0
  have c1 := (hb.cell (p := ⟨g, 1, none⟩) (World.block_lt_of_cell? _ _ c1)).trans c1
  have c2 := (hb.cell (p := ⟨g, 2, none⟩) (World.block_lt_of_cell? _ _ c2)).trans c2
  have HN := Lib.hid (Li.HasL.below HN.out hb (Nat.le_refl _))
  have HM := Lib.hid (Li.HasL.below HM.out hb (Nat.le_refl _))
  have hB := hB.trans (hb.mono hB.size)
  clear hb
  refine hK.out _ _ _ (fun _ h => h) ⟨c0, c1, c2⟩ ?_
  clear hK K
  try simp only [Act.put, List.setIfInBounds_toArray, List.set_cons_zero, List.set_cons_succ]
  refine Lex.step_take (.bool true) pt40 rfl (Lex.want_none rfl) (by intro Wx hSw; (try dsimp only at hSw); go_simp; (try (first | (with_reducible rfl) | assumption | rfl))) ?_
  simp only [Act.put, List.setIfInBounds_toArray, List.set_cons_zero, List.set_cons_succ]
  refine Lex.step_take (.bool true) pt41 rfl (Lex.want_none rfl) (by intro Wx hSw; (try dsimp only at hSw); go_simp; (try (first | (with_reducible rfl) | assumption | rfl))) ?_
  simp only [Act.put, List.setIfInBounds_toArray, List.set_cons_zero, List.set_cons_succ]
  refine Lex.step_take (.bool op) pt42 rfl (Lex.want_some rfl pt41 rfl (b' := true) rfl rfl) (by intro Wx hSw; (try dsimp only at hSw); go_simp; (try (first | (with_reducible rfl) | assumption | rfl))) ?_
  simp only [Act.put, List.setIfInBounds_toArray, List.set_cons_zero, List.set_cons_succ]
  refine Lex.step_take (.bool op) pt43 rfl (Lex.want_some rfl pt41 rfl (b' := true) rfl rfl) (by intro Wx hSw; (try dsimp only at hSw); go_simp; (try (first | (with_reducible rfl) | assumption | rfl))) ?_
  simp only [Act.put, List.setIfInBounds_toArray, List.set_cons_zero, List.set_cons_succ]
  refine Lex.step_take (.bool true) pt44 rfl (Lex.want_some rfl pt41 rfl (b' := true) rfl rfl) (by intro Wx hSw; (try dsimp only at hSw); go_simp; (try (first | (with_reducible rfl) | assumption | rfl))) ?_
  simp only [Act.put, List.setIfInBounds_toArray, List.set_cons_zero, List.set_cons_succ]
  refine Lex.step_take (.bool true) pt45 rfl (Lex.want_none rfl) (by intro Wx hSw; (try dsimp only at hSw); go_simp; (try (first | (with_reducible rfl) | assumption | rfl))) ?_
  simp only [Act.put, List.setIfInBounds_toArray, List.set_cons_zero, List.set_cons_succ]
  refine Lex.step_take (.bool true) pt46 rfl (Lex.want_none rfl) (by intro Wx hSw; (try dsimp only at hSw); go_simp; (try (first | (with_reducible rfl) | assumption | rfl))) ?_
  simp only [Act.put, List.setIfInBounds_toArray, List.set_cons_zero, List.set_cons_succ]
  refine Lex.step_take (.string s) pt47 rfl (Lex.want_some rfl pt46 rfl (b' := true) rfl rfl) (by intro Wx hSw; (try dsimp only at hSw); go_simp; (try (first | (with_reducible rfl) | assumption | rfl))) ?_
  simp only [Act.put, List.setIfInBounds_toArray, List.set_cons_zero, List.set_cons_succ]
  refine Lex.step_take (.string s) pt49 rfl (Lex.want_some rfl pt46 rfl (b' := true) rfl rfl) (by intro Wx hSw; (try dsimp only at hSw); go_simp; (try (first | (with_reducible rfl) | assumption | rfl))) ?_
  simp only [Act.put, List.setIfInBounds_toArray, List.set_cons_zero, List.set_cons_succ]
  refine Lex.step_call pt48 rfl (Lex.want_some rfl pt46 rfl (b' := true) rfl rfl) (fun K hK => ?_)
  go_simp
  refine (HC.out.2.2.2.2.2.2.2.2.1 _).mono ?_
  rintro e yy ⟨rfl, hb⟩
  have c0 := (hb.cell (p := ⟨g, 0, none⟩) (World.block_lt_of_cell? _ _ c0)).trans c0
  have c1 := (hb.cell (p := ⟨g, 1, none⟩) (World.block_lt_of_cell? _ _ c1)).trans c1
  have c2 := (hb.cell (p := ⟨g, 2, none⟩) (World.block_lt_of_cell? _ _ c2)).trans c2
  have HN := Lib.hid (Li.HasL.below HN.out hb (Nat.le_refl _))
  have HM := Lib.hid (Li.HasL.below HM.out hb (Nat.le_refl _))
  have hB := hB.trans (hb.mono hB.size)
  clear hb
  refine hK.out _ _ _ (fun _ h => h) ⟨c0, c1, c2⟩ ?_
  clear hK K
  try simp only [Act.put, List.setIfInBounds_toArray, List.set_cons_zero, List.set_cons_succ]
  refine Lex.step_call pt50 rfl (Lex.want_some rfl pt46 rfl (b' := true) rfl rfl) (fun K hK => ?_)
  go_simp
  refine (HC.out.2.2.2.2.2.2.2.2.2.1 _).mono ?_
  rintro e yy ⟨rfl, hb⟩
  have c0 := (hb.cell (p := ⟨g, 0, none⟩) (World.block_lt_of_cell? _ _ c0)).trans c0
  have c1 := (hb.cell (p := ⟨g, 1, none⟩) (World.block_lt_of_cell? _ _ c1)).trans c1
  have c2 := (hb.cell (p := ⟨g, 2, none⟩) (World.block_lt_of_cell? _ _ c2)).trans c2
  have HN := Lib.hid (Li.HasL.below HN.out hb (Nat.le_refl _))
  have HM := Lib.hid (Li.HasL.below HM.out hb (Nat.le_refl _))
  have hB := hB.trans (hb.mono hB.size)
  clear hb
  refine hK.out _ _ _ (fun _ h => h) ⟨c0, c1, c2⟩ ?_
  clear hK K
  try simp only [Act.put, List.setIfInBounds_toArray, List.set_cons_zero, List.set_cons_succ]
  refine Lex.step_take (.bool true) pt51 rfl (Lex.want_some rfl pt46 rfl (b' := true) rfl rfl) (by intro Wx hSw; (try dsimp only at hSw); go_simp; (try (first | (with_reducible rfl) | assumption | rfl))) ?_
  simp only [Act.put, List.setIfInBounds_toArray, List.set_cons_zero, List.set_cons_succ]
  refine Lex.step_take (.bool true) pt52 rfl (Lex.want_none rfl) (by intro Wx hSw; (try dsimp only at hSw); go_simp; (try (first | (with_reducible rfl) | assumption | rfl))) ?_
  simp only [Act.put, List.setIfInBounds_toArray, List.set_cons_zero, List.set_cons_succ]
  refine Lex.step_take (.bool true) pt53 rfl (Lex.want_none rfl) (by intro Wx hSw; (try dsimp only at hSw); go_simp; (try (first | (with_reducible rfl) | assumption | rfl))) ?_
  simp only [Act.put, List.setIfInBounds_toArray, List.set_cons_zero, List.set_cons_succ]
  refine Lex.step_take (.string s) pt54 rfl (Lex.want_some rfl pt53 rfl (b' := true) rfl rfl) (by intro Wx hSw; (try dsimp only at hSw); go_simp; (try (first | (with_reducible rfl) | assumption | rfl))) ?_
  simp only [Act.put, List.setIfInBounds_toArray, List.set_cons_zero, List.set_cons_succ]
  refine Lex.step_take (.pointer (some ⟨g, 0, none⟩)) pt55 rfl (Lex.want_some rfl pt53 rfl (b' := true) rfl rfl) (by intro Wx hSw; (try dsimp only at hSw); go_simp; (try (first | (with_reducible rfl) | assumption | rfl))) ?_
  simp only [Act.put, List.setIfInBounds_toArray, List.set_cons_zero, List.set_cons_succ]
  refine Lex.step_take (.int .i64 l0) pt56 rfl (Lex.want_some rfl pt53 rfl (b' := true) rfl rfl) (by intro Wx hSw; (try dsimp only at hSw); go_simp; (try (first | (with_reducible rfl) | assumption | rfl))) ?_
  simp only [Act.put, List.setIfInBounds_toArray, List.set_cons_zero, List.set_cons_succ]
  refine Lex.step_take (.string s) pt58 rfl (Lex.want_some rfl pt53 rfl (b' := true) rfl rfl) (by intro Wx hSw; (try dsimp only at hSw); go_simp; (try (first | (with_reducible rfl) | assumption | rfl))) ?_
  simp only [Act.put, List.setIfInBounds_toArray, List.set_cons_zero, List.set_cons_succ]
  refine Lex.step_take (.pointer (some ⟨g, 0, none⟩)) pt59 rfl (Lex.want_some rfl pt53 rfl (b' := true) rfl rfl) (by intro Wx hSw; (try dsimp only at hSw); go_simp; (try (first | (with_reducible rfl) | assumption | rfl))) ?_
  simp only [Act.put, List.setIfInBounds_toArray, List.set_cons_zero, List.set_cons_succ]
  refine Lex.step_take (.int .i64 l0) pt60 rfl (Lex.want_some rfl pt53 rfl (b' := true) rfl rfl) (by intro Wx hSw; (try dsimp only at hSw); go_simp; (try (first | (with_reducible rfl) | assumption | rfl))) ?_
  simp only [Act.put, List.setIfInBounds_toArray, List.set_cons_zero, List.set_cons_succ]
  refine Lex.step_call pt57 rfl (Lex.want_some rfl pt53 rfl (b' := true) rfl rfl) (fun K hK => ?_)
  go_simp
  refine (HC.out.2.2.2.2.2.2.2.2.2.2.1 _).mono ?_
  rintro e yy ⟨rfl, hb⟩
  have c0 := (hb.cell (p := ⟨g, 0, none⟩) (World.block_lt_of_cell? _ _ c0)).trans c0
  have c1 := (hb.cell (p := ⟨g, 1, none⟩) (World.block_lt_of_cell? _ _ c1)).trans c1
  have c2 := (hb.cell (p := ⟨g, 2, none⟩) (World.block_lt_of_cell? _ _ c2)).trans c2
  have HN := Lib.hid (Li.HasL.below HN.out hb (Nat.le_refl _))
  have HM := Lib.hid (Li.HasL.below HM.out hb (Nat.le_refl _))
  have hB := hB.trans (hb.mono hB.size)
  clear hb
  refine hK.out _ _ _ (fun _ h => h) ⟨c0, c1, c2⟩ ?_
  clear hK K
  try simp only [Act.put, List.setIfInBounds_toArray, List.set_cons_zero, List.set_cons_succ]
  refine Lex.step_call pt61 rfl (Lex.want_some rfl pt53 rfl (b' := true) rfl rfl) (fun K hK => ?_)
  go_simp
  refine (HC.out.2.2.2.2.2.2.2.2.2.2.2.1 _).mono ?_
  rintro e yy ⟨rfl, hb⟩
  have c0 := (hb.cell (p := ⟨g, 0, none⟩) (World.block_lt_of_cell? _ _ c0)).trans c0
  have c1 := (hb.cell (p := ⟨g, 1, none⟩) (World.block_lt_of_cell? _ _ c1)).trans c1
  have c2 := (hb.cell (p := ⟨g, 2, none⟩) (World.block_lt_of_cell? _ _ c2)).trans c2
  have HN := Lib.hid (Li.HasL.below HN.out hb (Nat.le_refl _))
  have HM := Lib.hid (Li.HasL.below HM.out hb (Nat.le_refl _))
  have hB := hB.trans (hb.mono hB.size)
  clear hb
  refine hK.out _ _ _ (fun _ h => h) ⟨c0, c1, c2⟩ ?_
  clear hK K
  try simp only [Act.put, List.setIfInBounds_toArray, List.set_cons_zero, List.set_cons_succ]
  refine Lex.step_take (.bool true) pt62 rfl (Lex.want_some rfl pt53 rfl (b' := true) rfl rfl) (by intro Wx hSw; (try dsimp only at hSw); go_simp; (try (first | (with_reducible rfl) | assumption | rfl))) ?_
  simp only [Act.put, List.setIfInBounds_toArray, List.set_cons_zero, List.set_cons_succ]
  refine Lex.step_take (.bool true) pt63 rfl (Lex.want_none rfl) (by intro Wx hSw; (try dsimp only at hSw); go_simp; (try (first | (with_reducible rfl) | assumption | rfl))) ?_
  simp only [Act.put, List.setIfInBounds_toArray, List.set_cons_zero, List.set_cons_succ]
  refine Lex.step_take (.bool true) pt64 rfl (Lex.want_none rfl) (by intro Wx hSw; (try dsimp only at hSw); go_simp; (try (first | (with_reducible rfl) | assumption | rfl))) ?_
  simp only [Act.put, List.setIfInBounds_toArray, List.set_cons_zero, List.set_cons_succ]
  refine NoPanic.normal ?_
  go_wp2
  go_ret
  exact ⟨rfl, hB⟩
end
end Go.Proofs.Ytbeojghlldiniaa.Pl
