/- SplitTells: whatever groups, walked. -/
import Derived.Test.YtifcepjflkgbmaaSpQ
import Derived.Test.YtifcepjflkgbmaaXpa
import Derived.Test.YtifcepjflkgbmaaLeB
namespace Go.Proofs.Ytifcepjflkgbmaa.Sp
open Go.RowKit Pac Lex

theorem oneI_sizes {cols : Int} (h : cols ≤ 100) : (oneI cols).length ≤ 9223372036854775807 ∧ ∀ g ∈ oneI cols, g.length ≤ 9223372036854775807 := by
  unfold oneI oneS
  split
  · exact ⟨Nat.zero_le _, fun g hg => by simp at hg⟩
  · refine ⟨by simp, fun g hg => ?_⟩
    rw [List.mem_singleton] at hg
    rw [hg, upTo_len]
    omega
theorem eachI_sizes {cols : Int} (h : cols ≤ 100) : (eachI cols).length ≤ 9223372036854775807 ∧ ∀ g ∈ eachI cols, g.length ≤ 9223372036854775807 := by
  unfold eachI
  refine ⟨by rw [each_len]; omega, fun g hg => ?_⟩
  unfold eachS at hg
  obtain ⟨c, _, rfl⟩ := List.mem_map.1 hg
  simp

set_option maxRecDepth 20000 in
set_option maxHeartbeats 16000000 in
theorem tells_any (A1 : Option Addr) (cp1 : Nat) (l1 : List (List Int)) (cols a b : Int) (lo1 : Nat) (w : World) (hlow : lo1 ≤ w.heap.size) (h1 : HasLL w lo1 A1 l1) (hl1 : l1.length ≤ 9223372036854775807) (hg1 : ∀ g ∈ l1, g.length ≤ 9223372036854775807) (hc0 : -9223372036854775808 ≤ cols) (hc1 : cols ≤ 9223372036854775807) (ha0 : -9223372036854775808 ≤ a) (ha1 : a ≤ 9223372036854775807) (hb0 : -9223372036854775808 ≤ b) (hb1 : b ≤ 9223372036854775807) :
    Calls Try.prog 3 #[.slice A1 l1.length cp1, .int .i64 cols, .agg #[.int .i64 a, .int .i64 b]] w fun e w' => e = .returned (.bool true) ∧ Below w.heap.size w w' := by
  have hnew := (Below.refl w.heap.size w).alloc (Nat.le_refl _) (.cells #[.int .i64 a, .int .i64 b] 23)
  have hb := Box2.new w (.int .i64 a) (.int .i64 b) 23
  have hL := h1.below hnew (Nat.le_refl _)
  have hB := hnew
  generalize hw1 : w.alloc (.cells #[.int .i64 a, .int .i64 b] 23) = w1 at hnew hb hL hB
  have hcs := small_any A1 cp1 l1 lo1 w1 hL hl1 hg1
  obtain ⟨m, hm⟩ : ∃ m, l1.length = m := ⟨_, rfl⟩
  have HM := Lib.hid hm
  rw [hm] at hcs hl1 ⊢
  clear h1 hm hg1 hnew
  obtain ⟨f, hf⟩ : ∃ f, fewB l1 = f := ⟨_, rfl⟩
  rw [hf] at hcs
  have HFW := Lib.hid hf
  clear hf
  go_enter Try.func3, Try.ntmps3
  go_wp2_with fail
  clear hw1
  refine hcs.mono ?_
  rintro e w2 ⟨rfl, hy⟩
  have hL := hL.below hy (Nat.le_refl _)
  have hb := hb.below hy hb.lt
  have hB := hB.trans (hy.mono hB.size)
  clear hcs hy
  cases f
  · clear hL hb
    go_wp2_with fail
    refine (awake_any _).mono ?_
    rintro e y9 ⟨rfl, hy⟩
    have hB := hB.trans (hy.mono hB.size)
    clear hy
    go_wp2
    go_ret
    exact ⟨rfl, hB⟩
  · by_cases hq : 100 < cols
    · clear hL hb
      go_wp2_with fail
      refine (awake_any _).mono ?_
      rintro e y9 ⟨rfl, hy⟩
      have hB := hB.trans (hy.mono hB.size)
      clear hy
      go_wp2
      go_ret
      exact ⟨rfl, hB⟩
    · have hfew := few_out HFW.out
      have HF : Hid (l1.length ≤ 1000000 ∧ ∀ g ∈ l1, g.length ≤ 1000000) := Lib.hid ⟨by omega, fun g hg => by have := hfew.2 g hg; omega⟩
      have HO := Lib.hid (And.intro (oneI_sizes (cols := cols) (by omega)) (eachI_sizes (cols := cols) (by omega)))
      clear hfew
      have hcr := right_any A1 cp1 l1 cols lo1 w2 hL HF.out.1 HF.out.2 hc0 hc1
      obtain ⟨r, hr⟩ : ∃ r, rightSp l1 cols = r := ⟨_, rfl⟩
      rw [hr, HM.out] at hcr
      have HR := Lib.hid hr
      clear hr
      go_wp2_with fail
      refine hcr.mono ?_
      rintro e w3 ⟨rfl, hy⟩
      have hL := hL.below hy (Nat.le_refl _)
      have hb := hb.below hy hb.lt
      have hB := hB.trans (hy.mono hB.size)
      clear hy hcr
      have hcr := refRight_any A1 cp1 l1 cols lo1 w3 hL (by have := HF.out.1; omega) (fun g hg => by have := HF.out.2 g hg; omega) hc0 hc1
      rw [HR.out, HM.out] at hcr
      cases r
      · go_wp2_with fail
        refine hcr.mono ?_
        rintro e w4 ⟨rfl, hy⟩
        have hL := hL.below hy (Nat.le_refl _)
        have hb := hb.below hy hb.lt
        have hB := hB.trans (hy.mono hB.size)
        clear hy hcr
        go_wp2_with fail
        have hc := one_any cols w4 hc0 (by omega)
        refine hc.mono ?_
        rintro e y1 ⟨AO, co, rfl, _, ho, hy⟩
        have hL := hL.below hy (Nat.le_refl _)
        have hb := hb.below hy hb.lt
        have hB := hB.trans (hy.mono hB.size)
        clear hc hy
        go_wp2_with fail
        have hc := refOne_any cols y1 hc0 (by omega)
        refine hc.mono ?_
        rintro e y2 ⟨AP, cq, rfl, _, hq, hy⟩
        have hL := hL.below hy (Nat.le_refl _)
        have hb := hb.below hy hb.lt
        have ho := ho.below hy (Nat.le_refl _)
        have hB := hB.trans (hy.mono hB.size)
        clear hc hy
        go_wp2_with fail
        have hc := refSame_any AO AP co cq (oneI cols) (oneI cols) _ _ y2 ho hq HO.out.1.1 HO.out.1.1 HO.out.1.2 HO.out.1.2
        rw [decide_eq_true rfl] at hc
        refine hc.mono ?_
        rintro e y3 ⟨rfl, hy⟩
        have hL := hL.below hy (Nat.le_refl _)
        have hb := hb.below hy hb.lt
        have hB := hB.trans (hy.mono hB.size)
        clear hc hy ho hq
        go_wp2_with fail
        have hc := each_any cols y3 hc0 (by omega)
        refine hc.mono ?_
        rintro e y4 ⟨AO, co, rfl, _, ho, hy⟩
        have hL := hL.below hy (Nat.le_refl _)
        have hb := hb.below hy hb.lt
        have hB := hB.trans (hy.mono hB.size)
        clear hc hy
        go_wp2_with fail
        have hc := refEach_any cols y4 hc0 (by omega)
        refine hc.mono ?_
        rintro e y5 ⟨AP, cq, rfl, _, hq, hy⟩
        have hL := hL.below hy (Nat.le_refl _)
        have hb := hb.below hy hb.lt
        have ho := ho.below hy (Nat.le_refl _)
        have hB := hB.trans (hy.mono hB.size)
        clear hc hy
        go_wp2_with fail
        have hc := refSame_any AO AP co cq (eachI cols) (eachI cols) _ _ y5 ho hq HO.out.2.1 HO.out.2.1 HO.out.2.2 HO.out.2.2
        rw [decide_eq_true rfl] at hc
        refine hc.mono ?_
        rintro e y6 ⟨rfl, hy⟩
        have hL := hL.below hy (Nat.le_refl _)
        have hb := hb.below hy hb.lt
        have hB := hB.trans (hy.mono hB.size)
        clear hc hy ho hq
        have b0 := hb.c0
        go_wp2_with fail
        clear b0
        have hc := find_any A1 cp1 l1 a lo1 y6 hL HF.out.1 HF.out.2
        rw [HM.out] at hc
        refine hc.mono ?_
        rintro e y7 ⟨i, k, f, rfl, f1, f2, hy⟩
        have hL := hL.below hy (Nat.le_refl _)
        have hb := hb.below hy hb.lt
        have hB := hB.trans (hy.mono hB.size)
        clear hc hy
        have b0 := hb.c0
        have HFN := Lib.hid (And.intro f1 f2)
        clear f1 f2
        go_wp2_with fail
        clear b0
        have hc := refFind_any A1 cp1 l1 a lo1 y7 hL (by have := HF.out.1; omega) (fun g hg => by have := HF.out.2 g hg; omega)
        rw [HM.out] at hc
        refine hc.mono ?_
        rintro e y8 ⟨i', k', f', rfl, f3, f4, hy⟩
        have hL := hL.below hy (Nat.le_refl _)
        have hb := hb.below hy hb.lt
        have hB := hB.trans (hy.mono hB.size)
        obtain ⟨rfl, rfl, rfl⟩ := find_two HFN.out.1 HFN.out.2 f3 f4
        clear hc hy f3 f4 HFN
        go_wp2_with fail
        have hL := hL.below ((Below.refl y8.heap.size y8).drew) (Nat.le_refl _)
        have hb := hb.drew
        have hB := hB.drew
        generalize hgg : w.heap.size = g at hb ⊢
        clear hgg
        refine Lex.region_lex (ops := pbops) (calls := pbcalls) pbord (fun W => W.cell? ⟨g, 0, none⟩ = some (.int .i64 a) ∧ W.cell? ⟨g, 1, none⟩ = some (.int .i64 b)) (by kernel_rfl) (by kernel_rfl) pbsel (by kernel_rfl) (by kernel_rfl) pblex ((And.intro hb.c0 hb.c1)) ?_
        unfold pbord
        refine Lex.step_call pb0 rfl (Lex.want_none rfl) (fun K hK => ?_)
        go_simp
        refine (awake_any _).mono ?_
        rintro e y0 ⟨rfl, hy0⟩
        have hL := hL.below hy0 (Nat.le_refl _)
        have hb := hb.below hy0 hb.lt
        have hB := hB.trans (hy0.mono hB.size)
        clear hy0
        refine hK.out _ _ _ (fun _ h => h) (And.intro hb.c0 hb.c1) ?_
        clear hK K
        try simp only [Act.put, List.setIfInBounds_toArray, List.set_cons_zero, List.set_cons_succ]
        refine Lex.step_take (.bool true) pb1 rfl (Lex.want_none rfl) (by intro Wx hSw; (try dsimp only at hSw); go_simp; (try (first | (with_reducible rfl) | assumption | rfl))) ?_
        simp only [Act.put, List.setIfInBounds_toArray, List.set_cons_zero, List.set_cons_succ]
        refine Lex.step_take (.int .i64 i') pb2 rfl (Lex.want_some rfl pb1 rfl (b' := true) rfl rfl) (by intro Wx hSw; (try dsimp only at hSw); go_simp; (try (first | (with_reducible rfl) | assumption | rfl))) ?_
        simp only [Act.put, List.setIfInBounds_toArray, List.set_cons_zero, List.set_cons_succ]
        refine Lex.step_take (.int .i64 i') pb3 rfl (Lex.want_some rfl pb1 rfl (b' := true) rfl rfl) (by intro Wx hSw; (try dsimp only at hSw); go_simp; (try (first | (with_reducible rfl) | assumption | rfl))) ?_
        simp only [Act.put, List.setIfInBounds_toArray, List.set_cons_zero, List.set_cons_succ]
        refine Lex.step_take (.bool true) pb4 rfl (Lex.want_some rfl pb1 rfl (b' := true) rfl rfl) (by intro Wx hSw; (try dsimp only at hSw); go_simp; (try (first | (with_reducible rfl) | assumption | rfl))) ?_
        simp only [Act.put, List.setIfInBounds_toArray, List.set_cons_zero, List.set_cons_succ]
        refine Lex.step_take (.bool true) pb5 rfl (Lex.want_none rfl) (by intro Wx hSw; (try dsimp only at hSw); go_simp; (try (first | (with_reducible rfl) | assumption | rfl))) ?_
        simp only [Act.put, List.setIfInBounds_toArray, List.set_cons_zero, List.set_cons_succ]
        refine Lex.step_take (.bool true) pb6 rfl (Lex.want_none rfl) (by intro Wx hSw; (try dsimp only at hSw); go_simp; (try (first | (with_reducible rfl) | assumption | rfl))) ?_
        simp only [Act.put, List.setIfInBounds_toArray, List.set_cons_zero, List.set_cons_succ]
        refine Lex.step_take (.int .i64 k') pb7 rfl (Lex.want_some rfl pb6 rfl (b' := true) rfl rfl) (by intro Wx hSw; (try dsimp only at hSw); go_simp; (try (first | (with_reducible rfl) | assumption | rfl))) ?_
        simp only [Act.put, List.setIfInBounds_toArray, List.set_cons_zero, List.set_cons_succ]
        refine Lex.step_take (.int .i64 k') pb8 rfl (Lex.want_some rfl pb6 rfl (b' := true) rfl rfl) (by intro Wx hSw; (try dsimp only at hSw); go_simp; (try (first | (with_reducible rfl) | assumption | rfl))) ?_
        simp only [Act.put, List.setIfInBounds_toArray, List.set_cons_zero, List.set_cons_succ]
        refine Lex.step_take (.bool true) pb9 rfl (Lex.want_some rfl pb6 rfl (b' := true) rfl rfl) (by intro Wx hSw; (try dsimp only at hSw); go_simp; (try (first | (with_reducible rfl) | assumption | rfl))) ?_
        simp only [Act.put, List.setIfInBounds_toArray, List.set_cons_zero, List.set_cons_succ]
        refine Lex.step_take (.bool true) pb10 rfl (Lex.want_none rfl) (by intro Wx hSw; (try dsimp only at hSw); go_simp; (try (first | (with_reducible rfl) | assumption | rfl))) ?_
        simp only [Act.put, List.setIfInBounds_toArray, List.set_cons_zero, List.set_cons_succ]
        refine Lex.step_take (.bool true) pb11 rfl (Lex.want_none rfl) (by intro Wx hSw; (try dsimp only at hSw); go_simp; (try (first | (with_reducible rfl) | assumption | rfl))) ?_
        simp only [Act.put, List.setIfInBounds_toArray, List.set_cons_zero, List.set_cons_succ]
        refine Lex.step_take (.bool f') pb12 rfl (Lex.want_some rfl pb11 rfl (b' := true) rfl rfl) (by intro Wx hSw; (try dsimp only at hSw); go_simp; (try (first | (with_reducible rfl) | assumption | rfl))) ?_
        simp only [Act.put, List.setIfInBounds_toArray, List.set_cons_zero, List.set_cons_succ]
        refine Lex.step_take (.bool f') pb13 rfl (Lex.want_some rfl pb11 rfl (b' := true) rfl rfl) (by intro Wx hSw; (try dsimp only at hSw); go_simp; (try (first | (with_reducible rfl) | assumption | rfl))) ?_
        simp only [Act.put, List.setIfInBounds_toArray, List.set_cons_zero, List.set_cons_succ]
        refine Lex.step_take (.bool true) pb14 rfl (Lex.want_some rfl pb11 rfl (b' := true) rfl rfl) (by intro Wx hSw; (try dsimp only at hSw); go_simp; (try (first | (with_reducible rfl) | assumption | rfl))) ?_
        simp only [Act.put, List.setIfInBounds_toArray, List.set_cons_zero, List.set_cons_succ]
        refine Lex.step_take (.bool true) pb15 rfl (Lex.want_none rfl) (by intro Wx hSw; (try dsimp only at hSw); go_simp; (try (first | (with_reducible rfl) | assumption | rfl))) ?_
        simp only [Act.put, List.setIfInBounds_toArray, List.set_cons_zero, List.set_cons_succ]
        refine Lex.step_take (.bool true) pb16 rfl (Lex.want_none rfl) (by intro Wx hSw; (try dsimp only at hSw); go_simp; (try (first | (with_reducible rfl) | assumption | rfl))) ?_
        simp only [Act.put, List.setIfInBounds_toArray, List.set_cons_zero, List.set_cons_succ]
        refine Lex.step_take (.bool false) pb17 rfl (Lex.want_some rfl pb16 rfl (b' := true) rfl rfl) (by intro Wx hSw; (try dsimp only at hSw); go_simp; (try (first | (with_reducible rfl) | assumption | rfl))) ?_
        simp only [Act.put, List.setIfInBounds_toArray, List.set_cons_zero, List.set_cons_succ]
        refine Lex.step_take (.bool true) pb18 rfl (Lex.want_some rfl pb16 rfl (b' := true) rfl rfl) (by intro Wx hSw; (try dsimp only at hSw); go_simp; (try (first | (with_reducible rfl) | assumption | rfl))) ?_
        simp only [Act.put, List.setIfInBounds_toArray, List.set_cons_zero, List.set_cons_succ]
        refine Lex.step_take (.bool true) pb19 rfl (Lex.want_some rfl pb16 rfl (b' := true) rfl rfl) (by intro Wx hSw; (try dsimp only at hSw); go_simp; (try (first | (with_reducible rfl) | assumption | rfl))) ?_
        simp only [Act.put, List.setIfInBounds_toArray, List.set_cons_zero, List.set_cons_succ]
        refine Lex.step_skip pb20 (Lex.want_some rfl pb19 rfl (b' := true) rfl rfl) ?_
        simp only [Act.put, List.setIfInBounds_toArray, List.set_cons_zero, List.set_cons_succ]
        refine Lex.step_skip pb22 (Lex.want_some rfl pb19 rfl (b' := true) rfl rfl) ?_
        simp only [Act.put, List.setIfInBounds_toArray, List.set_cons_zero, List.set_cons_succ]
        refine Lex.step_skip pb21 (Lex.want_some rfl pb19 rfl (b' := true) rfl rfl) ?_
        simp only [Act.put, List.setIfInBounds_toArray, List.set_cons_zero, List.set_cons_succ]
        refine Lex.step_skip pb23 (Lex.want_some rfl pb19 rfl (b' := true) rfl rfl) ?_
        simp only [Act.put, List.setIfInBounds_toArray, List.set_cons_zero, List.set_cons_succ]
        refine Lex.step_skip pb24 (Lex.want_some rfl pb19 rfl (b' := true) rfl rfl) ?_
        simp only [Act.put, List.setIfInBounds_toArray, List.set_cons_zero, List.set_cons_succ]
        refine Lex.step_skip pb25 (Lex.want_some rfl pb19 rfl (b' := true) rfl rfl) ?_
        simp only [Act.put, List.setIfInBounds_toArray, List.set_cons_zero, List.set_cons_succ]
        refine Lex.step_skip pb26 (Lex.want_undef rfl pb25 rfl rfl) ?_
        simp only [Act.put, List.setIfInBounds_toArray, List.set_cons_zero, List.set_cons_succ]
        refine Lex.step_skip pb27 (Lex.want_undef rfl pb25 rfl rfl) ?_
        simp only [Act.put, List.setIfInBounds_toArray, List.set_cons_zero, List.set_cons_succ]
        refine Lex.step_skip pb28 (Lex.want_undef rfl pb25 rfl rfl) ?_
        simp only [Act.put, List.setIfInBounds_toArray, List.set_cons_zero, List.set_cons_succ]
        refine Lex.step_skip pb29 (Lex.want_undef rfl pb25 rfl rfl) ?_
        simp only [Act.put, List.setIfInBounds_toArray, List.set_cons_zero, List.set_cons_succ]
        refine Lex.step_skip pb30 (Lex.want_undef rfl pb25 rfl rfl) ?_
        simp only [Act.put, List.setIfInBounds_toArray, List.set_cons_zero, List.set_cons_succ]
        refine Lex.step_skip pb32 (Lex.want_undef rfl pb25 rfl rfl) ?_
        simp only [Act.put, List.setIfInBounds_toArray, List.set_cons_zero, List.set_cons_succ]
        refine Lex.step_skip pb33 (Lex.want_undef rfl pb25 rfl rfl) ?_
        simp only [Act.put, List.setIfInBounds_toArray, List.set_cons_zero, List.set_cons_succ]
        refine Lex.step_skip pb34 (Lex.want_undef rfl pb25 rfl rfl) ?_
        simp only [Act.put, List.setIfInBounds_toArray, List.set_cons_zero, List.set_cons_succ]
        refine Lex.step_skip pb35 (Lex.want_undef rfl pb25 rfl rfl) ?_
        simp only [Act.put, List.setIfInBounds_toArray, List.set_cons_zero, List.set_cons_succ]
        refine Lex.step_skip pb36 (Lex.want_undef rfl pb25 rfl rfl) ?_
        simp only [Act.put, List.setIfInBounds_toArray, List.set_cons_zero, List.set_cons_succ]
        refine Lex.step_skip pb31 (Lex.want_undef rfl pb25 rfl rfl) ?_
        simp only [Act.put, List.setIfInBounds_toArray, List.set_cons_zero, List.set_cons_succ]
        refine Lex.step_skip pb37 (Lex.want_undef rfl pb25 rfl rfl) ?_
        simp only [Act.put, List.setIfInBounds_toArray, List.set_cons_zero, List.set_cons_succ]
        refine Lex.step_skip pb38 (Lex.want_undef rfl pb25 rfl rfl) ?_
        simp only [Act.put, List.setIfInBounds_toArray, List.set_cons_zero, List.set_cons_succ]
        refine Lex.step_skip pb39 (Lex.want_some rfl pb19 rfl (b' := true) rfl rfl) ?_
        simp only [Act.put, List.setIfInBounds_toArray, List.set_cons_zero, List.set_cons_succ]
        refine Lex.step_take (.bool true) pb40 rfl (Lex.want_some rfl pb16 rfl (b' := true) rfl rfl) (by intro Wx hSw; (try dsimp only at hSw); go_simp; (try (first | (with_reducible rfl) | assumption | rfl))) ?_
        simp only [Act.put, List.setIfInBounds_toArray, List.set_cons_zero, List.set_cons_succ]
        refine Lex.step_take (.bool true) pb41 rfl (Lex.want_none rfl) (by intro Wx hSw; (try dsimp only at hSw); go_simp; (try (first | (with_reducible rfl) | assumption | rfl))) ?_
        simp only [Act.put, List.setIfInBounds_toArray, List.set_cons_zero, List.set_cons_succ]
        refine Lex.step_take (.bool true) pb42 rfl (Lex.want_none rfl) (by intro Wx hSw; (try dsimp only at hSw); go_simp; (try (first | (with_reducible rfl) | assumption | rfl))) ?_
        simp only [Act.put, List.setIfInBounds_toArray, List.set_cons_zero, List.set_cons_succ]
        refine NoPanic.normal ?_
        go_wp2
        go_ret
        exact ⟨rfl, hB⟩
      · obtain ⟨n, rfl, hs⟩ := right_out HR.out
        have HS := Lib.hid hs
        clear hs
        go_wp2_with fail
        refine hcr.mono ?_
        rintro e w4 ⟨rfl, hy⟩
        have hL := hL.below hy (Nat.le_refl _)
        have hb := hb.below hy hb.lt
        have hB := hB.trans (hy.mono hB.size)
        clear hy hcr
        go_wp2_with fail
        have hc := one_any (n : Int) w4 hc0 (by omega)
        refine hc.mono ?_
        rintro e y1 ⟨AO, co, rfl, _, ho, hy⟩
        have hL := hL.below hy (Nat.le_refl _)
        have hb := hb.below hy hb.lt
        have hB := hB.trans (hy.mono hB.size)
        clear hc hy
        go_wp2_with fail
        have hc := refOne_any (n : Int) y1 hc0 (by omega)
        refine hc.mono ?_
        rintro e y2 ⟨AP, cq, rfl, _, hq, hy⟩
        have hL := hL.below hy (Nat.le_refl _)
        have hb := hb.below hy hb.lt
        have ho := ho.below hy (Nat.le_refl _)
        have hB := hB.trans (hy.mono hB.size)
        clear hc hy
        go_wp2_with fail
        have hc := refSame_any AO AP co cq (oneI (n : Int)) (oneI (n : Int)) _ _ y2 ho hq HO.out.1.1 HO.out.1.1 HO.out.1.2 HO.out.1.2
        rw [decide_eq_true rfl] at hc
        refine hc.mono ?_
        rintro e y3 ⟨rfl, hy⟩
        have hL := hL.below hy (Nat.le_refl _)
        have hb := hb.below hy hb.lt
        have hB := hB.trans (hy.mono hB.size)
        clear hc hy ho hq
        go_wp2_with fail
        have hc := each_any (n : Int) y3 hc0 (by omega)
        refine hc.mono ?_
        rintro e y4 ⟨AO, co, rfl, _, ho, hy⟩
        have hL := hL.below hy (Nat.le_refl _)
        have hb := hb.below hy hb.lt
        have hB := hB.trans (hy.mono hB.size)
        clear hc hy
        go_wp2_with fail
        have hc := refEach_any (n : Int) y4 hc0 (by omega)
        refine hc.mono ?_
        rintro e y5 ⟨AP, cq, rfl, _, hq, hy⟩
        have hL := hL.below hy (Nat.le_refl _)
        have hb := hb.below hy hb.lt
        have ho := ho.below hy (Nat.le_refl _)
        have hB := hB.trans (hy.mono hB.size)
        clear hc hy
        go_wp2_with fail
        have hc := refSame_any AO AP co cq (eachI (n : Int)) (eachI (n : Int)) _ _ y5 ho hq HO.out.2.1 HO.out.2.1 HO.out.2.2 HO.out.2.2
        rw [decide_eq_true rfl] at hc
        refine hc.mono ?_
        rintro e y6 ⟨rfl, hy⟩
        have hL := hL.below hy (Nat.le_refl _)
        have hb := hb.below hy hb.lt
        have hB := hB.trans (hy.mono hB.size)
        clear hc hy ho hq
        have b0 := hb.c0
        go_wp2_with fail
        clear b0
        have hc := find_any A1 cp1 l1 a lo1 y6 hL HF.out.1 HF.out.2
        rw [HM.out] at hc
        refine hc.mono ?_
        rintro e y7 ⟨i, k, f, rfl, f1, f2, hy⟩
        have hL := hL.below hy (Nat.le_refl _)
        have hb := hb.below hy hb.lt
        have hB := hB.trans (hy.mono hB.size)
        clear hc hy
        have b0 := hb.c0
        have HFN := Lib.hid (And.intro f1 f2)
        clear f1 f2
        go_wp2_with fail
        clear b0
        have hc := refFind_any A1 cp1 l1 a lo1 y7 hL (by have := HF.out.1; omega) (fun g hg => by have := HF.out.2 g hg; omega)
        rw [HM.out] at hc
        refine hc.mono ?_
        rintro e y8 ⟨i', k', f', rfl, f3, f4, hy⟩
        have hL := hL.below hy (Nat.le_refl _)
        have hb := hb.below hy hb.lt
        have hB := hB.trans (hy.mono hB.size)
        obtain ⟨rfl, rfl, rfl⟩ := find_two HFN.out.1 HFN.out.2 f3 f4
        clear hc hy f3 f4 HFN
        have HS' := HS.out
        have hp1 := fun (W : World) (h : HasLL W lo1 A1 l1) => print_any A1 cp1 l1 n lo1 W h HS'
        have hp2 := fun (W : World) (h : HasLL W lo1 A1 l1) => refPrint_any A1 cp1 l1 n lo1 W h HS'
        have hj1 := fun (W : World) (hlow : lo1 ≤ W.heap.size) (h : HasLL W lo1 A1 l1) => join_any A1 cp1 l1 n a b lo1 W h HS' hlow ha0 ha1 hb0 hb1
        have hj2 := fun (W : World) (hlow : lo1 ≤ W.heap.size) (h : HasLL W lo1 A1 l1) => refJoin_any A1 cp1 l1 a b lo1 W h HS'.sizes.1 HS'.sizes.2 hlow ha0 ha1 hb0 hb1
        have hsz := joinI_sizes (a := a) (b := b) HS'
        have hjs := fun (W : World) (AJ AK : Option Addr) (cj ck : Nat) (hj : HasLL W lo1 AJ (joinI l1 a b)) (hk : HasLL W lo1 AK (joinI l1 a b)) => refSame_any AJ AK cj ck _ _ lo1 lo1 W hj hk (by omega) (by omega) (fun g hg => by have := hsz.2 g hg; omega) (fun g hg => by have := hsz.2 g hg; omega)
        rw [HM.out] at hp1 hp2 hj1 hj2
        generalize printSp l1 = p at hp1 hp2
        generalize joinI l1 a b = lj at hj1 hj2 hjs
        simp only [decide_eq_true] at hjs
        unfold JoinPost at hj1 hj2
        obtain ⟨mj, hmj⟩ : ∃ m, lj.length = m := ⟨_, rfl⟩
        rw [hmj] at hj1 hj2 hjs
        have HLO := Lib.hid hlow
        clear HS' hsz hmj hlow
        go_wp2_with fail
        have hL := hL.below ((Below.refl y8.heap.size y8).drew) (Nat.le_refl _)
        have hb := hb.drew
        have hB := hB.drew
        generalize hgg : w.heap.size = g at hb ⊢
        clear hgg
        refine Lex.region_lex (ops := pbops) (calls := pbcalls) pbord (fun W => W.cell? ⟨g, 0, none⟩ = some (.int .i64 a) ∧ W.cell? ⟨g, 1, none⟩ = some (.int .i64 b)) (by kernel_rfl) (by kernel_rfl) pbsel (by kernel_rfl) (by kernel_rfl) pblex ((And.intro hb.c0 hb.c1)) ?_
        unfold pbord
        refine Lex.step_call pb0 rfl (Lex.want_none rfl) (fun K hK => ?_)
        go_simp
        refine (awake_any _).mono ?_
        rintro e y0 ⟨rfl, hy0⟩
        have hL := hL.below hy0 (Nat.le_refl _)
        have hb := hb.below hy0 hb.lt
        have hB := hB.trans (hy0.mono hB.size)
        clear hy0
        refine hK.out _ _ _ (fun _ h => h) (And.intro hb.c0 hb.c1) ?_
        clear hK K
        try simp only [Act.put, List.setIfInBounds_toArray, List.set_cons_zero, List.set_cons_succ]
        refine Lex.step_take (.bool true) pb1 rfl (Lex.want_none rfl) (by intro Wx hSw; (try dsimp only at hSw); go_simp; (try (first | (with_reducible rfl) | assumption | rfl))) ?_
        simp only [Act.put, List.setIfInBounds_toArray, List.set_cons_zero, List.set_cons_succ]
        refine Lex.step_take (.int .i64 i') pb2 rfl (Lex.want_some rfl pb1 rfl (b' := true) rfl rfl) (by intro Wx hSw; (try dsimp only at hSw); go_simp; (try (first | (with_reducible rfl) | assumption | rfl))) ?_
        simp only [Act.put, List.setIfInBounds_toArray, List.set_cons_zero, List.set_cons_succ]
        refine Lex.step_take (.int .i64 i') pb3 rfl (Lex.want_some rfl pb1 rfl (b' := true) rfl rfl) (by intro Wx hSw; (try dsimp only at hSw); go_simp; (try (first | (with_reducible rfl) | assumption | rfl))) ?_
        simp only [Act.put, List.setIfInBounds_toArray, List.set_cons_zero, List.set_cons_succ]
        refine Lex.step_take (.bool true) pb4 rfl (Lex.want_some rfl pb1 rfl (b' := true) rfl rfl) (by intro Wx hSw; (try dsimp only at hSw); go_simp; (try (first | (with_reducible rfl) | assumption | rfl))) ?_
        simp only [Act.put, List.setIfInBounds_toArray, List.set_cons_zero, List.set_cons_succ]
        refine Lex.step_take (.bool true) pb5 rfl (Lex.want_none rfl) (by intro Wx hSw; (try dsimp only at hSw); go_simp; (try (first | (with_reducible rfl) | assumption | rfl))) ?_
        simp only [Act.put, List.setIfInBounds_toArray, List.set_cons_zero, List.set_cons_succ]
        refine Lex.step_take (.bool true) pb6 rfl (Lex.want_none rfl) (by intro Wx hSw; (try dsimp only at hSw); go_simp; (try (first | (with_reducible rfl) | assumption | rfl))) ?_
        simp only [Act.put, List.setIfInBounds_toArray, List.set_cons_zero, List.set_cons_succ]
        refine Lex.step_take (.int .i64 k') pb7 rfl (Lex.want_some rfl pb6 rfl (b' := true) rfl rfl) (by intro Wx hSw; (try dsimp only at hSw); go_simp; (try (first | (with_reducible rfl) | assumption | rfl))) ?_
        simp only [Act.put, List.setIfInBounds_toArray, List.set_cons_zero, List.set_cons_succ]
        refine Lex.step_take (.int .i64 k') pb8 rfl (Lex.want_some rfl pb6 rfl (b' := true) rfl rfl) (by intro Wx hSw; (try dsimp only at hSw); go_simp; (try (first | (with_reducible rfl) | assumption | rfl))) ?_
        simp only [Act.put, List.setIfInBounds_toArray, List.set_cons_zero, List.set_cons_succ]
        refine Lex.step_take (.bool true) pb9 rfl (Lex.want_some rfl pb6 rfl (b' := true) rfl rfl) (by intro Wx hSw; (try dsimp only at hSw); go_simp; (try (first | (with_reducible rfl) | assumption | rfl))) ?_
        simp only [Act.put, List.setIfInBounds_toArray, List.set_cons_zero, List.set_cons_succ]
        refine Lex.step_take (.bool true) pb10 rfl (Lex.want_none rfl) (by intro Wx hSw; (try dsimp only at hSw); go_simp; (try (first | (with_reducible rfl) | assumption | rfl))) ?_
        simp only [Act.put, List.setIfInBounds_toArray, List.set_cons_zero, List.set_cons_succ]
        refine Lex.step_take (.bool true) pb11 rfl (Lex.want_none rfl) (by intro Wx hSw; (try dsimp only at hSw); go_simp; (try (first | (with_reducible rfl) | assumption | rfl))) ?_
        simp only [Act.put, List.setIfInBounds_toArray, List.set_cons_zero, List.set_cons_succ]
        refine Lex.step_take (.bool f') pb12 rfl (Lex.want_some rfl pb11 rfl (b' := true) rfl rfl) (by intro Wx hSw; (try dsimp only at hSw); go_simp; (try (first | (with_reducible rfl) | assumption | rfl))) ?_
        simp only [Act.put, List.setIfInBounds_toArray, List.set_cons_zero, List.set_cons_succ]
        refine Lex.step_take (.bool f') pb13 rfl (Lex.want_some rfl pb11 rfl (b' := true) rfl rfl) (by intro Wx hSw; (try dsimp only at hSw); go_simp; (try (first | (with_reducible rfl) | assumption | rfl))) ?_
        simp only [Act.put, List.setIfInBounds_toArray, List.set_cons_zero, List.set_cons_succ]
        refine Lex.step_take (.bool true) pb14 rfl (Lex.want_some rfl pb11 rfl (b' := true) rfl rfl) (by intro Wx hSw; (try dsimp only at hSw); go_simp; (try (first | (with_reducible rfl) | assumption | rfl))) ?_
        simp only [Act.put, List.setIfInBounds_toArray, List.set_cons_zero, List.set_cons_succ]
        refine Lex.step_take (.bool true) pb15 rfl (Lex.want_none rfl) (by intro Wx hSw; (try dsimp only at hSw); go_simp; (try (first | (with_reducible rfl) | assumption | rfl))) ?_
        simp only [Act.put, List.setIfInBounds_toArray, List.set_cons_zero, List.set_cons_succ]
        refine Lex.step_take (.bool true) pb16 rfl (Lex.want_none rfl) (by intro Wx hSw; (try dsimp only at hSw); go_simp; (try (first | (with_reducible rfl) | assumption | rfl))) ?_
        simp only [Act.put, List.setIfInBounds_toArray, List.set_cons_zero, List.set_cons_succ]
        refine Lex.step_take (.bool true) pb17 rfl (Lex.want_some rfl pb16 rfl (b' := true) rfl rfl) (by intro Wx hSw; (try dsimp only at hSw); go_simp; (try (first | (with_reducible rfl) | assumption | rfl))) ?_
        simp only [Act.put, List.setIfInBounds_toArray, List.set_cons_zero, List.set_cons_succ]
        refine Lex.step_take (.bool false) pb18 rfl (Lex.want_some rfl pb16 rfl (b' := true) rfl rfl) (by intro Wx hSw; (try dsimp only at hSw); go_simp; (try (first | (with_reducible rfl) | assumption | rfl))) ?_
        simp only [Act.put, List.setIfInBounds_toArray, List.set_cons_zero, List.set_cons_succ]
        refine Lex.step_take (.bool false) pb19 rfl (Lex.want_some rfl pb16 rfl (b' := true) rfl rfl) (by intro Wx hSw; (try dsimp only at hSw); go_simp; (try (first | (with_reducible rfl) | assumption | rfl))) ?_
        simp only [Act.put, List.setIfInBounds_toArray, List.set_cons_zero, List.set_cons_succ]
        refine Lex.step_take (.slice A1 m cp1) pb20 rfl (Lex.want_some rfl pb19 rfl (b' := false) rfl rfl) (by intro Wx hSw; (try dsimp only at hSw); go_simp; (try (first | (with_reducible rfl) | assumption | rfl))) ?_
        simp only [Act.put, List.setIfInBounds_toArray, List.set_cons_zero, List.set_cons_succ]
        refine Lex.step_take (.slice A1 m cp1) pb22 rfl (Lex.want_some rfl pb19 rfl (b' := false) rfl rfl) (by intro Wx hSw; (try dsimp only at hSw); go_simp; (try (first | (with_reducible rfl) | assumption | rfl))) ?_
        simp only [Act.put, List.setIfInBounds_toArray, List.set_cons_zero, List.set_cons_succ]
        refine Lex.step_call pb21 rfl (Lex.want_some rfl pb19 rfl (b' := false) rfl rfl) (fun K hK => ?_)
        go_simp
        refine (hp1 _ hL).mono ?_
        rintro e y1 ⟨rfl, hy1⟩
        have hL := hL.below hy1 (Nat.le_refl _)
        have hb := hb.below hy1 hb.lt
        have hB := hB.trans (hy1.mono hB.size)
        clear hy1
        refine hK.out _ _ _ (fun _ h => h) (And.intro hb.c0 hb.c1) ?_
        clear hK K
        try simp only [Act.put, List.setIfInBounds_toArray, List.set_cons_zero, List.set_cons_succ]
        refine Lex.step_call pb23 rfl (Lex.want_some rfl pb19 rfl (b' := false) rfl rfl) (fun K hK => ?_)
        go_simp
        refine (hp2 _ hL).mono ?_
        rintro e y2 ⟨rfl, hy2⟩
        have hL := hL.below hy2 (Nat.le_refl _)
        have hb := hb.below hy2 hb.lt
        have hB := hB.trans (hy2.mono hB.size)
        clear hy2
        refine hK.out _ _ _ (fun _ h => h) (And.intro hb.c0 hb.c1) ?_
        clear hK K
        try simp only [Act.put, List.setIfInBounds_toArray, List.set_cons_zero, List.set_cons_succ]
        refine Lex.step_take (.bool true) pb24 rfl (Lex.want_some rfl pb19 rfl (b' := false) rfl rfl) (by intro Wx hSw; (try dsimp only at hSw); go_simp; (try (first | (with_reducible rfl) | assumption | rfl))) ?_
        simp only [Act.put, List.setIfInBounds_toArray, List.set_cons_zero, List.set_cons_succ]
        refine Lex.step_take (.bool true) pb25 rfl (Lex.want_some rfl pb19 rfl (b' := false) rfl rfl) (by intro Wx hSw; (try dsimp only at hSw); go_simp; (try (first | (with_reducible rfl) | assumption | rfl))) ?_
        simp only [Act.put, List.setIfInBounds_toArray, List.set_cons_zero, List.set_cons_succ]
        refine Lex.step_take (.slice A1 m cp1) pb26 rfl (Lex.want_some rfl pb25 rfl (b' := true) rfl rfl) (by intro Wx hSw; (try dsimp only at hSw); go_simp; (try (first | (with_reducible rfl) | assumption | rfl))) ?_
        simp only [Act.put, List.setIfInBounds_toArray, List.set_cons_zero, List.set_cons_succ]
        refine Lex.step_take (.pointer (some ⟨g, 0, none⟩)) pb27 rfl (Lex.want_some rfl pb25 rfl (b' := true) rfl rfl) (by intro Wx hSw; (try dsimp only at hSw); go_simp; (try (first | (with_reducible rfl) | assumption | rfl))) ?_
        simp only [Act.put, List.setIfInBounds_toArray, List.set_cons_zero, List.set_cons_succ]
        refine Lex.step_take (.int .i64 a) pb28 rfl (Lex.want_some rfl pb25 rfl (b' := true) rfl rfl) (by intro Wx hSw; (try dsimp only at hSw); go_simp; (try (first | (with_reducible rfl) | assumption | rfl))) ?_
        simp only [Act.put, List.setIfInBounds_toArray, List.set_cons_zero, List.set_cons_succ]
        refine Lex.step_take (.pointer (some ⟨g, 1, none⟩)) pb29 rfl (Lex.want_some rfl pb25 rfl (b' := true) rfl rfl) (by intro Wx hSw; (try dsimp only at hSw); go_simp; (try (first | (with_reducible rfl) | assumption | rfl))) ?_
        simp only [Act.put, List.setIfInBounds_toArray, List.set_cons_zero, List.set_cons_succ]
        refine Lex.step_take (.int .i64 b) pb30 rfl (Lex.want_some rfl pb25 rfl (b' := true) rfl rfl) (by intro Wx hSw; (try dsimp only at hSw); go_simp; (try (first | (with_reducible rfl) | assumption | rfl))) ?_
        simp only [Act.put, List.setIfInBounds_toArray, List.set_cons_zero, List.set_cons_succ]
        refine Lex.step_take (.slice A1 m cp1) pb32 rfl (Lex.want_some rfl pb25 rfl (b' := true) rfl rfl) (by intro Wx hSw; (try dsimp only at hSw); go_simp; (try (first | (with_reducible rfl) | assumption | rfl))) ?_
        simp only [Act.put, List.setIfInBounds_toArray, List.set_cons_zero, List.set_cons_succ]
        refine Lex.step_take (.pointer (some ⟨g, 0, none⟩)) pb33 rfl (Lex.want_some rfl pb25 rfl (b' := true) rfl rfl) (by intro Wx hSw; (try dsimp only at hSw); go_simp; (try (first | (with_reducible rfl) | assumption | rfl))) ?_
        simp only [Act.put, List.setIfInBounds_toArray, List.set_cons_zero, List.set_cons_succ]
        refine Lex.step_take (.int .i64 a) pb34 rfl (Lex.want_some rfl pb25 rfl (b' := true) rfl rfl) (by intro Wx hSw; (try dsimp only at hSw); go_simp; (try (first | (with_reducible rfl) | assumption | rfl))) ?_
        simp only [Act.put, List.setIfInBounds_toArray, List.set_cons_zero, List.set_cons_succ]
        refine Lex.step_take (.pointer (some ⟨g, 1, none⟩)) pb35 rfl (Lex.want_some rfl pb25 rfl (b' := true) rfl rfl) (by intro Wx hSw; (try dsimp only at hSw); go_simp; (try (first | (with_reducible rfl) | assumption | rfl))) ?_
        simp only [Act.put, List.setIfInBounds_toArray, List.set_cons_zero, List.set_cons_succ]
        refine Lex.step_take (.int .i64 b) pb36 rfl (Lex.want_some rfl pb25 rfl (b' := true) rfl rfl) (by intro Wx hSw; (try dsimp only at hSw); go_simp; (try (first | (with_reducible rfl) | assumption | rfl))) ?_
        simp only [Act.put, List.setIfInBounds_toArray, List.set_cons_zero, List.set_cons_succ]
        refine Lex.step_call pb31 rfl (Lex.want_some rfl pb25 rfl (b' := true) rfl rfl) (fun K hK => ?_)
        go_simp
        have hlo := Nat.le_trans HLO.out hB.size
        refine (hj1 _ hlo hL).mono ?_
        rintro e y3 ⟨AJ, cj, rfl, hj, hy3⟩
        clear hlo
        have hL := hL.below hy3 (Nat.le_refl _)
        have hb := hb.below hy3 hb.lt
        have hB := hB.trans (hy3.mono hB.size)
        clear hy3
        refine hK.out _ _ _ (fun _ h => h) (And.intro hb.c0 hb.c1) ?_
        clear hK K
        try simp only [Act.put, List.setIfInBounds_toArray, List.set_cons_zero, List.set_cons_succ]
        refine Lex.step_call pb37 rfl (Lex.want_some rfl pb25 rfl (b' := true) rfl rfl) (fun K hK => ?_)
        go_simp
        have hlo := Nat.le_trans HLO.out hB.size
        refine (hj2 _ hlo hL).mono ?_
        rintro e y4 ⟨AK, ck, rfl, hk, hy4⟩
        clear hlo
        have hL := hL.below hy4 (Nat.le_refl _)
        have hb := hb.below hy4 hb.lt
        have hB := hB.trans (hy4.mono hB.size)
        have hj := hj.below hy4 (Nat.le_refl _)
        clear hy4
        refine hK.out _ _ _ (fun _ h => h) (And.intro hb.c0 hb.c1) ?_
        clear hK K
        try simp only [Act.put, List.setIfInBounds_toArray, List.set_cons_zero, List.set_cons_succ]
        refine Lex.step_call pb38 rfl (Lex.want_some rfl pb25 rfl (b' := true) rfl rfl) (fun K hK => ?_)
        go_simp
        refine (hjs _ AJ AK cj ck hj hk).mono ?_
        rintro e y5 ⟨rfl, hy5⟩
        have hL := hL.below hy5 (Nat.le_refl _)
        have hb := hb.below hy5 hb.lt
        have hB := hB.trans (hy5.mono hB.size)
        clear hj hk
        clear hy5
        refine hK.out _ _ _ (fun _ h => h) (And.intro hb.c0 hb.c1) ?_
        clear hK K
        try simp only [Act.put, List.setIfInBounds_toArray, List.set_cons_zero, List.set_cons_succ]
        refine Lex.step_take (.bool true) pb39 rfl (Lex.want_some rfl pb19 rfl (b' := false) rfl rfl) (by intro Wx hSw; (try dsimp only at hSw); go_simp; (try (first | (with_reducible rfl) | assumption | rfl))) ?_
        simp only [Act.put, List.setIfInBounds_toArray, List.set_cons_zero, List.set_cons_succ]
        refine Lex.step_take (.bool true) pb40 rfl (Lex.want_some rfl pb16 rfl (b' := true) rfl rfl) (by intro Wx hSw; (try dsimp only at hSw); go_simp; (try (first | (with_reducible rfl) | assumption | rfl))) ?_
        simp only [Act.put, List.setIfInBounds_toArray, List.set_cons_zero, List.set_cons_succ]
        refine Lex.step_take (.bool true) pb41 rfl (Lex.want_none rfl) (by intro Wx hSw; (try dsimp only at hSw); go_simp; (try (first | (with_reducible rfl) | assumption | rfl))) ?_
        simp only [Act.put, List.setIfInBounds_toArray, List.set_cons_zero, List.set_cons_succ]
        refine Lex.step_take (.bool true) pb42 rfl (Lex.want_none rfl) (by intro Wx hSw; (try dsimp only at hSw); go_simp; (try (first | (with_reducible rfl) | assumption | rfl))) ?_
        simp only [Act.put, List.setIfInBounds_toArray, List.set_cons_zero, List.set_cons_succ]
        refine NoPanic.normal ?_
        go_wp2
        go_ret
        exact ⟨rfl, hB⟩
end Go.Proofs.Ytifcepjflkgbmaa.Sp
