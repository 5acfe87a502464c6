/- ValueTells: whatever two values, walked. -/
import Derived.Test.YtnhejeppjhjnpaaVaF
import Derived.Test.YtnhejeppjhjnpaaXta
namespace Go.Proofs.Ytnhejeppjhjnpaa.Va
open Go.RowKit Pac Lex

set_option maxRecDepth 20000 in
set_option maxHeartbeats 6400000 in
theorem tells_any (a b : V) (w : World) (ha0 : a.Ok) (hsa : a.s.size ≤ 9223372036854775807) (hsb : b.s.size ≤ 9223372036854775807) :
    Calls Try.prog 3 #[a.v, b.v] w fun e w' => e = .returned (.bool true) ∧ Below w.heap.size w w' := by
  have hr1 := fun W : World => right_any a W
  have hr2 := fun W : World => refRight_any a W
  have hc1 := fun W : World => cmp_any a b W
  have hc2 := fun W : World => refCmp_any a b W
  have hp1 := fun (h : rightV a = true) (W : World) => print_any a W ha0 h
  have hp2 := fun (h : rightV a = true) (W : World) => refPrint_any a W ha0 h
  generalize printV a = x at hp1 hp2
  generalize rightV a = r at hr1 hr2 hp1 hp2
  generalize cmpV a b = c at hc1 hc2
  clear ha0
  obtain ⟨k, n, s⟩ := a
  obtain ⟨k2, n2, s2⟩ := b
  simp only at hsa hsb
  have ha := (Box3.new w (.int .i64 k) (.int .i64 n) (.string s) 23).alloc (.cells #[.int .i64 k2, .int .i64 n2, .string s2] 23)
  have hb := Box3.new (w.alloc (.cells #[.int .i64 k, .int .i64 n, .string s] 23)) (.int .i64 k2) (.int .i64 n2) (.string s2) 23
  rw [show (w.alloc (.cells #[.int .i64 k, .int .i64 n, .string s] 23)).heap.size = w.heap.size + 1 by simp] at hb
  have hB := ((Below.refl w.heap.size w).alloc (Nat.le_refl _) (.cells #[.int .i64 k, .int .i64 n, .string s] 23)).alloc (by simp) (.cells #[.int .i64 k2, .int .i64 n2, .string s2] 23)
  show Calls Try.prog 3 #[.agg #[.int .i64 k, .int .i64 n, .string s], .agg #[.int .i64 k2, .int .i64 n2, .string s2]] w _
  go_enter Try.func3, Try.ntmps3
  by_cases q1 : 300 < s.size
  · go_wp2_with fail
    refine (awake_any _).mono ?_
    rintro e w2 ⟨rfl, hw2⟩
    have hB3 := hB.trans (hw2.mono hB.size)
    clear ha hb
    go_wp2
    go_ret
    exact ⟨rfl, hB3⟩
  · by_cases q2 : 300 < s2.size
    · go_wp2_with fail
      refine (awake_any _).mono ?_
      rintro e w2 ⟨rfl, hw2⟩
      have hB3 := hB.trans (hw2.mono hB.size)
      clear ha hb
      go_wp2
      go_ret
      exact ⟨rfl, hB3⟩
    · go_wp2_with fail
      generalize ((w.alloc (.cells #[.int .i64 k, .int .i64 n, .string s] 23)).alloc (.cells #[.int .i64 k2, .int .i64 n2, .string s2] 23)) = w2 at ha hb hB ⊢
      generalize hb2 : w.heap.size + 1 = b2 at hb ⊢
      clear hb2
      generalize hb1 : w.heap.size = b1 at ha ⊢
      clear hb1
      have ha := ha.below ((Below.refl w2.heap.size w2).drew) ha.lt
      have hb := hb.below ((Below.refl w2.heap.size w2).drew) hb.lt
      have hB := hB.drew
      cases r
      · clear hp1 hp2
        refine Lex.region_lex (ops := taops) (calls := tacalls) taord (fun W => W.cell? ⟨b1, 0, none⟩ = some (.int .i64 k) ∧ W.cell? ⟨b1, 1, none⟩ = some (.int .i64 n) ∧ W.cell? ⟨b1, 2, none⟩ = some (.string s) ∧ W.cell? ⟨b2, 0, none⟩ = some (.int .i64 k2) ∧ W.cell? ⟨b2, 1, none⟩ = some (.int .i64 n2) ∧ W.cell? ⟨b2, 2, none⟩ = some (.string s2)) (by kernel_rfl) (by kernel_rfl) tasel (by kernel_rfl) (by kernel_rfl) talex (And.intro ha.c0 (And.intro ha.c1 (And.intro ha.c2 (And.intro hb.c0 (And.intro hb.c1 hb.c2))))) ?_
        unfold taord
        refine Lex.step_call ta0 rfl (Lex.want_none rfl) (fun K hK => ?_)
        go_simp
        refine (awake_any _).mono ?_
        rintro e y0 ⟨rfl, hy0⟩
        have ha := ha.below hy0 ha.lt
        have hb := hb.below hy0 hb.lt
        have hB := hB.trans (hy0.mono hB.size)
        clear hy0
        refine hK.out _ _ _ (fun _ h => h) (And.intro ha.c0 (And.intro ha.c1 (And.intro ha.c2 (And.intro hb.c0 (And.intro hb.c1 hb.c2))))) ?_
        clear hK K
        try simp only [Act.put, List.setIfInBounds_toArray, List.set_cons_zero, List.set_cons_succ]
        refine Lex.step_take (.bool true) ta1 rfl (Lex.want_none rfl) (by intro Wx hSw; (try dsimp only at hSw); go_simp; (try (with_reducible rfl))) ?_
        simp only [Act.put, List.setIfInBounds_toArray, List.set_cons_zero, List.set_cons_succ]
        refine Lex.step_take (.agg #[.int .i64 k, .int .i64 n, .string s]) ta2 rfl (Lex.want_some rfl ta1 rfl (b' := true) rfl rfl) (by intro Wx hSw; (try dsimp only at hSw); go_simp; (try (with_reducible rfl))) ?_
        simp only [Act.put, List.setIfInBounds_toArray, List.set_cons_zero, List.set_cons_succ]
        refine Lex.step_take (.agg #[.int .i64 k, .int .i64 n, .string s]) ta4 rfl (Lex.want_some rfl ta1 rfl (b' := true) rfl rfl) (by intro Wx hSw; (try dsimp only at hSw); go_simp; (try (with_reducible rfl))) ?_
        simp only [Act.put, List.setIfInBounds_toArray, List.set_cons_zero, List.set_cons_succ]
        refine Lex.step_call ta3 rfl (Lex.want_some rfl ta1 rfl (b' := true) rfl rfl) (fun K hK => ?_)
        go_simp
        refine (hr1 _).mono ?_
        rintro e y1 ⟨rfl, hy1⟩
        have ha := ha.below hy1 ha.lt
        have hb := hb.below hy1 hb.lt
        have hB := hB.trans (hy1.mono hB.size)
        clear hy1
        refine hK.out _ _ _ (fun _ h => h) (And.intro ha.c0 (And.intro ha.c1 (And.intro ha.c2 (And.intro hb.c0 (And.intro hb.c1 hb.c2))))) ?_
        clear hK K
        try simp only [Act.put, List.setIfInBounds_toArray, List.set_cons_zero, List.set_cons_succ]
        refine Lex.step_call ta5 rfl (Lex.want_some rfl ta1 rfl (b' := true) rfl rfl) (fun K hK => ?_)
        go_simp
        refine (hr2 _).mono ?_
        rintro e y2 ⟨rfl, hy2⟩
        have ha := ha.below hy2 ha.lt
        have hb := hb.below hy2 hb.lt
        have hB := hB.trans (hy2.mono hB.size)
        clear hy2
        refine hK.out _ _ _ (fun _ h => h) (And.intro ha.c0 (And.intro ha.c1 (And.intro ha.c2 (And.intro hb.c0 (And.intro hb.c1 hb.c2))))) ?_
        clear hK K
        try simp only [Act.put, List.setIfInBounds_toArray, List.set_cons_zero, List.set_cons_succ]
        refine Lex.step_take (.bool true) ta6 rfl (Lex.want_some rfl ta1 rfl (b' := true) rfl rfl) (by intro Wx hSw; (try dsimp only at hSw); go_simp; (try (with_reducible rfl))) ?_
        simp only [Act.put, List.setIfInBounds_toArray, List.set_cons_zero, List.set_cons_succ]
        refine Lex.step_take (.bool true) ta7 rfl (Lex.want_none rfl) (by intro Wx hSw; (try dsimp only at hSw); go_simp; (try (with_reducible rfl))) ?_
        simp only [Act.put, List.setIfInBounds_toArray, List.set_cons_zero, List.set_cons_succ]
        refine Lex.step_take (.bool true) ta8 rfl (Lex.want_none rfl) (by intro Wx hSw; (try dsimp only at hSw); go_simp; (try (with_reducible rfl))) ?_
        simp only [Act.put, List.setIfInBounds_toArray, List.set_cons_zero, List.set_cons_succ]
        refine Lex.step_take (.agg #[.int .i64 k, .int .i64 n, .string s]) ta9 rfl (Lex.want_some rfl ta8 rfl (b' := true) rfl rfl) (by intro Wx hSw; (try dsimp only at hSw); go_simp; (try (with_reducible rfl))) ?_
        simp only [Act.put, List.setIfInBounds_toArray, List.set_cons_zero, List.set_cons_succ]
        refine Lex.step_take (.agg #[.int .i64 k2, .int .i64 n2, .string s2]) ta10 rfl (Lex.want_some rfl ta8 rfl (b' := true) rfl rfl) (by intro Wx hSw; (try dsimp only at hSw); go_simp; (try (with_reducible rfl))) ?_
        simp only [Act.put, List.setIfInBounds_toArray, List.set_cons_zero, List.set_cons_succ]
        refine Lex.step_take (.agg #[.int .i64 k, .int .i64 n, .string s]) ta12 rfl (Lex.want_some rfl ta8 rfl (b' := true) rfl rfl) (by intro Wx hSw; (try dsimp only at hSw); go_simp; (try (with_reducible rfl))) ?_
        simp only [Act.put, List.setIfInBounds_toArray, List.set_cons_zero, List.set_cons_succ]
        refine Lex.step_take (.agg #[.int .i64 k2, .int .i64 n2, .string s2]) ta13 rfl (Lex.want_some rfl ta8 rfl (b' := true) rfl rfl) (by intro Wx hSw; (try dsimp only at hSw); go_simp; (try (with_reducible rfl))) ?_
        simp only [Act.put, List.setIfInBounds_toArray, List.set_cons_zero, List.set_cons_succ]
        refine Lex.step_call ta11 rfl (Lex.want_some rfl ta8 rfl (b' := true) rfl rfl) (fun K hK => ?_)
        go_simp
        refine (hc1 _).mono ?_
        rintro e y3 ⟨rfl, hy3⟩
        have ha := ha.below hy3 ha.lt
        have hb := hb.below hy3 hb.lt
        have hB := hB.trans (hy3.mono hB.size)
        clear hy3
        refine hK.out _ _ _ (fun _ h => h) (And.intro ha.c0 (And.intro ha.c1 (And.intro ha.c2 (And.intro hb.c0 (And.intro hb.c1 hb.c2))))) ?_
        clear hK K
        try simp only [Act.put, List.setIfInBounds_toArray, List.set_cons_zero, List.set_cons_succ]
        refine Lex.step_call ta14 rfl (Lex.want_some rfl ta8 rfl (b' := true) rfl rfl) (fun K hK => ?_)
        go_simp
        refine (hc2 _).mono ?_
        rintro e y4 ⟨rfl, hy4⟩
        have ha := ha.below hy4 ha.lt
        have hb := hb.below hy4 hb.lt
        have hB := hB.trans (hy4.mono hB.size)
        clear hy4
        refine hK.out _ _ _ (fun _ h => h) (And.intro ha.c0 (And.intro ha.c1 (And.intro ha.c2 (And.intro hb.c0 (And.intro hb.c1 hb.c2))))) ?_
        clear hK K
        try simp only [Act.put, List.setIfInBounds_toArray, List.set_cons_zero, List.set_cons_succ]
        refine Lex.step_take (.bool true) ta15 rfl (Lex.want_some rfl ta8 rfl (b' := true) rfl rfl) (by intro Wx hSw; (try dsimp only at hSw); go_simp; (try (with_reducible rfl))) ?_
        simp only [Act.put, List.setIfInBounds_toArray, List.set_cons_zero, List.set_cons_succ]
        refine Lex.step_take (.bool true) ta16 rfl (Lex.want_none rfl) (by intro Wx hSw; (try dsimp only at hSw); go_simp; (try (with_reducible rfl))) ?_
        simp only [Act.put, List.setIfInBounds_toArray, List.set_cons_zero, List.set_cons_succ]
        refine Lex.step_take (.bool true) ta17 rfl (Lex.want_none rfl) (by intro Wx hSw; (try dsimp only at hSw); go_simp; (try (with_reducible rfl))) ?_
        simp only [Act.put, List.setIfInBounds_toArray, List.set_cons_zero, List.set_cons_succ]
        refine Lex.step_take (.agg #[.int .i64 k, .int .i64 n, .string s]) ta18 rfl (Lex.want_some rfl ta17 rfl (b' := true) rfl rfl) (by intro Wx hSw; (try dsimp only at hSw); go_simp; (try (with_reducible rfl))) ?_
        simp only [Act.put, List.setIfInBounds_toArray, List.set_cons_zero, List.set_cons_succ]
        refine Lex.step_call ta19 rfl (Lex.want_some rfl ta17 rfl (b' := true) rfl rfl) (fun K hK => ?_)
        go_simp
        refine (hr1 _).mono ?_
        rintro e y5 ⟨rfl, hy5⟩
        have ha := ha.below hy5 ha.lt
        have hb := hb.below hy5 hb.lt
        have hB := hB.trans (hy5.mono hB.size)
        clear hy5
        refine hK.out _ _ _ (fun _ h => h) (And.intro ha.c0 (And.intro ha.c1 (And.intro ha.c2 (And.intro hb.c0 (And.intro hb.c1 hb.c2))))) ?_
        clear hK K
        try simp only [Act.put, List.setIfInBounds_toArray, List.set_cons_zero, List.set_cons_succ]
        refine Lex.step_take (.bool true) ta20 rfl (Lex.want_some rfl ta17 rfl (b' := true) rfl rfl) (by intro Wx hSw; (try dsimp only at hSw); go_simp; (try (with_reducible rfl))) ?_
        simp only [Act.put, List.setIfInBounds_toArray, List.set_cons_zero, List.set_cons_succ]
        refine Lex.step_take (.bool true) ta21 rfl (Lex.want_some rfl ta17 rfl (b' := true) rfl rfl) (by intro Wx hSw; (try dsimp only at hSw); go_simp; (try (with_reducible rfl))) ?_
        simp only [Act.put, List.setIfInBounds_toArray, List.set_cons_zero, List.set_cons_succ]
        refine Lex.step_skip ta22 (Lex.want_some rfl ta21 rfl (b' := true) rfl rfl) ?_
        simp only [Act.put, List.setIfInBounds_toArray, List.set_cons_zero, List.set_cons_succ]
        refine Lex.step_skip ta24 (Lex.want_some rfl ta21 rfl (b' := true) rfl rfl) ?_
        simp only [Act.put, List.setIfInBounds_toArray, List.set_cons_zero, List.set_cons_succ]
        refine Lex.step_skip ta23 (Lex.want_some rfl ta21 rfl (b' := true) rfl rfl) ?_
        simp only [Act.put, List.setIfInBounds_toArray, List.set_cons_zero, List.set_cons_succ]
        refine Lex.step_skip ta25 (Lex.want_some rfl ta21 rfl (b' := true) rfl rfl) ?_
        simp only [Act.put, List.setIfInBounds_toArray, List.set_cons_zero, List.set_cons_succ]
        refine Lex.step_skip ta26 (Lex.want_some rfl ta21 rfl (b' := true) rfl rfl) ?_
        simp only [Act.put, List.setIfInBounds_toArray, List.set_cons_zero, List.set_cons_succ]
        refine Lex.step_take (.bool true) ta27 rfl (Lex.want_some rfl ta17 rfl (b' := true) rfl rfl) (by intro Wx hSw; (try dsimp only at hSw); go_simp; (try (with_reducible rfl))) ?_
        simp only [Act.put, List.setIfInBounds_toArray, List.set_cons_zero, List.set_cons_succ]
        refine Lex.step_take (.bool true) ta28 rfl (Lex.want_none rfl) (by intro Wx hSw; (try dsimp only at hSw); go_simp; (try (with_reducible rfl))) ?_
        simp only [Act.put, List.setIfInBounds_toArray, List.set_cons_zero, List.set_cons_succ]
        refine Lex.step_take (.bool true) ta29 rfl (Lex.want_none rfl) (by intro Wx hSw; (try dsimp only at hSw); go_simp; (try (with_reducible rfl))) ?_
        simp only [Act.put, List.setIfInBounds_toArray, List.set_cons_zero, List.set_cons_succ]
        refine NoPanic.normal ?_
        go_wp2
        go_ret
        exact ⟨rfl, hB⟩
      · have hp1 := hp1 rfl
        have hp2 := hp2 rfl
        refine Lex.region_lex (ops := taops) (calls := tacalls) taord (fun W => W.cell? ⟨b1, 0, none⟩ = some (.int .i64 k) ∧ W.cell? ⟨b1, 1, none⟩ = some (.int .i64 n) ∧ W.cell? ⟨b1, 2, none⟩ = some (.string s) ∧ W.cell? ⟨b2, 0, none⟩ = some (.int .i64 k2) ∧ W.cell? ⟨b2, 1, none⟩ = some (.int .i64 n2) ∧ W.cell? ⟨b2, 2, none⟩ = some (.string s2)) (by kernel_rfl) (by kernel_rfl) tasel (by kernel_rfl) (by kernel_rfl) talex (And.intro ha.c0 (And.intro ha.c1 (And.intro ha.c2 (And.intro hb.c0 (And.intro hb.c1 hb.c2))))) ?_
        unfold taord
        refine Lex.step_call ta0 rfl (Lex.want_none rfl) (fun K hK => ?_)
        go_simp
        refine (awake_any _).mono ?_
        rintro e y0 ⟨rfl, hy0⟩
        have ha := ha.below hy0 ha.lt
        have hb := hb.below hy0 hb.lt
        have hB := hB.trans (hy0.mono hB.size)
        clear hy0
        refine hK.out _ _ _ (fun _ h => h) (And.intro ha.c0 (And.intro ha.c1 (And.intro ha.c2 (And.intro hb.c0 (And.intro hb.c1 hb.c2))))) ?_
        clear hK K
        try simp only [Act.put, List.setIfInBounds_toArray, List.set_cons_zero, List.set_cons_succ]
        refine Lex.step_take (.bool true) ta1 rfl (Lex.want_none rfl) (by intro Wx hSw; (try dsimp only at hSw); go_simp; (try (with_reducible rfl))) ?_
        simp only [Act.put, List.setIfInBounds_toArray, List.set_cons_zero, List.set_cons_succ]
        refine Lex.step_take (.agg #[.int .i64 k, .int .i64 n, .string s]) ta2 rfl (Lex.want_some rfl ta1 rfl (b' := true) rfl rfl) (by intro Wx hSw; (try dsimp only at hSw); go_simp; (try (with_reducible rfl))) ?_
        simp only [Act.put, List.setIfInBounds_toArray, List.set_cons_zero, List.set_cons_succ]
        refine Lex.step_take (.agg #[.int .i64 k, .int .i64 n, .string s]) ta4 rfl (Lex.want_some rfl ta1 rfl (b' := true) rfl rfl) (by intro Wx hSw; (try dsimp only at hSw); go_simp; (try (with_reducible rfl))) ?_
        simp only [Act.put, List.setIfInBounds_toArray, List.set_cons_zero, List.set_cons_succ]
        refine Lex.step_call ta3 rfl (Lex.want_some rfl ta1 rfl (b' := true) rfl rfl) (fun K hK => ?_)
        go_simp
        refine (hr1 _).mono ?_
        rintro e y1 ⟨rfl, hy1⟩
        have ha := ha.below hy1 ha.lt
        have hb := hb.below hy1 hb.lt
        have hB := hB.trans (hy1.mono hB.size)
        clear hy1
        refine hK.out _ _ _ (fun _ h => h) (And.intro ha.c0 (And.intro ha.c1 (And.intro ha.c2 (And.intro hb.c0 (And.intro hb.c1 hb.c2))))) ?_
        clear hK K
        try simp only [Act.put, List.setIfInBounds_toArray, List.set_cons_zero, List.set_cons_succ]
        refine Lex.step_call ta5 rfl (Lex.want_some rfl ta1 rfl (b' := true) rfl rfl) (fun K hK => ?_)
        go_simp
        refine (hr2 _).mono ?_
        rintro e y2 ⟨rfl, hy2⟩
        have ha := ha.below hy2 ha.lt
        have hb := hb.below hy2 hb.lt
        have hB := hB.trans (hy2.mono hB.size)
        clear hy2
        refine hK.out _ _ _ (fun _ h => h) (And.intro ha.c0 (And.intro ha.c1 (And.intro ha.c2 (And.intro hb.c0 (And.intro hb.c1 hb.c2))))) ?_
        clear hK K
        try simp only [Act.put, List.setIfInBounds_toArray, List.set_cons_zero, List.set_cons_succ]
        refine Lex.step_take (.bool true) ta6 rfl (Lex.want_some rfl ta1 rfl (b' := true) rfl rfl) (by intro Wx hSw; (try dsimp only at hSw); go_simp; (try (with_reducible rfl))) ?_
        simp only [Act.put, List.setIfInBounds_toArray, List.set_cons_zero, List.set_cons_succ]
        refine Lex.step_take (.bool true) ta7 rfl (Lex.want_none rfl) (by intro Wx hSw; (try dsimp only at hSw); go_simp; (try (with_reducible rfl))) ?_
        simp only [Act.put, List.setIfInBounds_toArray, List.set_cons_zero, List.set_cons_succ]
        refine Lex.step_take (.bool true) ta8 rfl (Lex.want_none rfl) (by intro Wx hSw; (try dsimp only at hSw); go_simp; (try (with_reducible rfl))) ?_
        simp only [Act.put, List.setIfInBounds_toArray, List.set_cons_zero, List.set_cons_succ]
        refine Lex.step_take (.agg #[.int .i64 k, .int .i64 n, .string s]) ta9 rfl (Lex.want_some rfl ta8 rfl (b' := true) rfl rfl) (by intro Wx hSw; (try dsimp only at hSw); go_simp; (try (with_reducible rfl))) ?_
        simp only [Act.put, List.setIfInBounds_toArray, List.set_cons_zero, List.set_cons_succ]
        refine Lex.step_take (.agg #[.int .i64 k2, .int .i64 n2, .string s2]) ta10 rfl (Lex.want_some rfl ta8 rfl (b' := true) rfl rfl) (by intro Wx hSw; (try dsimp only at hSw); go_simp; (try (with_reducible rfl))) ?_
        simp only [Act.put, List.setIfInBounds_toArray, List.set_cons_zero, List.set_cons_succ]
        refine Lex.step_take (.agg #[.int .i64 k, .int .i64 n, .string s]) ta12 rfl (Lex.want_some rfl ta8 rfl (b' := true) rfl rfl) (by intro Wx hSw; (try dsimp only at hSw); go_simp; (try (with_reducible rfl))) ?_
        simp only [Act.put, List.setIfInBounds_toArray, List.set_cons_zero, List.set_cons_succ]
        refine Lex.step_take (.agg #[.int .i64 k2, .int .i64 n2, .string s2]) ta13 rfl (Lex.want_some rfl ta8 rfl (b' := true) rfl rfl) (by intro Wx hSw; (try dsimp only at hSw); go_simp; (try (with_reducible rfl))) ?_
        simp only [Act.put, List.setIfInBounds_toArray, List.set_cons_zero, List.set_cons_succ]
        refine Lex.step_call ta11 rfl (Lex.want_some rfl ta8 rfl (b' := true) rfl rfl) (fun K hK => ?_)
        go_simp
        refine (hc1 _).mono ?_
        rintro e y3 ⟨rfl, hy3⟩
        have ha := ha.below hy3 ha.lt
        have hb := hb.below hy3 hb.lt
        have hB := hB.trans (hy3.mono hB.size)
        clear hy3
        refine hK.out _ _ _ (fun _ h => h) (And.intro ha.c0 (And.intro ha.c1 (And.intro ha.c2 (And.intro hb.c0 (And.intro hb.c1 hb.c2))))) ?_
        clear hK K
        try simp only [Act.put, List.setIfInBounds_toArray, List.set_cons_zero, List.set_cons_succ]
        refine Lex.step_call ta14 rfl (Lex.want_some rfl ta8 rfl (b' := true) rfl rfl) (fun K hK => ?_)
        go_simp
        refine (hc2 _).mono ?_
        rintro e y4 ⟨rfl, hy4⟩
        have ha := ha.below hy4 ha.lt
        have hb := hb.below hy4 hb.lt
        have hB := hB.trans (hy4.mono hB.size)
        clear hy4
        refine hK.out _ _ _ (fun _ h => h) (And.intro ha.c0 (And.intro ha.c1 (And.intro ha.c2 (And.intro hb.c0 (And.intro hb.c1 hb.c2))))) ?_
        clear hK K
        try simp only [Act.put, List.setIfInBounds_toArray, List.set_cons_zero, List.set_cons_succ]
        refine Lex.step_take (.bool true) ta15 rfl (Lex.want_some rfl ta8 rfl (b' := true) rfl rfl) (by intro Wx hSw; (try dsimp only at hSw); go_simp; (try (with_reducible rfl))) ?_
        simp only [Act.put, List.setIfInBounds_toArray, List.set_cons_zero, List.set_cons_succ]
        refine Lex.step_take (.bool true) ta16 rfl (Lex.want_none rfl) (by intro Wx hSw; (try dsimp only at hSw); go_simp; (try (with_reducible rfl))) ?_
        simp only [Act.put, List.setIfInBounds_toArray, List.set_cons_zero, List.set_cons_succ]
        refine Lex.step_take (.bool true) ta17 rfl (Lex.want_none rfl) (by intro Wx hSw; (try dsimp only at hSw); go_simp; (try (with_reducible rfl))) ?_
        simp only [Act.put, List.setIfInBounds_toArray, List.set_cons_zero, List.set_cons_succ]
        refine Lex.step_take (.agg #[.int .i64 k, .int .i64 n, .string s]) ta18 rfl (Lex.want_some rfl ta17 rfl (b' := true) rfl rfl) (by intro Wx hSw; (try dsimp only at hSw); go_simp; (try (with_reducible rfl))) ?_
        simp only [Act.put, List.setIfInBounds_toArray, List.set_cons_zero, List.set_cons_succ]
        refine Lex.step_call ta19 rfl (Lex.want_some rfl ta17 rfl (b' := true) rfl rfl) (fun K hK => ?_)
        go_simp
        refine (hr1 _).mono ?_
        rintro e y5 ⟨rfl, hy5⟩
        have ha := ha.below hy5 ha.lt
        have hb := hb.below hy5 hb.lt
        have hB := hB.trans (hy5.mono hB.size)
        clear hy5
        refine hK.out _ _ _ (fun _ h => h) (And.intro ha.c0 (And.intro ha.c1 (And.intro ha.c2 (And.intro hb.c0 (And.intro hb.c1 hb.c2))))) ?_
        clear hK K
        try simp only [Act.put, List.setIfInBounds_toArray, List.set_cons_zero, List.set_cons_succ]
        refine Lex.step_take (.bool false) ta20 rfl (Lex.want_some rfl ta17 rfl (b' := true) rfl rfl) (by intro Wx hSw; (try dsimp only at hSw); go_simp; (try (with_reducible rfl))) ?_
        simp only [Act.put, List.setIfInBounds_toArray, List.set_cons_zero, List.set_cons_succ]
        refine Lex.step_take (.bool false) ta21 rfl (Lex.want_some rfl ta17 rfl (b' := true) rfl rfl) (by intro Wx hSw; (try dsimp only at hSw); go_simp; (try (with_reducible rfl))) ?_
        simp only [Act.put, List.setIfInBounds_toArray, List.set_cons_zero, List.set_cons_succ]
        refine Lex.step_take (.agg #[.int .i64 k, .int .i64 n, .string s]) ta22 rfl (Lex.want_some rfl ta21 rfl (b' := false) rfl rfl) (by intro Wx hSw; (try dsimp only at hSw); go_simp; (try (with_reducible rfl))) ?_
        simp only [Act.put, List.setIfInBounds_toArray, List.set_cons_zero, List.set_cons_succ]
        refine Lex.step_take (.agg #[.int .i64 k, .int .i64 n, .string s]) ta24 rfl (Lex.want_some rfl ta21 rfl (b' := false) rfl rfl) (by intro Wx hSw; (try dsimp only at hSw); go_simp; (try (with_reducible rfl))) ?_
        simp only [Act.put, List.setIfInBounds_toArray, List.set_cons_zero, List.set_cons_succ]
        refine Lex.step_call ta23 rfl (Lex.want_some rfl ta21 rfl (b' := false) rfl rfl) (fun K hK => ?_)
        go_simp
        refine (hp1 _).mono ?_
        rintro e y6 ⟨rfl, hy6⟩
        have ha := ha.below hy6 ha.lt
        have hb := hb.below hy6 hb.lt
        have hB := hB.trans (hy6.mono hB.size)
        clear hy6
        refine hK.out _ _ _ (fun _ h => h) (And.intro ha.c0 (And.intro ha.c1 (And.intro ha.c2 (And.intro hb.c0 (And.intro hb.c1 hb.c2))))) ?_
        clear hK K
        try simp only [Act.put, List.setIfInBounds_toArray, List.set_cons_zero, List.set_cons_succ]
        refine Lex.step_call ta25 rfl (Lex.want_some rfl ta21 rfl (b' := false) rfl rfl) (fun K hK => ?_)
        go_simp
        refine (hp2 _).mono ?_
        rintro e y7 ⟨rfl, hy7⟩
        have ha := ha.below hy7 ha.lt
        have hb := hb.below hy7 hb.lt
        have hB := hB.trans (hy7.mono hB.size)
        clear hy7
        refine hK.out _ _ _ (fun _ h => h) (And.intro ha.c0 (And.intro ha.c1 (And.intro ha.c2 (And.intro hb.c0 (And.intro hb.c1 hb.c2))))) ?_
        clear hK K
        try simp only [Act.put, List.setIfInBounds_toArray, List.set_cons_zero, List.set_cons_succ]
        refine Lex.step_take (.bool true) ta26 rfl (Lex.want_some rfl ta21 rfl (b' := false) rfl rfl) (by intro Wx hSw; (try dsimp only at hSw); go_simp; (try (with_reducible rfl))) ?_
        simp only [Act.put, List.setIfInBounds_toArray, List.set_cons_zero, List.set_cons_succ]
        refine Lex.step_take (.bool true) ta27 rfl (Lex.want_some rfl ta17 rfl (b' := true) rfl rfl) (by intro Wx hSw; (try dsimp only at hSw); go_simp; (try (with_reducible rfl))) ?_
        simp only [Act.put, List.setIfInBounds_toArray, List.set_cons_zero, List.set_cons_succ]
        refine Lex.step_take (.bool true) ta28 rfl (Lex.want_none rfl) (by intro Wx hSw; (try dsimp only at hSw); go_simp; (try (with_reducible rfl))) ?_
        simp only [Act.put, List.setIfInBounds_toArray, List.set_cons_zero, List.set_cons_succ]
        refine Lex.step_take (.bool true) ta29 rfl (Lex.want_none rfl) (by intro Wx hSw; (try dsimp only at hSw); go_simp; (try (with_reducible rfl))) ?_
        simp only [Act.put, List.setIfInBounds_toArray, List.set_cons_zero, List.set_cons_succ]
        refine NoPanic.normal ?_
        go_wp2
        go_ret
        exact ⟨rfl, hB⟩
end Go.Proofs.Ytnhejeppjhjnpaa.Va
