/- ValueReads: whatever bytes, walked. -/
import Derived.Test.YtnhejeppjhjnpaaVaF
import Derived.Test.YtnhejeppjhjnpaaXtb
namespace Go.Proofs.Ytnhejeppjhjnpaa.Va
open Go.RowKit Pac Lex

set_option maxRecDepth 20000 in
set_option maxHeartbeats 6400000 in
theorem reads_any (s : ByteArray) (w : World) : Calls Try.prog 4 #[.string s] w fun e w' => e = .returned (.bool true) ∧ Below w.heap.size w w' := by
  by_cases q1 : 200 < s.size
  · go_enter Try.func4, Try.ntmps4
    go_wp2_with fail
    refine (awake_any _).mono ?_
    rintro e w2 ⟨rfl, hw2⟩
    go_wp2
    go_ret
    exact ⟨rfl, hw2⟩
  · have hr1 : ∀ (g : Nat) (W : World), IsBox W g s false → Calls Try.prog 15 #[.pointer (some ⟨g, 0, none⟩)] W fun e w' => e = .returned (readV s false).1.v ∧ IsBox w' g (readV s false).2.1 (readV s false).2.2 ∧ Bar g W w' := fun g W h => read_any g s false W h (by omega)
    have hr2 : ∀ (g : Nat) (W : World), IsBox W g s false → Calls Try.prog 16 #[.pointer (some ⟨g, 0, none⟩)] W fun e w' => e = .returned (readV s false).1.v ∧ IsBox w' g (readV s false).2.1 (readV s false).2.2 ∧ Bar g W w' := fun g W h => refRead_any g s false W h (by omega)
    generalize readV s false = r at hr1 hr2
    obtain ⟨⟨vk, vn, vs⟩, t, d⟩ := r
    have hr1 : ∀ (g : Nat) (W : World), IsBox W g s false → Calls Try.prog 15 #[.pointer (some ⟨g, 0, none⟩)] W fun e w' => e = .returned (.agg #[.int .i64 vk, .int .i64 vn, .string vs]) ∧ IsBox w' g t d ∧ Bar g W w' := hr1
    have hr2 : ∀ (g : Nat) (W : World), IsBox W g s false → Calls Try.prog 16 #[.pointer (some ⟨g, 0, none⟩)] W fun e w' => e = .returned (.agg #[.int .i64 vk, .int .i64 vn, .string vs]) ∧ IsBox w' g t d ∧ Bar g W w' := hr2
    have h3 := (Box2.new w (.string s) (.bool false) 31).alloc (.cells #[.string s, .bool false] 33)
    have h4 := Box2.new (w.alloc (.cells #[.string s, .bool false] 31)) (.string s) (.bool false) 33
    rw [show (w.alloc (.cells #[.string s, .bool false] 31)).heap.size = w.heap.size + 1 by simp] at h4
    have hB := ((Below.refl w.heap.size w).alloc (Nat.le_refl _) (.cells #[.string s, .bool false] 31)).alloc (by simp) (.cells #[.string s, .bool false] 33)
    have hr1 := hr1 w.heap.size
    have hr2 := hr2 (w.heap.size + 1)
    have n34 : w.heap.size ≠ w.heap.size + 1 := by omega
    have l3 := Nat.le_refl w.heap.size
    have l4 : w.heap.size ≤ w.heap.size + 1 := by omega
    have HN := Lib.hid (And.intro n34 l4)
    clear n34 l4
    go_enter Try.func4, Try.ntmps4
    go_wp2_with fail
    obtain ⟨n34, l4⟩ := HN.out
    generalize ((w.alloc (.cells #[.string s, .bool false] 31)).alloc (.cells #[.string s, .bool false] 33)) = w2 at h3 h4 hB ⊢
    generalize hb2 : w.heap.size + 1 = b4 at h4 hr2 n34 l4 ⊢
    clear hb2
    have hB0 : Below w.heap.size w w2 := hB
    generalize hb1 : w.heap.size = b3 at h3 hr1 n34 ⊢
    have l3 : w.heap.size ≤ b3 := by omega
    clear hb1 hB0
    have h3 := h3.drew
    have h4 := h4.drew
    have hB := hB.drew
    cases d
    · skip
      refine Lex.region_lex (ops := tbops) (calls := tbcalls) tbord (fun _ => True) (by kernel_rfl) (by kernel_rfl) tbsel (by kernel_rfl) (by kernel_rfl) tblex (trivial) ?_
      unfold tbord
      refine Lex.step_call tb0 rfl (Lex.want_none rfl) (fun K hK => ?_)
      go_simp
      refine (awake_any _).mono ?_
      rintro e y0 ⟨rfl, hy0⟩
      have h3 := h3.below hy0 h3.lt
      have h4 := h4.below hy0 h4.lt
      have hB := hB.trans (hy0.mono hB.size)
      clear hy0
      refine hK.out _ _ _ (fun _ h => h) trivial ?_
      clear hK K
      try simp only [Act.put, List.setIfInBounds_toArray, List.set_cons_zero, List.set_cons_succ]
      refine Lex.step_take (.bool true) tb1 rfl (Lex.want_none rfl) (by intro Wx hSw; (try dsimp only at hSw); go_simp; (try (with_reducible rfl))) ?_
      simp only [Act.put, List.setIfInBounds_toArray, List.set_cons_zero, List.set_cons_succ]
      refine Lex.step_take (.pointer (some ⟨b3, 0, none⟩)) tb2 rfl (Lex.want_some rfl tb1 rfl (b' := true) rfl rfl) (by intro Wx hSw; (try dsimp only at hSw); go_simp; (try (with_reducible rfl))) ?_
      simp only [Act.put, List.setIfInBounds_toArray, List.set_cons_zero, List.set_cons_succ]
      refine Lex.step_take (.pointer (some ⟨b4, 0, none⟩)) tb4 rfl (Lex.want_some rfl tb1 rfl (b' := true) rfl rfl) (by intro Wx hSw; (try dsimp only at hSw); go_simp; (try (with_reducible rfl))) ?_
      simp only [Act.put, List.setIfInBounds_toArray, List.set_cons_zero, List.set_cons_succ]
      refine Lex.step_call tb3 rfl (Lex.want_some rfl tb1 rfl (b' := true) rfl rfl) (fun K hK => ?_)
      go_simp
      refine (hr1 _ h3).mono ?_
      rintro e y1 ⟨rfl, h3', hy1⟩
      have h4 := h4.bar hy1 n34.symm
      have hB := hB.trans (hy1.below l3 hB.size)
      have lt3 := h3'.lt
      clear hy1 h3
      refine hK.out _ _ _ (fun _ h => h) trivial ?_
      clear hK K
      try simp only [Act.put, List.setIfInBounds_toArray, List.set_cons_zero, List.set_cons_succ]
      refine Lex.step_call tb5 rfl (Lex.want_some rfl tb1 rfl (b' := true) rfl rfl) (fun K hK => ?_)
      go_simp
      refine (hr2 _ h4).mono ?_
      rintro e y2 ⟨rfl, h4', hy2⟩
      have h3 := h3'.bar hy2 n34
      have hB := hB.trans (hy2.below l4 hB.size)
      clear hy2 h4 h3'
      refine hK.out (fun W => W.cell? ⟨b3, 0, none⟩ = some (.string t) ∧ W.cell? ⟨b3, 1, none⟩ = some (.bool false) ∧ W.cell? ⟨b4, 0, none⟩ = some (.string t) ∧ W.cell? ⟨b4, 1, none⟩ = some (.bool false)) _ _ (fun _ _ => trivial) (And.intro h3.c0 (And.intro h3.c1 (And.intro h4'.c0 h4'.c1))) ?_
      clear hK K
      try simp only [Act.put, List.setIfInBounds_toArray, List.set_cons_zero, List.set_cons_succ]
      refine Lex.step_take (.bool true) tb6 rfl (Lex.want_some rfl tb1 rfl (b' := true) rfl rfl) (by intro Wx hSw; (try dsimp only at hSw); go_simp; (try (with_reducible rfl))) ?_
      simp only [Act.put, List.setIfInBounds_toArray, List.set_cons_zero, List.set_cons_succ]
      refine Lex.step_take (.bool true) tb7 rfl (Lex.want_none rfl) (by intro Wx hSw; (try dsimp only at hSw); go_simp; (try (with_reducible rfl))) ?_
      simp only [Act.put, List.setIfInBounds_toArray, List.set_cons_zero, List.set_cons_succ]
      refine Lex.step_take (.bool true) tb8 rfl (Lex.want_none rfl) (by intro Wx hSw; (try dsimp only at hSw); go_simp; (try (with_reducible rfl))) ?_
      simp only [Act.put, List.setIfInBounds_toArray, List.set_cons_zero, List.set_cons_succ]
      refine Lex.step_take (.pointer (some ⟨b3, 0, none⟩)) tb9 rfl (Lex.want_some rfl tb8 rfl (b' := true) rfl rfl) (by intro Wx hSw; (try dsimp only at hSw); go_simp; (try (with_reducible rfl))) ?_
      simp only [Act.put, List.setIfInBounds_toArray, List.set_cons_zero, List.set_cons_succ]
      refine Lex.step_take (.pointer (some ⟨b3, 0, none⟩)) tb10 rfl (Lex.want_some rfl tb8 rfl (b' := true) rfl rfl) (by intro Wx hSw; (try dsimp only at hSw); go_simp; (try (with_reducible rfl))) ?_
      simp only [Act.put, List.setIfInBounds_toArray, List.set_cons_zero, List.set_cons_succ]
      refine Lex.step_take (.pointer (some ⟨b3, 1, none⟩)) tb11 rfl (Lex.want_some rfl tb8 rfl (b' := true) rfl rfl) (by intro Wx hSw; (try dsimp only at hSw); go_simp; (try (with_reducible rfl))) ?_
      simp only [Act.put, List.setIfInBounds_toArray, List.set_cons_zero, List.set_cons_succ]
      refine Lex.step_take (.bool false) tb12 rfl (Lex.want_some rfl tb8 rfl (b' := true) rfl rfl) (by intro Wx hSw; (try dsimp only at hSw); go_simp; (try (with_reducible rfl))) ?_
      simp only [Act.put, List.setIfInBounds_toArray, List.set_cons_zero, List.set_cons_succ]
      refine Lex.step_take (.pointer (some ⟨b4, 0, none⟩)) tb13 rfl (Lex.want_some rfl tb8 rfl (b' := true) rfl rfl) (by intro Wx hSw; (try dsimp only at hSw); go_simp; (try (with_reducible rfl))) ?_
      simp only [Act.put, List.setIfInBounds_toArray, List.set_cons_zero, List.set_cons_succ]
      refine Lex.step_take (.pointer (some ⟨b4, 0, none⟩)) tb14 rfl (Lex.want_some rfl tb8 rfl (b' := true) rfl rfl) (by intro Wx hSw; (try dsimp only at hSw); go_simp; (try (with_reducible rfl))) ?_
      simp only [Act.put, List.setIfInBounds_toArray, List.set_cons_zero, List.set_cons_succ]
      refine Lex.step_take (.pointer (some ⟨b4, 1, none⟩)) tb15 rfl (Lex.want_some rfl tb8 rfl (b' := true) rfl rfl) (by intro Wx hSw; (try dsimp only at hSw); go_simp; (try (with_reducible rfl))) ?_
      simp only [Act.put, List.setIfInBounds_toArray, List.set_cons_zero, List.set_cons_succ]
      refine Lex.step_take (.bool false) tb16 rfl (Lex.want_some rfl tb8 rfl (b' := true) rfl rfl) (by intro Wx hSw; (try dsimp only at hSw); go_simp; (try (with_reducible rfl))) ?_
      simp only [Act.put, List.setIfInBounds_toArray, List.set_cons_zero, List.set_cons_succ]
      refine Lex.step_take (.bool true) tb17 rfl (Lex.want_some rfl tb8 rfl (b' := true) rfl rfl) (by intro Wx hSw; (try dsimp only at hSw); go_simp; (try (with_reducible rfl))) ?_
      simp only [Act.put, List.setIfInBounds_toArray, List.set_cons_zero, List.set_cons_succ]
      refine Lex.step_take (.bool true) tb18 rfl (Lex.want_none rfl) (by intro Wx hSw; (try dsimp only at hSw); go_simp; (try (with_reducible rfl))) ?_
      simp only [Act.put, List.setIfInBounds_toArray, List.set_cons_zero, List.set_cons_succ]
      refine Lex.step_take (.bool true) tb19 rfl (Lex.want_none rfl) (by intro Wx hSw; (try dsimp only at hSw); go_simp; (try (with_reducible rfl))) ?_
      simp only [Act.put, List.setIfInBounds_toArray, List.set_cons_zero, List.set_cons_succ]
      refine Lex.step_take (.pointer (some ⟨b3, 0, none⟩)) tb20 rfl (Lex.want_some rfl tb19 rfl (b' := true) rfl rfl) (by intro Wx hSw; (try dsimp only at hSw); go_simp; (try (with_reducible rfl))) ?_
      simp only [Act.put, List.setIfInBounds_toArray, List.set_cons_zero, List.set_cons_succ]
      refine Lex.step_take (.pointer (some ⟨b3, 0, none⟩)) tb21 rfl (Lex.want_some rfl tb19 rfl (b' := true) rfl rfl) (by intro Wx hSw; (try dsimp only at hSw); go_simp; (try (with_reducible rfl))) ?_
      simp only [Act.put, List.setIfInBounds_toArray, List.set_cons_zero, List.set_cons_succ]
      refine Lex.step_take (.pointer (some ⟨b3, 1, none⟩)) tb22 rfl (Lex.want_some rfl tb19 rfl (b' := true) rfl rfl) (by intro Wx hSw; (try dsimp only at hSw); go_simp; (try (with_reducible rfl))) ?_
      simp only [Act.put, List.setIfInBounds_toArray, List.set_cons_zero, List.set_cons_succ]
      refine Lex.step_take (.bool false) tb23 rfl (Lex.want_some rfl tb19 rfl (b' := true) rfl rfl) (by intro Wx hSw; (try dsimp only at hSw); go_simp; (try (with_reducible rfl))) ?_
      simp only [Act.put, List.setIfInBounds_toArray, List.set_cons_zero, List.set_cons_succ]
      refine Lex.step_take (.bool false) tb24 rfl (Lex.want_some rfl tb19 rfl (b' := true) rfl rfl) (by intro Wx hSw; (try dsimp only at hSw); go_simp; (try (with_reducible rfl))) ?_
      simp only [Act.put, List.setIfInBounds_toArray, List.set_cons_zero, List.set_cons_succ]
      refine Lex.step_take (.pointer (some ⟨b3, 0, none⟩)) tb25 rfl (Lex.want_some rfl tb24 rfl (b' := false) rfl rfl) (by intro Wx hSw; (try dsimp only at hSw); go_simp; (try (with_reducible rfl))) ?_
      simp only [Act.put, List.setIfInBounds_toArray, List.set_cons_zero, List.set_cons_succ]
      refine Lex.step_take (.pointer (some ⟨b3, 0, none⟩)) tb26 rfl (Lex.want_some rfl tb24 rfl (b' := false) rfl rfl) (by intro Wx hSw; (try dsimp only at hSw); go_simp; (try (with_reducible rfl))) ?_
      simp only [Act.put, List.setIfInBounds_toArray, List.set_cons_zero, List.set_cons_succ]
      refine Lex.step_take (.pointer (some ⟨b3, 0, none⟩)) tb27 rfl (Lex.want_some rfl tb24 rfl (b' := false) rfl rfl) (by intro Wx hSw; (try dsimp only at hSw); go_simp; (try (with_reducible rfl))) ?_
      simp only [Act.put, List.setIfInBounds_toArray, List.set_cons_zero, List.set_cons_succ]
      refine Lex.step_take (.string t) tb28 rfl (Lex.want_some rfl tb24 rfl (b' := false) rfl rfl) (by intro Wx hSw; (try dsimp only at hSw); go_simp; (try (with_reducible rfl))) ?_
      simp only [Act.put, List.setIfInBounds_toArray, List.set_cons_zero, List.set_cons_succ]
      refine Lex.step_take (.pointer (some ⟨b4, 0, none⟩)) tb29 rfl (Lex.want_some rfl tb24 rfl (b' := false) rfl rfl) (by intro Wx hSw; (try dsimp only at hSw); go_simp; (try (with_reducible rfl))) ?_
      simp only [Act.put, List.setIfInBounds_toArray, List.set_cons_zero, List.set_cons_succ]
      refine Lex.step_take (.pointer (some ⟨b4, 0, none⟩)) tb30 rfl (Lex.want_some rfl tb24 rfl (b' := false) rfl rfl) (by intro Wx hSw; (try dsimp only at hSw); go_simp; (try (with_reducible rfl))) ?_
      simp only [Act.put, List.setIfInBounds_toArray, List.set_cons_zero, List.set_cons_succ]
      refine Lex.step_take (.pointer (some ⟨b4, 0, none⟩)) tb31 rfl (Lex.want_some rfl tb24 rfl (b' := false) rfl rfl) (by intro Wx hSw; (try dsimp only at hSw); go_simp; (try (with_reducible rfl))) ?_
      simp only [Act.put, List.setIfInBounds_toArray, List.set_cons_zero, List.set_cons_succ]
      refine Lex.step_take (.string t) tb32 rfl (Lex.want_some rfl tb24 rfl (b' := false) rfl rfl) (by intro Wx hSw; (try dsimp only at hSw); go_simp; (try (with_reducible rfl))) ?_
      simp only [Act.put, List.setIfInBounds_toArray, List.set_cons_zero, List.set_cons_succ]
      refine Lex.step_take (.bool true) tb33 rfl (Lex.want_some rfl tb24 rfl (b' := false) rfl rfl) (by intro Wx hSw; (try dsimp only at hSw); go_simp; (try (with_reducible rfl))) ?_
      simp only [Act.put, List.setIfInBounds_toArray, List.set_cons_zero, List.set_cons_succ]
      refine Lex.step_take (.bool true) tb34 rfl (Lex.want_some rfl tb19 rfl (b' := true) rfl rfl) (by intro Wx hSw; (try dsimp only at hSw); go_simp; (try (with_reducible rfl))) ?_
      simp only [Act.put, List.setIfInBounds_toArray, List.set_cons_zero, List.set_cons_succ]
      refine Lex.step_take (.bool true) tb35 rfl (Lex.want_none rfl) (by intro Wx hSw; (try dsimp only at hSw); go_simp; (try (with_reducible rfl))) ?_
      simp only [Act.put, List.setIfInBounds_toArray, List.set_cons_zero, List.set_cons_succ]
      refine Lex.step_take (.bool true) tb36 rfl (Lex.want_none rfl) (by intro Wx hSw; (try dsimp only at hSw); go_simp; (try (with_reducible rfl))) ?_
      simp only [Act.put, List.setIfInBounds_toArray, List.set_cons_zero, List.set_cons_succ]
      refine NoPanic.normal ?_
      go_wp2
      go_ret
      exact ⟨rfl, hB⟩
    · skip
      refine Lex.region_lex (ops := tbops) (calls := tbcalls) tbord (fun _ => True) (by kernel_rfl) (by kernel_rfl) tbsel (by kernel_rfl) (by kernel_rfl) tblex (trivial) ?_
      unfold tbord
      refine Lex.step_call tb0 rfl (Lex.want_none rfl) (fun K hK => ?_)
      go_simp
      refine (awake_any _).mono ?_
      rintro e y0 ⟨rfl, hy0⟩
      have h3 := h3.below hy0 h3.lt
      have h4 := h4.below hy0 h4.lt
      have hB := hB.trans (hy0.mono hB.size)
      clear hy0
      refine hK.out _ _ _ (fun _ h => h) trivial ?_
      clear hK K
      try simp only [Act.put, List.setIfInBounds_toArray, List.set_cons_zero, List.set_cons_succ]
      refine Lex.step_take (.bool true) tb1 rfl (Lex.want_none rfl) (by intro Wx hSw; (try dsimp only at hSw); go_simp; (try (with_reducible rfl))) ?_
      simp only [Act.put, List.setIfInBounds_toArray, List.set_cons_zero, List.set_cons_succ]
      refine Lex.step_take (.pointer (some ⟨b3, 0, none⟩)) tb2 rfl (Lex.want_some rfl tb1 rfl (b' := true) rfl rfl) (by intro Wx hSw; (try dsimp only at hSw); go_simp; (try (with_reducible rfl))) ?_
      simp only [Act.put, List.setIfInBounds_toArray, List.set_cons_zero, List.set_cons_succ]
      refine Lex.step_take (.pointer (some ⟨b4, 0, none⟩)) tb4 rfl (Lex.want_some rfl tb1 rfl (b' := true) rfl rfl) (by intro Wx hSw; (try dsimp only at hSw); go_simp; (try (with_reducible rfl))) ?_
      simp only [Act.put, List.setIfInBounds_toArray, List.set_cons_zero, List.set_cons_succ]
      refine Lex.step_call tb3 rfl (Lex.want_some rfl tb1 rfl (b' := true) rfl rfl) (fun K hK => ?_)
      go_simp
      refine (hr1 _ h3).mono ?_
      rintro e y1 ⟨rfl, h3', hy1⟩
      have h4 := h4.bar hy1 n34.symm
      have hB := hB.trans (hy1.below l3 hB.size)
      have lt3 := h3'.lt
      clear hy1 h3
      refine hK.out _ _ _ (fun _ h => h) trivial ?_
      clear hK K
      try simp only [Act.put, List.setIfInBounds_toArray, List.set_cons_zero, List.set_cons_succ]
      refine Lex.step_call tb5 rfl (Lex.want_some rfl tb1 rfl (b' := true) rfl rfl) (fun K hK => ?_)
      go_simp
      refine (hr2 _ h4).mono ?_
      rintro e y2 ⟨rfl, h4', hy2⟩
      have h3 := h3'.bar hy2 n34
      have hB := hB.trans (hy2.below l4 hB.size)
      clear hy2 h4 h3'
      refine hK.out (fun W => W.cell? ⟨b3, 0, none⟩ = some (.string t) ∧ W.cell? ⟨b3, 1, none⟩ = some (.bool true) ∧ W.cell? ⟨b4, 0, none⟩ = some (.string t) ∧ W.cell? ⟨b4, 1, none⟩ = some (.bool true)) _ _ (fun _ _ => trivial) (And.intro h3.c0 (And.intro h3.c1 (And.intro h4'.c0 h4'.c1))) ?_
      clear hK K
      try simp only [Act.put, List.setIfInBounds_toArray, List.set_cons_zero, List.set_cons_succ]
      refine Lex.step_take (.bool true) tb6 rfl (Lex.want_some rfl tb1 rfl (b' := true) rfl rfl) (by intro Wx hSw; (try dsimp only at hSw); go_simp; (try (with_reducible rfl))) ?_
      simp only [Act.put, List.setIfInBounds_toArray, List.set_cons_zero, List.set_cons_succ]
      refine Lex.step_take (.bool true) tb7 rfl (Lex.want_none rfl) (by intro Wx hSw; (try dsimp only at hSw); go_simp; (try (with_reducible rfl))) ?_
      simp only [Act.put, List.setIfInBounds_toArray, List.set_cons_zero, List.set_cons_succ]
      refine Lex.step_take (.bool true) tb8 rfl (Lex.want_none rfl) (by intro Wx hSw; (try dsimp only at hSw); go_simp; (try (with_reducible rfl))) ?_
      simp only [Act.put, List.setIfInBounds_toArray, List.set_cons_zero, List.set_cons_succ]
      refine Lex.step_take (.pointer (some ⟨b3, 0, none⟩)) tb9 rfl (Lex.want_some rfl tb8 rfl (b' := true) rfl rfl) (by intro Wx hSw; (try dsimp only at hSw); go_simp; (try (with_reducible rfl))) ?_
      simp only [Act.put, List.setIfInBounds_toArray, List.set_cons_zero, List.set_cons_succ]
      refine Lex.step_take (.pointer (some ⟨b3, 0, none⟩)) tb10 rfl (Lex.want_some rfl tb8 rfl (b' := true) rfl rfl) (by intro Wx hSw; (try dsimp only at hSw); go_simp; (try (with_reducible rfl))) ?_
      simp only [Act.put, List.setIfInBounds_toArray, List.set_cons_zero, List.set_cons_succ]
      refine Lex.step_take (.pointer (some ⟨b3, 1, none⟩)) tb11 rfl (Lex.want_some rfl tb8 rfl (b' := true) rfl rfl) (by intro Wx hSw; (try dsimp only at hSw); go_simp; (try (with_reducible rfl))) ?_
      simp only [Act.put, List.setIfInBounds_toArray, List.set_cons_zero, List.set_cons_succ]
      refine Lex.step_take (.bool true) tb12 rfl (Lex.want_some rfl tb8 rfl (b' := true) rfl rfl) (by intro Wx hSw; (try dsimp only at hSw); go_simp; (try (with_reducible rfl))) ?_
      simp only [Act.put, List.setIfInBounds_toArray, List.set_cons_zero, List.set_cons_succ]
      refine Lex.step_take (.pointer (some ⟨b4, 0, none⟩)) tb13 rfl (Lex.want_some rfl tb8 rfl (b' := true) rfl rfl) (by intro Wx hSw; (try dsimp only at hSw); go_simp; (try (with_reducible rfl))) ?_
      simp only [Act.put, List.setIfInBounds_toArray, List.set_cons_zero, List.set_cons_succ]
      refine Lex.step_take (.pointer (some ⟨b4, 0, none⟩)) tb14 rfl (Lex.want_some rfl tb8 rfl (b' := true) rfl rfl) (by intro Wx hSw; (try dsimp only at hSw); go_simp; (try (with_reducible rfl))) ?_
      simp only [Act.put, List.setIfInBounds_toArray, List.set_cons_zero, List.set_cons_succ]
      refine Lex.step_take (.pointer (some ⟨b4, 1, none⟩)) tb15 rfl (Lex.want_some rfl tb8 rfl (b' := true) rfl rfl) (by intro Wx hSw; (try dsimp only at hSw); go_simp; (try (with_reducible rfl))) ?_
      simp only [Act.put, List.setIfInBounds_toArray, List.set_cons_zero, List.set_cons_succ]
      refine Lex.step_take (.bool true) tb16 rfl (Lex.want_some rfl tb8 rfl (b' := true) rfl rfl) (by intro Wx hSw; (try dsimp only at hSw); go_simp; (try (with_reducible rfl))) ?_
      simp only [Act.put, List.setIfInBounds_toArray, List.set_cons_zero, List.set_cons_succ]
      refine Lex.step_take (.bool true) tb17 rfl (Lex.want_some rfl tb8 rfl (b' := true) rfl rfl) (by intro Wx hSw; (try dsimp only at hSw); go_simp; (try (with_reducible rfl))) ?_
      simp only [Act.put, List.setIfInBounds_toArray, List.set_cons_zero, List.set_cons_succ]
      refine Lex.step_take (.bool true) tb18 rfl (Lex.want_none rfl) (by intro Wx hSw; (try dsimp only at hSw); go_simp; (try (with_reducible rfl))) ?_
      simp only [Act.put, List.setIfInBounds_toArray, List.set_cons_zero, List.set_cons_succ]
      refine Lex.step_take (.bool true) tb19 rfl (Lex.want_none rfl) (by intro Wx hSw; (try dsimp only at hSw); go_simp; (try (with_reducible rfl))) ?_
      simp only [Act.put, List.setIfInBounds_toArray, List.set_cons_zero, List.set_cons_succ]
      refine Lex.step_take (.pointer (some ⟨b3, 0, none⟩)) tb20 rfl (Lex.want_some rfl tb19 rfl (b' := true) rfl rfl) (by intro Wx hSw; (try dsimp only at hSw); go_simp; (try (with_reducible rfl))) ?_
      simp only [Act.put, List.setIfInBounds_toArray, List.set_cons_zero, List.set_cons_succ]
      refine Lex.step_take (.pointer (some ⟨b3, 0, none⟩)) tb21 rfl (Lex.want_some rfl tb19 rfl (b' := true) rfl rfl) (by intro Wx hSw; (try dsimp only at hSw); go_simp; (try (with_reducible rfl))) ?_
      simp only [Act.put, List.setIfInBounds_toArray, List.set_cons_zero, List.set_cons_succ]
      refine Lex.step_take (.pointer (some ⟨b3, 1, none⟩)) tb22 rfl (Lex.want_some rfl tb19 rfl (b' := true) rfl rfl) (by intro Wx hSw; (try dsimp only at hSw); go_simp; (try (with_reducible rfl))) ?_
      simp only [Act.put, List.setIfInBounds_toArray, List.set_cons_zero, List.set_cons_succ]
      refine Lex.step_take (.bool true) tb23 rfl (Lex.want_some rfl tb19 rfl (b' := true) rfl rfl) (by intro Wx hSw; (try dsimp only at hSw); go_simp; (try (with_reducible rfl))) ?_
      simp only [Act.put, List.setIfInBounds_toArray, List.set_cons_zero, List.set_cons_succ]
      refine Lex.step_take (.bool true) tb24 rfl (Lex.want_some rfl tb19 rfl (b' := true) rfl rfl) (by intro Wx hSw; (try dsimp only at hSw); go_simp; (try (with_reducible rfl))) ?_
      simp only [Act.put, List.setIfInBounds_toArray, List.set_cons_zero, List.set_cons_succ]
      refine Lex.step_skip tb25 (Lex.want_some rfl tb24 rfl (b' := true) rfl rfl) ?_
      simp only [Act.put, List.setIfInBounds_toArray, List.set_cons_zero, List.set_cons_succ]
      refine Lex.step_skip tb26 (Lex.want_some rfl tb24 rfl (b' := true) rfl rfl) ?_
      simp only [Act.put, List.setIfInBounds_toArray, List.set_cons_zero, List.set_cons_succ]
      refine Lex.step_skip tb27 (Lex.want_some rfl tb24 rfl (b' := true) rfl rfl) ?_
      simp only [Act.put, List.setIfInBounds_toArray, List.set_cons_zero, List.set_cons_succ]
      refine Lex.step_skip tb28 (Lex.want_some rfl tb24 rfl (b' := true) rfl rfl) ?_
      simp only [Act.put, List.setIfInBounds_toArray, List.set_cons_zero, List.set_cons_succ]
      refine Lex.step_skip tb29 (Lex.want_some rfl tb24 rfl (b' := true) rfl rfl) ?_
      simp only [Act.put, List.setIfInBounds_toArray, List.set_cons_zero, List.set_cons_succ]
      refine Lex.step_skip tb30 (Lex.want_some rfl tb24 rfl (b' := true) rfl rfl) ?_
      simp only [Act.put, List.setIfInBounds_toArray, List.set_cons_zero, List.set_cons_succ]
      refine Lex.step_skip tb31 (Lex.want_some rfl tb24 rfl (b' := true) rfl rfl) ?_
      simp only [Act.put, List.setIfInBounds_toArray, List.set_cons_zero, List.set_cons_succ]
      refine Lex.step_skip tb32 (Lex.want_some rfl tb24 rfl (b' := true) rfl rfl) ?_
      simp only [Act.put, List.setIfInBounds_toArray, List.set_cons_zero, List.set_cons_succ]
      refine Lex.step_skip tb33 (Lex.want_some rfl tb24 rfl (b' := true) rfl rfl) ?_
      simp only [Act.put, List.setIfInBounds_toArray, List.set_cons_zero, List.set_cons_succ]
      refine Lex.step_take (.bool true) tb34 rfl (Lex.want_some rfl tb19 rfl (b' := true) rfl rfl) (by intro Wx hSw; (try dsimp only at hSw); go_simp; (try (with_reducible rfl))) ?_
      simp only [Act.put, List.setIfInBounds_toArray, List.set_cons_zero, List.set_cons_succ]
      refine Lex.step_take (.bool true) tb35 rfl (Lex.want_none rfl) (by intro Wx hSw; (try dsimp only at hSw); go_simp; (try (with_reducible rfl))) ?_
      simp only [Act.put, List.setIfInBounds_toArray, List.set_cons_zero, List.set_cons_succ]
      refine Lex.step_take (.bool true) tb36 rfl (Lex.want_none rfl) (by intro Wx hSw; (try dsimp only at hSw); go_simp; (try (with_reducible rfl))) ?_
      simp only [Act.put, List.setIfInBounds_toArray, List.set_cons_zero, List.set_cons_succ]
      refine NoPanic.normal ?_
      go_wp2
      go_ret
      exact ⟨rfl, hB⟩
end Go.Proofs.Ytnhejeppjhjnpaa.Va
