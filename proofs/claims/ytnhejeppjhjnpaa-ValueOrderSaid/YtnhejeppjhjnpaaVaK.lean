/- ValueOrder: whatever three values, walked. -/
import Derived.Test.YtnhejeppjhjnpaaVaF
import Derived.Test.YtnhejeppjhjnpaaVaJ
import Derived.Test.YtnhejeppjhjnpaaXtd
namespace Go.Proofs.Ytnhejeppjhjnpaa.Va
open Go.RowKit Pac Lex

set_option maxRecDepth 20000 in
set_option maxHeartbeats 6400000 in
theorem order_any (a b c : V) (w : World) (hsa : a.s.size ≤ 9223372036854775807) (hsb : b.s.size ≤ 9223372036854775807) (hsc : c.s.size ≤ 9223372036854775807) :
    Calls Try.prog 6 #[a.v, b.v, c.v] w fun e w' => e = .returned (.bool true) ∧ Below w.heap.size w w' := by
  have hc1 := fun W : World => cmp_any a b W
  have hc2 := fun W : World => cmp_any b c W
  have hc3 := fun W : World => cmp_any a c W
  have hc4 := fun W : World => cmp_any b a W
  have hf := cmp_flip a b
  have hq := cmp_three a b
  have hq2 := cmp_three b c
  have hl := fun h h' => cmp_le (a := a) (b := b) (c := c) h h'
  have ht := fun h h' => cmp_lt (a := a) (b := b) (c := c) h h'
  have hv2 : cmpV b c = -1 ∨ cmpV b c = 0 ∨ cmpV b c = 1 := by omega
  have he : (cmpV a b = -1 ∧ ¬ eqV a b) ∨ (cmpV a b = 0 ∧ eqV a b) ∨ (cmpV a b = 1 ∧ ¬ eqV a b) := by
    rcases hq with ⟨e, _, h, _⟩ | ⟨e, h, _, _⟩ | ⟨e, _, h, _⟩
    · exact Or.inl ⟨e, h⟩
    · exact Or.inr (Or.inl ⟨e, h⟩)
    · exact Or.inr (Or.inr ⟨e, h⟩)
  clear hq hq2
  generalize cmpV a b = x at hc1 hf hl ht he
  generalize cmpV b a = x' at hc4 hf
  generalize cmpV b c = y at hc2 hl ht hv2
  generalize cmpV a c = z at hc3 hl ht
  obtain ⟨k1, n1, s1⟩ := a
  obtain ⟨k2, n2, s2⟩ := b
  obtain ⟨k3, n3, s3⟩ := c
  simp only at hsa hsb hsc
  unfold eqV at he
  simp only at he
  have h1 := ((Box3.new w (.int .i64 k1) (.int .i64 n1) (.string s1) 23).alloc (.cells #[.int .i64 k2, .int .i64 n2, .string s2] 23)).alloc (.cells #[.int .i64 k3, .int .i64 n3, .string s3] 23)
  have h2 := (Box3.new (w.alloc (.cells #[.int .i64 k1, .int .i64 n1, .string s1] 23)) (.int .i64 k2) (.int .i64 n2) (.string s2) 23).alloc (.cells #[.int .i64 k3, .int .i64 n3, .string s3] 23)
  have h3 := Box3.new ((w.alloc (.cells #[.int .i64 k1, .int .i64 n1, .string s1] 23)).alloc (.cells #[.int .i64 k2, .int .i64 n2, .string s2] 23)) (.int .i64 k3) (.int .i64 n3) (.string s3) 23
  rw [show (w.alloc (.cells #[.int .i64 k1, .int .i64 n1, .string s1] 23)).heap.size = w.heap.size + 1 by simp] at h2
  rw [show ((w.alloc (.cells #[.int .i64 k1, .int .i64 n1, .string s1] 23)).alloc (.cells #[.int .i64 k2, .int .i64 n2, .string s2] 23)).heap.size = w.heap.size + 1 + 1 by simp] at h3
  have hB := (((Below.refl w.heap.size w).alloc (Nat.le_refl _) (.cells #[.int .i64 k1, .int .i64 n1, .string s1] 23)).alloc (by simp) (.cells #[.int .i64 k2, .int .i64 n2, .string s2] 23)).alloc (by simp; omega) (.cells #[.int .i64 k3, .int .i64 n3, .string s3] 23)
  show Calls Try.prog 6 #[.agg #[.int .i64 k1, .int .i64 n1, .string s1], .agg #[.int .i64 k2, .int .i64 n2, .string s2], .agg #[.int .i64 k3, .int .i64 n3, .string s3]] w _
  have HE := Lib.hid (And.intro hf (And.intro hl (And.intro ht (And.intro hv2 he))))
  clear hf hl ht hv2 he
  go_enter Try.func6, Try.ntmps6
  go_wp2_with fail
  · refine (awake_any _).mono ?_
    rintro e w2 ⟨rfl, hw2⟩
    have hB3 := hB.trans (hw2.mono hB.size)
    clear h1 h2 h3
    go_wp2
    go_ret
    exact ⟨rfl, hB3⟩
  · skip
    generalize (((w.alloc (.cells #[.int .i64 k1, .int .i64 n1, .string s1] 23)).alloc (.cells #[.int .i64 k2, .int .i64 n2, .string s2] 23)).alloc (.cells #[.int .i64 k3, .int .i64 n3, .string s3] 23)) = w2 at h1 h2 h3 hB ⊢
    generalize hb3 : w.heap.size + 1 + 1 = b3 at h3 ⊢
    clear hb3
    generalize hb2 : w.heap.size + 1 = b2 at h2 ⊢
    clear hb2
    generalize hb1 : w.heap.size = b1 at h1 ⊢
    clear hb1
    have h1 := h1.below ((Below.refl w2.heap.size w2).drew) h1.lt
    have h2 := h2.below ((Below.refl w2.heap.size w2).drew) h2.lt
    have h3 := h3.below ((Below.refl w2.heap.size w2).drew) h3.lt
    have hB := hB.drew
    refine Lex.region_lex (ops := tdops) (calls := tdcalls) tdord (fun W => (W.cell? ⟨b1, 0, none⟩ = some (.int .i64 k1) ∧ W.cell? ⟨b1, 1, none⟩ = some (.int .i64 n1) ∧ W.cell? ⟨b1, 2, none⟩ = some (.string s1)) ∧ (W.cell? ⟨b2, 0, none⟩ = some (.int .i64 k2) ∧ W.cell? ⟨b2, 1, none⟩ = some (.int .i64 n2) ∧ W.cell? ⟨b2, 2, none⟩ = some (.string s2)) ∧ (W.cell? ⟨b3, 0, none⟩ = some (.int .i64 k3) ∧ W.cell? ⟨b3, 1, none⟩ = some (.int .i64 n3) ∧ W.cell? ⟨b3, 2, none⟩ = some (.string s3))) (by kernel_rfl) (by kernel_rfl) tdsel (by kernel_rfl) (by kernel_rfl) tdlex (And.intro (And.intro h1.c0 (And.intro h1.c1 h1.c2)) (And.intro (And.intro h2.c0 (And.intro h2.c1 h2.c2)) (And.intro h3.c0 (And.intro h3.c1 h3.c2)))) ?_
    unfold tdord
    refine Lex.step_take (.agg #[.int .i64 k1, .int .i64 n1, .string s1]) td0 rfl (Lex.want_none rfl) (by intro Wx hSw; (try dsimp only at hSw); go_simp; (try (first | (with_reducible rfl) | assumption | rfl))) ?_
    simp only [Act.put, List.setIfInBounds_toArray, List.set_cons_zero, List.set_cons_succ]
    refine Lex.step_take (.agg #[.int .i64 k2, .int .i64 n2, .string s2]) td1 rfl (Lex.want_none rfl) (by intro Wx hSw; (try dsimp only at hSw); go_simp; (try (first | (with_reducible rfl) | assumption | rfl))) ?_
    simp only [Act.put, List.setIfInBounds_toArray, List.set_cons_zero, List.set_cons_succ]
    refine Lex.step_take (.agg #[.int .i64 k2, .int .i64 n2, .string s2]) td3 rfl (Lex.want_none rfl) (by intro Wx hSw; (try dsimp only at hSw); go_simp; (try (first | (with_reducible rfl) | assumption | rfl))) ?_
    simp only [Act.put, List.setIfInBounds_toArray, List.set_cons_zero, List.set_cons_succ]
    refine Lex.step_take (.agg #[.int .i64 k3, .int .i64 n3, .string s3]) td4 rfl (Lex.want_none rfl) (by intro Wx hSw; (try dsimp only at hSw); go_simp; (try (first | (with_reducible rfl) | assumption | rfl))) ?_
    simp only [Act.put, List.setIfInBounds_toArray, List.set_cons_zero, List.set_cons_succ]
    refine Lex.step_take (.agg #[.int .i64 k1, .int .i64 n1, .string s1]) td6 rfl (Lex.want_none rfl) (by intro Wx hSw; (try dsimp only at hSw); go_simp; (try (first | (with_reducible rfl) | assumption | rfl))) ?_
    simp only [Act.put, List.setIfInBounds_toArray, List.set_cons_zero, List.set_cons_succ]
    refine Lex.step_take (.agg #[.int .i64 k3, .int .i64 n3, .string s3]) td7 rfl (Lex.want_none rfl) (by intro Wx hSw; (try dsimp only at hSw); go_simp; (try (first | (with_reducible rfl) | assumption | rfl))) ?_
    simp only [Act.put, List.setIfInBounds_toArray, List.set_cons_zero, List.set_cons_succ]
    refine Lex.step_call td2 rfl (Lex.want_none rfl) (fun K hK => ?_)
    go_simp
    refine (hc1 _).mono ?_
    rintro e y0 ⟨rfl, hy0⟩
    have h1 := h1.below hy0 h1.lt
    have h2 := h2.below hy0 h2.lt
    have h3 := h3.below hy0 h3.lt
    have hB := hB.trans (hy0.mono hB.size)
    clear hy0
    refine hK.out _ _ _ (fun _ h => h) (And.intro (And.intro h1.c0 (And.intro h1.c1 h1.c2)) (And.intro (And.intro h2.c0 (And.intro h2.c1 h2.c2)) (And.intro h3.c0 (And.intro h3.c1 h3.c2)))) ?_
    clear hK K
    try simp only [Act.put, List.setIfInBounds_toArray, List.set_cons_zero, List.set_cons_succ]
    refine Lex.step_call td5 rfl (Lex.want_none rfl) (fun K hK => ?_)
    go_simp
    refine (hc2 _).mono ?_
    rintro e y1 ⟨rfl, hy1⟩
    have h1 := h1.below hy1 h1.lt
    have h2 := h2.below hy1 h2.lt
    have h3 := h3.below hy1 h3.lt
    have hB := hB.trans (hy1.mono hB.size)
    clear hy1
    refine hK.out _ _ _ (fun _ h => h) (And.intro (And.intro h1.c0 (And.intro h1.c1 h1.c2)) (And.intro (And.intro h2.c0 (And.intro h2.c1 h2.c2)) (And.intro h3.c0 (And.intro h3.c1 h3.c2)))) ?_
    clear hK K
    try simp only [Act.put, List.setIfInBounds_toArray, List.set_cons_zero, List.set_cons_succ]
    refine Lex.step_call td8 rfl (Lex.want_none rfl) (fun K hK => ?_)
    go_simp
    refine (hc3 _).mono ?_
    rintro e y2 ⟨rfl, hy2⟩
    have h1 := h1.below hy2 h1.lt
    have h2 := h2.below hy2 h2.lt
    have h3 := h3.below hy2 h3.lt
    have hB := hB.trans (hy2.mono hB.size)
    clear hy2
    refine hK.out _ _ _ (fun _ h => h) (And.intro (And.intro h1.c0 (And.intro h1.c1 h1.c2)) (And.intro (And.intro h2.c0 (And.intro h2.c1 h2.c2)) (And.intro h3.c0 (And.intro h3.c1 h3.c2)))) ?_
    clear hK K
    try simp only [Act.put, List.setIfInBounds_toArray, List.set_cons_zero, List.set_cons_succ]
    refine Lex.step_take (.int .i64 x) td9 rfl (Lex.want_none rfl) (by intro Wx hSw; (try dsimp only at hSw); go_simp; (try (first | (with_reducible rfl) | assumption | rfl))) ?_
    simp only [Act.put, List.setIfInBounds_toArray, List.set_cons_zero, List.set_cons_succ]
    refine Lex.step_take (.int .i64 y) td10 rfl (Lex.want_none rfl) (by intro Wx hSw; (try dsimp only at hSw); go_simp; (try (first | (with_reducible rfl) | assumption | rfl))) ?_
    simp only [Act.put, List.setIfInBounds_toArray, List.set_cons_zero, List.set_cons_succ]
    refine Lex.step_take (.int .i64 z) td11 rfl (Lex.want_none rfl) (by intro Wx hSw; (try dsimp only at hSw); go_simp; (try (first | (with_reducible rfl) | assumption | rfl))) ?_
    simp only [Act.put, List.setIfInBounds_toArray, List.set_cons_zero, List.set_cons_succ]
    refine NoPanic.normal ?_
    clear hc1 hc2 hc3
    go_wp2_with fail
    refine (awake_any _).mono ?_
    rintro e y3 ⟨rfl, hy3⟩
    have h1 := h1.below hy3 h1.lt
    have h2 := h2.below hy3 h2.lt
    have h3 := h3.below hy3 h3.lt
    have hB := hB.trans (hy3.mono hB.size)
    clear hy3
    have c10 := h1.c0
    have c11 := h1.c1
    have c12 := h1.c2
    have c20 := h2.c0
    have c21 := h2.c1
    have c22 := h2.c2
    go_wp2_with fail
    refine (hc4 _).mono ?_
    rintro e y4 ⟨rfl, hy4⟩
    clear c10 c11 c12 c20 c21 c22
    have h1 := h1.below hy4 h1.lt
    have h2 := h2.below hy4 h2.lt
    have h3 := h3.below hy4 h3.lt
    have hB := hB.trans (hy4.mono hB.size)
    clear hy4
    have c10 := h1.c0
    have c11 := h1.c1
    have c12 := h1.c2
    have c20 := h2.c0
    have c21 := h2.c1
    have c22 := h2.c2
    obtain ⟨hf, hl, ht, hv2, he⟩ := HE.out
    subst hf
    rcases he with ⟨rfl, he⟩ | ⟨rfl, he⟩ | ⟨rfl, he⟩
    all_goals
      rcases hv2 with rfl | rfl | rfl
      all_goals
        go_wp2
        all_goals first | (go_ret; exact ⟨rfl, hB⟩) | exact absurd (And.intro (by assumption) (And.intro (by assumption) (by assumption))) he | trace_state
end Go.Proofs.Ytnhejeppjhjnpaa.Va
