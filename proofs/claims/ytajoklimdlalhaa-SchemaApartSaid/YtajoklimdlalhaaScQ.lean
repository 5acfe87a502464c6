/- SchemaReads: whatever bytes, walked. -/
import Derived.Test.YtajoklimdlalhaaScP
import Derived.Test.YtajoklimdlalhaaXrf
namespace Go.Proofs.Ytajoklimdlalhaa.Sc
open Go.RowKit Pac Lex

theorem readS_len (s : ByteArray) (d : Bool) (hs : s.size ≤ 9223372036854775807) : (readS s d).2.1.length ≤ 8 := by
  rw [readS_seenP]
  split
  · exact Nat.zero_le _
  · exact (seenP_facts s d hs).2.1
def RdPost (g : Nat) (nm : ByteArray) (l : List C) (m : Nat) (t : ByteArray) (d : Bool) (W : World) (e : Ending) (w' : World) : Prop :=
  ∃ A p, e = .returned (.agg #[.string nm, .slice A m p]) ∧ m ≤ p ∧ HasCols w' W.heap.size A l ∧ IsBox w' g t d ∧ Bar g W w'
theorem rd_of {g : Nat} {nm : ByteArray} {l : List C} {m : Nat} {t : ByteArray} {d : Bool} {W : World} {f : Nat} {args : Array Value} (hm : l.length = m) (h : Calls Try.prog f args W (SchPost g W.heap.size nm l t d W)) : Calls Try.prog f args W (RdPost g nm l m t d W) := by
  subst hm
  refine h.mono ?_
  rintro e w' ⟨v, rfl, ⟨A, p, rfl, hp, hc⟩, hb, hB⟩
  exact ⟨A, p, rfl, hp, hc, hb, hB⟩

set_option maxRecDepth 20000 in
set_option maxHeartbeats 8000000 in
theorem reads_any (s : ByteArray) (w : World) : Calls Try.prog 4 #[.string s] w fun e w' => e = .returned (.bool true) ∧ Below w.heap.size w w' := by
  by_cases q1 : 500 < s.size
  · go_enter Try.func4, Try.ntmps4
    go_wp2_with fail
    refine (awake_any _).mono ?_
    rintro e w2 ⟨rfl, hw2⟩
    go_wp2
    go_ret
    exact ⟨rfl, hw2⟩
  · have hr1 := fun (g : Nat) (W : World) (h : IsBox W g s false) => read_any g s false W h (by omega)
    have hr2 := fun (g : Nat) (W : World) (h : IsBox W g s false) => refRead_any g s false W h (by omega)
    have h9 := readS_len s false (by omega)
    generalize readS s false = r at hr1 hr2 h9
    obtain ⟨nm, l, t, d⟩ := r
    obtain ⟨m, hm⟩ : ∃ m, l.length = m := ⟨_, rfl⟩
    simp only at hr1 hr2 h9
    have hr1 : ∀ (g : Nat) (W : World), IsBox W g s false → Calls Try.prog 14 #[.pointer (some ⟨g, 0, none⟩)] W (RdPost g nm l m t d W) := fun g W h => rd_of hm (hr1 g W h)
    have hr2 : ∀ (g : Nat) (W : World), IsBox W g s false → Calls Try.prog 15 #[.pointer (some ⟨g, 0, none⟩)] W (RdPost g nm l m t d W) := fun g W h => rd_of hm (hr2 g W h)
    have h9 : m ≤ 9223372036854775807 := by omega
    have h3 := (Box2.new w (.string s) (.bool false) 30).alloc (.cells #[.string s, .bool false] 32)
    have h4 := Box2.new (w.alloc (.cells #[.string s, .bool false] 30)) (.string s) (.bool false) 32
    rw [show (w.alloc (.cells #[.string s, .bool false] 30)).heap.size = w.heap.size + 1 by simp] at h4
    have hB := ((Below.refl w.heap.size w).alloc (Nat.le_refl _) (.cells #[.string s, .bool false] 30)).alloc (by simp) (.cells #[.string s, .bool false] 32)
    have hr1 := hr1 w.heap.size
    have hr2 := hr2 (w.heap.size + 1)
    have n34 : w.heap.size ≠ w.heap.size + 1 := by omega
    have l4 : w.heap.size ≤ w.heap.size + 1 := by omega
    have HN := Lib.hid (And.intro n34 l4)
    have HM := Lib.hid hm
    clear n34 l4 hm
    go_enter Try.func4, Try.ntmps4
    go_wp2_with fail
    obtain ⟨n34, l4⟩ := HN.out
    have hm := HM.out
    generalize ((w.alloc (.cells #[.string s, .bool false] 30)).alloc (.cells #[.string s, .bool false] 32)) = w2 at h3 h4 hB ⊢
    generalize hb2 : w.heap.size + 1 = b4 at h4 hr2 n34 l4 ⊢
    clear hb2
    have hB0 : Below w.heap.size w w2 := hB
    generalize hb1 : w.heap.size = b3 at h3 hr1 n34 ⊢
    have l3 : w.heap.size ≤ b3 := by omega
    clear hb1 hB0
    have h3 := h3.drew
    have h4 := h4.drew
    have hB := hB.drew
    cases d
    · skip
      refine Lex.region_lex (ops := xuops) (calls := xucalls) xuord (fun _ => True) (by kernel_rfl) (by kernel_rfl) xusel (by kernel_rfl) (by kernel_rfl) xulex (trivial) ?_
      unfold xuord
      refine Lex.step_call xu0 rfl (Lex.want_none rfl) (fun K hK => ?_)
      go_simp
      refine (awake_any _).mono ?_
      rintro e y0 ⟨rfl, hy0⟩
      have h3 := h3.below hy0 h3.lt
      have h4 := h4.below hy0 h4.lt
      have hB := hB.trans (hy0.mono hB.size)
      clear hy0
      refine hK.out _ _ _ (fun _ h => h) trivial ?_
      clear hK K
      try simp only [Act.put, List.setIfInBounds_toArray, List.set_cons_zero, List.set_cons_succ]
      refine Lex.step_take (.bool true) xu1 rfl (Lex.want_none rfl) (by intro Wx hSw; (try dsimp only at hSw); go_simp; (try (first | (with_reducible rfl) | assumption | rfl))) ?_
      simp only [Act.put, List.setIfInBounds_toArray, List.set_cons_zero, List.set_cons_succ]
      refine Lex.step_take (.pointer (some ⟨b3, 0, none⟩)) xu2 rfl (Lex.want_some rfl xu1 rfl (b' := true) rfl rfl) (by intro Wx hSw; (try dsimp only at hSw); go_simp; (try (first | (with_reducible rfl) | assumption | rfl))) ?_
      simp only [Act.put, List.setIfInBounds_toArray, List.set_cons_zero, List.set_cons_succ]
      refine Lex.step_take (.pointer (some ⟨b4, 0, none⟩)) xu4 rfl (Lex.want_some rfl xu1 rfl (b' := true) rfl rfl) (by intro Wx hSw; (try dsimp only at hSw); go_simp; (try (first | (with_reducible rfl) | assumption | rfl))) ?_
      simp only [Act.put, List.setIfInBounds_toArray, List.set_cons_zero, List.set_cons_succ]
      refine Lex.step_call xu3 rfl (Lex.want_some rfl xu1 rfl (b' := true) rfl rfl) (fun K hK => ?_)
      go_simp
      refine (hr1 _ h3).mono ?_
      rintro e y1 ⟨A1, p1, rfl, _, hc1, h3', hy1⟩
      have l5 := h4.lt
      have h4 := h4.bar hy1 n34.symm
      have hB := hB.trans (hy1.below l3 hB.size)
      clear hy1 h3
      refine hK.out _ _ _ (fun _ h => h) trivial ?_
      clear hK K
      try simp only [Act.put, List.setIfInBounds_toArray, List.set_cons_zero, List.set_cons_succ]
      refine Lex.step_call xu5 rfl (Lex.want_some rfl xu1 rfl (b' := true) rfl rfl) (fun K hK => ?_)
      go_simp
      refine (hr2 _ h4).mono ?_
      rintro e y2 ⟨A2, p2, rfl, _, hc2, h4', hy2⟩
      have h3 := h3'.bar hy2 n34
      have hc1 := hc1.bar hy2 (Or.inl l5)
      have hB := hB.trans (hy2.below l4 hB.size)
      clear hy2 h4 h3'
      refine hK.out (fun W => W.cell? ⟨b3, 0, none⟩ = some (.string t) ∧ W.cell? ⟨b3, 1, none⟩ = some (.bool false) ∧ W.cell? ⟨b4, 0, none⟩ = some (.string t) ∧ W.cell? ⟨b4, 1, none⟩ = some (.bool false)) _ _ (fun _ _ => trivial) (And.intro h3.c0 (And.intro h3.c1 (And.intro h4'.c0 h4'.c1))) ?_
      clear hK K
      try simp only [Act.put, List.setIfInBounds_toArray, List.set_cons_zero, List.set_cons_succ]
      refine Lex.step_call xu6 rfl (Lex.want_some rfl xu1 rfl (b' := true) rfl rfl) (fun K hK => ?_)
      go_simp
      refine (same_of hm h9 A1 A2 p1 p2 _ _ _ hc1 hc2).mono ?_
      rintro e y3 ⟨rfl, hy3⟩
      have h3 := h3.below hy3 h3.lt
      have h4 := h4'.below hy3 h4'.lt
      have hB := hB.trans (hy3.mono hB.size)
      clear hy3 hc1 hc2 h4'
      refine hK.out _ _ _ (fun _ h => h) (And.intro h3.c0 (And.intro h3.c1 (And.intro h4.c0 h4.c1))) ?_
      clear hK K
      try simp only [Act.put, List.setIfInBounds_toArray, List.set_cons_zero, List.set_cons_succ]
      refine Lex.step_take (.bool true) xu7 rfl (Lex.want_none rfl) (by intro Wx hSw; (try dsimp only at hSw); go_simp; (try (first | (with_reducible rfl) | assumption | rfl))) ?_
      simp only [Act.put, List.setIfInBounds_toArray, List.set_cons_zero, List.set_cons_succ]
      refine Lex.step_take (.bool true) xu8 rfl (Lex.want_none rfl) (by intro Wx hSw; (try dsimp only at hSw); go_simp; (try (first | (with_reducible rfl) | assumption | rfl))) ?_
      simp only [Act.put, List.setIfInBounds_toArray, List.set_cons_zero, List.set_cons_succ]
      refine Lex.step_take (.pointer (some ⟨b3, 0, none⟩)) xu9 rfl (Lex.want_some rfl xu8 rfl (b' := true) rfl rfl) (by intro Wx hSw; (try dsimp only at hSw); go_simp; (try (first | (with_reducible rfl) | assumption | rfl))) ?_
      simp only [Act.put, List.setIfInBounds_toArray, List.set_cons_zero, List.set_cons_succ]
      refine Lex.step_take (.pointer (some ⟨b3, 0, none⟩)) xu10 rfl (Lex.want_some rfl xu8 rfl (b' := true) rfl rfl) (by intro Wx hSw; (try dsimp only at hSw); go_simp; (try (first | (with_reducible rfl) | assumption | rfl))) ?_
      simp only [Act.put, List.setIfInBounds_toArray, List.set_cons_zero, List.set_cons_succ]
      refine Lex.step_take (.pointer (some ⟨b3, 1, none⟩)) xu11 rfl (Lex.want_some rfl xu8 rfl (b' := true) rfl rfl) (by intro Wx hSw; (try dsimp only at hSw); go_simp; (try (first | (with_reducible rfl) | assumption | rfl))) ?_
      simp only [Act.put, List.setIfInBounds_toArray, List.set_cons_zero, List.set_cons_succ]
      refine Lex.step_take (.bool false) xu12 rfl (Lex.want_some rfl xu8 rfl (b' := true) rfl rfl) (by intro Wx hSw; (try dsimp only at hSw); go_simp; (try (first | (with_reducible rfl) | assumption | rfl))) ?_
      simp only [Act.put, List.setIfInBounds_toArray, List.set_cons_zero, List.set_cons_succ]
      refine Lex.step_take (.pointer (some ⟨b4, 0, none⟩)) xu13 rfl (Lex.want_some rfl xu8 rfl (b' := true) rfl rfl) (by intro Wx hSw; (try dsimp only at hSw); go_simp; (try (first | (with_reducible rfl) | assumption | rfl))) ?_
      simp only [Act.put, List.setIfInBounds_toArray, List.set_cons_zero, List.set_cons_succ]
      refine Lex.step_take (.pointer (some ⟨b4, 0, none⟩)) xu14 rfl (Lex.want_some rfl xu8 rfl (b' := true) rfl rfl) (by intro Wx hSw; (try dsimp only at hSw); go_simp; (try (first | (with_reducible rfl) | assumption | rfl))) ?_
      simp only [Act.put, List.setIfInBounds_toArray, List.set_cons_zero, List.set_cons_succ]
      refine Lex.step_take (.pointer (some ⟨b4, 1, none⟩)) xu15 rfl (Lex.want_some rfl xu8 rfl (b' := true) rfl rfl) (by intro Wx hSw; (try dsimp only at hSw); go_simp; (try (first | (with_reducible rfl) | assumption | rfl))) ?_
      simp only [Act.put, List.setIfInBounds_toArray, List.set_cons_zero, List.set_cons_succ]
      refine Lex.step_take (.bool false) xu16 rfl (Lex.want_some rfl xu8 rfl (b' := true) rfl rfl) (by intro Wx hSw; (try dsimp only at hSw); go_simp; (try (first | (with_reducible rfl) | assumption | rfl))) ?_
      simp only [Act.put, List.setIfInBounds_toArray, List.set_cons_zero, List.set_cons_succ]
      refine Lex.step_take (.bool true) xu17 rfl (Lex.want_some rfl xu8 rfl (b' := true) rfl rfl) (by intro Wx hSw; (try dsimp only at hSw); go_simp; (try (first | (with_reducible rfl) | assumption | rfl))) ?_
      simp only [Act.put, List.setIfInBounds_toArray, List.set_cons_zero, List.set_cons_succ]
      refine Lex.step_take (.bool true) xu18 rfl (Lex.want_none rfl) (by intro Wx hSw; (try dsimp only at hSw); go_simp; (try (first | (with_reducible rfl) | assumption | rfl))) ?_
      simp only [Act.put, List.setIfInBounds_toArray, List.set_cons_zero, List.set_cons_succ]
      refine Lex.step_take (.bool true) xu19 rfl (Lex.want_none rfl) (by intro Wx hSw; (try dsimp only at hSw); go_simp; (try (first | (with_reducible rfl) | assumption | rfl))) ?_
      simp only [Act.put, List.setIfInBounds_toArray, List.set_cons_zero, List.set_cons_succ]
      refine Lex.step_take (.pointer (some ⟨b3, 0, none⟩)) xu20 rfl (Lex.want_some rfl xu19 rfl (b' := true) rfl rfl) (by intro Wx hSw; (try dsimp only at hSw); go_simp; (try (first | (with_reducible rfl) | assumption | rfl))) ?_
      simp only [Act.put, List.setIfInBounds_toArray, List.set_cons_zero, List.set_cons_succ]
      refine Lex.step_take (.pointer (some ⟨b3, 0, none⟩)) xu21 rfl (Lex.want_some rfl xu19 rfl (b' := true) rfl rfl) (by intro Wx hSw; (try dsimp only at hSw); go_simp; (try (first | (with_reducible rfl) | assumption | rfl))) ?_
      simp only [Act.put, List.setIfInBounds_toArray, List.set_cons_zero, List.set_cons_succ]
      refine Lex.step_take (.pointer (some ⟨b3, 1, none⟩)) xu22 rfl (Lex.want_some rfl xu19 rfl (b' := true) rfl rfl) (by intro Wx hSw; (try dsimp only at hSw); go_simp; (try (first | (with_reducible rfl) | assumption | rfl))) ?_
      simp only [Act.put, List.setIfInBounds_toArray, List.set_cons_zero, List.set_cons_succ]
      refine Lex.step_take (.bool false) xu23 rfl (Lex.want_some rfl xu19 rfl (b' := true) rfl rfl) (by intro Wx hSw; (try dsimp only at hSw); go_simp; (try (first | (with_reducible rfl) | assumption | rfl))) ?_
      simp only [Act.put, List.setIfInBounds_toArray, List.set_cons_zero, List.set_cons_succ]
      refine Lex.step_take (.bool false) xu24 rfl (Lex.want_some rfl xu19 rfl (b' := true) rfl rfl) (by intro Wx hSw; (try dsimp only at hSw); go_simp; (try (first | (with_reducible rfl) | assumption | rfl))) ?_
      simp only [Act.put, List.setIfInBounds_toArray, List.set_cons_zero, List.set_cons_succ]
      refine Lex.step_take (.pointer (some ⟨b3, 0, none⟩)) xu25 rfl (Lex.want_some rfl xu24 rfl (b' := false) rfl rfl) (by intro Wx hSw; (try dsimp only at hSw); go_simp; (try (first | (with_reducible rfl) | assumption | rfl))) ?_
      simp only [Act.put, List.setIfInBounds_toArray, List.set_cons_zero, List.set_cons_succ]
      refine Lex.step_take (.pointer (some ⟨b3, 0, none⟩)) xu26 rfl (Lex.want_some rfl xu24 rfl (b' := false) rfl rfl) (by intro Wx hSw; (try dsimp only at hSw); go_simp; (try (first | (with_reducible rfl) | assumption | rfl))) ?_
      simp only [Act.put, List.setIfInBounds_toArray, List.set_cons_zero, List.set_cons_succ]
      refine Lex.step_take (.pointer (some ⟨b3, 0, none⟩)) xu27 rfl (Lex.want_some rfl xu24 rfl (b' := false) rfl rfl) (by intro Wx hSw; (try dsimp only at hSw); go_simp; (try (first | (with_reducible rfl) | assumption | rfl))) ?_
      simp only [Act.put, List.setIfInBounds_toArray, List.set_cons_zero, List.set_cons_succ]
      refine Lex.step_take (.string t) xu28 rfl (Lex.want_some rfl xu24 rfl (b' := false) rfl rfl) (by intro Wx hSw; (try dsimp only at hSw); go_simp; (try (first | (with_reducible rfl) | assumption | rfl))) ?_
      simp only [Act.put, List.setIfInBounds_toArray, List.set_cons_zero, List.set_cons_succ]
      refine Lex.step_take (.pointer (some ⟨b4, 0, none⟩)) xu29 rfl (Lex.want_some rfl xu24 rfl (b' := false) rfl rfl) (by intro Wx hSw; (try dsimp only at hSw); go_simp; (try (first | (with_reducible rfl) | assumption | rfl))) ?_
      simp only [Act.put, List.setIfInBounds_toArray, List.set_cons_zero, List.set_cons_succ]
      refine Lex.step_take (.pointer (some ⟨b4, 0, none⟩)) xu30 rfl (Lex.want_some rfl xu24 rfl (b' := false) rfl rfl) (by intro Wx hSw; (try dsimp only at hSw); go_simp; (try (first | (with_reducible rfl) | assumption | rfl))) ?_
      simp only [Act.put, List.setIfInBounds_toArray, List.set_cons_zero, List.set_cons_succ]
      refine Lex.step_take (.pointer (some ⟨b4, 0, none⟩)) xu31 rfl (Lex.want_some rfl xu24 rfl (b' := false) rfl rfl) (by intro Wx hSw; (try dsimp only at hSw); go_simp; (try (first | (with_reducible rfl) | assumption | rfl))) ?_
      simp only [Act.put, List.setIfInBounds_toArray, List.set_cons_zero, List.set_cons_succ]
      refine Lex.step_take (.string t) xu32 rfl (Lex.want_some rfl xu24 rfl (b' := false) rfl rfl) (by intro Wx hSw; (try dsimp only at hSw); go_simp; (try (first | (with_reducible rfl) | assumption | rfl))) ?_
      simp only [Act.put, List.setIfInBounds_toArray, List.set_cons_zero, List.set_cons_succ]
      refine Lex.step_take (.bool true) xu33 rfl (Lex.want_some rfl xu24 rfl (b' := false) rfl rfl) (by intro Wx hSw; (try dsimp only at hSw); go_simp; (try (first | (with_reducible rfl) | assumption | rfl))) ?_
      simp only [Act.put, List.setIfInBounds_toArray, List.set_cons_zero, List.set_cons_succ]
      refine Lex.step_take (.bool true) xu34 rfl (Lex.want_some rfl xu19 rfl (b' := true) rfl rfl) (by intro Wx hSw; (try dsimp only at hSw); go_simp; (try (first | (with_reducible rfl) | assumption | rfl))) ?_
      simp only [Act.put, List.setIfInBounds_toArray, List.set_cons_zero, List.set_cons_succ]
      refine Lex.step_take (.bool true) xu35 rfl (Lex.want_none rfl) (by intro Wx hSw; (try dsimp only at hSw); go_simp; (try (first | (with_reducible rfl) | assumption | rfl))) ?_
      simp only [Act.put, List.setIfInBounds_toArray, List.set_cons_zero, List.set_cons_succ]
      refine Lex.step_take (.bool true) xu36 rfl (Lex.want_none rfl) (by intro Wx hSw; (try dsimp only at hSw); go_simp; (try (first | (with_reducible rfl) | assumption | rfl))) ?_
      simp only [Act.put, List.setIfInBounds_toArray, List.set_cons_zero, List.set_cons_succ]
      refine NoPanic.normal ?_
      go_wp2
      go_ret
      exact ⟨rfl, hB⟩
    · skip
      refine Lex.region_lex (ops := xuops) (calls := xucalls) xuord (fun _ => True) (by kernel_rfl) (by kernel_rfl) xusel (by kernel_rfl) (by kernel_rfl) xulex (trivial) ?_
      unfold xuord
      refine Lex.step_call xu0 rfl (Lex.want_none rfl) (fun K hK => ?_)
      go_simp
      refine (awake_any _).mono ?_
      rintro e y0 ⟨rfl, hy0⟩
      have h3 := h3.below hy0 h3.lt
      have h4 := h4.below hy0 h4.lt
      have hB := hB.trans (hy0.mono hB.size)
      clear hy0
      refine hK.out _ _ _ (fun _ h => h) trivial ?_
      clear hK K
      try simp only [Act.put, List.setIfInBounds_toArray, List.set_cons_zero, List.set_cons_succ]
      refine Lex.step_take (.bool true) xu1 rfl (Lex.want_none rfl) (by intro Wx hSw; (try dsimp only at hSw); go_simp; (try (first | (with_reducible rfl) | assumption | rfl))) ?_
      simp only [Act.put, List.setIfInBounds_toArray, List.set_cons_zero, List.set_cons_succ]
      refine Lex.step_take (.pointer (some ⟨b3, 0, none⟩)) xu2 rfl (Lex.want_some rfl xu1 rfl (b' := true) rfl rfl) (by intro Wx hSw; (try dsimp only at hSw); go_simp; (try (first | (with_reducible rfl) | assumption | rfl))) ?_
      simp only [Act.put, List.setIfInBounds_toArray, List.set_cons_zero, List.set_cons_succ]
      refine Lex.step_take (.pointer (some ⟨b4, 0, none⟩)) xu4 rfl (Lex.want_some rfl xu1 rfl (b' := true) rfl rfl) (by intro Wx hSw; (try dsimp only at hSw); go_simp; (try (first | (with_reducible rfl) | assumption | rfl))) ?_
      simp only [Act.put, List.setIfInBounds_toArray, List.set_cons_zero, List.set_cons_succ]
      refine Lex.step_call xu3 rfl (Lex.want_some rfl xu1 rfl (b' := true) rfl rfl) (fun K hK => ?_)
      go_simp
      refine (hr1 _ h3).mono ?_
      rintro e y1 ⟨A1, p1, rfl, _, hc1, h3', hy1⟩
      have l5 := h4.lt
      have h4 := h4.bar hy1 n34.symm
      have hB := hB.trans (hy1.below l3 hB.size)
      clear hy1 h3
      refine hK.out _ _ _ (fun _ h => h) trivial ?_
      clear hK K
      try simp only [Act.put, List.setIfInBounds_toArray, List.set_cons_zero, List.set_cons_succ]
      refine Lex.step_call xu5 rfl (Lex.want_some rfl xu1 rfl (b' := true) rfl rfl) (fun K hK => ?_)
      go_simp
      refine (hr2 _ h4).mono ?_
      rintro e y2 ⟨A2, p2, rfl, _, hc2, h4', hy2⟩
      have h3 := h3'.bar hy2 n34
      have hc1 := hc1.bar hy2 (Or.inl l5)
      have hB := hB.trans (hy2.below l4 hB.size)
      clear hy2 h4 h3'
      refine hK.out (fun W => W.cell? ⟨b3, 0, none⟩ = some (.string t) ∧ W.cell? ⟨b3, 1, none⟩ = some (.bool true) ∧ W.cell? ⟨b4, 0, none⟩ = some (.string t) ∧ W.cell? ⟨b4, 1, none⟩ = some (.bool true)) _ _ (fun _ _ => trivial) (And.intro h3.c0 (And.intro h3.c1 (And.intro h4'.c0 h4'.c1))) ?_
      clear hK K
      try simp only [Act.put, List.setIfInBounds_toArray, List.set_cons_zero, List.set_cons_succ]
      refine Lex.step_call xu6 rfl (Lex.want_some rfl xu1 rfl (b' := true) rfl rfl) (fun K hK => ?_)
      go_simp
      refine (same_of hm h9 A1 A2 p1 p2 _ _ _ hc1 hc2).mono ?_
      rintro e y3 ⟨rfl, hy3⟩
      have h3 := h3.below hy3 h3.lt
      have h4 := h4'.below hy3 h4'.lt
      have hB := hB.trans (hy3.mono hB.size)
      clear hy3 hc1 hc2 h4'
      refine hK.out _ _ _ (fun _ h => h) (And.intro h3.c0 (And.intro h3.c1 (And.intro h4.c0 h4.c1))) ?_
      clear hK K
      try simp only [Act.put, List.setIfInBounds_toArray, List.set_cons_zero, List.set_cons_succ]
      refine Lex.step_take (.bool true) xu7 rfl (Lex.want_none rfl) (by intro Wx hSw; (try dsimp only at hSw); go_simp; (try (first | (with_reducible rfl) | assumption | rfl))) ?_
      simp only [Act.put, List.setIfInBounds_toArray, List.set_cons_zero, List.set_cons_succ]
      refine Lex.step_take (.bool true) xu8 rfl (Lex.want_none rfl) (by intro Wx hSw; (try dsimp only at hSw); go_simp; (try (first | (with_reducible rfl) | assumption | rfl))) ?_
      simp only [Act.put, List.setIfInBounds_toArray, List.set_cons_zero, List.set_cons_succ]
      refine Lex.step_take (.pointer (some ⟨b3, 0, none⟩)) xu9 rfl (Lex.want_some rfl xu8 rfl (b' := true) rfl rfl) (by intro Wx hSw; (try dsimp only at hSw); go_simp; (try (first | (with_reducible rfl) | assumption | rfl))) ?_
      simp only [Act.put, List.setIfInBounds_toArray, List.set_cons_zero, List.set_cons_succ]
      refine Lex.step_take (.pointer (some ⟨b3, 0, none⟩)) xu10 rfl (Lex.want_some rfl xu8 rfl (b' := true) rfl rfl) (by intro Wx hSw; (try dsimp only at hSw); go_simp; (try (first | (with_reducible rfl) | assumption | rfl))) ?_
      simp only [Act.put, List.setIfInBounds_toArray, List.set_cons_zero, List.set_cons_succ]
      refine Lex.step_take (.pointer (some ⟨b3, 1, none⟩)) xu11 rfl (Lex.want_some rfl xu8 rfl (b' := true) rfl rfl) (by intro Wx hSw; (try dsimp only at hSw); go_simp; (try (first | (with_reducible rfl) | assumption | rfl))) ?_
      simp only [Act.put, List.setIfInBounds_toArray, List.set_cons_zero, List.set_cons_succ]
      refine Lex.step_take (.bool true) xu12 rfl (Lex.want_some rfl xu8 rfl (b' := true) rfl rfl) (by intro Wx hSw; (try dsimp only at hSw); go_simp; (try (first | (with_reducible rfl) | assumption | rfl))) ?_
      simp only [Act.put, List.setIfInBounds_toArray, List.set_cons_zero, List.set_cons_succ]
      refine Lex.step_take (.pointer (some ⟨b4, 0, none⟩)) xu13 rfl (Lex.want_some rfl xu8 rfl (b' := true) rfl rfl) (by intro Wx hSw; (try dsimp only at hSw); go_simp; (try (first | (with_reducible rfl) | assumption | rfl))) ?_
      simp only [Act.put, List.setIfInBounds_toArray, List.set_cons_zero, List.set_cons_succ]
      refine Lex.step_take (.pointer (some ⟨b4, 0, none⟩)) xu14 rfl (Lex.want_some rfl xu8 rfl (b' := true) rfl rfl) (by intro Wx hSw; (try dsimp only at hSw); go_simp; (try (first | (with_reducible rfl) | assumption | rfl))) ?_
      simp only [Act.put, List.setIfInBounds_toArray, List.set_cons_zero, List.set_cons_succ]
      refine Lex.step_take (.pointer (some ⟨b4, 1, none⟩)) xu15 rfl (Lex.want_some rfl xu8 rfl (b' := true) rfl rfl) (by intro Wx hSw; (try dsimp only at hSw); go_simp; (try (first | (with_reducible rfl) | assumption | rfl))) ?_
      simp only [Act.put, List.setIfInBounds_toArray, List.set_cons_zero, List.set_cons_succ]
      refine Lex.step_take (.bool true) xu16 rfl (Lex.want_some rfl xu8 rfl (b' := true) rfl rfl) (by intro Wx hSw; (try dsimp only at hSw); go_simp; (try (first | (with_reducible rfl) | assumption | rfl))) ?_
      simp only [Act.put, List.setIfInBounds_toArray, List.set_cons_zero, List.set_cons_succ]
      refine Lex.step_take (.bool true) xu17 rfl (Lex.want_some rfl xu8 rfl (b' := true) rfl rfl) (by intro Wx hSw; (try dsimp only at hSw); go_simp; (try (first | (with_reducible rfl) | assumption | rfl))) ?_
      simp only [Act.put, List.setIfInBounds_toArray, List.set_cons_zero, List.set_cons_succ]
      refine Lex.step_take (.bool true) xu18 rfl (Lex.want_none rfl) (by intro Wx hSw; (try dsimp only at hSw); go_simp; (try (first | (with_reducible rfl) | assumption | rfl))) ?_
      simp only [Act.put, List.setIfInBounds_toArray, List.set_cons_zero, List.set_cons_succ]
      refine Lex.step_take (.bool true) xu19 rfl (Lex.want_none rfl) (by intro Wx hSw; (try dsimp only at hSw); go_simp; (try (first | (with_reducible rfl) | assumption | rfl))) ?_
      simp only [Act.put, List.setIfInBounds_toArray, List.set_cons_zero, List.set_cons_succ]
      refine Lex.step_take (.pointer (some ⟨b3, 0, none⟩)) xu20 rfl (Lex.want_some rfl xu19 rfl (b' := true) rfl rfl) (by intro Wx hSw; (try dsimp only at hSw); go_simp; (try (first | (with_reducible rfl) | assumption | rfl))) ?_
      simp only [Act.put, List.setIfInBounds_toArray, List.set_cons_zero, List.set_cons_succ]
      refine Lex.step_take (.pointer (some ⟨b3, 0, none⟩)) xu21 rfl (Lex.want_some rfl xu19 rfl (b' := true) rfl rfl) (by intro Wx hSw; (try dsimp only at hSw); go_simp; (try (first | (with_reducible rfl) | assumption | rfl))) ?_
      simp only [Act.put, List.setIfInBounds_toArray, List.set_cons_zero, List.set_cons_succ]
      refine Lex.step_take (.pointer (some ⟨b3, 1, none⟩)) xu22 rfl (Lex.want_some rfl xu19 rfl (b' := true) rfl rfl) (by intro Wx hSw; (try dsimp only at hSw); go_simp; (try (first | (with_reducible rfl) | assumption | rfl))) ?_
      simp only [Act.put, List.setIfInBounds_toArray, List.set_cons_zero, List.set_cons_succ]
      refine Lex.step_take (.bool true) xu23 rfl (Lex.want_some rfl xu19 rfl (b' := true) rfl rfl) (by intro Wx hSw; (try dsimp only at hSw); go_simp; (try (first | (with_reducible rfl) | assumption | rfl))) ?_
      simp only [Act.put, List.setIfInBounds_toArray, List.set_cons_zero, List.set_cons_succ]
      refine Lex.step_take (.bool true) xu24 rfl (Lex.want_some rfl xu19 rfl (b' := true) rfl rfl) (by intro Wx hSw; (try dsimp only at hSw); go_simp; (try (first | (with_reducible rfl) | assumption | rfl))) ?_
      simp only [Act.put, List.setIfInBounds_toArray, List.set_cons_zero, List.set_cons_succ]
      refine Lex.step_skip xu25 (Lex.want_some rfl xu24 rfl (b' := true) rfl rfl) ?_
      simp only [Act.put, List.setIfInBounds_toArray, List.set_cons_zero, List.set_cons_succ]
      refine Lex.step_skip xu26 (Lex.want_some rfl xu24 rfl (b' := true) rfl rfl) ?_
      simp only [Act.put, List.setIfInBounds_toArray, List.set_cons_zero, List.set_cons_succ]
      refine Lex.step_skip xu27 (Lex.want_some rfl xu24 rfl (b' := true) rfl rfl) ?_
      simp only [Act.put, List.setIfInBounds_toArray, List.set_cons_zero, List.set_cons_succ]
      refine Lex.step_skip xu28 (Lex.want_some rfl xu24 rfl (b' := true) rfl rfl) ?_
      simp only [Act.put, List.setIfInBounds_toArray, List.set_cons_zero, List.set_cons_succ]
      refine Lex.step_skip xu29 (Lex.want_some rfl xu24 rfl (b' := true) rfl rfl) ?_
      simp only [Act.put, List.setIfInBounds_toArray, List.set_cons_zero, List.set_cons_succ]
      refine Lex.step_skip xu30 (Lex.want_some rfl xu24 rfl (b' := true) rfl rfl) ?_
      simp only [Act.put, List.setIfInBounds_toArray, List.set_cons_zero, List.set_cons_succ]
      refine Lex.step_skip xu31 (Lex.want_some rfl xu24 rfl (b' := true) rfl rfl) ?_
      simp only [Act.put, List.setIfInBounds_toArray, List.set_cons_zero, List.set_cons_succ]
      refine Lex.step_skip xu32 (Lex.want_some rfl xu24 rfl (b' := true) rfl rfl) ?_
      simp only [Act.put, List.setIfInBounds_toArray, List.set_cons_zero, List.set_cons_succ]
      refine Lex.step_skip xu33 (Lex.want_some rfl xu24 rfl (b' := true) rfl rfl) ?_
      simp only [Act.put, List.setIfInBounds_toArray, List.set_cons_zero, List.set_cons_succ]
      refine Lex.step_take (.bool true) xu34 rfl (Lex.want_some rfl xu19 rfl (b' := true) rfl rfl) (by intro Wx hSw; (try dsimp only at hSw); go_simp; (try (first | (with_reducible rfl) | assumption | rfl))) ?_
      simp only [Act.put, List.setIfInBounds_toArray, List.set_cons_zero, List.set_cons_succ]
      refine Lex.step_take (.bool true) xu35 rfl (Lex.want_none rfl) (by intro Wx hSw; (try dsimp only at hSw); go_simp; (try (first | (with_reducible rfl) | assumption | rfl))) ?_
      simp only [Act.put, List.setIfInBounds_toArray, List.set_cons_zero, List.set_cons_succ]
      refine Lex.step_take (.bool true) xu36 rfl (Lex.want_none rfl) (by intro Wx hSw; (try dsimp only at hSw); go_simp; (try (first | (with_reducible rfl) | assumption | rfl))) ?_
      simp only [Act.put, List.setIfInBounds_toArray, List.set_cons_zero, List.set_cons_succ]
      refine NoPanic.normal ?_
      go_wp2
      go_ret
      exact ⟨rfl, hB⟩
end Go.Proofs.Ytajoklimdlalhaa.Sc
