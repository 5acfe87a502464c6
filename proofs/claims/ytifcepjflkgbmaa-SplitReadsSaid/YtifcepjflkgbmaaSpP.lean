/- SplitReads: whatever bytes, walked. -/
import Derived.Test.YtifcepjflkgbmaaSpM
import Derived.Test.YtifcepjflkgbmaaXpa
namespace Go.Proofs.Ytifcepjflkgbmaa.Sp
open Go.RowKit Pac Lex

theorem readSp_len (s : ByteArray) (d : Bool) (cols : Int) : (readSp s d cols).1.length ≤ 8 ∧ ∀ g ∈ (readSp s d cols).1, g.length ≤ 8 := by
  unfold readSp
  split
  · rename_i h
    obtain ⟨_, n, _, h2⟩ := h
    have h3 := h2.few
    have h4 := h2.n8
    exact ⟨by show (seenSp s d).1.length ≤ 8; omega, fun g hg => h2.short hg⟩
  · exact ⟨Nat.zero_le _, fun g hg => by simp at hg⟩
def RdPostP (g : Nat) (l : List (List Int)) (m : Nat) (t : ByteArray) (d : Bool) (W : World) (e : Ending) (w' : World) : Prop :=
  ∃ A p S', e = .returned (.slice A m p) ∧ HasLL w' W.heap.size A l ∧ IsBox w' g S' d ∧ (d = false → S' = t) ∧ Bar g W w'
def RdPost (g : Nat) (l : List (List Int)) (m : Nat) (t : ByteArray) (d : Bool) (W : World) (e : Ending) (w' : World) : Prop :=
  ∃ A p, e = .returned (.slice A m p) ∧ HasLL w' W.heap.size A l ∧ IsBox w' g t d ∧ Bar g W w'
theorem rdP_of {g : Nat} {l : List (List Int)} {m : Nat} {t : ByteArray} {d : Bool} {W : World} {f : Nat} {args : Array Value} (hm : l.length = m) (h : Calls Try.prog f args W (ReadPostP g (l, t, d) W)) : Calls Try.prog f args W (RdPostP g l m t d W) := by
  subst hm
  refine h.mono ?_
  rintro e w' ⟨A, p, S', rfl, _, hl, hb, hS, hB⟩
  exact ⟨A, p, S', rfl, hl, hb, hS, hB⟩
theorem rd_of {g : Nat} {l : List (List Int)} {m : Nat} {t : ByteArray} {d : Bool} {W : World} {f : Nat} {args : Array Value} (hm : l.length = m) (h : Calls Try.prog f args W (ReadPost g (l, t, d) W)) : Calls Try.prog f args W (RdPost g l m t d W) := by
  subst hm
  refine h.mono ?_
  rintro e w' ⟨A, p, rfl, _, hl, hb, hB⟩
  exact ⟨A, p, rfl, hl, hb, hB⟩
theorem same_of {l : List (List Int)} {m : Nat} (hm : l.length = m) (h9 : m ≤ 8 ∧ ∀ g ∈ l, g.length ≤ 8) (A1 A2 : Option Addr) (p1 p2 lo1 lo2 : Nat) (w : World) (h1 : HasLL w lo1 A1 l) (h2 : HasLL w lo2 A2 l) :
    Calls Try.prog 12 #[.slice A1 m p1, .slice A2 m p2] w fun e w' => e = .returned (.bool true) ∧ Below w.heap.size w w' := by
  subst hm
  have h := refSame_any A1 A2 p1 p2 l l lo1 lo2 w h1 h2 (by omega) (by omega) (fun g hg => by have := h9.2 g hg; omega) (fun g hg => by have := h9.2 g hg; omega)
  rw [decide_eq_true rfl] at h
  exact h

set_option maxRecDepth 20000 in
set_option maxHeartbeats 8000000 in
theorem reads_any (s : ByteArray) (cols : Int) (w : World) (hc0 : -9223372036854775808 ≤ cols) (hc1 : cols ≤ 9223372036854775807) : Calls Try.prog 4 #[.string s, .int .i64 cols] w fun e w' => e = .returned (.bool true) ∧ Below w.heap.size w w' := by
  by_cases q1 : 300 < s.size
  · go_enter Try.func4, Try.ntmps4
    go_wp2_with fail
    refine (awake_any _).mono ?_
    rintro e w2 ⟨rfl, hw2⟩
    go_wp2
    go_ret
    exact ⟨rfl, hw2⟩
  · have hr1 := fun (g : Nat) (W : World) (h : IsBox W g s false) => read_any g s false cols W h (by omega) hc0 hc1
    have hr2 := fun (g : Nat) (W : World) (h : IsBox W g s false) => refRead_any g s false cols W h (by omega) hc0 hc1
    have h9 := readSp_len s false cols
    generalize readSp s false cols = r at hr1 hr2 h9
    obtain ⟨l, t, d⟩ := r
    obtain ⟨m, hm⟩ : ∃ m, l.length = m := ⟨_, rfl⟩
    simp only at h9
    rw [hm] at h9
    have hr1 : ∀ (g : Nat) (W : World), IsBox W g s false → Calls Try.prog 23 #[.pointer (some ⟨g, 0, none⟩), .int .i64 cols] W (RdPostP g l m t d W) := fun g W h => rdP_of hm (hr1 g W h)
    have hr2 : ∀ (g : Nat) (W : World), IsBox W g s false → Calls Try.prog 24 #[.pointer (some ⟨g, 0, none⟩), .int .i64 cols] W (RdPost g l m t d W) := fun g W h => rd_of hm (hr2 g W h)
    have h3 := (Box2.new w (.string s) (.bool false) 36).alloc (.cells #[.string s, .bool false] 38)
    have h4 := Box2.new (w.alloc (.cells #[.string s, .bool false] 36)) (.string s) (.bool false) 38
    rw [show (w.alloc (.cells #[.string s, .bool false] 36)).heap.size = w.heap.size + 1 by simp] at h4
    have hB := ((Below.refl w.heap.size w).alloc (Nat.le_refl _) (.cells #[.string s, .bool false] 36)).alloc (by simp) (.cells #[.string s, .bool false] 38)
    have hr1 := hr1 w.heap.size
    have hr2 := hr2 (w.heap.size + 1)
    have n34 : w.heap.size ≠ w.heap.size + 1 := by omega
    have l4 : w.heap.size ≤ w.heap.size + 1 := by omega
    have HN := Lib.hid (And.intro n34 l4)
    have HM := Lib.hid (And.intro hm h9)
    clear n34 l4 hm h9
    go_enter Try.func4, Try.ntmps4
    go_wp2_with fail
    obtain ⟨n34, l4⟩ := HN.out
    obtain ⟨hm, h9⟩ := HM.out
    generalize ((w.alloc (.cells #[.string s, .bool false] 36)).alloc (.cells #[.string s, .bool false] 38)) = w2 at h3 h4 hB ⊢
    generalize hb2 : w.heap.size + 1 = b4 at h4 hr2 n34 l4 ⊢
    clear hb2
    have hB0 : Below w.heap.size w w2 := hB
    generalize hb1 : w.heap.size = b3 at h3 hr1 n34 ⊢
    have l3 : w.heap.size ≤ b3 := by omega
    clear hb1 hB0
    have h3 := h3.drew
    have h4 := h4.drew
    have hB := hB.drew
    cases d
    · skip
      refine Lex.region_lex (ops := paops) (calls := pacalls) paord (fun _ => True) (by kernel_rfl) (by kernel_rfl) pasel (by kernel_rfl) (by kernel_rfl) palex (trivial) ?_
      unfold paord
      refine Lex.step_call pa0 rfl (Lex.want_none rfl) (fun K hK => ?_)
      go_simp
      refine (awake_any _).mono ?_
      rintro e y0 ⟨rfl, hy0⟩
      have h3 := h3.below hy0 h3.lt
      have h4 := h4.below hy0 h4.lt
      have hB := hB.trans (hy0.mono hB.size)
      clear hy0
      refine hK.out _ _ _ (fun _ h => h) trivial ?_
      clear hK K
      try simp only [Act.put, List.setIfInBounds_toArray, List.set_cons_zero, List.set_cons_succ]
      refine Lex.step_take (.bool true) pa1 rfl (Lex.want_none rfl) (by intro Wx hSw; (try dsimp only at hSw); go_simp; (try (first | (with_reducible rfl) | assumption | rfl))) ?_
      simp only [Act.put, List.setIfInBounds_toArray, List.set_cons_zero, List.set_cons_succ]
      refine Lex.step_take (.pointer (some ⟨b3, 0, none⟩)) pa2 rfl (Lex.want_some rfl pa1 rfl (b' := true) rfl rfl) (by intro Wx hSw; (try dsimp only at hSw); go_simp; (try (first | (with_reducible rfl) | assumption | rfl))) ?_
      simp only [Act.put, List.setIfInBounds_toArray, List.set_cons_zero, List.set_cons_succ]
      refine Lex.step_take (.int .i64 cols) pa3 rfl (Lex.want_some rfl pa1 rfl (b' := true) rfl rfl) (by intro Wx hSw; (try dsimp only at hSw); go_simp; (try (first | (with_reducible rfl) | assumption | rfl))) ?_
      simp only [Act.put, List.setIfInBounds_toArray, List.set_cons_zero, List.set_cons_succ]
      refine Lex.step_take (.pointer (some ⟨b4, 0, none⟩)) pa5 rfl (Lex.want_some rfl pa1 rfl (b' := true) rfl rfl) (by intro Wx hSw; (try dsimp only at hSw); go_simp; (try (first | (with_reducible rfl) | assumption | rfl))) ?_
      simp only [Act.put, List.setIfInBounds_toArray, List.set_cons_zero, List.set_cons_succ]
      refine Lex.step_take (.int .i64 cols) pa6 rfl (Lex.want_some rfl pa1 rfl (b' := true) rfl rfl) (by intro Wx hSw; (try dsimp only at hSw); go_simp; (try (first | (with_reducible rfl) | assumption | rfl))) ?_
      simp only [Act.put, List.setIfInBounds_toArray, List.set_cons_zero, List.set_cons_succ]
      refine Lex.step_call pa4 rfl (Lex.want_some rfl pa1 rfl (b' := true) rfl rfl) (fun K hK => ?_)
      go_simp
      refine (hr1 _ h3).mono ?_
      rintro e y1 ⟨A1, p1, S1, rfl, hc1, h3', hS, hy1⟩
      have l5 := h4.lt
      have h4 := h4.bar hy1 n34.symm
      have hB := hB.trans (hy1.below l3 hB.size)
      obtain rfl := (hS rfl).symm
      clear hy1 h3
      refine hK.out _ _ _ (fun _ h => h) trivial ?_
      clear hK K
      try simp only [Act.put, List.setIfInBounds_toArray, List.set_cons_zero, List.set_cons_succ]
      refine Lex.step_call pa7 rfl (Lex.want_some rfl pa1 rfl (b' := true) rfl rfl) (fun K hK => ?_)
      go_simp
      refine (hr2 _ h4).mono ?_
      rintro e y2 ⟨A2, p2, rfl, hc2, h4', hy2⟩
      have h3 := h3'.bar hy2 n34
      have hc1 := hc1.bar hy2 (Or.inl l5)
      have hB := hB.trans (hy2.below l4 hB.size)
      clear hy2 h4 h3'
      refine hK.out (fun W => W.cell? ⟨b3, 0, none⟩ = some (.string t) ∧ W.cell? ⟨b3, 1, none⟩ = some (.bool false) ∧ W.cell? ⟨b4, 0, none⟩ = some (.string t) ∧ W.cell? ⟨b4, 1, none⟩ = some (.bool false)) _ _ (fun _ _ => trivial) (And.intro h3.c0 (And.intro h3.c1 (And.intro h4'.c0 h4'.c1))) ?_
      clear hK K
      try simp only [Act.put, List.setIfInBounds_toArray, List.set_cons_zero, List.set_cons_succ]
      refine Lex.step_call pa8 rfl (Lex.want_some rfl pa1 rfl (b' := true) rfl rfl) (fun K hK => ?_)
      go_simp
      refine (same_of hm h9 A1 A2 p1 p2 _ _ _ hc1 hc2).mono ?_
      rintro e y3 ⟨rfl, hy3⟩
      have h3 := h3.below hy3 h3.lt
      have h4 := h4'.below hy3 h4'.lt
      have hB := hB.trans (hy3.mono hB.size)
      clear hy3 hc1 hc2 h4'
      refine hK.out _ _ _ (fun _ h => h) (And.intro h3.c0 (And.intro h3.c1 (And.intro h4.c0 h4.c1))) ?_
      clear hK K
      try simp only [Act.put, List.setIfInBounds_toArray, List.set_cons_zero, List.set_cons_succ]
      refine Lex.step_take (.bool true) pa9 rfl (Lex.want_none rfl) (by intro Wx hSw; (try dsimp only at hSw); go_simp; (try (first | (with_reducible rfl) | assumption | rfl))) ?_
      simp only [Act.put, List.setIfInBounds_toArray, List.set_cons_zero, List.set_cons_succ]
      refine Lex.step_take (.bool true) pa10 rfl (Lex.want_none rfl) (by intro Wx hSw; (try dsimp only at hSw); go_simp; (try (first | (with_reducible rfl) | assumption | rfl))) ?_
      simp only [Act.put, List.setIfInBounds_toArray, List.set_cons_zero, List.set_cons_succ]
      refine Lex.step_take (.pointer (some ⟨b3, 0, none⟩)) pa11 rfl (Lex.want_some rfl pa10 rfl (b' := true) rfl rfl) (by intro Wx hSw; (try dsimp only at hSw); go_simp; (try (first | (with_reducible rfl) | assumption | rfl))) ?_
      simp only [Act.put, List.setIfInBounds_toArray, List.set_cons_zero, List.set_cons_succ]
      refine Lex.step_take (.pointer (some ⟨b3, 0, none⟩)) pa12 rfl (Lex.want_some rfl pa10 rfl (b' := true) rfl rfl) (by intro Wx hSw; (try dsimp only at hSw); go_simp; (try (first | (with_reducible rfl) | assumption | rfl))) ?_
      simp only [Act.put, List.setIfInBounds_toArray, List.set_cons_zero, List.set_cons_succ]
      refine Lex.step_take (.pointer (some ⟨b3, 1, none⟩)) pa13 rfl (Lex.want_some rfl pa10 rfl (b' := true) rfl rfl) (by intro Wx hSw; (try dsimp only at hSw); go_simp; (try (first | (with_reducible rfl) | assumption | rfl))) ?_
      simp only [Act.put, List.setIfInBounds_toArray, List.set_cons_zero, List.set_cons_succ]
      refine Lex.step_take (.bool false) pa14 rfl (Lex.want_some rfl pa10 rfl (b' := true) rfl rfl) (by intro Wx hSw; (try dsimp only at hSw); go_simp; (try (first | (with_reducible rfl) | assumption | rfl))) ?_
      simp only [Act.put, List.setIfInBounds_toArray, List.set_cons_zero, List.set_cons_succ]
      refine Lex.step_take (.pointer (some ⟨b4, 0, none⟩)) pa15 rfl (Lex.want_some rfl pa10 rfl (b' := true) rfl rfl) (by intro Wx hSw; (try dsimp only at hSw); go_simp; (try (first | (with_reducible rfl) | assumption | rfl))) ?_
      simp only [Act.put, List.setIfInBounds_toArray, List.set_cons_zero, List.set_cons_succ]
      refine Lex.step_take (.pointer (some ⟨b4, 0, none⟩)) pa16 rfl (Lex.want_some rfl pa10 rfl (b' := true) rfl rfl) (by intro Wx hSw; (try dsimp only at hSw); go_simp; (try (first | (with_reducible rfl) | assumption | rfl))) ?_
      simp only [Act.put, List.setIfInBounds_toArray, List.set_cons_zero, List.set_cons_succ]
      refine Lex.step_take (.pointer (some ⟨b4, 1, none⟩)) pa17 rfl (Lex.want_some rfl pa10 rfl (b' := true) rfl rfl) (by intro Wx hSw; (try dsimp only at hSw); go_simp; (try (first | (with_reducible rfl) | assumption | rfl))) ?_
      simp only [Act.put, List.setIfInBounds_toArray, List.set_cons_zero, List.set_cons_succ]
      refine Lex.step_take (.bool false) pa18 rfl (Lex.want_some rfl pa10 rfl (b' := true) rfl rfl) (by intro Wx hSw; (try dsimp only at hSw); go_simp; (try (first | (with_reducible rfl) | assumption | rfl))) ?_
      simp only [Act.put, List.setIfInBounds_toArray, List.set_cons_zero, List.set_cons_succ]
      refine Lex.step_take (.bool true) pa19 rfl (Lex.want_some rfl pa10 rfl (b' := true) rfl rfl) (by intro Wx hSw; (try dsimp only at hSw); go_simp; (try (first | (with_reducible rfl) | assumption | rfl))) ?_
      simp only [Act.put, List.setIfInBounds_toArray, List.set_cons_zero, List.set_cons_succ]
      refine Lex.step_take (.bool true) pa20 rfl (Lex.want_none rfl) (by intro Wx hSw; (try dsimp only at hSw); go_simp; (try (first | (with_reducible rfl) | assumption | rfl))) ?_
      simp only [Act.put, List.setIfInBounds_toArray, List.set_cons_zero, List.set_cons_succ]
      refine Lex.step_take (.bool true) pa21 rfl (Lex.want_none rfl) (by intro Wx hSw; (try dsimp only at hSw); go_simp; (try (first | (with_reducible rfl) | assumption | rfl))) ?_
      simp only [Act.put, List.setIfInBounds_toArray, List.set_cons_zero, List.set_cons_succ]
      refine Lex.step_take (.pointer (some ⟨b3, 0, none⟩)) pa22 rfl (Lex.want_some rfl pa21 rfl (b' := true) rfl rfl) (by intro Wx hSw; (try dsimp only at hSw); go_simp; (try (first | (with_reducible rfl) | assumption | rfl))) ?_
      simp only [Act.put, List.setIfInBounds_toArray, List.set_cons_zero, List.set_cons_succ]
      refine Lex.step_take (.pointer (some ⟨b3, 0, none⟩)) pa23 rfl (Lex.want_some rfl pa21 rfl (b' := true) rfl rfl) (by intro Wx hSw; (try dsimp only at hSw); go_simp; (try (first | (with_reducible rfl) | assumption | rfl))) ?_
      simp only [Act.put, List.setIfInBounds_toArray, List.set_cons_zero, List.set_cons_succ]
      refine Lex.step_take (.pointer (some ⟨b3, 1, none⟩)) pa24 rfl (Lex.want_some rfl pa21 rfl (b' := true) rfl rfl) (by intro Wx hSw; (try dsimp only at hSw); go_simp; (try (first | (with_reducible rfl) | assumption | rfl))) ?_
      simp only [Act.put, List.setIfInBounds_toArray, List.set_cons_zero, List.set_cons_succ]
      refine Lex.step_take (.bool false) pa25 rfl (Lex.want_some rfl pa21 rfl (b' := true) rfl rfl) (by intro Wx hSw; (try dsimp only at hSw); go_simp; (try (first | (with_reducible rfl) | assumption | rfl))) ?_
      simp only [Act.put, List.setIfInBounds_toArray, List.set_cons_zero, List.set_cons_succ]
      refine Lex.step_take (.bool false) pa26 rfl (Lex.want_some rfl pa21 rfl (b' := true) rfl rfl) (by intro Wx hSw; (try dsimp only at hSw); go_simp; (try (first | (with_reducible rfl) | assumption | rfl))) ?_
      simp only [Act.put, List.setIfInBounds_toArray, List.set_cons_zero, List.set_cons_succ]
      refine Lex.step_take (.pointer (some ⟨b3, 0, none⟩)) pa27 rfl (Lex.want_some rfl pa26 rfl (b' := false) rfl rfl) (by intro Wx hSw; (try dsimp only at hSw); go_simp; (try (first | (with_reducible rfl) | assumption | rfl))) ?_
      simp only [Act.put, List.setIfInBounds_toArray, List.set_cons_zero, List.set_cons_succ]
      refine Lex.step_take (.pointer (some ⟨b3, 0, none⟩)) pa28 rfl (Lex.want_some rfl pa26 rfl (b' := false) rfl rfl) (by intro Wx hSw; (try dsimp only at hSw); go_simp; (try (first | (with_reducible rfl) | assumption | rfl))) ?_
      simp only [Act.put, List.setIfInBounds_toArray, List.set_cons_zero, List.set_cons_succ]
      refine Lex.step_take (.pointer (some ⟨b3, 0, none⟩)) pa29 rfl (Lex.want_some rfl pa26 rfl (b' := false) rfl rfl) (by intro Wx hSw; (try dsimp only at hSw); go_simp; (try (first | (with_reducible rfl) | assumption | rfl))) ?_
      simp only [Act.put, List.setIfInBounds_toArray, List.set_cons_zero, List.set_cons_succ]
      refine Lex.step_take (.string t) pa30 rfl (Lex.want_some rfl pa26 rfl (b' := false) rfl rfl) (by intro Wx hSw; (try dsimp only at hSw); go_simp; (try (first | (with_reducible rfl) | assumption | rfl))) ?_
      simp only [Act.put, List.setIfInBounds_toArray, List.set_cons_zero, List.set_cons_succ]
      refine Lex.step_take (.pointer (some ⟨b4, 0, none⟩)) pa31 rfl (Lex.want_some rfl pa26 rfl (b' := false) rfl rfl) (by intro Wx hSw; (try dsimp only at hSw); go_simp; (try (first | (with_reducible rfl) | assumption | rfl))) ?_
      simp only [Act.put, List.setIfInBounds_toArray, List.set_cons_zero, List.set_cons_succ]
      refine Lex.step_take (.pointer (some ⟨b4, 0, none⟩)) pa32 rfl (Lex.want_some rfl pa26 rfl (b' := false) rfl rfl) (by intro Wx hSw; (try dsimp only at hSw); go_simp; (try (first | (with_reducible rfl) | assumption | rfl))) ?_
      simp only [Act.put, List.setIfInBounds_toArray, List.set_cons_zero, List.set_cons_succ]
      refine Lex.step_take (.pointer (some ⟨b4, 0, none⟩)) pa33 rfl (Lex.want_some rfl pa26 rfl (b' := false) rfl rfl) (by intro Wx hSw; (try dsimp only at hSw); go_simp; (try (first | (with_reducible rfl) | assumption | rfl))) ?_
      simp only [Act.put, List.setIfInBounds_toArray, List.set_cons_zero, List.set_cons_succ]
      refine Lex.step_take (.string t) pa34 rfl (Lex.want_some rfl pa26 rfl (b' := false) rfl rfl) (by intro Wx hSw; (try dsimp only at hSw); go_simp; (try (first | (with_reducible rfl) | assumption | rfl))) ?_
      simp only [Act.put, List.setIfInBounds_toArray, List.set_cons_zero, List.set_cons_succ]
      refine Lex.step_take (.bool true) pa35 rfl (Lex.want_some rfl pa26 rfl (b' := false) rfl rfl) (by intro Wx hSw; (try dsimp only at hSw); go_simp; (try (first | (with_reducible rfl) | assumption | rfl))) ?_
      simp only [Act.put, List.setIfInBounds_toArray, List.set_cons_zero, List.set_cons_succ]
      refine Lex.step_take (.bool true) pa36 rfl (Lex.want_some rfl pa21 rfl (b' := true) rfl rfl) (by intro Wx hSw; (try dsimp only at hSw); go_simp; (try (first | (with_reducible rfl) | assumption | rfl))) ?_
      simp only [Act.put, List.setIfInBounds_toArray, List.set_cons_zero, List.set_cons_succ]
      refine Lex.step_take (.bool true) pa37 rfl (Lex.want_none rfl) (by intro Wx hSw; (try dsimp only at hSw); go_simp; (try (first | (with_reducible rfl) | assumption | rfl))) ?_
      simp only [Act.put, List.setIfInBounds_toArray, List.set_cons_zero, List.set_cons_succ]
      refine Lex.step_take (.bool true) pa38 rfl (Lex.want_none rfl) (by intro Wx hSw; (try dsimp only at hSw); go_simp; (try (first | (with_reducible rfl) | assumption | rfl))) ?_
      simp only [Act.put, List.setIfInBounds_toArray, List.set_cons_zero, List.set_cons_succ]
      refine NoPanic.normal ?_
      go_wp2
      go_ret
      exact ⟨rfl, hB⟩
    · skip
      refine Lex.region_lex (ops := paops) (calls := pacalls) paord (fun _ => True) (by kernel_rfl) (by kernel_rfl) pasel (by kernel_rfl) (by kernel_rfl) palex (trivial) ?_
      unfold paord
      refine Lex.step_call pa0 rfl (Lex.want_none rfl) (fun K hK => ?_)
      go_simp
      refine (awake_any _).mono ?_
      rintro e y0 ⟨rfl, hy0⟩
      have h3 := h3.below hy0 h3.lt
      have h4 := h4.below hy0 h4.lt
      have hB := hB.trans (hy0.mono hB.size)
      clear hy0
      refine hK.out _ _ _ (fun _ h => h) trivial ?_
      clear hK K
      try simp only [Act.put, List.setIfInBounds_toArray, List.set_cons_zero, List.set_cons_succ]
      refine Lex.step_take (.bool true) pa1 rfl (Lex.want_none rfl) (by intro Wx hSw; (try dsimp only at hSw); go_simp; (try (first | (with_reducible rfl) | assumption | rfl))) ?_
      simp only [Act.put, List.setIfInBounds_toArray, List.set_cons_zero, List.set_cons_succ]
      refine Lex.step_take (.pointer (some ⟨b3, 0, none⟩)) pa2 rfl (Lex.want_some rfl pa1 rfl (b' := true) rfl rfl) (by intro Wx hSw; (try dsimp only at hSw); go_simp; (try (first | (with_reducible rfl) | assumption | rfl))) ?_
      simp only [Act.put, List.setIfInBounds_toArray, List.set_cons_zero, List.set_cons_succ]
      refine Lex.step_take (.int .i64 cols) pa3 rfl (Lex.want_some rfl pa1 rfl (b' := true) rfl rfl) (by intro Wx hSw; (try dsimp only at hSw); go_simp; (try (first | (with_reducible rfl) | assumption | rfl))) ?_
      simp only [Act.put, List.setIfInBounds_toArray, List.set_cons_zero, List.set_cons_succ]
      refine Lex.step_take (.pointer (some ⟨b4, 0, none⟩)) pa5 rfl (Lex.want_some rfl pa1 rfl (b' := true) rfl rfl) (by intro Wx hSw; (try dsimp only at hSw); go_simp; (try (first | (with_reducible rfl) | assumption | rfl))) ?_
      simp only [Act.put, List.setIfInBounds_toArray, List.set_cons_zero, List.set_cons_succ]
      refine Lex.step_take (.int .i64 cols) pa6 rfl (Lex.want_some rfl pa1 rfl (b' := true) rfl rfl) (by intro Wx hSw; (try dsimp only at hSw); go_simp; (try (first | (with_reducible rfl) | assumption | rfl))) ?_
      simp only [Act.put, List.setIfInBounds_toArray, List.set_cons_zero, List.set_cons_succ]
      refine Lex.step_call pa4 rfl (Lex.want_some rfl pa1 rfl (b' := true) rfl rfl) (fun K hK => ?_)
      go_simp
      refine (hr1 _ h3).mono ?_
      rintro e y1 ⟨A1, p1, S1, rfl, hc1, h3', hS, hy1⟩
      have l5 := h4.lt
      have h4 := h4.bar hy1 n34.symm
      have hB := hB.trans (hy1.below l3 hB.size)
      clear hS
      clear hy1 h3
      refine hK.out _ _ _ (fun _ h => h) trivial ?_
      clear hK K
      try simp only [Act.put, List.setIfInBounds_toArray, List.set_cons_zero, List.set_cons_succ]
      refine Lex.step_call pa7 rfl (Lex.want_some rfl pa1 rfl (b' := true) rfl rfl) (fun K hK => ?_)
      go_simp
      refine (hr2 _ h4).mono ?_
      rintro e y2 ⟨A2, p2, rfl, hc2, h4', hy2⟩
      have h3 := h3'.bar hy2 n34
      have hc1 := hc1.bar hy2 (Or.inl l5)
      have hB := hB.trans (hy2.below l4 hB.size)
      clear hy2 h4 h3'
      refine hK.out (fun W => W.cell? ⟨b3, 0, none⟩ = some (.string S1) ∧ W.cell? ⟨b3, 1, none⟩ = some (.bool true) ∧ W.cell? ⟨b4, 0, none⟩ = some (.string t) ∧ W.cell? ⟨b4, 1, none⟩ = some (.bool true)) _ _ (fun _ _ => trivial) (And.intro h3.c0 (And.intro h3.c1 (And.intro h4'.c0 h4'.c1))) ?_
      clear hK K
      try simp only [Act.put, List.setIfInBounds_toArray, List.set_cons_zero, List.set_cons_succ]
      refine Lex.step_call pa8 rfl (Lex.want_some rfl pa1 rfl (b' := true) rfl rfl) (fun K hK => ?_)
      go_simp
      refine (same_of hm h9 A1 A2 p1 p2 _ _ _ hc1 hc2).mono ?_
      rintro e y3 ⟨rfl, hy3⟩
      have h3 := h3.below hy3 h3.lt
      have h4 := h4'.below hy3 h4'.lt
      have hB := hB.trans (hy3.mono hB.size)
      clear hy3 hc1 hc2 h4'
      refine hK.out _ _ _ (fun _ h => h) (And.intro h3.c0 (And.intro h3.c1 (And.intro h4.c0 h4.c1))) ?_
      clear hK K
      try simp only [Act.put, List.setIfInBounds_toArray, List.set_cons_zero, List.set_cons_succ]
      refine Lex.step_take (.bool true) pa9 rfl (Lex.want_none rfl) (by intro Wx hSw; (try dsimp only at hSw); go_simp; (try (first | (with_reducible rfl) | assumption | rfl))) ?_
      simp only [Act.put, List.setIfInBounds_toArray, List.set_cons_zero, List.set_cons_succ]
      refine Lex.step_take (.bool true) pa10 rfl (Lex.want_none rfl) (by intro Wx hSw; (try dsimp only at hSw); go_simp; (try (first | (with_reducible rfl) | assumption | rfl))) ?_
      simp only [Act.put, List.setIfInBounds_toArray, List.set_cons_zero, List.set_cons_succ]
      refine Lex.step_take (.pointer (some ⟨b3, 0, none⟩)) pa11 rfl (Lex.want_some rfl pa10 rfl (b' := true) rfl rfl) (by intro Wx hSw; (try dsimp only at hSw); go_simp; (try (first | (with_reducible rfl) | assumption | rfl))) ?_
      simp only [Act.put, List.setIfInBounds_toArray, List.set_cons_zero, List.set_cons_succ]
      refine Lex.step_take (.pointer (some ⟨b3, 0, none⟩)) pa12 rfl (Lex.want_some rfl pa10 rfl (b' := true) rfl rfl) (by intro Wx hSw; (try dsimp only at hSw); go_simp; (try (first | (with_reducible rfl) | assumption | rfl))) ?_
      simp only [Act.put, List.setIfInBounds_toArray, List.set_cons_zero, List.set_cons_succ]
      refine Lex.step_take (.pointer (some ⟨b3, 1, none⟩)) pa13 rfl (Lex.want_some rfl pa10 rfl (b' := true) rfl rfl) (by intro Wx hSw; (try dsimp only at hSw); go_simp; (try (first | (with_reducible rfl) | assumption | rfl))) ?_
      simp only [Act.put, List.setIfInBounds_toArray, List.set_cons_zero, List.set_cons_succ]
      refine Lex.step_take (.bool true) pa14 rfl (Lex.want_some rfl pa10 rfl (b' := true) rfl rfl) (by intro Wx hSw; (try dsimp only at hSw); go_simp; (try (first | (with_reducible rfl) | assumption | rfl))) ?_
      simp only [Act.put, List.setIfInBounds_toArray, List.set_cons_zero, List.set_cons_succ]
      refine Lex.step_take (.pointer (some ⟨b4, 0, none⟩)) pa15 rfl (Lex.want_some rfl pa10 rfl (b' := true) rfl rfl) (by intro Wx hSw; (try dsimp only at hSw); go_simp; (try (first | (with_reducible rfl) | assumption | rfl))) ?_
      simp only [Act.put, List.setIfInBounds_toArray, List.set_cons_zero, List.set_cons_succ]
      refine Lex.step_take (.pointer (some ⟨b4, 0, none⟩)) pa16 rfl (Lex.want_some rfl pa10 rfl (b' := true) rfl rfl) (by intro Wx hSw; (try dsimp only at hSw); go_simp; (try (first | (with_reducible rfl) | assumption | rfl))) ?_
      simp only [Act.put, List.setIfInBounds_toArray, List.set_cons_zero, List.set_cons_succ]
      refine Lex.step_take (.pointer (some ⟨b4, 1, none⟩)) pa17 rfl (Lex.want_some rfl pa10 rfl (b' := true) rfl rfl) (by intro Wx hSw; (try dsimp only at hSw); go_simp; (try (first | (with_reducible rfl) | assumption | rfl))) ?_
      simp only [Act.put, List.setIfInBounds_toArray, List.set_cons_zero, List.set_cons_succ]
      refine Lex.step_take (.bool true) pa18 rfl (Lex.want_some rfl pa10 rfl (b' := true) rfl rfl) (by intro Wx hSw; (try dsimp only at hSw); go_simp; (try (first | (with_reducible rfl) | assumption | rfl))) ?_
      simp only [Act.put, List.setIfInBounds_toArray, List.set_cons_zero, List.set_cons_succ]
      refine Lex.step_take (.bool true) pa19 rfl (Lex.want_some rfl pa10 rfl (b' := true) rfl rfl) (by intro Wx hSw; (try dsimp only at hSw); go_simp; (try (first | (with_reducible rfl) | assumption | rfl))) ?_
      simp only [Act.put, List.setIfInBounds_toArray, List.set_cons_zero, List.set_cons_succ]
      refine Lex.step_take (.bool true) pa20 rfl (Lex.want_none rfl) (by intro Wx hSw; (try dsimp only at hSw); go_simp; (try (first | (with_reducible rfl) | assumption | rfl))) ?_
      simp only [Act.put, List.setIfInBounds_toArray, List.set_cons_zero, List.set_cons_succ]
      refine Lex.step_take (.bool true) pa21 rfl (Lex.want_none rfl) (by intro Wx hSw; (try dsimp only at hSw); go_simp; (try (first | (with_reducible rfl) | assumption | rfl))) ?_
      simp only [Act.put, List.setIfInBounds_toArray, List.set_cons_zero, List.set_cons_succ]
      refine Lex.step_take (.pointer (some ⟨b3, 0, none⟩)) pa22 rfl (Lex.want_some rfl pa21 rfl (b' := true) rfl rfl) (by intro Wx hSw; (try dsimp only at hSw); go_simp; (try (first | (with_reducible rfl) | assumption | rfl))) ?_
      simp only [Act.put, List.setIfInBounds_toArray, List.set_cons_zero, List.set_cons_succ]
      refine Lex.step_take (.pointer (some ⟨b3, 0, none⟩)) pa23 rfl (Lex.want_some rfl pa21 rfl (b' := true) rfl rfl) (by intro Wx hSw; (try dsimp only at hSw); go_simp; (try (first | (with_reducible rfl) | assumption | rfl))) ?_
      simp only [Act.put, List.setIfInBounds_toArray, List.set_cons_zero, List.set_cons_succ]
      refine Lex.step_take (.pointer (some ⟨b3, 1, none⟩)) pa24 rfl (Lex.want_some rfl pa21 rfl (b' := true) rfl rfl) (by intro Wx hSw; (try dsimp only at hSw); go_simp; (try (first | (with_reducible rfl) | assumption | rfl))) ?_
      simp only [Act.put, List.setIfInBounds_toArray, List.set_cons_zero, List.set_cons_succ]
      refine Lex.step_take (.bool true) pa25 rfl (Lex.want_some rfl pa21 rfl (b' := true) rfl rfl) (by intro Wx hSw; (try dsimp only at hSw); go_simp; (try (first | (with_reducible rfl) | assumption | rfl))) ?_
      simp only [Act.put, List.setIfInBounds_toArray, List.set_cons_zero, List.set_cons_succ]
      refine Lex.step_take (.bool true) pa26 rfl (Lex.want_some rfl pa21 rfl (b' := true) rfl rfl) (by intro Wx hSw; (try dsimp only at hSw); go_simp; (try (first | (with_reducible rfl) | assumption | rfl))) ?_
      simp only [Act.put, List.setIfInBounds_toArray, List.set_cons_zero, List.set_cons_succ]
      refine Lex.step_skip pa27 (Lex.want_some rfl pa26 rfl (b' := true) rfl rfl) ?_
      simp only [Act.put, List.setIfInBounds_toArray, List.set_cons_zero, List.set_cons_succ]
      refine Lex.step_skip pa28 (Lex.want_some rfl pa26 rfl (b' := true) rfl rfl) ?_
      simp only [Act.put, List.setIfInBounds_toArray, List.set_cons_zero, List.set_cons_succ]
      refine Lex.step_skip pa29 (Lex.want_some rfl pa26 rfl (b' := true) rfl rfl) ?_
      simp only [Act.put, List.setIfInBounds_toArray, List.set_cons_zero, List.set_cons_succ]
      refine Lex.step_skip pa30 (Lex.want_some rfl pa26 rfl (b' := true) rfl rfl) ?_
      simp only [Act.put, List.setIfInBounds_toArray, List.set_cons_zero, List.set_cons_succ]
      refine Lex.step_skip pa31 (Lex.want_some rfl pa26 rfl (b' := true) rfl rfl) ?_
      simp only [Act.put, List.setIfInBounds_toArray, List.set_cons_zero, List.set_cons_succ]
      refine Lex.step_skip pa32 (Lex.want_some rfl pa26 rfl (b' := true) rfl rfl) ?_
      simp only [Act.put, List.setIfInBounds_toArray, List.set_cons_zero, List.set_cons_succ]
      refine Lex.step_skip pa33 (Lex.want_some rfl pa26 rfl (b' := true) rfl rfl) ?_
      simp only [Act.put, List.setIfInBounds_toArray, List.set_cons_zero, List.set_cons_succ]
      refine Lex.step_skip pa34 (Lex.want_some rfl pa26 rfl (b' := true) rfl rfl) ?_
      simp only [Act.put, List.setIfInBounds_toArray, List.set_cons_zero, List.set_cons_succ]
      refine Lex.step_skip pa35 (Lex.want_some rfl pa26 rfl (b' := true) rfl rfl) ?_
      simp only [Act.put, List.setIfInBounds_toArray, List.set_cons_zero, List.set_cons_succ]
      refine Lex.step_take (.bool true) pa36 rfl (Lex.want_some rfl pa21 rfl (b' := true) rfl rfl) (by intro Wx hSw; (try dsimp only at hSw); go_simp; (try (first | (with_reducible rfl) | assumption | rfl))) ?_
      simp only [Act.put, List.setIfInBounds_toArray, List.set_cons_zero, List.set_cons_succ]
      refine Lex.step_take (.bool true) pa37 rfl (Lex.want_none rfl) (by intro Wx hSw; (try dsimp only at hSw); go_simp; (try (first | (with_reducible rfl) | assumption | rfl))) ?_
      simp only [Act.put, List.setIfInBounds_toArray, List.set_cons_zero, List.set_cons_succ]
      refine Lex.step_take (.bool true) pa38 rfl (Lex.want_none rfl) (by intro Wx hSw; (try dsimp only at hSw); go_simp; (try (first | (with_reducible rfl) | assumption | rfl))) ?_
      simp only [Act.put, List.setIfInBounds_toArray, List.set_cons_zero, List.set_cons_succ]
      refine NoPanic.normal ?_
      go_wp2
      go_ret
      exact ⟨rfl, hB⟩
end Go.Proofs.Ytifcepjflkgbmaa.Sp
