/- OrderKeeps: whatever two values, walked. -/
import Derived.Test.YtijadbkdgekcdaaOrE
import Derived.Test.YtijadbkdgekcdaaXoa
import Derived.Test.YtijadbkdgekcdaaPacW
namespace Go.Proofs.Ytijadbkdgekcdaa.Or
open Go.RowKit Pac Va Lex

theorem key_rel {a b : V} (oa : a.Ok) (ob : b.Ok) (ha : rightV a = true) (hb : rightV b = true) :
    (cmpV a b = -1 ∧ Op.bytesLess (keyB a).toList (keyB b).toList = true ∧ (keyB a).toList ≠ (keyB b).toList) ∨ (cmpV a b = 0 ∧ keyB a = keyB b) ∨ (cmpV a b = 1 ∧ Op.bytesLess (keyB a).toList (keyB b).toList = false ∧ (keyB a).toList ≠ (keyB b).toList) := by
  have h1 := key_less oa ob ha hb
  have h2 := key_eq oa ob ha hb
  have h3 : keyB a = keyB b ↔ keyL a = keyL b := by
    constructor
    · intro h
      rw [← keyB_list, ← keyB_list, h]
    · intro h
      unfold keyB
      rw [h]
  rw [keyB_list, keyB_list, h3]
  rcases cmp_three a b with ⟨e, g1, g2, g3⟩ | ⟨e, g1, g2, g3⟩ | ⟨e, g1, g2, g3⟩
  · exact Or.inl ⟨e, h1.2 g1, fun h => g2 (h2.1 h)⟩
  · exact Or.inr (Or.inl ⟨e, h2.2 g1⟩)
  · refine Or.inr (Or.inr ⟨e, ?_, fun h => g2 (h2.1 h)⟩)
    cases h : Op.bytesLess (keyL a) (keyL b) with
    | false => rfl
    | true => exact absurd (h1.1 h) g3
theorem key_small {a : V} (ha : rightV a = true) : (keyB a).size ≤ 61 := by
  have := right_size ha
  rw [keyB_size]
  split
  · omega
  · split <;> omega

set_option maxRecDepth 20000 in
set_option maxHeartbeats 3200000 in
theorem keeps_any (a b : V) (w : World) (oa : a.Ok) (ob : b.Ok) :
    Calls Try.prog 4 #[a.v, b.v] w fun e w' => e = .returned (.bool true) ∧ Below w.heap.size w w' := by
  have hr1 := fun W : World => refRight_any a W
  have hr2 := fun W : World => refRight_any b W
  have hc := fun W : World => refCmp_any a b W
  have hk1 := fun (h : rightV a = true) (W : World) => key_any a W oa (by have := right_size h; omega)
  have hk2 := fun (h : rightV b = true) (W : World) => key_any b W ob (by have := right_size h; omega)
  have hK := fun (h : rightV a = true) (h' : rightV b = true) => key_rel oa ob h h'
  have hz := fun (h : rightV a = true) => key_small h
  clear oa ob
  generalize keyB a = x at hk1 hK hz
  generalize keyB b = y at hk2 hK
  generalize cmpV a b = z at hc hK
  generalize rightV a = r1 at hr1 hk1 hK hz
  generalize rightV b = r2 at hr2 hk2 hK
  obtain ⟨k, n, s⟩ := a
  obtain ⟨k2, n2, s2⟩ := b
  have hk1 : r1 = true → ∀ W : World, Calls Try.prog 7 #[.agg #[.int .i64 k, .int .i64 n, .string s]] W fun e w' => e = .returned (.string x) ∧ Below W.heap.size W w' := hk1
  have hk2 : r2 = true → ∀ W : World, Calls Try.prog 7 #[.agg #[.int .i64 k2, .int .i64 n2, .string s2]] W fun e w' => e = .returned (.string y) ∧ Below W.heap.size W w' := hk2
  have hr1 : ∀ W : World, Calls Try.prog 11 #[.agg #[.int .i64 k, .int .i64 n, .string s]] W fun e w' => e = .returned (.bool r1) ∧ Below W.heap.size W w' := hr1
  have hr2 : ∀ W : World, Calls Try.prog 11 #[.agg #[.int .i64 k2, .int .i64 n2, .string s2]] W fun e w' => e = .returned (.bool r2) ∧ Below W.heap.size W w' := hr2
  have hc : ∀ W : World, Calls Try.prog 12 #[.agg #[.int .i64 k, .int .i64 n, .string s], .agg #[.int .i64 k2, .int .i64 n2, .string s2]] W fun e w' => e = .returned (.int .i64 z) ∧ Below W.heap.size W w' := hc
  have HK := Lib.hid hK
  have HZ := Lib.hid hz
  clear hK hz
  have ha := (Box3.new w (.int .i64 k) (.int .i64 n) (.string s) 23).alloc (.cells #[.int .i64 k2, .int .i64 n2, .string s2] 23)
  have hb := Box3.new (w.alloc (.cells #[.int .i64 k, .int .i64 n, .string s] 23)) (.int .i64 k2) (.int .i64 n2) (.string s2) 23
  rw [show (w.alloc (.cells #[.int .i64 k, .int .i64 n, .string s] 23)).heap.size = w.heap.size + 1 by simp] at hb
  have hB := ((Below.refl w.heap.size w).alloc (Nat.le_refl _) (.cells #[.int .i64 k, .int .i64 n, .string s] 23)).alloc (by simp) (.cells #[.int .i64 k2, .int .i64 n2, .string s2] 23)
  show Calls Try.prog 4 #[.agg #[.int .i64 k, .int .i64 n, .string s], .agg #[.int .i64 k2, .int .i64 n2, .string s2]] w _
  go_enter Try.func4, Try.ntmps4
  go_wp2_with fail
  generalize ((w.alloc (.cells #[.int .i64 k, .int .i64 n, .string s] 23)).alloc (.cells #[.int .i64 k2, .int .i64 n2, .string s2] 23)) = w2 at ha hb hB ⊢
  generalize hb2 : w.heap.size + 1 = bb at hb ⊢
  clear hb2
  generalize hb1 : w.heap.size = ba at ha ⊢
  clear hb1
  refine (hr1 _).mono ?_
  rintro e w3 ⟨rfl, hw3⟩
  have ha := ha.below hw3 ha.lt
  have hb := hb.below hw3 hb.lt
  have hB := hB.trans (hw3.mono hB.size)
  clear hw3
  have b0 := hb.c0
  have b1 := hb.c1
  have b2 := hb.c2
  cases r1
  · go_wp2_with fail
    refine (awake_any _).mono ?_
    rintro e w9 ⟨rfl, hw9⟩
    have hB9 := hB.trans (hw9.mono hB.size)
    clear ha hb
    go_wp2
    go_ret
    exact ⟨rfl, hB9⟩
  · have hj1 := hk1 rfl
    clear hk1
    go_wp2_with fail
    clear b0 b1 b2
    refine (hr2 _).mono ?_
    rintro e w4 ⟨rfl, hw4⟩
    have ha := ha.below hw4 ha.lt
    have hb := hb.below hw4 hb.lt
    have hB := hB.trans (hw4.mono hB.size)
    clear hw4
    cases r2
    · go_wp2_with fail
      refine (awake_any _).mono ?_
      rintro e w9 ⟨rfl, hw9⟩
      have hB9 := hB.trans (hw9.mono hB.size)
      clear ha hb
      go_wp2
      go_ret
      exact ⟨rfl, hB9⟩
    · have hj2 := hk2 rfl
      clear hk2
      go_wp2_with fail
      have ha := ha.below ((Below.refl (ba + 1) w4).drew) (by omega)
      have hb := hb.below ((Below.refl (bb + 1) w4).drew) (by omega)
      have hB := hB.drew
      refine Lex.region_lex (ops := xbops) (calls := xbcalls) xbord (fun W => (W.cell? ⟨ba, 0, none⟩ = some (.int .i64 k) ∧ W.cell? ⟨ba, 1, none⟩ = some (.int .i64 n) ∧ W.cell? ⟨ba, 2, none⟩ = some (.string s)) ∧ (W.cell? ⟨bb, 0, none⟩ = some (.int .i64 k2) ∧ W.cell? ⟨bb, 1, none⟩ = some (.int .i64 n2) ∧ W.cell? ⟨bb, 2, none⟩ = some (.string s2))) (by kernel_rfl) (by kernel_rfl) xbsel (by kernel_rfl) (by kernel_rfl) xblex (And.intro (And.intro ha.c0 (And.intro ha.c1 ha.c2)) (And.intro hb.c0 (And.intro hb.c1 hb.c2))) ?_
      unfold xbord
      refine Lex.step_take (.agg #[.int .i64 k, .int .i64 n, .string s]) xb0 rfl (Lex.want_none rfl) (by intro Wx hSw; (try dsimp only at hSw); go_simp; (try (first | (with_reducible rfl) | assumption | rfl))) ?_
      simp only [Act.put, List.setIfInBounds_toArray, List.set_cons_zero, List.set_cons_succ]
      refine Lex.step_take (.agg #[.int .i64 k2, .int .i64 n2, .string s2]) xb2 rfl (Lex.want_none rfl) (by intro Wx hSw; (try dsimp only at hSw); go_simp; (try (first | (with_reducible rfl) | assumption | rfl))) ?_
      simp only [Act.put, List.setIfInBounds_toArray, List.set_cons_zero, List.set_cons_succ]
      refine Lex.step_call xb1 rfl (Lex.want_none rfl) (fun K hK => ?_)
      go_simp
      refine (hj1 _).mono ?_
      rintro e y1 ⟨rfl, hy1⟩
      have ha := ha.below hy1 ha.lt
      have hb := hb.below hy1 hb.lt
      have hB := hB.trans (hy1.mono hB.size)
      clear hy1
      refine hK.out _ _ _ (fun _ h => h) (And.intro (And.intro ha.c0 (And.intro ha.c1 ha.c2)) (And.intro hb.c0 (And.intro hb.c1 hb.c2))) ?_
      clear hK K
      try simp only [Act.put, List.setIfInBounds_toArray, List.set_cons_zero, List.set_cons_succ]
      refine Lex.step_call xb3 rfl (Lex.want_none rfl) (fun K hK => ?_)
      go_simp
      refine (hj2 _).mono ?_
      rintro e y2 ⟨rfl, hy2⟩
      have ha := ha.below hy2 ha.lt
      have hb := hb.below hy2 hb.lt
      have hB := hB.trans (hy2.mono hB.size)
      clear hy2
      refine hK.out _ _ _ (fun _ h => h) (And.intro (And.intro ha.c0 (And.intro ha.c1 ha.c2)) (And.intro hb.c0 (And.intro hb.c1 hb.c2))) ?_
      clear hK K
      try simp only [Act.put, List.setIfInBounds_toArray, List.set_cons_zero, List.set_cons_succ]
      refine Lex.step_take (.string x) xb4 rfl (Lex.want_none rfl) (by intro Wx hSw; (try dsimp only at hSw); go_simp; (try (first | (with_reducible rfl) | assumption | rfl))) ?_
      simp only [Act.put, List.setIfInBounds_toArray, List.set_cons_zero, List.set_cons_succ]
      refine Lex.step_take (.string y) xb5 rfl (Lex.want_none rfl) (by intro Wx hSw; (try dsimp only at hSw); go_simp; (try (first | (with_reducible rfl) | assumption | rfl))) ?_
      simp only [Act.put, List.setIfInBounds_toArray, List.set_cons_zero, List.set_cons_succ]
      refine NoPanic.normal ?_
      have a0 := ha.c0
      have a1 := ha.c1
      have a2 := ha.c2
      have b0 := hb.c0
      have b1 := hb.c1
      have b2 := hb.c2
      go_wp2_with fail
      clear a0 a1 a2 b0 b1 b2
      refine (hc _).mono ?_
      rintro e w5 ⟨rfl, hw5⟩
      have hB := hB.trans (hw5.mono hB.size)
      clear hw5 ha hb
      go_wp2_with fail
      refine (awake_any _).mono ?_
      rintro e w6 ⟨rfl, hw6⟩
      have hB := hB.trans (hw6.mono hB.size)
      clear hw6
      have hz : (x.size : Int) ≤ 61 := by have := HZ.out (by simp); omega
      rcases HK.out (by simp) (by simp) with ⟨rfl, h1, h2⟩ | ⟨rfl, rfl⟩ | ⟨rfl, h1, h2⟩
      · have h3 : (x.toList == y.toList) = false := by simpa using h2
        clear h2
        go_wp2
        go_ret
        exact ⟨rfl, hB⟩
      · have h1 := less_irrefl x.toList
        go_wp2
        go_ret
        exact ⟨rfl, hB⟩
      · have h3 : (x.toList == y.toList) = false := by simpa using h2
        clear h2
        go_wp2
        go_ret
        exact ⟨rfl, hB⟩
end Go.Proofs.Ytijadbkdgekcdaa.Or
