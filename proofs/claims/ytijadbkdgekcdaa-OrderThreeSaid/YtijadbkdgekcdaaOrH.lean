/- OrderThree: whatever three values, walked. -/
import Derived.Test.YtijadbkdgekcdaaOrG
import Derived.Test.YtijadbkdgekcdaaXoa
import Derived.Test.YtijadbkdgekcdaaPacW
namespace Go.Proofs.Ytijadbkdgekcdaa.Or
open Go.RowKit Pac Va Lex

theorem key_long {a : V} (ha : rightV a = true) : ((keyB a).size : Int) = if a.k = 1 ∨ a.k = 2 then 9 else 1 + a.s.size := by
  have hs := right_parts (k := a.k) (n := a.n) (s := a.s) ha
  rw [keyB_size]
  by_cases h : a.k = 1 ∨ a.k = 2
  · rw [if_pos h, if_pos h]
  · rw [if_neg h, if_neg h]
    by_cases h3 : a.k = 3
    · rw [if_pos h3]
      omega
    · rw [if_neg h3]
      rcases hs with ⟨_, _, e⟩ | ⟨e, _⟩ | ⟨e, _⟩ | ⟨e, _⟩
      · rw [e]
        rfl
      · exact absurd (Or.inl e) h
      · exact absurd (Or.inr e) h
      · exact absurd e h3

set_option maxRecDepth 20000 in
set_option maxHeartbeats 6400000 in
theorem three_any (a b c : V) (w : World) (oa : a.Ok) (ob : b.Ok) (oc : c.Ok) :
    Calls Try.prog 5 #[a.v, b.v, c.v] w fun e w' => e = .returned (.bool true) ∧ Below w.heap.size w w' := by
  have hr1 := fun W : World => refRight_any a W
  have hr2 := fun W : World => refRight_any b W
  have hr3 := fun W : World => refRight_any c W
  have hc1 := fun W : World => refCmp_any a b W
  have hc2 := fun W : World => refCmp_any b c W
  have hk1 := fun (h : rightV a = true) (W : World) => key_any a W oa (by have := right_size h; omega)
  have hk2 := fun (h : rightV b = true) (W : World) => key_any b W ob (by have := right_size h; omega)
  have hk3 := fun (h : rightV c = true) (W : World) => key_any c W oc (by have := right_size h; omega)
  have hK1 := fun (h : rightV a = true) (h' : rightV b = true) => key_rel oa ob h h'
  have hK2 := fun (h : rightV b = true) (h' : rightV c = true) => key_rel ob oc h h'
  have hz := fun (h : rightV a = true) => key_long h
  have hs := fun (h : rightV a = true) => right_size h
  have hs1 := fun (h : rightV a = true) (W : World) => spread_any (keyB a) W (by have := key_small h; omega)
  have hs2 := fun (h : rightV b = true) (W : World) => spread_any (keyB b) W (by have := key_small h; omega)
  clear oa ob oc
  generalize keyB a = x at hk1 hK1 hz hs1
  generalize keyB b = y at hk2 hK1 hK2 hs2
  generalize keyB c = z at hk3 hK2
  generalize cmpV a b = p at hc1 hK1
  generalize cmpV b c = q at hc2 hK2
  generalize rightV a = r1 at hr1 hk1 hK1 hz hs hs1
  generalize rightV b = r2 at hr2 hk2 hK1 hK2 hs2
  generalize rightV c = r3 at hr3 hk3 hK2
  obtain ⟨k, n, s⟩ := a
  obtain ⟨k2, n2, s2⟩ := b
  obtain ⟨k3, n3, s3⟩ := c
  simp only at hz hs
  have hk1 : r1 = true → ∀ W : World, Calls Try.prog 7 #[(.agg #[.int .i64 k, .int .i64 n, .string s])] W fun e w' => e = .returned (.string x) ∧ Below W.heap.size W w' := hk1
  have hr1 : ∀ W : World, Calls Try.prog 11 #[(.agg #[.int .i64 k, .int .i64 n, .string s])] W fun e w' => e = .returned (.bool r1) ∧ Below W.heap.size W w' := hr1
  have hk2 : r2 = true → ∀ W : World, Calls Try.prog 7 #[(.agg #[.int .i64 k2, .int .i64 n2, .string s2])] W fun e w' => e = .returned (.string y) ∧ Below W.heap.size W w' := hk2
  have hr2 : ∀ W : World, Calls Try.prog 11 #[(.agg #[.int .i64 k2, .int .i64 n2, .string s2])] W fun e w' => e = .returned (.bool r2) ∧ Below W.heap.size W w' := hr2
  have hk3 : r3 = true → ∀ W : World, Calls Try.prog 7 #[(.agg #[.int .i64 k3, .int .i64 n3, .string s3])] W fun e w' => e = .returned (.string z) ∧ Below W.heap.size W w' := hk3
  have hr3 : ∀ W : World, Calls Try.prog 11 #[(.agg #[.int .i64 k3, .int .i64 n3, .string s3])] W fun e w' => e = .returned (.bool r3) ∧ Below W.heap.size W w' := hr3

  have hc1 : ∀ W : World, Calls Try.prog 12 #[(.agg #[.int .i64 k, .int .i64 n, .string s]), (.agg #[.int .i64 k2, .int .i64 n2, .string s2])] W fun e w' => e = .returned (.int .i64 p) ∧ Below W.heap.size W w' := hc1
  have hc2 : ∀ W : World, Calls Try.prog 12 #[(.agg #[.int .i64 k2, .int .i64 n2, .string s2]), (.agg #[.int .i64 k3, .int .i64 n3, .string s3])] W fun e w' => e = .returned (.int .i64 q) ∧ Below W.heap.size W w' := hc2
  have HK1 := Lib.hid hK1
  have HK2 := Lib.hid hK2
  have HZ := Lib.hid hz
  have HS := Lib.hid hs
  clear hK1 hK2 hz hs
  have ha := ((Box3.new w (.int .i64 k) (.int .i64 n) (.string s) 23).alloc (.cells #[.int .i64 k2, .int .i64 n2, .string s2] 23)).alloc (.cells #[.int .i64 k3, .int .i64 n3, .string s3] 23)
  have hb := (Box3.new (w.alloc (.cells #[.int .i64 k, .int .i64 n, .string s] 23)) (.int .i64 k2) (.int .i64 n2) (.string s2) 23).alloc (.cells #[.int .i64 k3, .int .i64 n3, .string s3] 23)
  rw [show (w.alloc (.cells #[.int .i64 k, .int .i64 n, .string s] 23)).heap.size = w.heap.size + 1 by simp] at hb
  have hd := Box3.new ((w.alloc (.cells #[.int .i64 k, .int .i64 n, .string s] 23)).alloc (.cells #[.int .i64 k2, .int .i64 n2, .string s2] 23)) (.int .i64 k3) (.int .i64 n3) (.string s3) 23
  rw [show ((w.alloc (.cells #[.int .i64 k, .int .i64 n, .string s] 23)).alloc (.cells #[.int .i64 k2, .int .i64 n2, .string s2] 23)).heap.size = w.heap.size + 2 by simp] at hd
  have hB := (((Below.refl w.heap.size w).alloc (Nat.le_refl _) (.cells #[.int .i64 k, .int .i64 n, .string s] 23)).alloc (by simp) (.cells #[.int .i64 k2, .int .i64 n2, .string s2] 23)).alloc (by simp; omega) (.cells #[.int .i64 k3, .int .i64 n3, .string s3] 23)
  show Calls Try.prog 5 #[(.agg #[.int .i64 k, .int .i64 n, .string s]), (.agg #[.int .i64 k2, .int .i64 n2, .string s2]), (.agg #[.int .i64 k3, .int .i64 n3, .string s3])] w _
  go_enter Try.func5, Try.ntmps5
  go_wp2_with fail
  generalize (((w.alloc (.cells #[.int .i64 k, .int .i64 n, .string s] 23)).alloc (.cells #[.int .i64 k2, .int .i64 n2, .string s2] 23)).alloc (.cells #[.int .i64 k3, .int .i64 n3, .string s3] 23)) = w2 at ha hb hd hB ⊢
  generalize hb3 : w.heap.size + 2 = bd at hd ⊢
  clear hb3
  generalize hb2 : w.heap.size + 1 = bb at hb ⊢
  clear hb2
  generalize hb1 : w.heap.size = ba at ha ⊢
  clear hb1
  refine (hr1 _).mono ?_
  rintro e w3 ⟨rfl, hw3⟩
  have ha := ha.below hw3 ha.lt
  have hb := hb.below hw3 hb.lt
  have hd := hd.below hw3 hd.lt
  have hB := hB.trans (hw3.mono hB.size)
  clear hw3
  have b0 := hb.c0
  have b1 := hb.c1
  have b2 := hb.c2
  cases r1
  · clear hs1
    go_wp2_with fail
    refine (awake_any _).mono ?_
    rintro e w9 ⟨rfl, hw9⟩
    have hB9 := hB.trans (hw9.mono hB.size)
    clear ha hb hd
    go_wp2
    go_ret
    exact ⟨rfl, hB9⟩
  · have hj1 := hk1 rfl
    have hs1' := hs1 rfl
    clear hk1 hs1
    have hs1 := hs1'
    clear hs1'
    go_wp2_with fail
    clear b0 b1 b2
    refine (hr2 _).mono ?_
    rintro e w4 ⟨rfl, hw4⟩
    have ha := ha.below hw4 ha.lt
    have hb := hb.below hw4 hb.lt
    have hd := hd.below hw4 hd.lt
    have hB := hB.trans (hw4.mono hB.size)
    clear hw4
    have d0 := hd.c0
    have d1 := hd.c1
    have d2 := hd.c2
    cases r2
    · clear hs2
      go_wp2_with fail
      refine (awake_any _).mono ?_
      rintro e w9 ⟨rfl, hw9⟩
      have hB9 := hB.trans (hw9.mono hB.size)
      clear ha hb hd
      go_wp2
      go_ret
      exact ⟨rfl, hB9⟩
    · have hj2 := hk2 rfl
      have hs2' := hs2 rfl
      clear hk2 hs2
      have hs2 := hs2'
      clear hs2'
      go_wp2_with fail
      clear d0 d1 d2
      refine (hr3 _).mono ?_
      rintro e w5 ⟨rfl, hw5⟩
      have ha := ha.below hw5 ha.lt
      have hb := hb.below hw5 hb.lt
      have hd := hd.below hw5 hd.lt
      have hB := hB.trans (hw5.mono hB.size)
      clear hw5
      cases r3
      · go_wp2_with fail
        refine (awake_any _).mono ?_
        rintro e w9 ⟨rfl, hw9⟩
        have hB9 := hB.trans (hw9.mono hB.size)
        clear ha hb hd
        go_wp2
        go_ret
        exact ⟨rfl, hB9⟩
      · have hj3 := hk3 rfl
        clear hk3
        go_wp2_with fail
        have ha := ha.below ((Below.refl (ba + 1) w5).drew) (by omega)
        have hb := hb.below ((Below.refl (bb + 1) w5).drew) (by omega)
        have hd := hd.below ((Below.refl (bd + 1) w5).drew) (by omega)
        have hB := hB.drew
        refine Lex.region_lex (ops := xcops) (calls := xccalls) xcord (fun W => (W.cell? ⟨ba, 0, none⟩ = some (.int .i64 k) ∧ W.cell? ⟨ba, 1, none⟩ = some (.int .i64 n) ∧ W.cell? ⟨ba, 2, none⟩ = some (.string s)) ∧ (W.cell? ⟨bb, 0, none⟩ = some (.int .i64 k2) ∧ W.cell? ⟨bb, 1, none⟩ = some (.int .i64 n2) ∧ W.cell? ⟨bb, 2, none⟩ = some (.string s2)) ∧ (W.cell? ⟨bd, 0, none⟩ = some (.int .i64 k3) ∧ W.cell? ⟨bd, 1, none⟩ = some (.int .i64 n3) ∧ W.cell? ⟨bd, 2, none⟩ = some (.string s3))) (by kernel_rfl) (by kernel_rfl) xcsel (by kernel_rfl) (by kernel_rfl) xclex (And.intro (And.intro ha.c0 (And.intro ha.c1 ha.c2)) (And.intro (And.intro hb.c0 (And.intro hb.c1 hb.c2)) (And.intro hd.c0 (And.intro hd.c1 hd.c2)))) ?_
        unfold xcord
        refine Lex.step_take (.agg #[.int .i64 k, .int .i64 n, .string s]) xc0 rfl (Lex.want_none rfl) (by intro Wx hSw; (try dsimp only at hSw); go_simp; (try (first | (with_reducible rfl) | assumption | rfl))) ?_
        simp only [Act.put, List.setIfInBounds_toArray, List.set_cons_zero, List.set_cons_succ]
        refine Lex.step_take (.agg #[.int .i64 k2, .int .i64 n2, .string s2]) xc2 rfl (Lex.want_none rfl) (by intro Wx hSw; (try dsimp only at hSw); go_simp; (try (first | (with_reducible rfl) | assumption | rfl))) ?_
        simp only [Act.put, List.setIfInBounds_toArray, List.set_cons_zero, List.set_cons_succ]
        refine Lex.step_take (.agg #[.int .i64 k3, .int .i64 n3, .string s3]) xc4 rfl (Lex.want_none rfl) (by intro Wx hSw; (try dsimp only at hSw); go_simp; (try (first | (with_reducible rfl) | assumption | rfl))) ?_
        simp only [Act.put, List.setIfInBounds_toArray, List.set_cons_zero, List.set_cons_succ]
        refine Lex.step_call xc1 rfl (Lex.want_none rfl) (fun K hK => ?_)
        go_simp
        refine (hj1 _).mono ?_
        rintro e y1 ⟨rfl, hy1⟩
        have ha := ha.below hy1 ha.lt
        have hb := hb.below hy1 hb.lt
        have hd := hd.below hy1 hd.lt
        have hB := hB.trans (hy1.mono hB.size)
        clear hy1
        refine hK.out _ _ _ (fun _ h => h) (And.intro (And.intro ha.c0 (And.intro ha.c1 ha.c2)) (And.intro (And.intro hb.c0 (And.intro hb.c1 hb.c2)) (And.intro hd.c0 (And.intro hd.c1 hd.c2)))) ?_
        clear hK K
        try simp only [Act.put, List.setIfInBounds_toArray, List.set_cons_zero, List.set_cons_succ]
        refine Lex.step_call xc3 rfl (Lex.want_none rfl) (fun K hK => ?_)
        go_simp
        refine (hj2 _).mono ?_
        rintro e y2 ⟨rfl, hy2⟩
        have ha := ha.below hy2 ha.lt
        have hb := hb.below hy2 hb.lt
        have hd := hd.below hy2 hd.lt
        have hB := hB.trans (hy2.mono hB.size)
        clear hy2
        refine hK.out _ _ _ (fun _ h => h) (And.intro (And.intro ha.c0 (And.intro ha.c1 ha.c2)) (And.intro (And.intro hb.c0 (And.intro hb.c1 hb.c2)) (And.intro hd.c0 (And.intro hd.c1 hd.c2)))) ?_
        clear hK K
        try simp only [Act.put, List.setIfInBounds_toArray, List.set_cons_zero, List.set_cons_succ]
        refine Lex.step_call xc5 rfl (Lex.want_none rfl) (fun K hK => ?_)
        go_simp
        refine (hj3 _).mono ?_
        rintro e y3 ⟨rfl, hy3⟩
        have ha := ha.below hy3 ha.lt
        have hb := hb.below hy3 hb.lt
        have hd := hd.below hy3 hd.lt
        have hB := hB.trans (hy3.mono hB.size)
        clear hy3
        refine hK.out _ _ _ (fun _ h => h) (And.intro (And.intro ha.c0 (And.intro ha.c1 ha.c2)) (And.intro (And.intro hb.c0 (And.intro hb.c1 hb.c2)) (And.intro hd.c0 (And.intro hd.c1 hd.c2)))) ?_
        clear hK K
        try simp only [Act.put, List.setIfInBounds_toArray, List.set_cons_zero, List.set_cons_succ]
        refine Lex.step_take (.string x) xc6 rfl (Lex.want_none rfl) (by intro Wx hSw; (try dsimp only at hSw); go_simp; (try (first | (with_reducible rfl) | assumption | rfl))) ?_
        simp only [Act.put, List.setIfInBounds_toArray, List.set_cons_zero, List.set_cons_succ]
        refine Lex.step_take (.string y) xc7 rfl (Lex.want_none rfl) (by intro Wx hSw; (try dsimp only at hSw); go_simp; (try (first | (with_reducible rfl) | assumption | rfl))) ?_
        simp only [Act.put, List.setIfInBounds_toArray, List.set_cons_zero, List.set_cons_succ]
        refine Lex.step_take (.string z) xc8 rfl (Lex.want_none rfl) (by intro Wx hSw; (try dsimp only at hSw); go_simp; (try (first | (with_reducible rfl) | assumption | rfl))) ?_
        simp only [Act.put, List.setIfInBounds_toArray, List.set_cons_zero, List.set_cons_succ]
        refine NoPanic.normal ?_
        have hz0 := HZ.out (by simp)
        have hs := HS.out (by simp)
        have a0 := ha.c0
        have a1 := ha.c1
        have a2 := ha.c2
        have b0 := hb.c0
        have b1 := hb.c1
        have b2 := hb.c2
        have d0 := hd.c0
        have d1 := hd.c1
        have d2 := hd.c2
        by_cases q1 : k = 1
        · subst q1
          have hz : (x.size : Int) = 9 := by rw [hz0, if_pos (Or.inl rfl)]; rfl
          clear hz0
          go_wp2_with fail
          clear a0 a1 a2 b0 b1 b2 d0 d1 d2
          refine (hc1 _).mono ?_
          rintro e w6 ⟨rfl, hw6⟩
          have hb := hb.below hw6 hb.lt
          have hd := hd.below hw6 hd.lt
          have hB := hB.trans (hw6.mono hB.size)
          clear hw6 ha
          rcases HK1.out (by simp) (by simp) with ⟨rfl, h1, h2⟩ | ⟨rfl, rfl⟩ | ⟨rfl, h1, h2⟩
          · have h3 : (x.toList == y.toList) = false := by simpa using h2
            clear h2
            have b0 := hb.c0
            have b1 := hb.c1
            have b2 := hb.c2
            have d0 := hd.c0
            have d1 := hd.c1
            have d2 := hd.c2
            go_wp2_with fail
            clear b0 b1 b2 d0 d1 d2
            refine (hc2 _).mono ?_
            rintro e w7 ⟨rfl, hw7⟩
            have hB := hB.trans (hw7.mono hB.size)
            clear hw7 hb hd
            rcases HK2.out (by simp) (by simp) with ⟨rfl, g1, g2⟩ | ⟨rfl, rfl⟩ | ⟨rfl, g1, g2⟩
            · clear g2
              go_wp2_with fail
              refine (awake_any _).mono ?_
              rintro e w8 ⟨rfl, hw8⟩
              have hB := hB.trans (hw8.mono hB.size)
              clear hw8
              go_wp2_with fail
              refine (hs1 _).mono ?_
              rintro e w10 ⟨rfl, hw10⟩
              have hB := hB.trans (hw10.mono hB.size)
              clear hw10
              go_wp2_with fail
              refine (hs2 _).mono ?_
              rintro e w11 ⟨rfl, hw11⟩
              have hB := hB.trans (hw11.mono hB.size)
              clear hw11
              go_wp2
              all_goals
                go_ret
                exact ⟨rfl, hB⟩
            · have g1 := less_irrefl y.toList
              go_wp2_with fail
              refine (awake_any _).mono ?_
              rintro e w8 ⟨rfl, hw8⟩
              have hB := hB.trans (hw8.mono hB.size)
              clear hw8
              go_wp2_with fail
              refine (hs1 _).mono ?_
              rintro e w10 ⟨rfl, hw10⟩
              have hB := hB.trans (hw10.mono hB.size)
              clear hw10
              go_wp2_with fail
              refine (hs2 _).mono ?_
              rintro e w11 ⟨rfl, hw11⟩
              have hB := hB.trans (hw11.mono hB.size)
              clear hw11
              go_wp2
              all_goals
                go_ret
                exact ⟨rfl, hB⟩
            · clear g2
              go_wp2_with fail
              refine (awake_any _).mono ?_
              rintro e w8 ⟨rfl, hw8⟩
              have hB := hB.trans (hw8.mono hB.size)
              clear hw8
              go_wp2_with fail
              refine (hs1 _).mono ?_
              rintro e w10 ⟨rfl, hw10⟩
              have hB := hB.trans (hw10.mono hB.size)
              clear hw10
              go_wp2_with fail
              refine (hs2 _).mono ?_
              rintro e w11 ⟨rfl, hw11⟩
              have hB := hB.trans (hw11.mono hB.size)
              clear hw11
              go_wp2
              all_goals
                go_ret
                exact ⟨rfl, hB⟩
          · have h1 := less_irrefl x.toList
            go_wp2_with fail
            refine (awake_any _).mono ?_
            rintro e w8 ⟨rfl, hw8⟩
            have hB := hB.trans (hw8.mono hB.size)
            clear hw8
            go_wp2_with fail
            refine (hs1 _).mono ?_
            rintro e w10 ⟨rfl, hw10⟩
            have hB := hB.trans (hw10.mono hB.size)
            clear hw10
            go_wp2_with fail
            refine (hs1 _).mono ?_
            rintro e w11 ⟨rfl, hw11⟩
            have hB := hB.trans (hw11.mono hB.size)
            clear hw11
            go_wp2
            all_goals
              go_ret
              exact ⟨rfl, hB⟩
          · have h3 : (x.toList == y.toList) = false := by simpa using h2
            clear h2
            go_wp2_with fail
            refine (awake_any _).mono ?_
            rintro e w8 ⟨rfl, hw8⟩
            have hB := hB.trans (hw8.mono hB.size)
            clear hw8
            go_wp2_with fail
            refine (hs1 _).mono ?_
            rintro e w10 ⟨rfl, hw10⟩
            have hB := hB.trans (hw10.mono hB.size)
            clear hw10
            go_wp2_with fail
            refine (hs2 _).mono ?_
            rintro e w11 ⟨rfl, hw11⟩
            have hB := hB.trans (hw11.mono hB.size)
            clear hw11
            go_wp2
            all_goals
              go_ret
              exact ⟨rfl, hB⟩
        · by_cases q2 : k = 2
          · subst q2
            have hz : (x.size : Int) = 9 := by rw [hz0, if_pos (Or.inr rfl)]; rfl
            clear hz0
            go_wp2_with fail
            clear a0 a1 a2 b0 b1 b2 d0 d1 d2
            refine (hc1 _).mono ?_
            rintro e w6 ⟨rfl, hw6⟩
            have hb := hb.below hw6 hb.lt
            have hd := hd.below hw6 hd.lt
            have hB := hB.trans (hw6.mono hB.size)
            clear hw6 ha
            rcases HK1.out (by simp) (by simp) with ⟨rfl, h1, h2⟩ | ⟨rfl, rfl⟩ | ⟨rfl, h1, h2⟩
            · have h3 : (x.toList == y.toList) = false := by simpa using h2
              clear h2
              have b0 := hb.c0
              have b1 := hb.c1
              have b2 := hb.c2
              have d0 := hd.c0
              have d1 := hd.c1
              have d2 := hd.c2
              go_wp2_with fail
              clear b0 b1 b2 d0 d1 d2
              refine (hc2 _).mono ?_
              rintro e w7 ⟨rfl, hw7⟩
              have hB := hB.trans (hw7.mono hB.size)
              clear hw7 hb hd
              rcases HK2.out (by simp) (by simp) with ⟨rfl, g1, g2⟩ | ⟨rfl, rfl⟩ | ⟨rfl, g1, g2⟩
              · clear g2
                go_wp2_with fail
                refine (awake_any _).mono ?_
                rintro e w8 ⟨rfl, hw8⟩
                have hB := hB.trans (hw8.mono hB.size)
                clear hw8
                go_wp2_with fail
                refine (hs1 _).mono ?_
                rintro e w10 ⟨rfl, hw10⟩
                have hB := hB.trans (hw10.mono hB.size)
                clear hw10
                go_wp2_with fail
                refine (hs2 _).mono ?_
                rintro e w11 ⟨rfl, hw11⟩
                have hB := hB.trans (hw11.mono hB.size)
                clear hw11
                go_wp2
                all_goals
                  go_ret
                  exact ⟨rfl, hB⟩
              · have g1 := less_irrefl y.toList
                go_wp2_with fail
                refine (awake_any _).mono ?_
                rintro e w8 ⟨rfl, hw8⟩
                have hB := hB.trans (hw8.mono hB.size)
                clear hw8
                go_wp2_with fail
                refine (hs1 _).mono ?_
                rintro e w10 ⟨rfl, hw10⟩
                have hB := hB.trans (hw10.mono hB.size)
                clear hw10
                go_wp2_with fail
                refine (hs2 _).mono ?_
                rintro e w11 ⟨rfl, hw11⟩
                have hB := hB.trans (hw11.mono hB.size)
                clear hw11
                go_wp2
                all_goals
                  go_ret
                  exact ⟨rfl, hB⟩
              · clear g2
                go_wp2_with fail
                refine (awake_any _).mono ?_
                rintro e w8 ⟨rfl, hw8⟩
                have hB := hB.trans (hw8.mono hB.size)
                clear hw8
                go_wp2_with fail
                refine (hs1 _).mono ?_
                rintro e w10 ⟨rfl, hw10⟩
                have hB := hB.trans (hw10.mono hB.size)
                clear hw10
                go_wp2_with fail
                refine (hs2 _).mono ?_
                rintro e w11 ⟨rfl, hw11⟩
                have hB := hB.trans (hw11.mono hB.size)
                clear hw11
                go_wp2
                all_goals
                  go_ret
                  exact ⟨rfl, hB⟩
            · have h1 := less_irrefl x.toList
              go_wp2_with fail
              refine (awake_any _).mono ?_
              rintro e w8 ⟨rfl, hw8⟩
              have hB := hB.trans (hw8.mono hB.size)
              clear hw8
              go_wp2_with fail
              refine (hs1 _).mono ?_
              rintro e w10 ⟨rfl, hw10⟩
              have hB := hB.trans (hw10.mono hB.size)
              clear hw10
              go_wp2_with fail
              refine (hs1 _).mono ?_
              rintro e w11 ⟨rfl, hw11⟩
              have hB := hB.trans (hw11.mono hB.size)
              clear hw11
              go_wp2
              all_goals
                go_ret
                exact ⟨rfl, hB⟩
            · have h3 : (x.toList == y.toList) = false := by simpa using h2
              clear h2
              go_wp2_with fail
              refine (awake_any _).mono ?_
              rintro e w8 ⟨rfl, hw8⟩
              have hB := hB.trans (hw8.mono hB.size)
              clear hw8
              go_wp2_with fail
              refine (hs1 _).mono ?_
              rintro e w10 ⟨rfl, hw10⟩
              have hB := hB.trans (hw10.mono hB.size)
              clear hw10
              go_wp2_with fail
              refine (hs2 _).mono ?_
              rintro e w11 ⟨rfl, hw11⟩
              have hB := hB.trans (hw11.mono hB.size)
              clear hw11
              go_wp2
              all_goals
                go_ret
                exact ⟨rfl, hB⟩
          · have hz : (x.size : Int) = 1 + s.size := by rw [hz0, if_neg (by omega)]; omega
            clear hz0
            have q3 : (k == 1) = false := beq_eq_false_iff_ne.2 q1
            have q4 : (k == 2) = false := beq_eq_false_iff_ne.2 q2
            have hq : ((x.size : Int) == 1 + (s.size : Int)) = true := beq_iff_eq.2 hz
            clear q1 q2 hz
            go_wp2_with fail
            clear a0 a1 a2 b0 b1 b2 d0 d1 d2
            refine (hc1 _).mono ?_
            rintro e w6 ⟨rfl, hw6⟩
            have hb := hb.below hw6 hb.lt
            have hd := hd.below hw6 hd.lt
            have hB := hB.trans (hw6.mono hB.size)
            clear hw6 ha
            rcases HK1.out (by simp) (by simp) with ⟨rfl, h1, h2⟩ | ⟨rfl, rfl⟩ | ⟨rfl, h1, h2⟩
            · have h3 : (x.toList == y.toList) = false := by simpa using h2
              clear h2
              have b0 := hb.c0
              have b1 := hb.c1
              have b2 := hb.c2
              have d0 := hd.c0
              have d1 := hd.c1
              have d2 := hd.c2
              go_wp2_with fail
              clear b0 b1 b2 d0 d1 d2
              refine (hc2 _).mono ?_
              rintro e w7 ⟨rfl, hw7⟩
              have hB := hB.trans (hw7.mono hB.size)
              clear hw7 hb hd
              rcases HK2.out (by simp) (by simp) with ⟨rfl, g1, g2⟩ | ⟨rfl, rfl⟩ | ⟨rfl, g1, g2⟩
              · clear g2
                go_wp2_with fail
                refine (awake_any _).mono ?_
                rintro e w8 ⟨rfl, hw8⟩
                have hB := hB.trans (hw8.mono hB.size)
                clear hw8
                go_wp2_with fail
                refine (hs1 _).mono ?_
                rintro e w10 ⟨rfl, hw10⟩
                have hB := hB.trans (hw10.mono hB.size)
                clear hw10
                go_wp2_with fail
                refine (hs2 _).mono ?_
                rintro e w11 ⟨rfl, hw11⟩
                have hB := hB.trans (hw11.mono hB.size)
                clear hw11
                go_wp2
                all_goals
                  go_ret
                  exact ⟨rfl, hB⟩
              · have g1 := less_irrefl y.toList
                go_wp2_with fail
                refine (awake_any _).mono ?_
                rintro e w8 ⟨rfl, hw8⟩
                have hB := hB.trans (hw8.mono hB.size)
                clear hw8
                go_wp2_with fail
                refine (hs1 _).mono ?_
                rintro e w10 ⟨rfl, hw10⟩
                have hB := hB.trans (hw10.mono hB.size)
                clear hw10
                go_wp2_with fail
                refine (hs2 _).mono ?_
                rintro e w11 ⟨rfl, hw11⟩
                have hB := hB.trans (hw11.mono hB.size)
                clear hw11
                go_wp2
                all_goals
                  go_ret
                  exact ⟨rfl, hB⟩
              · clear g2
                go_wp2_with fail
                refine (awake_any _).mono ?_
                rintro e w8 ⟨rfl, hw8⟩
                have hB := hB.trans (hw8.mono hB.size)
                clear hw8
                go_wp2_with fail
                refine (hs1 _).mono ?_
                rintro e w10 ⟨rfl, hw10⟩
                have hB := hB.trans (hw10.mono hB.size)
                clear hw10
                go_wp2_with fail
                refine (hs2 _).mono ?_
                rintro e w11 ⟨rfl, hw11⟩
                have hB := hB.trans (hw11.mono hB.size)
                clear hw11
                go_wp2
                all_goals
                  go_ret
                  exact ⟨rfl, hB⟩
            · have h1 := less_irrefl x.toList
              go_wp2_with fail
              refine (awake_any _).mono ?_
              rintro e w8 ⟨rfl, hw8⟩
              have hB := hB.trans (hw8.mono hB.size)
              clear hw8
              go_wp2_with fail
              refine (hs1 _).mono ?_
              rintro e w10 ⟨rfl, hw10⟩
              have hB := hB.trans (hw10.mono hB.size)
              clear hw10
              go_wp2_with fail
              refine (hs1 _).mono ?_
              rintro e w11 ⟨rfl, hw11⟩
              have hB := hB.trans (hw11.mono hB.size)
              clear hw11
              go_wp2
              all_goals
                go_ret
                exact ⟨rfl, hB⟩
            · have h3 : (x.toList == y.toList) = false := by simpa using h2
              clear h2
              go_wp2_with fail
              refine (awake_any _).mono ?_
              rintro e w8 ⟨rfl, hw8⟩
              have hB := hB.trans (hw8.mono hB.size)
              clear hw8
              go_wp2_with fail
              refine (hs1 _).mono ?_
              rintro e w10 ⟨rfl, hw10⟩
              have hB := hB.trans (hw10.mono hB.size)
              clear hw10
              go_wp2_with fail
              refine (hs2 _).mono ?_
              rintro e w11 ⟨rfl, hw11⟩
              have hB := hB.trans (hw11.mono hB.size)
              clear hw11
              go_wp2
              all_goals
                go_ret
                exact ⟨rfl, hB⟩
end Go.Proofs.Ytijadbkdgekcdaa.Or
