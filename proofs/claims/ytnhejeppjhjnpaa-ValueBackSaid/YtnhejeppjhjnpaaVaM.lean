/- ValueBack: whatever two values and what stands behind, walked. -/
import Derived.Test.YtnhejeppjhjnpaaVaF
import Derived.Test.YtnhejeppjhjnpaaVaL
import Derived.Test.YtnhejeppjhjnpaaXtc
namespace Go.Proofs.Ytnhejeppjhjnpaa.Va
open Go.RowKit Pac Lex

set_option maxRecDepth 20000 in
set_option maxHeartbeats 6400000 in
theorem back_any (a b : V) (m : ByteArray) (w : World) (oa : a.Ok) (ob : b.Ok) (hsa : a.s.size ≤ 9223372036854775807) (hsb : b.s.size ≤ 9223372036854775807) :
    Calls Try.prog 5 #[a.v, b.v, .string m] w fun e w' => e = .returned (.bool true) ∧ Below w.heap.size w w' := by
  have hr1 := fun W : World => right_any a W
  have hr2 := fun W : World => right_any b W
  have hp1 := fun (h : rightV a = true) (W : World) => print_any a W oa h
  have hp2 := fun (h : rightV b = true) (W : World) => print_any b W ob h
  have hz := (printV_size a).2
  have hbk := fun h : rightV a = true => back a m oa h
  have hin := fun (h : rightV a = true) (h' : rightV b = true) (e : printV a = printV b) => print_inj oa ob h h' e
  have hrd : rightV a = true → (printV a).size ≤ 200 → m.size ≤ 50 → ∀ (g : Nat) (W : World), IsBox W g (printV a ++ m) false → Calls Try.prog 15 #[.pointer (some ⟨g, 0, none⟩)] W fun e w' => e = .returned a.v ∧ IsBox w' g m false ∧ Bar g W w' := by
    intro h h1 h2 g W hx
    have := read_any g _ false W hx (by rw [ByteArray.size_append]; omega)
    rw [hbk h] at this
    exact this
  have hsame : b = a → printV b = printV a := fun h => by rw [h]
  clear hbk oa ob
  generalize printV a = x at hp1 hz hin hrd hsame
  generalize printV b = x2 at hp2 hin hsame
  generalize rightV a = r1 at hr1 hp1 hin hrd
  generalize rightV b = r2 at hr2 hp2 hin
  obtain ⟨k, n, s⟩ := a
  obtain ⟨k2, n2, s2⟩ := b
  simp only at hsa hsb hz
  have hrd : r1 = true → x.size ≤ 200 → m.size ≤ 50 → ∀ (g : Nat) (W : World), IsBox W g (x ++ m) false → Calls Try.prog 15 #[.pointer (some ⟨g, 0, none⟩)] W fun e w' => e = .returned (.agg #[.int .i64 k, .int .i64 n, .string s]) ∧ IsBox w' g m false ∧ Bar g W w' := hrd
  have ha := (Box3.new w (.int .i64 k) (.int .i64 n) (.string s) 23).alloc (.cells #[.int .i64 k2, .int .i64 n2, .string s2] 23)
  have hb := Box3.new (w.alloc (.cells #[.int .i64 k, .int .i64 n, .string s] 23)) (.int .i64 k2) (.int .i64 n2) (.string s2) 23
  rw [show (w.alloc (.cells #[.int .i64 k, .int .i64 n, .string s] 23)).heap.size = w.heap.size + 1 by simp] at hb
  have hB := ((Below.refl w.heap.size w).alloc (Nat.le_refl _) (.cells #[.int .i64 k, .int .i64 n, .string s] 23)).alloc (by simp) (.cells #[.int .i64 k2, .int .i64 n2, .string s2] 23)
  show Calls Try.prog 5 #[.agg #[.int .i64 k, .int .i64 n, .string s], .agg #[.int .i64 k2, .int .i64 n2, .string s2], .string m] w _
  have HI := Lib.hid (And.intro hin hsame)
  have HRD := Lib.hid hrd
  clear hin hsame hrd
  go_enter Try.func5, Try.ntmps5
  by_cases q1 : 100 < s.size
  · go_wp2_with fail
    refine (awake_any _).mono ?_
    rintro e w9 ⟨rfl, hw9⟩
    have hB9 := hB.trans (hw9.mono hB.size)
    clear ha hb
    go_wp2
    go_ret
    exact ⟨rfl, hB9⟩
  · by_cases q2 : 100 < s2.size
    · go_wp2_with fail
      refine (awake_any _).mono ?_
      rintro e w9 ⟨rfl, hw9⟩
      have hB9 := hB.trans (hw9.mono hB.size)
      clear ha hb
      go_wp2
      go_ret
      exact ⟨rfl, hB9⟩
    · by_cases q3 : 50 < m.size
      · go_wp2_with fail
        refine (awake_any _).mono ?_
        rintro e w9 ⟨rfl, hw9⟩
        have hB9 := hB.trans (hw9.mono hB.size)
        clear ha hb
        go_wp2
        go_ret
        exact ⟨rfl, hB9⟩
      · go_wp2_with fail
        generalize ((w.alloc (.cells #[.int .i64 k, .int .i64 n, .string s] 23)).alloc (.cells #[.int .i64 k2, .int .i64 n2, .string s2] 23)) = w2 at ha hb hB ⊢
        generalize hb2 : w.heap.size + 1 = bb at hb ⊢
        clear hb2
        generalize hb1 : w.heap.size = ba at ha ⊢
        clear hb1
        refine (hr1 _).mono ?_
        rintro e w3 ⟨rfl, hw3⟩
        have ha := ha.below hw3 ha.lt
        have hb := hb.below hw3 hb.lt
        have hB := hB.trans (hw3.mono hB.size)
        clear hw3
        have a0 := ha.c0
        have a1 := ha.c1
        have a2 := ha.c2
        have b0 := hb.c0
        have b1 := hb.c1
        have b2 := hb.c2
        cases r1
        · go_wp2_with fail
          clear a0 a1 a2 b0 b1 b2
          refine (awake_any _).mono ?_
          rintro e w9 ⟨rfl, hw9⟩
          have hB9 := hB.trans (hw9.mono hB.size)
          clear ha hb
          go_wp2
          go_ret
          exact ⟨rfl, hB9⟩
        · go_wp2_with fail
          refine (hr2 _).mono ?_
          rintro e w4 ⟨rfl, hw4⟩
          have ha := ha.below hw4 ha.lt
          have hb := hb.below hw4 hb.lt
          have hB := hB.trans (hw4.mono hB.size)
          clear hw4 a0 a1 a2 b0 b1 b2
          have a0 := ha.c0
          have a1 := ha.c1
          have a2 := ha.c2
          cases r2
          · go_wp2_with fail
            clear a0 a1 a2
            refine (awake_any _).mono ?_
            rintro e w9 ⟨rfl, hw9⟩
            have hB9 := hB.trans (hw9.mono hB.size)
            clear ha hb
            go_wp2
            go_ret
            exact ⟨rfl, hB9⟩
          · have hp1 := hp1 (by simp)
            have hp2 := hp2 (by simp)
            go_wp2_with fail
            refine (hp1 _).mono ?_
            rintro e w5 ⟨rfl, hw5⟩
            have ha := ha.below hw5 ha.lt
            have hb := hb.below hw5 hb.lt
            have hB := hB.trans (hw5.mono hB.size)
            clear hw5 a0 a1 a2
            go_wp2_with fail
            have na := Nat.ne_of_lt ha.lt
            have nb := Nat.ne_of_lt hb.lt
            have hx := Box2.new w5 (.string (x ++ m)) (.bool false) 31
            have ha := ha.alloc (.cells #[.string (x ++ m), .bool false] 31)
            have hb := hb.alloc (.cells #[.string (x ++ m), .bool false] 31)
            have l3 := hB.size
            have hB := hB.alloc hB.size (.cells #[.string (x ++ m), .bool false] 31)
            generalize (w5.alloc (.cells #[.string (x ++ m), .bool false] 31)) = w6 at hx ha hb hB ⊢
            generalize w5.heap.size = bx at hx na nb l3 ⊢
            refine (HRD.out (by simp) (by omega) (by omega) bx _ hx).mono ?_
            rintro e w7 ⟨rfl, hx7, hw7⟩
            have ha := ha.bar hw7 na
            have hb := hb.bar hw7 nb
            have hB := hB.trans (hw7.below l3 hB.size)
            clear hx hw7 na nb l3
            go_wp2_with fail
            have hv := Box3.new w7 (.int .i64 k) (.int .i64 n) (.string s) 23
            have hx := hx7.alloc (.cells #[.int .i64 k, .int .i64 n, .string s] 23)
            have ha := ha.alloc (.cells #[.int .i64 k, .int .i64 n, .string s] 23)
            have hb := hb.alloc (.cells #[.int .i64 k, .int .i64 n, .string s] 23)
            have hB := hB.alloc hB.size (.cells #[.int .i64 k, .int .i64 n, .string s] 23)
            clear hx7
            generalize (w7.alloc (.cells #[.int .i64 k, .int .i64 n, .string s] 23)) = w8 at hv hx ha hb hB ⊢
            generalize w7.heap.size = bv at hv ⊢
            have ha := ha.below ((Below.refl w8.heap.size w8).drew) ha.lt
            have hb := hb.below ((Below.refl w8.heap.size w8).drew) hb.lt
            have hv := hv.below ((Below.refl w8.heap.size w8).drew) hv.lt
            have hx := hx.drew
            have hB := hB.drew
            by_cases hab : k = k2 ∧ n = n2 ∧ s.toList = s2.toList
            · obtain ⟨rfl, rfl, h3⟩ := hab
              rw [ByteArray.toList_eq, ByteArray.toList_eq] at h3
              obtain rfl := bytesEq h3
              obtain rfl : x2 = x := HI.out.2 rfl
              clear hp2
              refine Lex.region_lex (ops := tcops) (calls := tccalls) tcord (fun W => (W.cell? ⟨ba, 0, none⟩ = some (.int .i64 k) ∧ W.cell? ⟨ba, 1, none⟩ = some (.int .i64 n) ∧ W.cell? ⟨ba, 2, none⟩ = some (.string s)) ∧ (W.cell? ⟨bb, 0, none⟩ = some (.int .i64 k) ∧ W.cell? ⟨bb, 1, none⟩ = some (.int .i64 n) ∧ W.cell? ⟨bb, 2, none⟩ = some (.string s)) ∧ (W.cell? ⟨bv, 0, none⟩ = some (.int .i64 k) ∧ W.cell? ⟨bv, 1, none⟩ = some (.int .i64 n) ∧ W.cell? ⟨bv, 2, none⟩ = some (.string s)) ∧ W.cell? ⟨bx, 0, none⟩ = some (.string m) ∧ W.cell? ⟨bx, 1, none⟩ = some (.bool false)) (by kernel_rfl) (by kernel_rfl) tcsel (by kernel_rfl) (by kernel_rfl) tclex (And.intro (And.intro ha.c0 (And.intro ha.c1 ha.c2)) (And.intro (And.intro hb.c0 (And.intro hb.c1 hb.c2)) (And.intro (And.intro hv.c0 (And.intro hv.c1 hv.c2)) (And.intro hx.c0 hx.c1)))) ?_
              unfold tcord
              refine Lex.step_call tc0 rfl (Lex.want_none rfl) (fun K hK => ?_)
              go_simp
              refine (awake_any _).mono ?_
              rintro e y0 ⟨rfl, hy0⟩
              have ha := ha.below hy0 ha.lt
              have hb := hb.below hy0 hb.lt
              have hv := hv.below hy0 hv.lt
              have hx := hx.below hy0 hx.lt
              have hB := hB.trans (hy0.mono hB.size)
              clear hy0
              refine hK.out _ _ _ (fun _ h => h) (And.intro (And.intro ha.c0 (And.intro ha.c1 ha.c2)) (And.intro (And.intro hb.c0 (And.intro hb.c1 hb.c2)) (And.intro (And.intro hv.c0 (And.intro hv.c1 hv.c2)) (And.intro hx.c0 hx.c1)))) ?_
              clear hK K
              try simp only [Act.put, List.setIfInBounds_toArray, List.set_cons_zero, List.set_cons_succ]
              refine Lex.step_take (.bool true) tc1 rfl (Lex.want_none rfl) (by intro Wx hSw; (try dsimp only at hSw); go_simp; (try (first | (with_reducible rfl) | assumption))) ?_
              simp only [Act.put, List.setIfInBounds_toArray, List.set_cons_zero, List.set_cons_succ]
              refine Lex.step_take (.agg #[.int .i64 k, .int .i64 n, .string s]) tc2 rfl (Lex.want_some rfl tc1 rfl (b' := true) rfl rfl) (by intro Wx hSw; (try dsimp only at hSw); go_simp; (try (first | (with_reducible rfl) | assumption))) ?_
              simp only [Act.put, List.setIfInBounds_toArray, List.set_cons_zero, List.set_cons_succ]
              refine Lex.step_take (.agg #[.int .i64 k, .int .i64 n, .string s]) tc3 rfl (Lex.want_some rfl tc1 rfl (b' := true) rfl rfl) (by intro Wx hSw; (try dsimp only at hSw); go_simp; (try (first | (with_reducible rfl) | assumption))) ?_
              simp only [Act.put, List.setIfInBounds_toArray, List.set_cons_zero, List.set_cons_succ]
              refine Lex.step_take (.bool true) tc4 rfl (Lex.want_some rfl tc1 rfl (b' := true) rfl rfl) (by intro Wx hSw; (try dsimp only at hSw); go_simp; (try (first | (with_reducible rfl) | assumption))) ?_
              simp only [Act.put, List.setIfInBounds_toArray, List.set_cons_zero, List.set_cons_succ]
              refine Lex.step_take (.bool true) tc5 rfl (Lex.want_none rfl) (by intro Wx hSw; (try dsimp only at hSw); go_simp; (try (first | (with_reducible rfl) | assumption))) ?_
              simp only [Act.put, List.setIfInBounds_toArray, List.set_cons_zero, List.set_cons_succ]
              refine Lex.step_take (.bool true) tc6 rfl (Lex.want_none rfl) (by intro Wx hSw; (try dsimp only at hSw); go_simp; (try (first | (with_reducible rfl) | assumption))) ?_
              simp only [Act.put, List.setIfInBounds_toArray, List.set_cons_zero, List.set_cons_succ]
              refine Lex.step_take (.pointer (some ⟨bx, 0, none⟩)) tc7 rfl (Lex.want_some rfl tc6 rfl (b' := true) rfl rfl) (by intro Wx hSw; (try dsimp only at hSw); go_simp; (try (first | (with_reducible rfl) | assumption))) ?_
              simp only [Act.put, List.setIfInBounds_toArray, List.set_cons_zero, List.set_cons_succ]
              refine Lex.step_take (.pointer (some ⟨bx, 0, none⟩)) tc8 rfl (Lex.want_some rfl tc6 rfl (b' := true) rfl rfl) (by intro Wx hSw; (try dsimp only at hSw); go_simp; (try (first | (with_reducible rfl) | assumption))) ?_
              simp only [Act.put, List.setIfInBounds_toArray, List.set_cons_zero, List.set_cons_succ]
              refine Lex.step_take (.pointer (some ⟨bx, 0, none⟩)) tc9 rfl (Lex.want_some rfl tc6 rfl (b' := true) rfl rfl) (by intro Wx hSw; (try dsimp only at hSw); go_simp; (try (first | (with_reducible rfl) | assumption))) ?_
              simp only [Act.put, List.setIfInBounds_toArray, List.set_cons_zero, List.set_cons_succ]
              refine Lex.step_take (.string m) tc10 rfl (Lex.want_some rfl tc6 rfl (b' := true) rfl rfl) (by intro Wx hSw; (try dsimp only at hSw); go_simp; (try (first | (with_reducible rfl) | assumption))) ?_
              simp only [Act.put, List.setIfInBounds_toArray, List.set_cons_zero, List.set_cons_succ]
              refine Lex.step_take (.string m) tc11 rfl (Lex.want_some rfl tc6 rfl (b' := true) rfl rfl) (by intro Wx hSw; (try dsimp only at hSw); go_simp; (try (first | (with_reducible rfl) | assumption))) ?_
              simp only [Act.put, List.setIfInBounds_toArray, List.set_cons_zero, List.set_cons_succ]
              refine Lex.step_take (.bool true) tc12 rfl (Lex.want_some rfl tc6 rfl (b' := true) rfl rfl) (by intro Wx hSw; (try dsimp only at hSw); go_simp; (try (first | (with_reducible rfl) | assumption))) ?_
              simp only [Act.put, List.setIfInBounds_toArray, List.set_cons_zero, List.set_cons_succ]
              refine Lex.step_take (.bool true) tc13 rfl (Lex.want_none rfl) (by intro Wx hSw; (try dsimp only at hSw); go_simp; (try (first | (with_reducible rfl) | assumption))) ?_
              simp only [Act.put, List.setIfInBounds_toArray, List.set_cons_zero, List.set_cons_succ]
              refine Lex.step_take (.bool true) tc14 rfl (Lex.want_none rfl) (by intro Wx hSw; (try dsimp only at hSw); go_simp; (try (first | (with_reducible rfl) | assumption))) ?_
              simp only [Act.put, List.setIfInBounds_toArray, List.set_cons_zero, List.set_cons_succ]
              refine Lex.step_take (.pointer (some ⟨bx, 0, none⟩)) tc15 rfl (Lex.want_some rfl tc14 rfl (b' := true) rfl rfl) (by intro Wx hSw; (try dsimp only at hSw); go_simp; (try (first | (with_reducible rfl) | assumption))) ?_
              simp only [Act.put, List.setIfInBounds_toArray, List.set_cons_zero, List.set_cons_succ]
              refine Lex.step_take (.pointer (some ⟨bx, 0, none⟩)) tc16 rfl (Lex.want_some rfl tc14 rfl (b' := true) rfl rfl) (by intro Wx hSw; (try dsimp only at hSw); go_simp; (try (first | (with_reducible rfl) | assumption))) ?_
              simp only [Act.put, List.setIfInBounds_toArray, List.set_cons_zero, List.set_cons_succ]
              refine Lex.step_take (.pointer (some ⟨bx, 1, none⟩)) tc17 rfl (Lex.want_some rfl tc14 rfl (b' := true) rfl rfl) (by intro Wx hSw; (try dsimp only at hSw); go_simp; (try (first | (with_reducible rfl) | assumption))) ?_
              simp only [Act.put, List.setIfInBounds_toArray, List.set_cons_zero, List.set_cons_succ]
              refine Lex.step_take (.bool false) tc18 rfl (Lex.want_some rfl tc14 rfl (b' := true) rfl rfl) (by intro Wx hSw; (try dsimp only at hSw); go_simp; (try (first | (with_reducible rfl) | assumption))) ?_
              simp only [Act.put, List.setIfInBounds_toArray, List.set_cons_zero, List.set_cons_succ]
              refine Lex.step_take (.bool true) tc19 rfl (Lex.want_some rfl tc14 rfl (b' := true) rfl rfl) (by intro Wx hSw; (try dsimp only at hSw); go_simp; (try (first | (with_reducible rfl) | assumption))) ?_
              simp only [Act.put, List.setIfInBounds_toArray, List.set_cons_zero, List.set_cons_succ]
              refine Lex.step_take (.bool true) tc20 rfl (Lex.want_none rfl) (by intro Wx hSw; (try dsimp only at hSw); go_simp; (try (first | (with_reducible rfl) | assumption))) ?_
              simp only [Act.put, List.setIfInBounds_toArray, List.set_cons_zero, List.set_cons_succ]
              refine Lex.step_take (.bool true) tc21 rfl (Lex.want_none rfl) (by intro Wx hSw; (try dsimp only at hSw); go_simp; (try (first | (with_reducible rfl) | assumption))) ?_
              simp only [Act.put, List.setIfInBounds_toArray, List.set_cons_zero, List.set_cons_succ]
              refine Lex.step_take (.agg #[.int .i64 k, .int .i64 n, .string s]) tc22 rfl (Lex.want_some rfl tc21 rfl (b' := true) rfl rfl) (by intro Wx hSw; (try dsimp only at hSw); go_simp; (try (first | (with_reducible rfl) | assumption))) ?_
              simp only [Act.put, List.setIfInBounds_toArray, List.set_cons_zero, List.set_cons_succ]
              refine Lex.step_take (.agg #[.int .i64 k, .int .i64 n, .string s]) tc24 rfl (Lex.want_some rfl tc21 rfl (b' := true) rfl rfl) (by intro Wx hSw; (try dsimp only at hSw); go_simp; (try (first | (with_reducible rfl) | assumption))) ?_
              simp only [Act.put, List.setIfInBounds_toArray, List.set_cons_zero, List.set_cons_succ]
              refine Lex.step_take (.agg #[.int .i64 k, .int .i64 n, .string s]) tc27 rfl (Lex.want_some rfl tc21 rfl (b' := true) rfl rfl) (by intro Wx hSw; (try dsimp only at hSw); go_simp; (try (first | (with_reducible rfl) | assumption))) ?_
              simp only [Act.put, List.setIfInBounds_toArray, List.set_cons_zero, List.set_cons_succ]
              refine Lex.step_take (.agg #[.int .i64 k, .int .i64 n, .string s]) tc28 rfl (Lex.want_some rfl tc21 rfl (b' := true) rfl rfl) (by intro Wx hSw; (try dsimp only at hSw); go_simp; (try (first | (with_reducible rfl) | assumption))) ?_
              simp only [Act.put, List.setIfInBounds_toArray, List.set_cons_zero, List.set_cons_succ]
              refine Lex.step_take (.bool true) tc29 rfl (Lex.want_some rfl tc21 rfl (b' := true) rfl rfl) (by intro Wx hSw; (try dsimp only at hSw); go_simp; (try (first | (with_reducible rfl) | assumption))) ?_
              simp only [Act.put, List.setIfInBounds_toArray, List.set_cons_zero, List.set_cons_succ]
              refine Lex.step_call tc23 rfl (Lex.want_some rfl tc21 rfl (b' := true) rfl rfl) (fun K hK => ?_)
              go_simp
              refine (hp1 _).mono ?_
              rintro e y1 ⟨rfl, hy1⟩
              have ha := ha.below hy1 ha.lt
              have hb := hb.below hy1 hb.lt
              have hv := hv.below hy1 hv.lt
              have hx := hx.below hy1 hx.lt
              have hB := hB.trans (hy1.mono hB.size)
              clear hy1
              refine hK.out _ _ _ (fun _ h => h) (And.intro (And.intro ha.c0 (And.intro ha.c1 ha.c2)) (And.intro (And.intro hb.c0 (And.intro hb.c1 hb.c2)) (And.intro (And.intro hv.c0 (And.intro hv.c1 hv.c2)) (And.intro hx.c0 hx.c1)))) ?_
              clear hK K
              try simp only [Act.put, List.setIfInBounds_toArray, List.set_cons_zero, List.set_cons_succ]
              refine Lex.step_call tc25 rfl (Lex.want_some rfl tc21 rfl (b' := true) rfl rfl) (fun K hK => ?_)
              go_simp
              refine (hp1 _).mono ?_
              rintro e y2 ⟨rfl, hy2⟩
              have ha := ha.below hy2 ha.lt
              have hb := hb.below hy2 hb.lt
              have hv := hv.below hy2 hv.lt
              have hx := hx.below hy2 hx.lt
              have hB := hB.trans (hy2.mono hB.size)
              clear hy2
              refine hK.out _ _ _ (fun _ h => h) (And.intro (And.intro ha.c0 (And.intro ha.c1 ha.c2)) (And.intro (And.intro hb.c0 (And.intro hb.c1 hb.c2)) (And.intro (And.intro hv.c0 (And.intro hv.c1 hv.c2)) (And.intro hx.c0 hx.c1)))) ?_
              clear hK K
              try simp only [Act.put, List.setIfInBounds_toArray, List.set_cons_zero, List.set_cons_succ]
              refine Lex.step_take (.bool true) tc26 rfl (Lex.want_some rfl tc21 rfl (b' := true) rfl rfl) (by intro Wx hSw; (try dsimp only at hSw); go_simp; (try (first | (with_reducible rfl) | assumption))) ?_
              simp only [Act.put, List.setIfInBounds_toArray, List.set_cons_zero, List.set_cons_succ]
              refine Lex.step_take (.bool true) tc30 rfl (Lex.want_some rfl tc21 rfl (b' := true) rfl rfl) (by intro Wx hSw; (try dsimp only at hSw); go_simp; (try (first | (with_reducible rfl) | assumption))) ?_
              simp only [Act.put, List.setIfInBounds_toArray, List.set_cons_zero, List.set_cons_succ]
              refine Lex.step_take (.bool true) tc31 rfl (Lex.want_none rfl) (by intro Wx hSw; (try dsimp only at hSw); go_simp; (try (first | (with_reducible rfl) | assumption))) ?_
              simp only [Act.put, List.setIfInBounds_toArray, List.set_cons_zero, List.set_cons_succ]
              refine Lex.step_take (.bool true) tc32 rfl (Lex.want_none rfl) (by intro Wx hSw; (try dsimp only at hSw); go_simp; (try (first | (with_reducible rfl) | assumption))) ?_
              simp only [Act.put, List.setIfInBounds_toArray, List.set_cons_zero, List.set_cons_succ]
              refine NoPanic.normal ?_
              go_wp2
              go_ret
              exact ⟨rfl, hB⟩
            · have hxy : (x.toList == x2.toList) = false := by
                refine beq_eq_false_iff_ne.2 (fun h => hab ?_)
                rw [ByteArray.toList_eq, ByteArray.toList_eq] at h
                have := HI.out.1 (by simp) (by simp) (bytesEq h)
                injection this with e1 e2 e3
                exact ⟨e1, e2, by rw [e3]⟩
              have hab2 : k = k2 → n = n2 → ¬ s.toList = s2.toList := fun h1 h2 h3 => hab ⟨h1, h2, h3⟩
              refine Lex.region_lex (ops := tcops) (calls := tccalls) tcord (fun W => (W.cell? ⟨ba, 0, none⟩ = some (.int .i64 k) ∧ W.cell? ⟨ba, 1, none⟩ = some (.int .i64 n) ∧ W.cell? ⟨ba, 2, none⟩ = some (.string s)) ∧ (W.cell? ⟨bb, 0, none⟩ = some (.int .i64 k2) ∧ W.cell? ⟨bb, 1, none⟩ = some (.int .i64 n2) ∧ W.cell? ⟨bb, 2, none⟩ = some (.string s2)) ∧ (W.cell? ⟨bv, 0, none⟩ = some (.int .i64 k) ∧ W.cell? ⟨bv, 1, none⟩ = some (.int .i64 n) ∧ W.cell? ⟨bv, 2, none⟩ = some (.string s)) ∧ W.cell? ⟨bx, 0, none⟩ = some (.string m) ∧ W.cell? ⟨bx, 1, none⟩ = some (.bool false)) (by kernel_rfl) (by kernel_rfl) tcsel (by kernel_rfl) (by kernel_rfl) tclex (And.intro (And.intro ha.c0 (And.intro ha.c1 ha.c2)) (And.intro (And.intro hb.c0 (And.intro hb.c1 hb.c2)) (And.intro (And.intro hv.c0 (And.intro hv.c1 hv.c2)) (And.intro hx.c0 hx.c1)))) ?_
              unfold tcord
              refine Lex.step_call tc0 rfl (Lex.want_none rfl) (fun K hK => ?_)
              go_simp
              refine (awake_any _).mono ?_
              rintro e y0 ⟨rfl, hy0⟩
              have ha := ha.below hy0 ha.lt
              have hb := hb.below hy0 hb.lt
              have hv := hv.below hy0 hv.lt
              have hx := hx.below hy0 hx.lt
              have hB := hB.trans (hy0.mono hB.size)
              clear hy0
              refine hK.out _ _ _ (fun _ h => h) (And.intro (And.intro ha.c0 (And.intro ha.c1 ha.c2)) (And.intro (And.intro hb.c0 (And.intro hb.c1 hb.c2)) (And.intro (And.intro hv.c0 (And.intro hv.c1 hv.c2)) (And.intro hx.c0 hx.c1)))) ?_
              clear hK K
              try simp only [Act.put, List.setIfInBounds_toArray, List.set_cons_zero, List.set_cons_succ]
              refine Lex.step_take (.bool true) tc1 rfl (Lex.want_none rfl) (by intro Wx hSw; (try dsimp only at hSw); go_simp; (try (first | (with_reducible rfl) | assumption))) ?_
              simp only [Act.put, List.setIfInBounds_toArray, List.set_cons_zero, List.set_cons_succ]
              refine Lex.step_take (.agg #[.int .i64 k, .int .i64 n, .string s]) tc2 rfl (Lex.want_some rfl tc1 rfl (b' := true) rfl rfl) (by intro Wx hSw; (try dsimp only at hSw); go_simp; (try (first | (with_reducible rfl) | assumption))) ?_
              simp only [Act.put, List.setIfInBounds_toArray, List.set_cons_zero, List.set_cons_succ]
              refine Lex.step_take (.agg #[.int .i64 k, .int .i64 n, .string s]) tc3 rfl (Lex.want_some rfl tc1 rfl (b' := true) rfl rfl) (by intro Wx hSw; (try dsimp only at hSw); go_simp; (try (first | (with_reducible rfl) | assumption))) ?_
              simp only [Act.put, List.setIfInBounds_toArray, List.set_cons_zero, List.set_cons_succ]
              refine Lex.step_take (.bool true) tc4 rfl (Lex.want_some rfl tc1 rfl (b' := true) rfl rfl) (by intro Wx hSw; (try dsimp only at hSw); go_simp; (try (first | (with_reducible rfl) | assumption))) ?_
              simp only [Act.put, List.setIfInBounds_toArray, List.set_cons_zero, List.set_cons_succ]
              refine Lex.step_take (.bool true) tc5 rfl (Lex.want_none rfl) (by intro Wx hSw; (try dsimp only at hSw); go_simp; (try (first | (with_reducible rfl) | assumption))) ?_
              simp only [Act.put, List.setIfInBounds_toArray, List.set_cons_zero, List.set_cons_succ]
              refine Lex.step_take (.bool true) tc6 rfl (Lex.want_none rfl) (by intro Wx hSw; (try dsimp only at hSw); go_simp; (try (first | (with_reducible rfl) | assumption))) ?_
              simp only [Act.put, List.setIfInBounds_toArray, List.set_cons_zero, List.set_cons_succ]
              refine Lex.step_take (.pointer (some ⟨bx, 0, none⟩)) tc7 rfl (Lex.want_some rfl tc6 rfl (b' := true) rfl rfl) (by intro Wx hSw; (try dsimp only at hSw); go_simp; (try (first | (with_reducible rfl) | assumption))) ?_
              simp only [Act.put, List.setIfInBounds_toArray, List.set_cons_zero, List.set_cons_succ]
              refine Lex.step_take (.pointer (some ⟨bx, 0, none⟩)) tc8 rfl (Lex.want_some rfl tc6 rfl (b' := true) rfl rfl) (by intro Wx hSw; (try dsimp only at hSw); go_simp; (try (first | (with_reducible rfl) | assumption))) ?_
              simp only [Act.put, List.setIfInBounds_toArray, List.set_cons_zero, List.set_cons_succ]
              refine Lex.step_take (.pointer (some ⟨bx, 0, none⟩)) tc9 rfl (Lex.want_some rfl tc6 rfl (b' := true) rfl rfl) (by intro Wx hSw; (try dsimp only at hSw); go_simp; (try (first | (with_reducible rfl) | assumption))) ?_
              simp only [Act.put, List.setIfInBounds_toArray, List.set_cons_zero, List.set_cons_succ]
              refine Lex.step_take (.string m) tc10 rfl (Lex.want_some rfl tc6 rfl (b' := true) rfl rfl) (by intro Wx hSw; (try dsimp only at hSw); go_simp; (try (first | (with_reducible rfl) | assumption))) ?_
              simp only [Act.put, List.setIfInBounds_toArray, List.set_cons_zero, List.set_cons_succ]
              refine Lex.step_take (.string m) tc11 rfl (Lex.want_some rfl tc6 rfl (b' := true) rfl rfl) (by intro Wx hSw; (try dsimp only at hSw); go_simp; (try (first | (with_reducible rfl) | assumption))) ?_
              simp only [Act.put, List.setIfInBounds_toArray, List.set_cons_zero, List.set_cons_succ]
              refine Lex.step_take (.bool true) tc12 rfl (Lex.want_some rfl tc6 rfl (b' := true) rfl rfl) (by intro Wx hSw; (try dsimp only at hSw); go_simp; (try (first | (with_reducible rfl) | assumption))) ?_
              simp only [Act.put, List.setIfInBounds_toArray, List.set_cons_zero, List.set_cons_succ]
              refine Lex.step_take (.bool true) tc13 rfl (Lex.want_none rfl) (by intro Wx hSw; (try dsimp only at hSw); go_simp; (try (first | (with_reducible rfl) | assumption))) ?_
              simp only [Act.put, List.setIfInBounds_toArray, List.set_cons_zero, List.set_cons_succ]
              refine Lex.step_take (.bool true) tc14 rfl (Lex.want_none rfl) (by intro Wx hSw; (try dsimp only at hSw); go_simp; (try (first | (with_reducible rfl) | assumption))) ?_
              simp only [Act.put, List.setIfInBounds_toArray, List.set_cons_zero, List.set_cons_succ]
              refine Lex.step_take (.pointer (some ⟨bx, 0, none⟩)) tc15 rfl (Lex.want_some rfl tc14 rfl (b' := true) rfl rfl) (by intro Wx hSw; (try dsimp only at hSw); go_simp; (try (first | (with_reducible rfl) | assumption))) ?_
              simp only [Act.put, List.setIfInBounds_toArray, List.set_cons_zero, List.set_cons_succ]
              refine Lex.step_take (.pointer (some ⟨bx, 0, none⟩)) tc16 rfl (Lex.want_some rfl tc14 rfl (b' := true) rfl rfl) (by intro Wx hSw; (try dsimp only at hSw); go_simp; (try (first | (with_reducible rfl) | assumption))) ?_
              simp only [Act.put, List.setIfInBounds_toArray, List.set_cons_zero, List.set_cons_succ]
              refine Lex.step_take (.pointer (some ⟨bx, 1, none⟩)) tc17 rfl (Lex.want_some rfl tc14 rfl (b' := true) rfl rfl) (by intro Wx hSw; (try dsimp only at hSw); go_simp; (try (first | (with_reducible rfl) | assumption))) ?_
              simp only [Act.put, List.setIfInBounds_toArray, List.set_cons_zero, List.set_cons_succ]
              refine Lex.step_take (.bool false) tc18 rfl (Lex.want_some rfl tc14 rfl (b' := true) rfl rfl) (by intro Wx hSw; (try dsimp only at hSw); go_simp; (try (first | (with_reducible rfl) | assumption))) ?_
              simp only [Act.put, List.setIfInBounds_toArray, List.set_cons_zero, List.set_cons_succ]
              refine Lex.step_take (.bool true) tc19 rfl (Lex.want_some rfl tc14 rfl (b' := true) rfl rfl) (by intro Wx hSw; (try dsimp only at hSw); go_simp; (try (first | (with_reducible rfl) | assumption))) ?_
              simp only [Act.put, List.setIfInBounds_toArray, List.set_cons_zero, List.set_cons_succ]
              refine Lex.step_take (.bool true) tc20 rfl (Lex.want_none rfl) (by intro Wx hSw; (try dsimp only at hSw); go_simp; (try (first | (with_reducible rfl) | assumption))) ?_
              simp only [Act.put, List.setIfInBounds_toArray, List.set_cons_zero, List.set_cons_succ]
              refine Lex.step_take (.bool true) tc21 rfl (Lex.want_none rfl) (by intro Wx hSw; (try dsimp only at hSw); go_simp; (try (first | (with_reducible rfl) | assumption))) ?_
              simp only [Act.put, List.setIfInBounds_toArray, List.set_cons_zero, List.set_cons_succ]
              refine Lex.step_take (.agg #[.int .i64 k, .int .i64 n, .string s]) tc22 rfl (Lex.want_some rfl tc21 rfl (b' := true) rfl rfl) (by intro Wx hSw; (try dsimp only at hSw); go_simp; (try (first | (with_reducible rfl) | assumption))) ?_
              simp only [Act.put, List.setIfInBounds_toArray, List.set_cons_zero, List.set_cons_succ]
              refine Lex.step_take (.agg #[.int .i64 k2, .int .i64 n2, .string s2]) tc24 rfl (Lex.want_some rfl tc21 rfl (b' := true) rfl rfl) (by intro Wx hSw; (try dsimp only at hSw); go_simp; (try (first | (with_reducible rfl) | assumption))) ?_
              simp only [Act.put, List.setIfInBounds_toArray, List.set_cons_zero, List.set_cons_succ]
              refine Lex.step_take (.agg #[.int .i64 k, .int .i64 n, .string s]) tc27 rfl (Lex.want_some rfl tc21 rfl (b' := true) rfl rfl) (by intro Wx hSw; (try dsimp only at hSw); go_simp; (try (first | (with_reducible rfl) | assumption))) ?_
              simp only [Act.put, List.setIfInBounds_toArray, List.set_cons_zero, List.set_cons_succ]
              refine Lex.step_take (.agg #[.int .i64 k2, .int .i64 n2, .string s2]) tc28 rfl (Lex.want_some rfl tc21 rfl (b' := true) rfl rfl) (by intro Wx hSw; (try dsimp only at hSw); go_simp; (try (first | (with_reducible rfl) | assumption))) ?_
              simp only [Act.put, List.setIfInBounds_toArray, List.set_cons_zero, List.set_cons_succ]
              refine Lex.step_take (.bool false) tc29 rfl (Lex.want_some rfl tc21 rfl (b' := true) rfl rfl) (by intro Wx hSw; (try dsimp only at hSw); go_simp; (try (first | (with_reducible rfl) | assumption))) ?_
              simp only [Act.put, List.setIfInBounds_toArray, List.set_cons_zero, List.set_cons_succ]
              refine Lex.step_call tc23 rfl (Lex.want_some rfl tc21 rfl (b' := true) rfl rfl) (fun K hK => ?_)
              go_simp
              refine (hp1 _).mono ?_
              rintro e y1 ⟨rfl, hy1⟩
              have ha := ha.below hy1 ha.lt
              have hb := hb.below hy1 hb.lt
              have hv := hv.below hy1 hv.lt
              have hx := hx.below hy1 hx.lt
              have hB := hB.trans (hy1.mono hB.size)
              clear hy1
              refine hK.out _ _ _ (fun _ h => h) (And.intro (And.intro ha.c0 (And.intro ha.c1 ha.c2)) (And.intro (And.intro hb.c0 (And.intro hb.c1 hb.c2)) (And.intro (And.intro hv.c0 (And.intro hv.c1 hv.c2)) (And.intro hx.c0 hx.c1)))) ?_
              clear hK K
              try simp only [Act.put, List.setIfInBounds_toArray, List.set_cons_zero, List.set_cons_succ]
              refine Lex.step_call tc25 rfl (Lex.want_some rfl tc21 rfl (b' := true) rfl rfl) (fun K hK => ?_)
              go_simp
              refine (hp2 (by simp) _).mono ?_
              rintro e y2 ⟨rfl, hy2⟩
              have ha := ha.below hy2 ha.lt
              have hb := hb.below hy2 hb.lt
              have hv := hv.below hy2 hv.lt
              have hx := hx.below hy2 hx.lt
              have hB := hB.trans (hy2.mono hB.size)
              clear hy2
              refine hK.out _ _ _ (fun _ h => h) (And.intro (And.intro ha.c0 (And.intro ha.c1 ha.c2)) (And.intro (And.intro hb.c0 (And.intro hb.c1 hb.c2)) (And.intro (And.intro hv.c0 (And.intro hv.c1 hv.c2)) (And.intro hx.c0 hx.c1)))) ?_
              clear hK K
              try simp only [Act.put, List.setIfInBounds_toArray, List.set_cons_zero, List.set_cons_succ]
              refine Lex.step_take (.bool false) tc26 rfl (Lex.want_some rfl tc21 rfl (b' := true) rfl rfl) (by intro Wx hSw; (try dsimp only at hSw); go_simp; (try (first | (with_reducible rfl) | assumption))) ?_
              simp only [Act.put, List.setIfInBounds_toArray, List.set_cons_zero, List.set_cons_succ]
              refine Lex.step_take (.bool true) tc30 rfl (Lex.want_some rfl tc21 rfl (b' := true) rfl rfl) (by intro Wx hSw; (try dsimp only at hSw); go_simp; (try (first | (with_reducible rfl) | assumption))) ?_
              simp only [Act.put, List.setIfInBounds_toArray, List.set_cons_zero, List.set_cons_succ]
              refine Lex.step_take (.bool true) tc31 rfl (Lex.want_none rfl) (by intro Wx hSw; (try dsimp only at hSw); go_simp; (try (first | (with_reducible rfl) | assumption))) ?_
              simp only [Act.put, List.setIfInBounds_toArray, List.set_cons_zero, List.set_cons_succ]
              refine Lex.step_take (.bool true) tc32 rfl (Lex.want_none rfl) (by intro Wx hSw; (try dsimp only at hSw); go_simp; (try (first | (with_reducible rfl) | assumption))) ?_
              simp only [Act.put, List.setIfInBounds_toArray, List.set_cons_zero, List.set_cons_succ]
              refine NoPanic.normal ?_
              go_wp2
              go_ret
              exact ⟨rfl, hB⟩
end Go.Proofs.Ytnhejeppjhjnpaa.Va
