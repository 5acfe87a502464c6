/- OrderTells: whatever value and key, walked. -/
import Derived.Test.YtijadbkdgekcdaaOrE
import Derived.Test.YtijadbkdgekcdaaXoa
import Derived.Test.YtijadbkdgekcdaaPacW
namespace Go.Proofs.Ytijadbkdgekcdaa.Or
open Go.RowKit Pac Va Lex

set_option maxRecDepth 20000 in
set_option maxHeartbeats 3200000 in
theorem tells_any (a : V) (key : ByteArray) (w : World) (oa : a.Ok) (hsa : a.s.size ≤ 9223372036854775807) (hsk : key.size ≤ 9223372036854775807) :
    Calls Try.prog 3 #[a.v, .string key] w fun e w' => e = .returned (.bool true) ∧ Below w.heap.size w w' := by
  have hk1 := fun (h : a.s.size ≤ 300) (W : World) => key_any a W oa (by omega)
  have hk2 := fun (h : a.s.size ≤ 300) (W : World) => refKey_any a W oa (by omega)
  have hs1 := fun (W : World) => spread_any key W hsk
  have hs2 := fun (W : World) => refSpread_any key W hsk
  generalize keyB a = x at hk1 hk2
  generalize spread key.data.toList = z at hs1 hs2
  obtain ⟨k, n, s⟩ := a
  simp only at hsa
  have hk1 : s.size ≤ 300 → ∀ W : World, Calls Try.prog 7 #[.agg #[.int .i64 k, .int .i64 n, .string s]] W fun e w' => e = .returned (.string x) ∧ Below W.heap.size W w' := hk1
  have hk2 : s.size ≤ 300 → ∀ W : World, Calls Try.prog 8 #[.agg #[.int .i64 k, .int .i64 n, .string s]] W fun e w' => e = .returned (.string x) ∧ Below W.heap.size W w' := hk2
  have ha := Box3.new w (.int .i64 k) (.int .i64 n) (.string s) 23
  have hB := (Below.refl w.heap.size w).alloc (Nat.le_refl _) (.cells #[.int .i64 k, .int .i64 n, .string s] 23)
  show Calls Try.prog 3 #[.agg #[.int .i64 k, .int .i64 n, .string s], .string key] w _
  go_enter Try.func3, Try.ntmps3
  by_cases q1 : 300 < s.size
  · clear hk1 hk2
    go_wp2_with fail
    refine (awake_any _).mono ?_
    rintro e w9 ⟨rfl, hw9⟩
    have hB9 := hB.trans (hw9.mono hB.size)
    clear ha
    go_wp2
    go_ret
    exact ⟨rfl, hB9⟩
  · have hk1 := hk1 (by omega)
    have hk2 := hk2 (by omega)
    by_cases q2 : 300 < key.size
    · go_wp2_with fail
      refine (awake_any _).mono ?_
      rintro e w9 ⟨rfl, hw9⟩
      have hB9 := hB.trans (hw9.mono hB.size)
      go_wp2
      go_ret
      exact ⟨rfl, hB9⟩
    · go_wp2_with fail
      generalize w.alloc (.cells #[.int .i64 k, .int .i64 n, .string s] 23) = w2 at ha hB ⊢
      generalize hb1 : w.heap.size = ba at ha ⊢
      clear hb1
      have ha := ha.below ((Below.refl (ba + 1) w2).drew) (by omega)
      have hB := hB.drew
      refine Lex.region_lex (ops := xaops) (calls := xacalls) xaord (fun W => W.cell? ⟨ba, 0, none⟩ = some (.int .i64 k) ∧ W.cell? ⟨ba, 1, none⟩ = some (.int .i64 n) ∧ W.cell? ⟨ba, 2, none⟩ = some (.string s)) (by kernel_rfl) (by kernel_rfl) xasel (by kernel_rfl) (by kernel_rfl) xalex ((And.intro ha.c0 (And.intro ha.c1 ha.c2))) ?_
      unfold xaord
      refine Lex.step_call xa0 rfl (Lex.want_none rfl) (fun K hK => ?_)
      go_simp
      refine (awake_any _).mono ?_
      rintro e y0 ⟨rfl, hy0⟩
      have ha := ha.below hy0 ha.lt
      have hB := hB.trans (hy0.mono hB.size)
      clear hy0
      refine hK.out _ _ _ (fun _ h => h) ((And.intro ha.c0 (And.intro ha.c1 ha.c2))) ?_
      clear hK K
      try simp only [Act.put, List.setIfInBounds_toArray, List.set_cons_zero, List.set_cons_succ]
      refine Lex.step_take (.bool true) xa1 rfl (Lex.want_none rfl) (by intro Wx hSw; (try dsimp only at hSw); go_simp; (try (first | (with_reducible rfl) | assumption | rfl))) ?_
      simp only [Act.put, List.setIfInBounds_toArray, List.set_cons_zero, List.set_cons_succ]
      refine Lex.step_take (.agg #[.int .i64 k, .int .i64 n, .string s]) xa2 rfl (Lex.want_some rfl xa1 rfl (b' := true) rfl rfl) (by intro Wx hSw; (try dsimp only at hSw); go_simp; (try (first | (with_reducible rfl) | assumption | rfl))) ?_
      simp only [Act.put, List.setIfInBounds_toArray, List.set_cons_zero, List.set_cons_succ]
      refine Lex.step_take (.agg #[.int .i64 k, .int .i64 n, .string s]) xa4 rfl (Lex.want_some rfl xa1 rfl (b' := true) rfl rfl) (by intro Wx hSw; (try dsimp only at hSw); go_simp; (try (first | (with_reducible rfl) | assumption | rfl))) ?_
      simp only [Act.put, List.setIfInBounds_toArray, List.set_cons_zero, List.set_cons_succ]
      refine Lex.step_call xa3 rfl (Lex.want_some rfl xa1 rfl (b' := true) rfl rfl) (fun K hK => ?_)
      go_simp
      refine (hk1 _).mono ?_
      rintro e y1 ⟨rfl, hy1⟩
      have ha := ha.below hy1 ha.lt
      have hB := hB.trans (hy1.mono hB.size)
      clear hy1
      refine hK.out _ _ _ (fun _ h => h) ((And.intro ha.c0 (And.intro ha.c1 ha.c2))) ?_
      clear hK K
      try simp only [Act.put, List.setIfInBounds_toArray, List.set_cons_zero, List.set_cons_succ]
      refine Lex.step_call xa5 rfl (Lex.want_some rfl xa1 rfl (b' := true) rfl rfl) (fun K hK => ?_)
      go_simp
      refine (hk2 _).mono ?_
      rintro e y2 ⟨rfl, hy2⟩
      have ha := ha.below hy2 ha.lt
      have hB := hB.trans (hy2.mono hB.size)
      clear hy2
      refine hK.out _ _ _ (fun _ h => h) ((And.intro ha.c0 (And.intro ha.c1 ha.c2))) ?_
      clear hK K
      try simp only [Act.put, List.setIfInBounds_toArray, List.set_cons_zero, List.set_cons_succ]
      refine Lex.step_take (.bool true) xa6 rfl (Lex.want_some rfl xa1 rfl (b' := true) rfl rfl) (by intro Wx hSw; (try dsimp only at hSw); go_simp; (try (first | (with_reducible rfl) | assumption | rfl))) ?_
      simp only [Act.put, List.setIfInBounds_toArray, List.set_cons_zero, List.set_cons_succ]
      refine Lex.step_take (.bool true) xa7 rfl (Lex.want_none rfl) (by intro Wx hSw; (try dsimp only at hSw); go_simp; (try (first | (with_reducible rfl) | assumption | rfl))) ?_
      simp only [Act.put, List.setIfInBounds_toArray, List.set_cons_zero, List.set_cons_succ]
      refine Lex.step_take (.bool true) xa8 rfl (Lex.want_none rfl) (by intro Wx hSw; (try dsimp only at hSw); go_simp; (try (first | (with_reducible rfl) | assumption | rfl))) ?_
      simp only [Act.put, List.setIfInBounds_toArray, List.set_cons_zero, List.set_cons_succ]
      refine Lex.step_take (.string key) xa9 rfl (Lex.want_some rfl xa8 rfl (b' := true) rfl rfl) (by intro Wx hSw; (try dsimp only at hSw); go_simp; (try (first | (with_reducible rfl) | assumption | rfl))) ?_
      simp only [Act.put, List.setIfInBounds_toArray, List.set_cons_zero, List.set_cons_succ]
      refine Lex.step_take (.string key) xa11 rfl (Lex.want_some rfl xa8 rfl (b' := true) rfl rfl) (by intro Wx hSw; (try dsimp only at hSw); go_simp; (try (first | (with_reducible rfl) | assumption | rfl))) ?_
      simp only [Act.put, List.setIfInBounds_toArray, List.set_cons_zero, List.set_cons_succ]
      refine Lex.step_call xa10 rfl (Lex.want_some rfl xa8 rfl (b' := true) rfl rfl) (fun K hK => ?_)
      go_simp
      refine (hs1 _).mono ?_
      rintro e y3 ⟨rfl, hy3⟩
      have ha := ha.below hy3 ha.lt
      have hB := hB.trans (hy3.mono hB.size)
      clear hy3
      refine hK.out _ _ _ (fun _ h => h) ((And.intro ha.c0 (And.intro ha.c1 ha.c2))) ?_
      clear hK K
      try simp only [Act.put, List.setIfInBounds_toArray, List.set_cons_zero, List.set_cons_succ]
      refine Lex.step_call xa12 rfl (Lex.want_some rfl xa8 rfl (b' := true) rfl rfl) (fun K hK => ?_)
      go_simp
      refine (hs2 _).mono ?_
      rintro e y4 ⟨rfl, hy4⟩
      have ha := ha.below hy4 ha.lt
      have hB := hB.trans (hy4.mono hB.size)
      clear hy4
      refine hK.out _ _ _ (fun _ h => h) ((And.intro ha.c0 (And.intro ha.c1 ha.c2))) ?_
      clear hK K
      try simp only [Act.put, List.setIfInBounds_toArray, List.set_cons_zero, List.set_cons_succ]
      refine Lex.step_take (.bool true) xa13 rfl (Lex.want_some rfl xa8 rfl (b' := true) rfl rfl) (by intro Wx hSw; (try dsimp only at hSw); go_simp; (try (first | (with_reducible rfl) | assumption | rfl))) ?_
      simp only [Act.put, List.setIfInBounds_toArray, List.set_cons_zero, List.set_cons_succ]
      refine Lex.step_take (.bool true) xa14 rfl (Lex.want_none rfl) (by intro Wx hSw; (try dsimp only at hSw); go_simp; (try (first | (with_reducible rfl) | assumption | rfl))) ?_
      simp only [Act.put, List.setIfInBounds_toArray, List.set_cons_zero, List.set_cons_succ]
      refine Lex.step_take (.bool true) xa15 rfl (Lex.want_none rfl) (by intro Wx hSw; (try dsimp only at hSw); go_simp; (try (first | (with_reducible rfl) | assumption | rfl))) ?_
      simp only [Act.put, List.setIfInBounds_toArray, List.set_cons_zero, List.set_cons_succ]
      refine NoPanic.normal ?_
      go_wp2
      go_ret
      exact ⟨rfl, hB⟩
end Go.Proofs.Ytijadbkdgekcdaa.Or
