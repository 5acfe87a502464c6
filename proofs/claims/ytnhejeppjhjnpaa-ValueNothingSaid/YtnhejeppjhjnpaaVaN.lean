/- ValueNothing: whatever the value, walked. -/
import Derived.Test.YtnhejeppjhjnpaaVaF
import Derived.Test.YtnhejeppjhjnpaaVaL
import Derived.Test.YtnhejeppjhjnpaaXte
namespace Go.Proofs.Ytnhejeppjhjnpaa.Va
open Go.RowKit Pac Lex

theorem first_of (c : UInt8) (r : ByteArray) (x : ByteArray) (hx : x = ⟨#[c]⟩ ++ r) (h : 0 < x.size) : (x[0].toNat : Int) = (c.toNat : Int) := by
  subst hx
  rw [head_app c r h]
theorem size_of (c : UInt8) (r x : ByteArray) (hx : x = ⟨#[c]⟩ ++ r) : x.size = 1 + r.size := by
  subst hx
  rw [ByteArray.size_append]
  rfl
theorem cmz1 (n : Int) (s : ByteArray) : cmpV ⟨0, 0, ⟨#[]⟩⟩ ⟨1, n, s⟩ = -1 := rfl
theorem cmz2 (n : Int) (s : ByteArray) : cmpV ⟨0, 0, ⟨#[]⟩⟩ ⟨2, n, s⟩ = -1 := rfl
theorem cmz3 (n : Int) (s : ByteArray) : cmpV ⟨0, 0, ⟨#[]⟩⟩ ⟨3, n, s⟩ = -1 := rfl
theorem txt_pos (s : ByteArray) : 1 ≤ (txtB s).size := by
  unfold txtB
  rw [ByteArray.size_append]
  have := (encB_size (zig s.size)).1
  omega


set_option maxRecDepth 20000 in
set_option maxHeartbeats 6400000 in
theorem nothing_0 (w : World) (oa : V.Ok ⟨0, 0, ⟨#[]⟩⟩) (hsz : (⟨#[]⟩ : ByteArray).size ≤ 100) (hrt : rightV ⟨0, 0, ⟨#[]⟩⟩ = true) :
    Calls Try.prog 7 #[.agg #[.int .i64 0, .int .i64 0, .string ⟨#[]⟩]] w fun e w' => e = .returned (.bool true) ∧ Below w.heap.size w w' := by
  have hp : ∀ W : World, Calls Try.prog 13 #[.agg #[.int .i64 0, .int .i64 0, .string ⟨#[]⟩]] W fun e w' => e = .returned (.string ⟨#[0]⟩) ∧ Below W.heap.size W w' := fun W => kPrint ⟨0, 0, ⟨#[]⟩⟩ _ ok3 rg3 pr3 W
  have hr : ∀ W : World, Calls Try.prog 9 #[.agg #[.int .i64 0, .int .i64 0, .string ⟨#[]⟩]] W fun e w' => e = .returned (.bool true) ∧ Below W.heap.size W w' := fun W => kRight ⟨0, 0, ⟨#[]⟩⟩ true hrt W
  clear oa hrt
  have ha := Box3.new w (.int .i64 0) (.int .i64 0) (.string ⟨#[]⟩) 23
  have hB := (Below.refl w.heap.size w).alloc (Nat.le_refl _) (.cells #[.int .i64 0, .int .i64 0, .string ⟨#[]⟩] 23)
  go_enter Try.func7, Try.ntmps7
  go_wp2_with fail
  generalize (w.alloc (.cells #[.int .i64 0, .int .i64 0, .string ⟨#[]⟩] 23)) = w2 at ha hB ⊢
  generalize hb1 : w.heap.size = ba at ha ⊢
  clear hb1
  refine (hr _).mono ?_
  rintro e w3 ⟨rfl, hw3⟩
  have ha := ha.below hw3 ha.lt
  have hB := hB.trans (hw3.mono hB.size)
  clear hw3
  have a0 := ha.c0
  have a1 := ha.c1
  have a2 := ha.c2
  go_wp2_with fail
  refine (hp _).mono ?_
  rintro e w4 ⟨rfl, hw4⟩
  have ha := ha.below hw4 ha.lt
  have hB := hB.trans (hw4.mono hB.size)
  clear hw4 a0 a1 a2
  go_wp2_with fail
  have hz := Box3.new w4 (.int .i64 0) (.int .i64 0) (.string ⟨#[]⟩) 23
  have ha := ha.alloc (.cells #[.int .i64 0, .int .i64 0, .string ⟨#[]⟩] 23)
  have hB := hB.alloc hB.size (.cells #[.int .i64 0, .int .i64 0, .string ⟨#[]⟩] 23)
  generalize (w4.alloc (.cells #[.int .i64 0, .int .i64 0, .string ⟨#[]⟩] 23)) = w5 at hz ha hB ⊢
  generalize w4.heap.size = bz at hz ⊢
  have ha := ha.below ((Below.refl w5.heap.size w5).drew) ha.lt
  have hz := hz.below ((Below.refl w5.heap.size w5).drew) hz.lt
  have hB := hB.drew
  refine Lex.region_lex (ops := teops) (calls := tecalls) teord (fun W => (W.cell? ⟨ba, 0, none⟩ = some (.int .i64 0) ∧ W.cell? ⟨ba, 1, none⟩ = some (.int .i64 0) ∧ W.cell? ⟨ba, 2, none⟩ = some (.string ⟨#[]⟩)) ∧ (W.cell? ⟨bz, 0, none⟩ = some (.int .i64 0) ∧ W.cell? ⟨bz, 1, none⟩ = some (.int .i64 0) ∧ W.cell? ⟨bz, 2, none⟩ = some (.string ⟨#[]⟩))) (by kernel_rfl) (by kernel_rfl) tesel (by kernel_rfl) (by kernel_rfl) telex (And.intro (And.intro ha.c0 (And.intro ha.c1 ha.c2)) (And.intro hz.c0 (And.intro hz.c1 hz.c2))) ?_
  unfold teord
  refine Lex.step_call te0 rfl (Lex.want_none rfl) (fun K hK => ?_)
  go_simp
  refine (awake_any _).mono ?_
  rintro e y0 ⟨rfl, hy0⟩
  have ha := ha.below hy0 ha.lt
  have hz := hz.below hy0 hz.lt
  have hB := hB.trans (hy0.mono hB.size)
  clear hy0
  refine hK.out _ _ _ (fun _ h => h) (And.intro (And.intro ha.c0 (And.intro ha.c1 ha.c2)) (And.intro hz.c0 (And.intro hz.c1 hz.c2))) ?_
  clear hK K
  try simp only [Act.put, List.setIfInBounds_toArray, List.set_cons_zero, List.set_cons_succ]
  refine Lex.step_take (.bool true) te1 rfl (Lex.want_none rfl) (by intro Wx hSw; (try dsimp only at hSw); go_simp; (try (first | (with_reducible rfl) | assumption | rfl))) ?_
  simp only [Act.put, List.setIfInBounds_toArray, List.set_cons_zero, List.set_cons_succ]
  refine Lex.step_take (.string ⟨#[0]⟩) te2 rfl (Lex.want_some rfl te1 rfl (b' := true) rfl rfl) (by intro Wx hSw; (try dsimp only at hSw); go_simp; (try (first | (with_reducible rfl) | assumption | rfl))) ?_
  simp only [Act.put, List.setIfInBounds_toArray, List.set_cons_zero, List.set_cons_succ]
  refine Lex.step_take (.int .i64 1) te3 rfl (Lex.want_some rfl te1 rfl (b' := true) rfl rfl) (by intro Wx hSw; (try dsimp only at hSw); go_simp; (try (first | (with_reducible rfl) | assumption | rfl))) ?_
  simp only [Act.put, List.setIfInBounds_toArray, List.set_cons_zero, List.set_cons_succ]
  refine Lex.step_take (.bool true) te4 rfl (Lex.want_some rfl te1 rfl (b' := true) rfl rfl) (by intro Wx hSw; (try dsimp only at hSw); go_simp; (try (first | (with_reducible rfl) | assumption | rfl))) ?_
  simp only [Act.put, List.setIfInBounds_toArray, List.set_cons_zero, List.set_cons_succ]
  refine Lex.step_take (.bool true) te5 rfl (Lex.want_none rfl) (by intro Wx hSw; (try dsimp only at hSw); go_simp; (try (first | (with_reducible rfl) | assumption | rfl))) ?_
  simp only [Act.put, List.setIfInBounds_toArray, List.set_cons_zero, List.set_cons_succ]
  refine Lex.step_take (.bool true) te6 rfl (Lex.want_none rfl) (by intro Wx hSw; (try dsimp only at hSw); go_simp; (try (first | (with_reducible rfl) | assumption | rfl))) ?_
  simp only [Act.put, List.setIfInBounds_toArray, List.set_cons_zero, List.set_cons_succ]
  refine Lex.step_take (.string ⟨#[0]⟩) te7 rfl (Lex.want_some rfl te6 rfl (b' := true) rfl rfl) (by intro Wx hSw; (try dsimp only at hSw); go_simp; (try (first | (with_reducible rfl) | assumption | rfl))) ?_
  simp only [Act.put, List.setIfInBounds_toArray, List.set_cons_zero, List.set_cons_succ]
  refine Lex.step_take (.int .u8 0) te8 rfl (Lex.want_some rfl te6 rfl (b' := true) rfl rfl) (by intro Wx hSw; (try dsimp only at hSw); go_simp; (try (first | (with_reducible rfl) | assumption | rfl))) ?_
  simp only [Act.put, List.setIfInBounds_toArray, List.set_cons_zero, List.set_cons_succ]
  refine Lex.step_take (.pointer (some ⟨ba, 0, none⟩)) te9 rfl (Lex.want_some rfl te6 rfl (b' := true) rfl rfl) (by intro Wx hSw; (try dsimp only at hSw); go_simp; (try (first | (with_reducible rfl) | assumption | rfl))) ?_
  simp only [Act.put, List.setIfInBounds_toArray, List.set_cons_zero, List.set_cons_succ]
  refine Lex.step_take (.int .i64 0) te10 rfl (Lex.want_some rfl te6 rfl (b' := true) rfl rfl) (by intro Wx hSw; (try dsimp only at hSw); go_simp; (try (first | (with_reducible rfl) | assumption | rfl))) ?_
  simp only [Act.put, List.setIfInBounds_toArray, List.set_cons_zero, List.set_cons_succ]
  refine Lex.step_take (.int .u8 0) te11 rfl (Lex.want_some rfl te6 rfl (b' := true) rfl rfl) (by intro Wx hSw; (try dsimp only at hSw); go_simp; (try (first | (with_reducible rfl) | assumption | rfl))) ?_
  simp only [Act.put, List.setIfInBounds_toArray, List.set_cons_zero, List.set_cons_succ]
  refine Lex.step_take (.bool true) te12 rfl (Lex.want_some rfl te6 rfl (b' := true) rfl rfl) (by intro Wx hSw; (try dsimp only at hSw); go_simp; (try (first | (with_reducible rfl) | assumption | rfl))) ?_
  simp only [Act.put, List.setIfInBounds_toArray, List.set_cons_zero, List.set_cons_succ]
  refine Lex.step_take (.bool true) te13 rfl (Lex.want_none rfl) (by intro Wx hSw; (try dsimp only at hSw); go_simp; (try (first | (with_reducible rfl) | assumption | rfl))) ?_
  simp only [Act.put, List.setIfInBounds_toArray, List.set_cons_zero, List.set_cons_succ]
  refine Lex.step_take (.bool true) te14 rfl (Lex.want_none rfl) (by intro Wx hSw; (try dsimp only at hSw); go_simp; (try (first | (with_reducible rfl) | assumption | rfl))) ?_
  simp only [Act.put, List.setIfInBounds_toArray, List.set_cons_zero, List.set_cons_succ]
  refine Lex.step_take (.agg #[.int .i64 0, .int .i64 0, .string ⟨#[]⟩]) te15 rfl (Lex.want_some rfl te14 rfl (b' := true) rfl rfl) (by intro Wx hSw; (try dsimp only at hSw); go_simp; (try (first | (with_reducible rfl) | assumption | rfl))) ?_
  simp only [Act.put, List.setIfInBounds_toArray, List.set_cons_zero, List.set_cons_succ]
  refine Lex.step_call te16 rfl (Lex.want_some rfl te14 rfl (b' := true) rfl rfl) (fun K hK => ?_)
  go_simp
  refine (kPrint ⟨0, 0, ⟨#[]⟩⟩ _ ok3 rg3 pr3 _).mono ?_
  rintro e y1 ⟨rfl, hy1⟩
  have ha := ha.below hy1 ha.lt
  have hz := hz.below hy1 hz.lt
  have hB := hB.trans (hy1.mono hB.size)
  clear hy1
  refine hK.out _ _ _ (fun _ h => h) (And.intro (And.intro ha.c0 (And.intro ha.c1 ha.c2)) (And.intro hz.c0 (And.intro hz.c1 hz.c2))) ?_
  clear hK K
  try simp only [Act.put, List.setIfInBounds_toArray, List.set_cons_zero, List.set_cons_succ]
  refine Lex.step_take (.int .i64 1) te17 rfl (Lex.want_some rfl te14 rfl (b' := true) rfl rfl) (by intro Wx hSw; (try dsimp only at hSw); go_simp; (try (first | (with_reducible rfl) | assumption | rfl))) ?_
  simp only [Act.put, List.setIfInBounds_toArray, List.set_cons_zero, List.set_cons_succ]
  refine Lex.step_take (.bool true) te18 rfl (Lex.want_some rfl te14 rfl (b' := true) rfl rfl) (by intro Wx hSw; (try dsimp only at hSw); go_simp; (try (first | (with_reducible rfl) | assumption | rfl))) ?_
  simp only [Act.put, List.setIfInBounds_toArray, List.set_cons_zero, List.set_cons_succ]
  refine Lex.step_take (.bool true) te19 rfl (Lex.want_none rfl) (by intro Wx hSw; (try dsimp only at hSw); go_simp; (try (first | (with_reducible rfl) | assumption | rfl))) ?_
  simp only [Act.put, List.setIfInBounds_toArray, List.set_cons_zero, List.set_cons_succ]
  refine Lex.step_take (.bool true) te20 rfl (Lex.want_none rfl) (by intro Wx hSw; (try dsimp only at hSw); go_simp; (try (first | (with_reducible rfl) | assumption | rfl))) ?_
  simp only [Act.put, List.setIfInBounds_toArray, List.set_cons_zero, List.set_cons_succ]
  refine Lex.step_take (.agg #[.int .i64 0, .int .i64 0, .string ⟨#[]⟩]) te21 rfl (Lex.want_some rfl te20 rfl (b' := true) rfl rfl) (by intro Wx hSw; (try dsimp only at hSw); go_simp; (try (first | (with_reducible rfl) | assumption | rfl))) ?_
  simp only [Act.put, List.setIfInBounds_toArray, List.set_cons_zero, List.set_cons_succ]
  refine Lex.step_take (.agg #[.int .i64 0, .int .i64 0, .string ⟨#[]⟩]) te22 rfl (Lex.want_some rfl te20 rfl (b' := true) rfl rfl) (by intro Wx hSw; (try dsimp only at hSw); go_simp; (try (first | (with_reducible rfl) | assumption | rfl))) ?_
  simp only [Act.put, List.setIfInBounds_toArray, List.set_cons_zero, List.set_cons_succ]
  refine Lex.step_take (.bool true) te23 rfl (Lex.want_some rfl te20 rfl (b' := true) rfl rfl) (by intro Wx hSw; (try dsimp only at hSw); go_simp; (try (first | (with_reducible rfl) | assumption | rfl))) ?_
  simp only [Act.put, List.setIfInBounds_toArray, List.set_cons_zero, List.set_cons_succ]
  refine Lex.step_take (.bool true) te24 rfl (Lex.want_some rfl te20 rfl (b' := true) rfl rfl) (by intro Wx hSw; (try dsimp only at hSw); go_simp; (try (first | (with_reducible rfl) | assumption | rfl))) ?_
  simp only [Act.put, List.setIfInBounds_toArray, List.set_cons_zero, List.set_cons_succ]
  refine Lex.step_skip te25 (Lex.want_some rfl te24 rfl (b' := true) rfl rfl) ?_
  simp only [Act.put, List.setIfInBounds_toArray, List.set_cons_zero, List.set_cons_succ]
  refine Lex.step_skip te26 (Lex.want_some rfl te24 rfl (b' := true) rfl rfl) ?_
  simp only [Act.put, List.setIfInBounds_toArray, List.set_cons_zero, List.set_cons_succ]
  refine Lex.step_skip te27 (Lex.want_some rfl te24 rfl (b' := true) rfl rfl) ?_
  simp only [Act.put, List.setIfInBounds_toArray, List.set_cons_zero, List.set_cons_succ]
  refine Lex.step_skip te28 (Lex.want_some rfl te24 rfl (b' := true) rfl rfl) ?_
  simp only [Act.put, List.setIfInBounds_toArray, List.set_cons_zero, List.set_cons_succ]
  refine Lex.step_take (.bool true) te29 rfl (Lex.want_some rfl te20 rfl (b' := true) rfl rfl) (by intro Wx hSw; (try dsimp only at hSw); go_simp; (try (first | (with_reducible rfl) | assumption | rfl))) ?_
  simp only [Act.put, List.setIfInBounds_toArray, List.set_cons_zero, List.set_cons_succ]
  refine Lex.step_take (.bool true) te30 rfl (Lex.want_none rfl) (by intro Wx hSw; (try dsimp only at hSw); go_simp; (try (first | (with_reducible rfl) | assumption | rfl))) ?_
  simp only [Act.put, List.setIfInBounds_toArray, List.set_cons_zero, List.set_cons_succ]
  refine Lex.step_take (.bool true) te31 rfl (Lex.want_none rfl) (by intro Wx hSw; (try dsimp only at hSw); go_simp; (try (first | (with_reducible rfl) | assumption | rfl))) ?_
  simp only [Act.put, List.setIfInBounds_toArray, List.set_cons_zero, List.set_cons_succ]
  refine Lex.step_take (.string ⟨#[0]⟩) te32 rfl (Lex.want_some rfl te31 rfl (b' := true) rfl rfl) (by intro Wx hSw; (try dsimp only at hSw); go_simp; (try (first | (with_reducible rfl) | assumption | rfl))) ?_
  simp only [Act.put, List.setIfInBounds_toArray, List.set_cons_zero, List.set_cons_succ]
  refine Lex.step_take (.int .i64 1) te33 rfl (Lex.want_some rfl te31 rfl (b' := true) rfl rfl) (by intro Wx hSw; (try dsimp only at hSw); go_simp; (try (first | (with_reducible rfl) | assumption | rfl))) ?_
  simp only [Act.put, List.setIfInBounds_toArray, List.set_cons_zero, List.set_cons_succ]
  refine Lex.step_take (.bool true) te34 rfl (Lex.want_some rfl te31 rfl (b' := true) rfl rfl) (by intro Wx hSw; (try dsimp only at hSw); go_simp; (try (first | (with_reducible rfl) | assumption | rfl))) ?_
  simp only [Act.put, List.setIfInBounds_toArray, List.set_cons_zero, List.set_cons_succ]
  refine Lex.step_take (.agg #[.int .i64 0, .int .i64 0, .string ⟨#[]⟩]) te35 rfl (Lex.want_some rfl te31 rfl (b' := true) rfl rfl) (by intro Wx hSw; (try dsimp only at hSw); go_simp; (try (first | (with_reducible rfl) | assumption | rfl))) ?_
  simp only [Act.put, List.setIfInBounds_toArray, List.set_cons_zero, List.set_cons_succ]
  refine Lex.step_take (.agg #[.int .i64 0, .int .i64 0, .string ⟨#[]⟩]) te36 rfl (Lex.want_some rfl te31 rfl (b' := true) rfl rfl) (by intro Wx hSw; (try dsimp only at hSw); go_simp; (try (first | (with_reducible rfl) | assumption | rfl))) ?_
  simp only [Act.put, List.setIfInBounds_toArray, List.set_cons_zero, List.set_cons_succ]
  refine Lex.step_take (.bool true) te37 rfl (Lex.want_some rfl te31 rfl (b' := true) rfl rfl) (by intro Wx hSw; (try dsimp only at hSw); go_simp; (try (first | (with_reducible rfl) | assumption | rfl))) ?_
  simp only [Act.put, List.setIfInBounds_toArray, List.set_cons_zero, List.set_cons_succ]
  refine Lex.step_take (.bool true) te38 rfl (Lex.want_some rfl te31 rfl (b' := true) rfl rfl) (by intro Wx hSw; (try dsimp only at hSw); go_simp; (try (first | (with_reducible rfl) | assumption | rfl))) ?_
  simp only [Act.put, List.setIfInBounds_toArray, List.set_cons_zero, List.set_cons_succ]
  refine Lex.step_take (.bool true) te39 rfl (Lex.want_none rfl) (by intro Wx hSw; (try dsimp only at hSw); go_simp; (try (first | (with_reducible rfl) | assumption | rfl))) ?_
  simp only [Act.put, List.setIfInBounds_toArray, List.set_cons_zero, List.set_cons_succ]
  refine Lex.step_take (.bool true) te40 rfl (Lex.want_none rfl) (by intro Wx hSw; (try dsimp only at hSw); go_simp; (try (first | (with_reducible rfl) | assumption | rfl))) ?_
  simp only [Act.put, List.setIfInBounds_toArray, List.set_cons_zero, List.set_cons_succ]
  refine NoPanic.normal ?_
  go_wp2
  go_ret
  exact ⟨rfl, hB⟩


set_option maxRecDepth 20000 in
set_option maxHeartbeats 6400000 in
theorem nothing_1 (n : Int) (w : World) (oa : V.Ok ⟨1, n, ⟨#[]⟩⟩) (hsz : (⟨#[]⟩ : ByteArray).size ≤ 100) (hrt : rightV ⟨1, n, ⟨#[]⟩⟩ = true) :
    Calls Try.prog 7 #[.agg #[.int .i64 1, .int .i64 n, .string ⟨#[]⟩]] w fun e w' => e = .returned (.bool true) ∧ Below w.heap.size w w' := by
  obtain ⟨x, hx⟩ : ∃ x, printV ⟨1, n, ⟨#[]⟩⟩ = x := ⟨_, rfl⟩
  have hp : ∀ W : World, Calls Try.prog 13 #[.agg #[.int .i64 1, .int .i64 n, .string ⟨#[]⟩]] W fun e w' => e = .returned (.string x) ∧ Below W.heap.size W w' := fun W => kPrint ⟨1, n, ⟨#[]⟩⟩ _ oa hrt hx W
  have hx2 : x = ⟨#[1]⟩ ++ encB (zig n) := by rw [← hx]; rfl
  have hz1 := size_of 1 _ x hx2
  have hz2 := (encB_size (zig n)).1
  have hz3 := (printV_size ⟨1, n, ⟨#[]⟩⟩).2
  rw [hx] at hz3
  simp only at hz3
  have h0 : 0 < x.size := by omega
  have e8 : (x[0].toNat : Int) = 1 := first_of 1 _ x hx2 h0
  have i1 : (1 : Int) ≤ (x.size : Int) := by omega
  have i2 : ((x.size : Int) == 1) = false := beq_eq_false_iff_ne.2 (by omega)
  have i3 : x.size ≤ 200 := by omega
  have hcm := cmz1 n ⟨#[]⟩
  clear hx hx2 hz1 hz2 hz3
  have hr : ∀ W : World, Calls Try.prog 9 #[.agg #[.int .i64 1, .int .i64 n, .string ⟨#[]⟩]] W fun e w' => e = .returned (.bool true) ∧ Below W.heap.size W w' := fun W => kRight ⟨1, n, ⟨#[]⟩⟩ true hrt W
  clear oa hrt
  have ha := Box3.new w (.int .i64 1) (.int .i64 n) (.string ⟨#[]⟩) 23
  have hB := (Below.refl w.heap.size w).alloc (Nat.le_refl _) (.cells #[.int .i64 1, .int .i64 n, .string ⟨#[]⟩] 23)
  go_enter Try.func7, Try.ntmps7
  go_wp2_with fail
  generalize (w.alloc (.cells #[.int .i64 1, .int .i64 n, .string ⟨#[]⟩] 23)) = w2 at ha hB ⊢
  generalize hb1 : w.heap.size = ba at ha ⊢
  clear hb1
  refine (hr _).mono ?_
  rintro e w3 ⟨rfl, hw3⟩
  have ha := ha.below hw3 ha.lt
  have hB := hB.trans (hw3.mono hB.size)
  clear hw3
  have a0 := ha.c0
  have a1 := ha.c1
  have a2 := ha.c2
  go_wp2_with fail
  refine (hp _).mono ?_
  rintro e w4 ⟨rfl, hw4⟩
  have ha := ha.below hw4 ha.lt
  have hB := hB.trans (hw4.mono hB.size)
  clear hw4 a0 a1 a2
  go_wp2_with fail
  have hz := Box3.new w4 (.int .i64 0) (.int .i64 0) (.string ⟨#[]⟩) 23
  have ha := ha.alloc (.cells #[.int .i64 0, .int .i64 0, .string ⟨#[]⟩] 23)
  have hB := hB.alloc hB.size (.cells #[.int .i64 0, .int .i64 0, .string ⟨#[]⟩] 23)
  generalize (w4.alloc (.cells #[.int .i64 0, .int .i64 0, .string ⟨#[]⟩] 23)) = w5 at hz ha hB ⊢
  generalize w4.heap.size = bz at hz ⊢
  have ha := ha.below ((Below.refl w5.heap.size w5).drew) ha.lt
  have hz := hz.below ((Below.refl w5.heap.size w5).drew) hz.lt
  have hB := hB.drew
  refine Lex.region_lex (ops := teops) (calls := tecalls) teord (fun W => (W.cell? ⟨ba, 0, none⟩ = some (.int .i64 1) ∧ W.cell? ⟨ba, 1, none⟩ = some (.int .i64 n) ∧ W.cell? ⟨ba, 2, none⟩ = some (.string ⟨#[]⟩)) ∧ (W.cell? ⟨bz, 0, none⟩ = some (.int .i64 0) ∧ W.cell? ⟨bz, 1, none⟩ = some (.int .i64 0) ∧ W.cell? ⟨bz, 2, none⟩ = some (.string ⟨#[]⟩))) (by kernel_rfl) (by kernel_rfl) tesel (by kernel_rfl) (by kernel_rfl) telex (And.intro (And.intro ha.c0 (And.intro ha.c1 ha.c2)) (And.intro hz.c0 (And.intro hz.c1 hz.c2))) ?_
  unfold teord
  refine Lex.step_call te0 rfl (Lex.want_none rfl) (fun K hK => ?_)
  go_simp
  refine (awake_any _).mono ?_
  rintro e y0 ⟨rfl, hy0⟩
  have ha := ha.below hy0 ha.lt
  have hz := hz.below hy0 hz.lt
  have hB := hB.trans (hy0.mono hB.size)
  clear hy0
  refine hK.out _ _ _ (fun _ h => h) (And.intro (And.intro ha.c0 (And.intro ha.c1 ha.c2)) (And.intro hz.c0 (And.intro hz.c1 hz.c2))) ?_
  clear hK K
  try simp only [Act.put, List.setIfInBounds_toArray, List.set_cons_zero, List.set_cons_succ]
  refine Lex.step_take (.bool true) te1 rfl (Lex.want_none rfl) (by intro Wx hSw; (try dsimp only at hSw); go_simp; (try (first | (with_reducible rfl) | assumption | rfl))) ?_
  simp only [Act.put, List.setIfInBounds_toArray, List.set_cons_zero, List.set_cons_succ]
  refine Lex.step_take (.string x) te2 rfl (Lex.want_some rfl te1 rfl (b' := true) rfl rfl) (by intro Wx hSw; (try dsimp only at hSw); go_simp; (try (first | (with_reducible rfl) | assumption | rfl))) ?_
  simp only [Act.put, List.setIfInBounds_toArray, List.set_cons_zero, List.set_cons_succ]
  refine Lex.step_take (.int .i64 (x.size : Int)) te3 rfl (Lex.want_some rfl te1 rfl (b' := true) rfl rfl) (by intro Wx hSw; (try dsimp only at hSw); go_simp; (try (first | (with_reducible rfl) | assumption | rfl))) ?_
  simp only [Act.put, List.setIfInBounds_toArray, List.set_cons_zero, List.set_cons_succ]
  refine Lex.step_take (.bool true) te4 rfl (Lex.want_some rfl te1 rfl (b' := true) rfl rfl) (by intro Wx hSw; (try dsimp only at hSw); go_simp; (try (first | (with_reducible rfl) | assumption | rfl))) ?_
  simp only [Act.put, List.setIfInBounds_toArray, List.set_cons_zero, List.set_cons_succ]
  refine Lex.step_take (.bool true) te5 rfl (Lex.want_none rfl) (by intro Wx hSw; (try dsimp only at hSw); go_simp; (try (first | (with_reducible rfl) | assumption | rfl))) ?_
  simp only [Act.put, List.setIfInBounds_toArray, List.set_cons_zero, List.set_cons_succ]
  refine Lex.step_take (.bool true) te6 rfl (Lex.want_none rfl) (by intro Wx hSw; (try dsimp only at hSw); go_simp; (try (first | (with_reducible rfl) | assumption | rfl))) ?_
  simp only [Act.put, List.setIfInBounds_toArray, List.set_cons_zero, List.set_cons_succ]
  refine Lex.step_take (.string x) te7 rfl (Lex.want_some rfl te6 rfl (b' := true) rfl rfl) (by intro Wx hSw; (try dsimp only at hSw); go_simp; (try (first | (with_reducible rfl) | assumption | rfl))) ?_
  simp only [Act.put, List.setIfInBounds_toArray, List.set_cons_zero, List.set_cons_succ]
  refine Lex.step_take (.int .u8 1) te8 rfl (Lex.want_some rfl te6 rfl (b' := true) rfl rfl) (by intro Wx hSw; (try dsimp only at hSw); go_simp; (try (first | (with_reducible rfl) | assumption | rfl))) ?_
  simp only [Act.put, List.setIfInBounds_toArray, List.set_cons_zero, List.set_cons_succ]
  refine Lex.step_take (.pointer (some ⟨ba, 0, none⟩)) te9 rfl (Lex.want_some rfl te6 rfl (b' := true) rfl rfl) (by intro Wx hSw; (try dsimp only at hSw); go_simp; (try (first | (with_reducible rfl) | assumption | rfl))) ?_
  simp only [Act.put, List.setIfInBounds_toArray, List.set_cons_zero, List.set_cons_succ]
  refine Lex.step_take (.int .i64 1) te10 rfl (Lex.want_some rfl te6 rfl (b' := true) rfl rfl) (by intro Wx hSw; (try dsimp only at hSw); go_simp; (try (first | (with_reducible rfl) | assumption | rfl))) ?_
  simp only [Act.put, List.setIfInBounds_toArray, List.set_cons_zero, List.set_cons_succ]
  refine Lex.step_take (.int .u8 1) te11 rfl (Lex.want_some rfl te6 rfl (b' := true) rfl rfl) (by intro Wx hSw; (try dsimp only at hSw); go_simp; (try (first | (with_reducible rfl) | assumption | rfl))) ?_
  simp only [Act.put, List.setIfInBounds_toArray, List.set_cons_zero, List.set_cons_succ]
  refine Lex.step_take (.bool true) te12 rfl (Lex.want_some rfl te6 rfl (b' := true) rfl rfl) (by intro Wx hSw; (try dsimp only at hSw); go_simp; (try (first | (with_reducible rfl) | assumption | rfl))) ?_
  simp only [Act.put, List.setIfInBounds_toArray, List.set_cons_zero, List.set_cons_succ]
  refine Lex.step_take (.bool true) te13 rfl (Lex.want_none rfl) (by intro Wx hSw; (try dsimp only at hSw); go_simp; (try (first | (with_reducible rfl) | assumption | rfl))) ?_
  simp only [Act.put, List.setIfInBounds_toArray, List.set_cons_zero, List.set_cons_succ]
  refine Lex.step_take (.bool true) te14 rfl (Lex.want_none rfl) (by intro Wx hSw; (try dsimp only at hSw); go_simp; (try (first | (with_reducible rfl) | assumption | rfl))) ?_
  simp only [Act.put, List.setIfInBounds_toArray, List.set_cons_zero, List.set_cons_succ]
  refine Lex.step_take (.agg #[.int .i64 0, .int .i64 0, .string ⟨#[]⟩]) te15 rfl (Lex.want_some rfl te14 rfl (b' := true) rfl rfl) (by intro Wx hSw; (try dsimp only at hSw); go_simp; (try (first | (with_reducible rfl) | assumption | rfl))) ?_
  simp only [Act.put, List.setIfInBounds_toArray, List.set_cons_zero, List.set_cons_succ]
  refine Lex.step_call te16 rfl (Lex.want_some rfl te14 rfl (b' := true) rfl rfl) (fun K hK => ?_)
  go_simp
  refine (kPrint ⟨0, 0, ⟨#[]⟩⟩ _ ok3 rg3 pr3 _).mono ?_
  rintro e y1 ⟨rfl, hy1⟩
  have ha := ha.below hy1 ha.lt
  have hz := hz.below hy1 hz.lt
  have hB := hB.trans (hy1.mono hB.size)
  clear hy1
  refine hK.out _ _ _ (fun _ h => h) (And.intro (And.intro ha.c0 (And.intro ha.c1 ha.c2)) (And.intro hz.c0 (And.intro hz.c1 hz.c2))) ?_
  clear hK K
  try simp only [Act.put, List.setIfInBounds_toArray, List.set_cons_zero, List.set_cons_succ]
  refine Lex.step_take (.int .i64 1) te17 rfl (Lex.want_some rfl te14 rfl (b' := true) rfl rfl) (by intro Wx hSw; (try dsimp only at hSw); go_simp; (try (first | (with_reducible rfl) | assumption | rfl))) ?_
  simp only [Act.put, List.setIfInBounds_toArray, List.set_cons_zero, List.set_cons_succ]
  refine Lex.step_take (.bool true) te18 rfl (Lex.want_some rfl te14 rfl (b' := true) rfl rfl) (by intro Wx hSw; (try dsimp only at hSw); go_simp; (try (first | (with_reducible rfl) | assumption | rfl))) ?_
  simp only [Act.put, List.setIfInBounds_toArray, List.set_cons_zero, List.set_cons_succ]
  refine Lex.step_take (.bool true) te19 rfl (Lex.want_none rfl) (by intro Wx hSw; (try dsimp only at hSw); go_simp; (try (first | (with_reducible rfl) | assumption | rfl))) ?_
  simp only [Act.put, List.setIfInBounds_toArray, List.set_cons_zero, List.set_cons_succ]
  refine Lex.step_take (.bool true) te20 rfl (Lex.want_none rfl) (by intro Wx hSw; (try dsimp only at hSw); go_simp; (try (first | (with_reducible rfl) | assumption | rfl))) ?_
  simp only [Act.put, List.setIfInBounds_toArray, List.set_cons_zero, List.set_cons_succ]
  refine Lex.step_take (.agg #[.int .i64 1, .int .i64 n, .string ⟨#[]⟩]) te21 rfl (Lex.want_some rfl te20 rfl (b' := true) rfl rfl) (by intro Wx hSw; (try dsimp only at hSw); go_simp; (try (first | (with_reducible rfl) | assumption | rfl))) ?_
  simp only [Act.put, List.setIfInBounds_toArray, List.set_cons_zero, List.set_cons_succ]
  refine Lex.step_take (.agg #[.int .i64 0, .int .i64 0, .string ⟨#[]⟩]) te22 rfl (Lex.want_some rfl te20 rfl (b' := true) rfl rfl) (by intro Wx hSw; (try dsimp only at hSw); go_simp; (try (first | (with_reducible rfl) | assumption | rfl))) ?_
  simp only [Act.put, List.setIfInBounds_toArray, List.set_cons_zero, List.set_cons_succ]
  refine Lex.step_take (.bool false) te23 rfl (Lex.want_some rfl te20 rfl (b' := true) rfl rfl) (by intro Wx hSw; (try dsimp only at hSw); go_simp; (try (first | (with_reducible rfl) | assumption | rfl))) ?_
  simp only [Act.put, List.setIfInBounds_toArray, List.set_cons_zero, List.set_cons_succ]
  refine Lex.step_take (.bool false) te24 rfl (Lex.want_some rfl te20 rfl (b' := true) rfl rfl) (by intro Wx hSw; (try dsimp only at hSw); go_simp; (try (first | (with_reducible rfl) | assumption | rfl))) ?_
  simp only [Act.put, List.setIfInBounds_toArray, List.set_cons_zero, List.set_cons_succ]
  refine Lex.step_take (.agg #[.int .i64 0, .int .i64 0, .string ⟨#[]⟩]) te25 rfl (Lex.want_some rfl te24 rfl (b' := false) rfl rfl) (by intro Wx hSw; (try dsimp only at hSw); go_simp; (try (first | (with_reducible rfl) | assumption | rfl))) ?_
  simp only [Act.put, List.setIfInBounds_toArray, List.set_cons_zero, List.set_cons_succ]
  refine Lex.step_take (.agg #[.int .i64 1, .int .i64 n, .string ⟨#[]⟩]) te26 rfl (Lex.want_some rfl te24 rfl (b' := false) rfl rfl) (by intro Wx hSw; (try dsimp only at hSw); go_simp; (try (first | (with_reducible rfl) | assumption | rfl))) ?_
  simp only [Act.put, List.setIfInBounds_toArray, List.set_cons_zero, List.set_cons_succ]
  refine Lex.step_call te27 rfl (Lex.want_some rfl te24 rfl (b' := false) rfl rfl) (fun K hK => ?_)
  go_simp
  refine (kCmp ⟨0, 0, ⟨#[]⟩⟩ ⟨1, n, ⟨#[]⟩⟩ _ hcm _).mono ?_
  rintro e y2 ⟨rfl, hy2⟩
  have ha := ha.below hy2 ha.lt
  have hz := hz.below hy2 hz.lt
  have hB := hB.trans (hy2.mono hB.size)
  clear hy2
  refine hK.out _ _ _ (fun _ h => h) (And.intro (And.intro ha.c0 (And.intro ha.c1 ha.c2)) (And.intro hz.c0 (And.intro hz.c1 hz.c2))) ?_
  clear hK K
  try simp only [Act.put, List.setIfInBounds_toArray, List.set_cons_zero, List.set_cons_succ]
  refine Lex.step_take (.bool true) te28 rfl (Lex.want_some rfl te24 rfl (b' := false) rfl rfl) (by intro Wx hSw; (try dsimp only at hSw); go_simp; (try (first | (with_reducible rfl) | assumption | rfl))) ?_
  simp only [Act.put, List.setIfInBounds_toArray, List.set_cons_zero, List.set_cons_succ]
  refine Lex.step_take (.bool true) te29 rfl (Lex.want_some rfl te20 rfl (b' := true) rfl rfl) (by intro Wx hSw; (try dsimp only at hSw); go_simp; (try (first | (with_reducible rfl) | assumption | rfl))) ?_
  simp only [Act.put, List.setIfInBounds_toArray, List.set_cons_zero, List.set_cons_succ]
  refine Lex.step_take (.bool true) te30 rfl (Lex.want_none rfl) (by intro Wx hSw; (try dsimp only at hSw); go_simp; (try (first | (with_reducible rfl) | assumption | rfl))) ?_
  simp only [Act.put, List.setIfInBounds_toArray, List.set_cons_zero, List.set_cons_succ]
  refine Lex.step_take (.bool true) te31 rfl (Lex.want_none rfl) (by intro Wx hSw; (try dsimp only at hSw); go_simp; (try (first | (with_reducible rfl) | assumption | rfl))) ?_
  simp only [Act.put, List.setIfInBounds_toArray, List.set_cons_zero, List.set_cons_succ]
  refine Lex.step_take (.string x) te32 rfl (Lex.want_some rfl te31 rfl (b' := true) rfl rfl) (by intro Wx hSw; (try dsimp only at hSw); go_simp; (try (first | (with_reducible rfl) | assumption | rfl))) ?_
  simp only [Act.put, List.setIfInBounds_toArray, List.set_cons_zero, List.set_cons_succ]
  refine Lex.step_take (.int .i64 (x.size : Int)) te33 rfl (Lex.want_some rfl te31 rfl (b' := true) rfl rfl) (by intro Wx hSw; (try dsimp only at hSw); go_simp; (try (first | (with_reducible rfl) | assumption | rfl))) ?_
  simp only [Act.put, List.setIfInBounds_toArray, List.set_cons_zero, List.set_cons_succ]
  refine Lex.step_take (.bool false) te34 rfl (Lex.want_some rfl te31 rfl (b' := true) rfl rfl) (by intro Wx hSw; (try dsimp only at hSw); go_simp; (try (first | (with_reducible rfl) | assumption | rfl))) ?_
  simp only [Act.put, List.setIfInBounds_toArray, List.set_cons_zero, List.set_cons_succ]
  refine Lex.step_take (.agg #[.int .i64 1, .int .i64 n, .string ⟨#[]⟩]) te35 rfl (Lex.want_some rfl te31 rfl (b' := true) rfl rfl) (by intro Wx hSw; (try dsimp only at hSw); go_simp; (try (first | (with_reducible rfl) | assumption | rfl))) ?_
  simp only [Act.put, List.setIfInBounds_toArray, List.set_cons_zero, List.set_cons_succ]
  refine Lex.step_take (.agg #[.int .i64 0, .int .i64 0, .string ⟨#[]⟩]) te36 rfl (Lex.want_some rfl te31 rfl (b' := true) rfl rfl) (by intro Wx hSw; (try dsimp only at hSw); go_simp; (try (first | (with_reducible rfl) | assumption | rfl))) ?_
  simp only [Act.put, List.setIfInBounds_toArray, List.set_cons_zero, List.set_cons_succ]
  refine Lex.step_take (.bool false) te37 rfl (Lex.want_some rfl te31 rfl (b' := true) rfl rfl) (by intro Wx hSw; (try dsimp only at hSw); go_simp; (try (first | (with_reducible rfl) | assumption | rfl))) ?_
  simp only [Act.put, List.setIfInBounds_toArray, List.set_cons_zero, List.set_cons_succ]
  refine Lex.step_take (.bool true) te38 rfl (Lex.want_some rfl te31 rfl (b' := true) rfl rfl) (by intro Wx hSw; (try dsimp only at hSw); go_simp; (try (first | (with_reducible rfl) | assumption | rfl))) ?_
  simp only [Act.put, List.setIfInBounds_toArray, List.set_cons_zero, List.set_cons_succ]
  refine Lex.step_take (.bool true) te39 rfl (Lex.want_none rfl) (by intro Wx hSw; (try dsimp only at hSw); go_simp; (try (first | (with_reducible rfl) | assumption | rfl))) ?_
  simp only [Act.put, List.setIfInBounds_toArray, List.set_cons_zero, List.set_cons_succ]
  refine Lex.step_take (.bool true) te40 rfl (Lex.want_none rfl) (by intro Wx hSw; (try dsimp only at hSw); go_simp; (try (first | (with_reducible rfl) | assumption | rfl))) ?_
  simp only [Act.put, List.setIfInBounds_toArray, List.set_cons_zero, List.set_cons_succ]
  refine NoPanic.normal ?_
  go_wp2
  go_ret
  exact ⟨rfl, hB⟩


set_option maxRecDepth 20000 in
set_option maxHeartbeats 6400000 in
theorem nothing_2 (n : Int) (w : World) (oa : V.Ok ⟨2, n, ⟨#[]⟩⟩) (hsz : (⟨#[]⟩ : ByteArray).size ≤ 100) (hrt : rightV ⟨2, n, ⟨#[]⟩⟩ = true) :
    Calls Try.prog 7 #[.agg #[.int .i64 2, .int .i64 n, .string ⟨#[]⟩]] w fun e w' => e = .returned (.bool true) ∧ Below w.heap.size w w' := by
  obtain ⟨x, hx⟩ : ∃ x, printV ⟨2, n, ⟨#[]⟩⟩ = x := ⟨_, rfl⟩
  have hp : ∀ W : World, Calls Try.prog 13 #[.agg #[.int .i64 2, .int .i64 n, .string ⟨#[]⟩]] W fun e w' => e = .returned (.string x) ∧ Below W.heap.size W w' := fun W => kPrint ⟨2, n, ⟨#[]⟩⟩ _ oa hrt hx W
  have hx2 : x = ⟨#[2]⟩ ++ encB (zig n) := by rw [← hx]; rfl
  have hz1 := size_of 2 _ x hx2
  have hz2 := (encB_size (zig n)).1
  have hz3 := (printV_size ⟨2, n, ⟨#[]⟩⟩).2
  rw [hx] at hz3
  simp only at hz3
  have h0 : 0 < x.size := by omega
  have e8 : (x[0].toNat : Int) = 2 := first_of 2 _ x hx2 h0
  have i1 : (1 : Int) ≤ (x.size : Int) := by omega
  have i2 : ((x.size : Int) == 1) = false := beq_eq_false_iff_ne.2 (by omega)
  have i3 : x.size ≤ 200 := by omega
  have hcm := cmz2 n ⟨#[]⟩
  clear hx hx2 hz1 hz2 hz3
  have hr : ∀ W : World, Calls Try.prog 9 #[.agg #[.int .i64 2, .int .i64 n, .string ⟨#[]⟩]] W fun e w' => e = .returned (.bool true) ∧ Below W.heap.size W w' := fun W => kRight ⟨2, n, ⟨#[]⟩⟩ true hrt W
  clear oa hrt
  have ha := Box3.new w (.int .i64 2) (.int .i64 n) (.string ⟨#[]⟩) 23
  have hB := (Below.refl w.heap.size w).alloc (Nat.le_refl _) (.cells #[.int .i64 2, .int .i64 n, .string ⟨#[]⟩] 23)
  go_enter Try.func7, Try.ntmps7
  go_wp2_with fail
  generalize (w.alloc (.cells #[.int .i64 2, .int .i64 n, .string ⟨#[]⟩] 23)) = w2 at ha hB ⊢
  generalize hb1 : w.heap.size = ba at ha ⊢
  clear hb1
  refine (hr _).mono ?_
  rintro e w3 ⟨rfl, hw3⟩
  have ha := ha.below hw3 ha.lt
  have hB := hB.trans (hw3.mono hB.size)
  clear hw3
  have a0 := ha.c0
  have a1 := ha.c1
  have a2 := ha.c2
  go_wp2_with fail
  refine (hp _).mono ?_
  rintro e w4 ⟨rfl, hw4⟩
  have ha := ha.below hw4 ha.lt
  have hB := hB.trans (hw4.mono hB.size)
  clear hw4 a0 a1 a2
  go_wp2_with fail
  have hz := Box3.new w4 (.int .i64 0) (.int .i64 0) (.string ⟨#[]⟩) 23
  have ha := ha.alloc (.cells #[.int .i64 0, .int .i64 0, .string ⟨#[]⟩] 23)
  have hB := hB.alloc hB.size (.cells #[.int .i64 0, .int .i64 0, .string ⟨#[]⟩] 23)
  generalize (w4.alloc (.cells #[.int .i64 0, .int .i64 0, .string ⟨#[]⟩] 23)) = w5 at hz ha hB ⊢
  generalize w4.heap.size = bz at hz ⊢
  have ha := ha.below ((Below.refl w5.heap.size w5).drew) ha.lt
  have hz := hz.below ((Below.refl w5.heap.size w5).drew) hz.lt
  have hB := hB.drew
  refine Lex.region_lex (ops := teops) (calls := tecalls) teord (fun W => (W.cell? ⟨ba, 0, none⟩ = some (.int .i64 2) ∧ W.cell? ⟨ba, 1, none⟩ = some (.int .i64 n) ∧ W.cell? ⟨ba, 2, none⟩ = some (.string ⟨#[]⟩)) ∧ (W.cell? ⟨bz, 0, none⟩ = some (.int .i64 0) ∧ W.cell? ⟨bz, 1, none⟩ = some (.int .i64 0) ∧ W.cell? ⟨bz, 2, none⟩ = some (.string ⟨#[]⟩))) (by kernel_rfl) (by kernel_rfl) tesel (by kernel_rfl) (by kernel_rfl) telex (And.intro (And.intro ha.c0 (And.intro ha.c1 ha.c2)) (And.intro hz.c0 (And.intro hz.c1 hz.c2))) ?_
  unfold teord
  refine Lex.step_call te0 rfl (Lex.want_none rfl) (fun K hK => ?_)
  go_simp
  refine (awake_any _).mono ?_
  rintro e y0 ⟨rfl, hy0⟩
  have ha := ha.below hy0 ha.lt
  have hz := hz.below hy0 hz.lt
  have hB := hB.trans (hy0.mono hB.size)
  clear hy0
  refine hK.out _ _ _ (fun _ h => h) (And.intro (And.intro ha.c0 (And.intro ha.c1 ha.c2)) (And.intro hz.c0 (And.intro hz.c1 hz.c2))) ?_
  clear hK K
  try simp only [Act.put, List.setIfInBounds_toArray, List.set_cons_zero, List.set_cons_succ]
  refine Lex.step_take (.bool true) te1 rfl (Lex.want_none rfl) (by intro Wx hSw; (try dsimp only at hSw); go_simp; (try (first | (with_reducible rfl) | assumption | rfl))) ?_
  simp only [Act.put, List.setIfInBounds_toArray, List.set_cons_zero, List.set_cons_succ]
  refine Lex.step_take (.string x) te2 rfl (Lex.want_some rfl te1 rfl (b' := true) rfl rfl) (by intro Wx hSw; (try dsimp only at hSw); go_simp; (try (first | (with_reducible rfl) | assumption | rfl))) ?_
  simp only [Act.put, List.setIfInBounds_toArray, List.set_cons_zero, List.set_cons_succ]
  refine Lex.step_take (.int .i64 (x.size : Int)) te3 rfl (Lex.want_some rfl te1 rfl (b' := true) rfl rfl) (by intro Wx hSw; (try dsimp only at hSw); go_simp; (try (first | (with_reducible rfl) | assumption | rfl))) ?_
  simp only [Act.put, List.setIfInBounds_toArray, List.set_cons_zero, List.set_cons_succ]
  refine Lex.step_take (.bool true) te4 rfl (Lex.want_some rfl te1 rfl (b' := true) rfl rfl) (by intro Wx hSw; (try dsimp only at hSw); go_simp; (try (first | (with_reducible rfl) | assumption | rfl))) ?_
  simp only [Act.put, List.setIfInBounds_toArray, List.set_cons_zero, List.set_cons_succ]
  refine Lex.step_take (.bool true) te5 rfl (Lex.want_none rfl) (by intro Wx hSw; (try dsimp only at hSw); go_simp; (try (first | (with_reducible rfl) | assumption | rfl))) ?_
  simp only [Act.put, List.setIfInBounds_toArray, List.set_cons_zero, List.set_cons_succ]
  refine Lex.step_take (.bool true) te6 rfl (Lex.want_none rfl) (by intro Wx hSw; (try dsimp only at hSw); go_simp; (try (first | (with_reducible rfl) | assumption | rfl))) ?_
  simp only [Act.put, List.setIfInBounds_toArray, List.set_cons_zero, List.set_cons_succ]
  refine Lex.step_take (.string x) te7 rfl (Lex.want_some rfl te6 rfl (b' := true) rfl rfl) (by intro Wx hSw; (try dsimp only at hSw); go_simp; (try (first | (with_reducible rfl) | assumption | rfl))) ?_
  simp only [Act.put, List.setIfInBounds_toArray, List.set_cons_zero, List.set_cons_succ]
  refine Lex.step_take (.int .u8 2) te8 rfl (Lex.want_some rfl te6 rfl (b' := true) rfl rfl) (by intro Wx hSw; (try dsimp only at hSw); go_simp; (try (first | (with_reducible rfl) | assumption | rfl))) ?_
  simp only [Act.put, List.setIfInBounds_toArray, List.set_cons_zero, List.set_cons_succ]
  refine Lex.step_take (.pointer (some ⟨ba, 0, none⟩)) te9 rfl (Lex.want_some rfl te6 rfl (b' := true) rfl rfl) (by intro Wx hSw; (try dsimp only at hSw); go_simp; (try (first | (with_reducible rfl) | assumption | rfl))) ?_
  simp only [Act.put, List.setIfInBounds_toArray, List.set_cons_zero, List.set_cons_succ]
  refine Lex.step_take (.int .i64 2) te10 rfl (Lex.want_some rfl te6 rfl (b' := true) rfl rfl) (by intro Wx hSw; (try dsimp only at hSw); go_simp; (try (first | (with_reducible rfl) | assumption | rfl))) ?_
  simp only [Act.put, List.setIfInBounds_toArray, List.set_cons_zero, List.set_cons_succ]
  refine Lex.step_take (.int .u8 2) te11 rfl (Lex.want_some rfl te6 rfl (b' := true) rfl rfl) (by intro Wx hSw; (try dsimp only at hSw); go_simp; (try (first | (with_reducible rfl) | assumption | rfl))) ?_
  simp only [Act.put, List.setIfInBounds_toArray, List.set_cons_zero, List.set_cons_succ]
  refine Lex.step_take (.bool true) te12 rfl (Lex.want_some rfl te6 rfl (b' := true) rfl rfl) (by intro Wx hSw; (try dsimp only at hSw); go_simp; (try (first | (with_reducible rfl) | assumption | rfl))) ?_
  simp only [Act.put, List.setIfInBounds_toArray, List.set_cons_zero, List.set_cons_succ]
  refine Lex.step_take (.bool true) te13 rfl (Lex.want_none rfl) (by intro Wx hSw; (try dsimp only at hSw); go_simp; (try (first | (with_reducible rfl) | assumption | rfl))) ?_
  simp only [Act.put, List.setIfInBounds_toArray, List.set_cons_zero, List.set_cons_succ]
  refine Lex.step_take (.bool true) te14 rfl (Lex.want_none rfl) (by intro Wx hSw; (try dsimp only at hSw); go_simp; (try (first | (with_reducible rfl) | assumption | rfl))) ?_
  simp only [Act.put, List.setIfInBounds_toArray, List.set_cons_zero, List.set_cons_succ]
  refine Lex.step_take (.agg #[.int .i64 0, .int .i64 0, .string ⟨#[]⟩]) te15 rfl (Lex.want_some rfl te14 rfl (b' := true) rfl rfl) (by intro Wx hSw; (try dsimp only at hSw); go_simp; (try (first | (with_reducible rfl) | assumption | rfl))) ?_
  simp only [Act.put, List.setIfInBounds_toArray, List.set_cons_zero, List.set_cons_succ]
  refine Lex.step_call te16 rfl (Lex.want_some rfl te14 rfl (b' := true) rfl rfl) (fun K hK => ?_)
  go_simp
  refine (kPrint ⟨0, 0, ⟨#[]⟩⟩ _ ok3 rg3 pr3 _).mono ?_
  rintro e y1 ⟨rfl, hy1⟩
  have ha := ha.below hy1 ha.lt
  have hz := hz.below hy1 hz.lt
  have hB := hB.trans (hy1.mono hB.size)
  clear hy1
  refine hK.out _ _ _ (fun _ h => h) (And.intro (And.intro ha.c0 (And.intro ha.c1 ha.c2)) (And.intro hz.c0 (And.intro hz.c1 hz.c2))) ?_
  clear hK K
  try simp only [Act.put, List.setIfInBounds_toArray, List.set_cons_zero, List.set_cons_succ]
  refine Lex.step_take (.int .i64 1) te17 rfl (Lex.want_some rfl te14 rfl (b' := true) rfl rfl) (by intro Wx hSw; (try dsimp only at hSw); go_simp; (try (first | (with_reducible rfl) | assumption | rfl))) ?_
  simp only [Act.put, List.setIfInBounds_toArray, List.set_cons_zero, List.set_cons_succ]
  refine Lex.step_take (.bool true) te18 rfl (Lex.want_some rfl te14 rfl (b' := true) rfl rfl) (by intro Wx hSw; (try dsimp only at hSw); go_simp; (try (first | (with_reducible rfl) | assumption | rfl))) ?_
  simp only [Act.put, List.setIfInBounds_toArray, List.set_cons_zero, List.set_cons_succ]
  refine Lex.step_take (.bool true) te19 rfl (Lex.want_none rfl) (by intro Wx hSw; (try dsimp only at hSw); go_simp; (try (first | (with_reducible rfl) | assumption | rfl))) ?_
  simp only [Act.put, List.setIfInBounds_toArray, List.set_cons_zero, List.set_cons_succ]
  refine Lex.step_take (.bool true) te20 rfl (Lex.want_none rfl) (by intro Wx hSw; (try dsimp only at hSw); go_simp; (try (first | (with_reducible rfl) | assumption | rfl))) ?_
  simp only [Act.put, List.setIfInBounds_toArray, List.set_cons_zero, List.set_cons_succ]
  refine Lex.step_take (.agg #[.int .i64 2, .int .i64 n, .string ⟨#[]⟩]) te21 rfl (Lex.want_some rfl te20 rfl (b' := true) rfl rfl) (by intro Wx hSw; (try dsimp only at hSw); go_simp; (try (first | (with_reducible rfl) | assumption | rfl))) ?_
  simp only [Act.put, List.setIfInBounds_toArray, List.set_cons_zero, List.set_cons_succ]
  refine Lex.step_take (.agg #[.int .i64 0, .int .i64 0, .string ⟨#[]⟩]) te22 rfl (Lex.want_some rfl te20 rfl (b' := true) rfl rfl) (by intro Wx hSw; (try dsimp only at hSw); go_simp; (try (first | (with_reducible rfl) | assumption | rfl))) ?_
  simp only [Act.put, List.setIfInBounds_toArray, List.set_cons_zero, List.set_cons_succ]
  refine Lex.step_take (.bool false) te23 rfl (Lex.want_some rfl te20 rfl (b' := true) rfl rfl) (by intro Wx hSw; (try dsimp only at hSw); go_simp; (try (first | (with_reducible rfl) | assumption | rfl))) ?_
  simp only [Act.put, List.setIfInBounds_toArray, List.set_cons_zero, List.set_cons_succ]
  refine Lex.step_take (.bool false) te24 rfl (Lex.want_some rfl te20 rfl (b' := true) rfl rfl) (by intro Wx hSw; (try dsimp only at hSw); go_simp; (try (first | (with_reducible rfl) | assumption | rfl))) ?_
  simp only [Act.put, List.setIfInBounds_toArray, List.set_cons_zero, List.set_cons_succ]
  refine Lex.step_take (.agg #[.int .i64 0, .int .i64 0, .string ⟨#[]⟩]) te25 rfl (Lex.want_some rfl te24 rfl (b' := false) rfl rfl) (by intro Wx hSw; (try dsimp only at hSw); go_simp; (try (first | (with_reducible rfl) | assumption | rfl))) ?_
  simp only [Act.put, List.setIfInBounds_toArray, List.set_cons_zero, List.set_cons_succ]
  refine Lex.step_take (.agg #[.int .i64 2, .int .i64 n, .string ⟨#[]⟩]) te26 rfl (Lex.want_some rfl te24 rfl (b' := false) rfl rfl) (by intro Wx hSw; (try dsimp only at hSw); go_simp; (try (first | (with_reducible rfl) | assumption | rfl))) ?_
  simp only [Act.put, List.setIfInBounds_toArray, List.set_cons_zero, List.set_cons_succ]
  refine Lex.step_call te27 rfl (Lex.want_some rfl te24 rfl (b' := false) rfl rfl) (fun K hK => ?_)
  go_simp
  refine (kCmp ⟨0, 0, ⟨#[]⟩⟩ ⟨2, n, ⟨#[]⟩⟩ _ hcm _).mono ?_
  rintro e y2 ⟨rfl, hy2⟩
  have ha := ha.below hy2 ha.lt
  have hz := hz.below hy2 hz.lt
  have hB := hB.trans (hy2.mono hB.size)
  clear hy2
  refine hK.out _ _ _ (fun _ h => h) (And.intro (And.intro ha.c0 (And.intro ha.c1 ha.c2)) (And.intro hz.c0 (And.intro hz.c1 hz.c2))) ?_
  clear hK K
  try simp only [Act.put, List.setIfInBounds_toArray, List.set_cons_zero, List.set_cons_succ]
  refine Lex.step_take (.bool true) te28 rfl (Lex.want_some rfl te24 rfl (b' := false) rfl rfl) (by intro Wx hSw; (try dsimp only at hSw); go_simp; (try (first | (with_reducible rfl) | assumption | rfl))) ?_
  simp only [Act.put, List.setIfInBounds_toArray, List.set_cons_zero, List.set_cons_succ]
  refine Lex.step_take (.bool true) te29 rfl (Lex.want_some rfl te20 rfl (b' := true) rfl rfl) (by intro Wx hSw; (try dsimp only at hSw); go_simp; (try (first | (with_reducible rfl) | assumption | rfl))) ?_
  simp only [Act.put, List.setIfInBounds_toArray, List.set_cons_zero, List.set_cons_succ]
  refine Lex.step_take (.bool true) te30 rfl (Lex.want_none rfl) (by intro Wx hSw; (try dsimp only at hSw); go_simp; (try (first | (with_reducible rfl) | assumption | rfl))) ?_
  simp only [Act.put, List.setIfInBounds_toArray, List.set_cons_zero, List.set_cons_succ]
  refine Lex.step_take (.bool true) te31 rfl (Lex.want_none rfl) (by intro Wx hSw; (try dsimp only at hSw); go_simp; (try (first | (with_reducible rfl) | assumption | rfl))) ?_
  simp only [Act.put, List.setIfInBounds_toArray, List.set_cons_zero, List.set_cons_succ]
  refine Lex.step_take (.string x) te32 rfl (Lex.want_some rfl te31 rfl (b' := true) rfl rfl) (by intro Wx hSw; (try dsimp only at hSw); go_simp; (try (first | (with_reducible rfl) | assumption | rfl))) ?_
  simp only [Act.put, List.setIfInBounds_toArray, List.set_cons_zero, List.set_cons_succ]
  refine Lex.step_take (.int .i64 (x.size : Int)) te33 rfl (Lex.want_some rfl te31 rfl (b' := true) rfl rfl) (by intro Wx hSw; (try dsimp only at hSw); go_simp; (try (first | (with_reducible rfl) | assumption | rfl))) ?_
  simp only [Act.put, List.setIfInBounds_toArray, List.set_cons_zero, List.set_cons_succ]
  refine Lex.step_take (.bool false) te34 rfl (Lex.want_some rfl te31 rfl (b' := true) rfl rfl) (by intro Wx hSw; (try dsimp only at hSw); go_simp; (try (first | (with_reducible rfl) | assumption | rfl))) ?_
  simp only [Act.put, List.setIfInBounds_toArray, List.set_cons_zero, List.set_cons_succ]
  refine Lex.step_take (.agg #[.int .i64 2, .int .i64 n, .string ⟨#[]⟩]) te35 rfl (Lex.want_some rfl te31 rfl (b' := true) rfl rfl) (by intro Wx hSw; (try dsimp only at hSw); go_simp; (try (first | (with_reducible rfl) | assumption | rfl))) ?_
  simp only [Act.put, List.setIfInBounds_toArray, List.set_cons_zero, List.set_cons_succ]
  refine Lex.step_take (.agg #[.int .i64 0, .int .i64 0, .string ⟨#[]⟩]) te36 rfl (Lex.want_some rfl te31 rfl (b' := true) rfl rfl) (by intro Wx hSw; (try dsimp only at hSw); go_simp; (try (first | (with_reducible rfl) | assumption | rfl))) ?_
  simp only [Act.put, List.setIfInBounds_toArray, List.set_cons_zero, List.set_cons_succ]
  refine Lex.step_take (.bool false) te37 rfl (Lex.want_some rfl te31 rfl (b' := true) rfl rfl) (by intro Wx hSw; (try dsimp only at hSw); go_simp; (try (first | (with_reducible rfl) | assumption | rfl))) ?_
  simp only [Act.put, List.setIfInBounds_toArray, List.set_cons_zero, List.set_cons_succ]
  refine Lex.step_take (.bool true) te38 rfl (Lex.want_some rfl te31 rfl (b' := true) rfl rfl) (by intro Wx hSw; (try dsimp only at hSw); go_simp; (try (first | (with_reducible rfl) | assumption | rfl))) ?_
  simp only [Act.put, List.setIfInBounds_toArray, List.set_cons_zero, List.set_cons_succ]
  refine Lex.step_take (.bool true) te39 rfl (Lex.want_none rfl) (by intro Wx hSw; (try dsimp only at hSw); go_simp; (try (first | (with_reducible rfl) | assumption | rfl))) ?_
  simp only [Act.put, List.setIfInBounds_toArray, List.set_cons_zero, List.set_cons_succ]
  refine Lex.step_take (.bool true) te40 rfl (Lex.want_none rfl) (by intro Wx hSw; (try dsimp only at hSw); go_simp; (try (first | (with_reducible rfl) | assumption | rfl))) ?_
  simp only [Act.put, List.setIfInBounds_toArray, List.set_cons_zero, List.set_cons_succ]
  refine NoPanic.normal ?_
  go_wp2
  go_ret
  exact ⟨rfl, hB⟩


set_option maxRecDepth 20000 in
set_option maxHeartbeats 6400000 in
theorem nothing_3 (s : ByteArray) (w : World) (oa : V.Ok ⟨3, 0, s⟩) (hsz : (s : ByteArray).size ≤ 100) (hrt : rightV ⟨3, 0, s⟩ = true) :
    Calls Try.prog 7 #[.agg #[.int .i64 3, .int .i64 0, .string s]] w fun e w' => e = .returned (.bool true) ∧ Below w.heap.size w w' := by
  obtain ⟨x, hx⟩ : ∃ x, printV ⟨3, 0, s⟩ = x := ⟨_, rfl⟩
  have hp : ∀ W : World, Calls Try.prog 13 #[.agg #[.int .i64 3, .int .i64 0, .string s]] W fun e w' => e = .returned (.string x) ∧ Below W.heap.size W w' := fun W => kPrint ⟨3, 0, s⟩ _ oa hrt hx W
  have hx2 : x = ⟨#[3]⟩ ++ txtB s := by rw [← hx]; rfl
  have hz1 := size_of 3 _ x hx2
  have hz2 := txt_pos s
  have hz3 := (printV_size ⟨3, 0, s⟩).2
  rw [hx] at hz3
  simp only at hz3
  have h0 : 0 < x.size := by omega
  have e8 : (x[0].toNat : Int) = 3 := first_of 3 _ x hx2 h0
  have i1 : (1 : Int) ≤ (x.size : Int) := by omega
  have i2 : ((x.size : Int) == 1) = false := beq_eq_false_iff_ne.2 (by omega)
  have i3 : x.size ≤ 200 := by omega
  have hcm := cmz3 0 s
  clear hx hx2 hz1 hz2 hz3
  have hr : ∀ W : World, Calls Try.prog 9 #[.agg #[.int .i64 3, .int .i64 0, .string s]] W fun e w' => e = .returned (.bool true) ∧ Below W.heap.size W w' := fun W => kRight ⟨3, 0, s⟩ true hrt W
  clear oa hrt
  have ha := Box3.new w (.int .i64 3) (.int .i64 0) (.string s) 23
  have hB := (Below.refl w.heap.size w).alloc (Nat.le_refl _) (.cells #[.int .i64 3, .int .i64 0, .string s] 23)
  go_enter Try.func7, Try.ntmps7
  go_wp2_with fail
  generalize (w.alloc (.cells #[.int .i64 3, .int .i64 0, .string s] 23)) = w2 at ha hB ⊢
  generalize hb1 : w.heap.size = ba at ha ⊢
  clear hb1
  refine (hr _).mono ?_
  rintro e w3 ⟨rfl, hw3⟩
  have ha := ha.below hw3 ha.lt
  have hB := hB.trans (hw3.mono hB.size)
  clear hw3
  have a0 := ha.c0
  have a1 := ha.c1
  have a2 := ha.c2
  go_wp2_with fail
  refine (hp _).mono ?_
  rintro e w4 ⟨rfl, hw4⟩
  have ha := ha.below hw4 ha.lt
  have hB := hB.trans (hw4.mono hB.size)
  clear hw4 a0 a1 a2
  go_wp2_with fail
  have hz := Box3.new w4 (.int .i64 0) (.int .i64 0) (.string ⟨#[]⟩) 23
  have ha := ha.alloc (.cells #[.int .i64 0, .int .i64 0, .string ⟨#[]⟩] 23)
  have hB := hB.alloc hB.size (.cells #[.int .i64 0, .int .i64 0, .string ⟨#[]⟩] 23)
  generalize (w4.alloc (.cells #[.int .i64 0, .int .i64 0, .string ⟨#[]⟩] 23)) = w5 at hz ha hB ⊢
  generalize w4.heap.size = bz at hz ⊢
  have ha := ha.below ((Below.refl w5.heap.size w5).drew) ha.lt
  have hz := hz.below ((Below.refl w5.heap.size w5).drew) hz.lt
  have hB := hB.drew
  refine Lex.region_lex (ops := teops) (calls := tecalls) teord (fun W => (W.cell? ⟨ba, 0, none⟩ = some (.int .i64 3) ∧ W.cell? ⟨ba, 1, none⟩ = some (.int .i64 0) ∧ W.cell? ⟨ba, 2, none⟩ = some (.string s)) ∧ (W.cell? ⟨bz, 0, none⟩ = some (.int .i64 0) ∧ W.cell? ⟨bz, 1, none⟩ = some (.int .i64 0) ∧ W.cell? ⟨bz, 2, none⟩ = some (.string ⟨#[]⟩))) (by kernel_rfl) (by kernel_rfl) tesel (by kernel_rfl) (by kernel_rfl) telex (And.intro (And.intro ha.c0 (And.intro ha.c1 ha.c2)) (And.intro hz.c0 (And.intro hz.c1 hz.c2))) ?_
  unfold teord
  refine Lex.step_call te0 rfl (Lex.want_none rfl) (fun K hK => ?_)
  go_simp
  refine (awake_any _).mono ?_
  rintro e y0 ⟨rfl, hy0⟩
  have ha := ha.below hy0 ha.lt
  have hz := hz.below hy0 hz.lt
  have hB := hB.trans (hy0.mono hB.size)
  clear hy0
  refine hK.out _ _ _ (fun _ h => h) (And.intro (And.intro ha.c0 (And.intro ha.c1 ha.c2)) (And.intro hz.c0 (And.intro hz.c1 hz.c2))) ?_
  clear hK K
  try simp only [Act.put, List.setIfInBounds_toArray, List.set_cons_zero, List.set_cons_succ]
  refine Lex.step_take (.bool true) te1 rfl (Lex.want_none rfl) (by intro Wx hSw; (try dsimp only at hSw); go_simp; (try (first | (with_reducible rfl) | assumption | rfl))) ?_
  simp only [Act.put, List.setIfInBounds_toArray, List.set_cons_zero, List.set_cons_succ]
  refine Lex.step_take (.string x) te2 rfl (Lex.want_some rfl te1 rfl (b' := true) rfl rfl) (by intro Wx hSw; (try dsimp only at hSw); go_simp; (try (first | (with_reducible rfl) | assumption | rfl))) ?_
  simp only [Act.put, List.setIfInBounds_toArray, List.set_cons_zero, List.set_cons_succ]
  refine Lex.step_take (.int .i64 (x.size : Int)) te3 rfl (Lex.want_some rfl te1 rfl (b' := true) rfl rfl) (by intro Wx hSw; (try dsimp only at hSw); go_simp; (try (first | (with_reducible rfl) | assumption | rfl))) ?_
  simp only [Act.put, List.setIfInBounds_toArray, List.set_cons_zero, List.set_cons_succ]
  refine Lex.step_take (.bool true) te4 rfl (Lex.want_some rfl te1 rfl (b' := true) rfl rfl) (by intro Wx hSw; (try dsimp only at hSw); go_simp; (try (first | (with_reducible rfl) | assumption | rfl))) ?_
  simp only [Act.put, List.setIfInBounds_toArray, List.set_cons_zero, List.set_cons_succ]
  refine Lex.step_take (.bool true) te5 rfl (Lex.want_none rfl) (by intro Wx hSw; (try dsimp only at hSw); go_simp; (try (first | (with_reducible rfl) | assumption | rfl))) ?_
  simp only [Act.put, List.setIfInBounds_toArray, List.set_cons_zero, List.set_cons_succ]
  refine Lex.step_take (.bool true) te6 rfl (Lex.want_none rfl) (by intro Wx hSw; (try dsimp only at hSw); go_simp; (try (first | (with_reducible rfl) | assumption | rfl))) ?_
  simp only [Act.put, List.setIfInBounds_toArray, List.set_cons_zero, List.set_cons_succ]
  refine Lex.step_take (.string x) te7 rfl (Lex.want_some rfl te6 rfl (b' := true) rfl rfl) (by intro Wx hSw; (try dsimp only at hSw); go_simp; (try (first | (with_reducible rfl) | assumption | rfl))) ?_
  simp only [Act.put, List.setIfInBounds_toArray, List.set_cons_zero, List.set_cons_succ]
  refine Lex.step_take (.int .u8 3) te8 rfl (Lex.want_some rfl te6 rfl (b' := true) rfl rfl) (by intro Wx hSw; (try dsimp only at hSw); go_simp; (try (first | (with_reducible rfl) | assumption | rfl))) ?_
  simp only [Act.put, List.setIfInBounds_toArray, List.set_cons_zero, List.set_cons_succ]
  refine Lex.step_take (.pointer (some ⟨ba, 0, none⟩)) te9 rfl (Lex.want_some rfl te6 rfl (b' := true) rfl rfl) (by intro Wx hSw; (try dsimp only at hSw); go_simp; (try (first | (with_reducible rfl) | assumption | rfl))) ?_
  simp only [Act.put, List.setIfInBounds_toArray, List.set_cons_zero, List.set_cons_succ]
  refine Lex.step_take (.int .i64 3) te10 rfl (Lex.want_some rfl te6 rfl (b' := true) rfl rfl) (by intro Wx hSw; (try dsimp only at hSw); go_simp; (try (first | (with_reducible rfl) | assumption | rfl))) ?_
  simp only [Act.put, List.setIfInBounds_toArray, List.set_cons_zero, List.set_cons_succ]
  refine Lex.step_take (.int .u8 3) te11 rfl (Lex.want_some rfl te6 rfl (b' := true) rfl rfl) (by intro Wx hSw; (try dsimp only at hSw); go_simp; (try (first | (with_reducible rfl) | assumption | rfl))) ?_
  simp only [Act.put, List.setIfInBounds_toArray, List.set_cons_zero, List.set_cons_succ]
  refine Lex.step_take (.bool true) te12 rfl (Lex.want_some rfl te6 rfl (b' := true) rfl rfl) (by intro Wx hSw; (try dsimp only at hSw); go_simp; (try (first | (with_reducible rfl) | assumption | rfl))) ?_
  simp only [Act.put, List.setIfInBounds_toArray, List.set_cons_zero, List.set_cons_succ]
  refine Lex.step_take (.bool true) te13 rfl (Lex.want_none rfl) (by intro Wx hSw; (try dsimp only at hSw); go_simp; (try (first | (with_reducible rfl) | assumption | rfl))) ?_
  simp only [Act.put, List.setIfInBounds_toArray, List.set_cons_zero, List.set_cons_succ]
  refine Lex.step_take (.bool true) te14 rfl (Lex.want_none rfl) (by intro Wx hSw; (try dsimp only at hSw); go_simp; (try (first | (with_reducible rfl) | assumption | rfl))) ?_
  simp only [Act.put, List.setIfInBounds_toArray, List.set_cons_zero, List.set_cons_succ]
  refine Lex.step_take (.agg #[.int .i64 0, .int .i64 0, .string ⟨#[]⟩]) te15 rfl (Lex.want_some rfl te14 rfl (b' := true) rfl rfl) (by intro Wx hSw; (try dsimp only at hSw); go_simp; (try (first | (with_reducible rfl) | assumption | rfl))) ?_
  simp only [Act.put, List.setIfInBounds_toArray, List.set_cons_zero, List.set_cons_succ]
  refine Lex.step_call te16 rfl (Lex.want_some rfl te14 rfl (b' := true) rfl rfl) (fun K hK => ?_)
  go_simp
  refine (kPrint ⟨0, 0, ⟨#[]⟩⟩ _ ok3 rg3 pr3 _).mono ?_
  rintro e y1 ⟨rfl, hy1⟩
  have ha := ha.below hy1 ha.lt
  have hz := hz.below hy1 hz.lt
  have hB := hB.trans (hy1.mono hB.size)
  clear hy1
  refine hK.out _ _ _ (fun _ h => h) (And.intro (And.intro ha.c0 (And.intro ha.c1 ha.c2)) (And.intro hz.c0 (And.intro hz.c1 hz.c2))) ?_
  clear hK K
  try simp only [Act.put, List.setIfInBounds_toArray, List.set_cons_zero, List.set_cons_succ]
  refine Lex.step_take (.int .i64 1) te17 rfl (Lex.want_some rfl te14 rfl (b' := true) rfl rfl) (by intro Wx hSw; (try dsimp only at hSw); go_simp; (try (first | (with_reducible rfl) | assumption | rfl))) ?_
  simp only [Act.put, List.setIfInBounds_toArray, List.set_cons_zero, List.set_cons_succ]
  refine Lex.step_take (.bool true) te18 rfl (Lex.want_some rfl te14 rfl (b' := true) rfl rfl) (by intro Wx hSw; (try dsimp only at hSw); go_simp; (try (first | (with_reducible rfl) | assumption | rfl))) ?_
  simp only [Act.put, List.setIfInBounds_toArray, List.set_cons_zero, List.set_cons_succ]
  refine Lex.step_take (.bool true) te19 rfl (Lex.want_none rfl) (by intro Wx hSw; (try dsimp only at hSw); go_simp; (try (first | (with_reducible rfl) | assumption | rfl))) ?_
  simp only [Act.put, List.setIfInBounds_toArray, List.set_cons_zero, List.set_cons_succ]
  refine Lex.step_take (.bool true) te20 rfl (Lex.want_none rfl) (by intro Wx hSw; (try dsimp only at hSw); go_simp; (try (first | (with_reducible rfl) | assumption | rfl))) ?_
  simp only [Act.put, List.setIfInBounds_toArray, List.set_cons_zero, List.set_cons_succ]
  refine Lex.step_take (.agg #[.int .i64 3, .int .i64 0, .string s]) te21 rfl (Lex.want_some rfl te20 rfl (b' := true) rfl rfl) (by intro Wx hSw; (try dsimp only at hSw); go_simp; (try (first | (with_reducible rfl) | assumption | rfl))) ?_
  simp only [Act.put, List.setIfInBounds_toArray, List.set_cons_zero, List.set_cons_succ]
  refine Lex.step_take (.agg #[.int .i64 0, .int .i64 0, .string ⟨#[]⟩]) te22 rfl (Lex.want_some rfl te20 rfl (b' := true) rfl rfl) (by intro Wx hSw; (try dsimp only at hSw); go_simp; (try (first | (with_reducible rfl) | assumption | rfl))) ?_
  simp only [Act.put, List.setIfInBounds_toArray, List.set_cons_zero, List.set_cons_succ]
  refine Lex.step_take (.bool false) te23 rfl (Lex.want_some rfl te20 rfl (b' := true) rfl rfl) (by intro Wx hSw; (try dsimp only at hSw); go_simp; (try (first | (with_reducible rfl) | assumption | rfl))) ?_
  simp only [Act.put, List.setIfInBounds_toArray, List.set_cons_zero, List.set_cons_succ]
  refine Lex.step_take (.bool false) te24 rfl (Lex.want_some rfl te20 rfl (b' := true) rfl rfl) (by intro Wx hSw; (try dsimp only at hSw); go_simp; (try (first | (with_reducible rfl) | assumption | rfl))) ?_
  simp only [Act.put, List.setIfInBounds_toArray, List.set_cons_zero, List.set_cons_succ]
  refine Lex.step_take (.agg #[.int .i64 0, .int .i64 0, .string ⟨#[]⟩]) te25 rfl (Lex.want_some rfl te24 rfl (b' := false) rfl rfl) (by intro Wx hSw; (try dsimp only at hSw); go_simp; (try (first | (with_reducible rfl) | assumption | rfl))) ?_
  simp only [Act.put, List.setIfInBounds_toArray, List.set_cons_zero, List.set_cons_succ]
  refine Lex.step_take (.agg #[.int .i64 3, .int .i64 0, .string s]) te26 rfl (Lex.want_some rfl te24 rfl (b' := false) rfl rfl) (by intro Wx hSw; (try dsimp only at hSw); go_simp; (try (first | (with_reducible rfl) | assumption | rfl))) ?_
  simp only [Act.put, List.setIfInBounds_toArray, List.set_cons_zero, List.set_cons_succ]
  refine Lex.step_call te27 rfl (Lex.want_some rfl te24 rfl (b' := false) rfl rfl) (fun K hK => ?_)
  go_simp
  refine (kCmp ⟨0, 0, ⟨#[]⟩⟩ ⟨3, 0, s⟩ _ hcm _).mono ?_
  rintro e y2 ⟨rfl, hy2⟩
  have ha := ha.below hy2 ha.lt
  have hz := hz.below hy2 hz.lt
  have hB := hB.trans (hy2.mono hB.size)
  clear hy2
  refine hK.out _ _ _ (fun _ h => h) (And.intro (And.intro ha.c0 (And.intro ha.c1 ha.c2)) (And.intro hz.c0 (And.intro hz.c1 hz.c2))) ?_
  clear hK K
  try simp only [Act.put, List.setIfInBounds_toArray, List.set_cons_zero, List.set_cons_succ]
  refine Lex.step_take (.bool true) te28 rfl (Lex.want_some rfl te24 rfl (b' := false) rfl rfl) (by intro Wx hSw; (try dsimp only at hSw); go_simp; (try (first | (with_reducible rfl) | assumption | rfl))) ?_
  simp only [Act.put, List.setIfInBounds_toArray, List.set_cons_zero, List.set_cons_succ]
  refine Lex.step_take (.bool true) te29 rfl (Lex.want_some rfl te20 rfl (b' := true) rfl rfl) (by intro Wx hSw; (try dsimp only at hSw); go_simp; (try (first | (with_reducible rfl) | assumption | rfl))) ?_
  simp only [Act.put, List.setIfInBounds_toArray, List.set_cons_zero, List.set_cons_succ]
  refine Lex.step_take (.bool true) te30 rfl (Lex.want_none rfl) (by intro Wx hSw; (try dsimp only at hSw); go_simp; (try (first | (with_reducible rfl) | assumption | rfl))) ?_
  simp only [Act.put, List.setIfInBounds_toArray, List.set_cons_zero, List.set_cons_succ]
  refine Lex.step_take (.bool true) te31 rfl (Lex.want_none rfl) (by intro Wx hSw; (try dsimp only at hSw); go_simp; (try (first | (with_reducible rfl) | assumption | rfl))) ?_
  simp only [Act.put, List.setIfInBounds_toArray, List.set_cons_zero, List.set_cons_succ]
  refine Lex.step_take (.string x) te32 rfl (Lex.want_some rfl te31 rfl (b' := true) rfl rfl) (by intro Wx hSw; (try dsimp only at hSw); go_simp; (try (first | (with_reducible rfl) | assumption | rfl))) ?_
  simp only [Act.put, List.setIfInBounds_toArray, List.set_cons_zero, List.set_cons_succ]
  refine Lex.step_take (.int .i64 (x.size : Int)) te33 rfl (Lex.want_some rfl te31 rfl (b' := true) rfl rfl) (by intro Wx hSw; (try dsimp only at hSw); go_simp; (try (first | (with_reducible rfl) | assumption | rfl))) ?_
  simp only [Act.put, List.setIfInBounds_toArray, List.set_cons_zero, List.set_cons_succ]
  refine Lex.step_take (.bool false) te34 rfl (Lex.want_some rfl te31 rfl (b' := true) rfl rfl) (by intro Wx hSw; (try dsimp only at hSw); go_simp; (try (first | (with_reducible rfl) | assumption | rfl))) ?_
  simp only [Act.put, List.setIfInBounds_toArray, List.set_cons_zero, List.set_cons_succ]
  refine Lex.step_take (.agg #[.int .i64 3, .int .i64 0, .string s]) te35 rfl (Lex.want_some rfl te31 rfl (b' := true) rfl rfl) (by intro Wx hSw; (try dsimp only at hSw); go_simp; (try (first | (with_reducible rfl) | assumption | rfl))) ?_
  simp only [Act.put, List.setIfInBounds_toArray, List.set_cons_zero, List.set_cons_succ]
  refine Lex.step_take (.agg #[.int .i64 0, .int .i64 0, .string ⟨#[]⟩]) te36 rfl (Lex.want_some rfl te31 rfl (b' := true) rfl rfl) (by intro Wx hSw; (try dsimp only at hSw); go_simp; (try (first | (with_reducible rfl) | assumption | rfl))) ?_
  simp only [Act.put, List.setIfInBounds_toArray, List.set_cons_zero, List.set_cons_succ]
  refine Lex.step_take (.bool false) te37 rfl (Lex.want_some rfl te31 rfl (b' := true) rfl rfl) (by intro Wx hSw; (try dsimp only at hSw); go_simp; (try (first | (with_reducible rfl) | assumption | rfl))) ?_
  simp only [Act.put, List.setIfInBounds_toArray, List.set_cons_zero, List.set_cons_succ]
  refine Lex.step_take (.bool true) te38 rfl (Lex.want_some rfl te31 rfl (b' := true) rfl rfl) (by intro Wx hSw; (try dsimp only at hSw); go_simp; (try (first | (with_reducible rfl) | assumption | rfl))) ?_
  simp only [Act.put, List.setIfInBounds_toArray, List.set_cons_zero, List.set_cons_succ]
  refine Lex.step_take (.bool true) te39 rfl (Lex.want_none rfl) (by intro Wx hSw; (try dsimp only at hSw); go_simp; (try (first | (with_reducible rfl) | assumption | rfl))) ?_
  simp only [Act.put, List.setIfInBounds_toArray, List.set_cons_zero, List.set_cons_succ]
  refine Lex.step_take (.bool true) te40 rfl (Lex.want_none rfl) (by intro Wx hSw; (try dsimp only at hSw); go_simp; (try (first | (with_reducible rfl) | assumption | rfl))) ?_
  simp only [Act.put, List.setIfInBounds_toArray, List.set_cons_zero, List.set_cons_succ]
  refine NoPanic.normal ?_
  go_wp2
  go_ret
  exact ⟨rfl, hB⟩


set_option maxHeartbeats 800000 in
theorem nothing_any (a : V) (w : World) (oa : a.Ok) (hsa : a.s.size ≤ 9223372036854775807) : Calls Try.prog 7 #[a.v] w fun e w' => e = .returned (.bool true) ∧ Below w.heap.size w w' := by
  by_cases q1 : 100 < a.s.size
  · obtain ⟨k, n, s⟩ := a
    simp only at q1 hsa
    show Calls Try.prog 7 #[.agg #[.int .i64 k, .int .i64 n, .string s]] w _
    have hB := (Below.refl w.heap.size w).alloc (Nat.le_refl _) (.cells #[.int .i64 k, .int .i64 n, .string s] 23)
    go_enter Try.func7, Try.ntmps7
    go_wp2_with fail
    refine (awake_any _).mono ?_
    rintro e w2 ⟨rfl, hw2⟩
    have hB3 := hB.trans (hw2.mono hB.size)
    go_wp2
    go_ret
    exact ⟨rfl, hB3⟩
  · cases hr : rightV a with
    | false =>
      have hrr := fun W : World => kRight a false hr W
      clear hr
      obtain ⟨k, n, s⟩ := a
      simp only at q1 hsa
      show Calls Try.prog 7 #[.agg #[.int .i64 k, .int .i64 n, .string s]] w _
      have hB := (Below.refl w.heap.size w).alloc (Nat.le_refl _) (.cells #[.int .i64 k, .int .i64 n, .string s] 23)
      go_enter Try.func7, Try.ntmps7
      go_wp2_with fail
      refine (hrr _).mono ?_
      rintro e w2 ⟨rfl, hw2⟩
      have hB2 := hB.trans (hw2.mono hB.size)
      go_wp2_with fail
      refine (awake_any _).mono ?_
      rintro e w3 ⟨rfl, hw3⟩
      have hB3 := hB2.trans (hw3.mono hB2.size)
      go_wp2
      go_ret
      exact ⟨rfl, hB3⟩
    | true =>
      obtain ⟨k, n, s⟩ := a
      simp only at q1
      rcases right_parts hr with ⟨rfl, rfl, rfl⟩ | ⟨rfl, rfl⟩ | ⟨rfl, rfl⟩ | ⟨rfl, rfl, hs⟩
      · exact nothing_0 w oa (by omega) hr
      · exact nothing_1 n w oa (by omega) hr
      · exact nothing_2 n w oa (by omega) hr
      · exact nothing_3 s w oa (by omega) hr
end Go.Proofs.Ytnhejeppjhjnpaa.Va
