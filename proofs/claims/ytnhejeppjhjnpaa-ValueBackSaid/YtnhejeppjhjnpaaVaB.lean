/- Whether a value may be, which is ahead: the program's, walked. -/
import Derived.Test.YtnhejeppjhjnpaaVaA
import Derived.Test.YtnhejeppjhjnpaaXtf
namespace Go.Proofs.Ytnhejeppjhjnpaa.Va
open Go.RowKit Pac Lex

set_option maxHeartbeats 800000 in
theorem right_any (a : V) (w : World) : Calls Try.prog 9 #[a.v] w fun e w' => e = .returned (.bool (rightV a)) ∧ Below w.heap.size w w' := by
  obtain ⟨k, n, s⟩ := a
  have hR : rightV ⟨k, n, s⟩ = if k = 0 then (n == 0 && s.toList.isEmpty) else if k = 1 then s.toList.isEmpty else if k = 2 then ((n == 0 || n == 1) && s.toList.isEmpty) else if k = 3 then (n == 0 && decide ((s.size : Int) ≤ 60)) else false := rfl
  generalize rightV ⟨k, n, s⟩ = r at hR ⊢
  have HR := Lib.hid hR
  clear hR
  show Calls Try.prog 9 #[.agg #[.int .i64 k, .int .i64 n, .string s]] w _
  go_enter Try.func9, Try.ntmps9
  by_cases q0 : k = 0
  · subst q0
    by_cases p0 : n = 0
    · subst p0
      have HZ : Hid (r = s.toList.isEmpty) := Lib.hid (by have := HR.out; simpa using this)
      go_wp2
      go_ret
      exact ⟨by rw [HZ.out]; rfl, (Below.refl _ w).alloc (Nat.le_refl _) _⟩
    · have p1 : (n == 0) = false := beq_eq_false_iff_ne.2 p0
      have HZ : Hid (r = false) := Lib.hid (by have := HR.out; simpa [p1] using this)
      go_wp2
      go_ret
      exact ⟨by rw [HZ.out]; rfl, (Below.refl _ w).alloc (Nat.le_refl _) _⟩
  · by_cases q1 : k = 1
    · subst q1
      have HZ : Hid (r = s.toList.isEmpty) := Lib.hid (by have := HR.out; simpa using this)
      go_wp2
      go_ret
      exact ⟨by rw [HZ.out]; rfl, (Below.refl _ w).alloc (Nat.le_refl _) _⟩
    · by_cases q2 : k = 2
      · subst q2
        by_cases p0 : n = 0 ∨ n = 1
        · have HZ : Hid (r = s.toList.isEmpty) := Lib.hid (by have := HR.out; rcases p0 with rfl | rfl <;> simpa using this)
          rcases p0 with rfl | rfl
          all_goals
            go_wp2
            go_ret
            exact ⟨by rw [HZ.out]; rfl, (Below.refl _ w).alloc (Nat.le_refl _) _⟩
        · have p1 : (n == 0) = false := beq_eq_false_iff_ne.2 (fun h => p0 (Or.inl h))
          have p2 : (n == 1) = false := beq_eq_false_iff_ne.2 (fun h => p0 (Or.inr h))
          have HZ : Hid (r = false) := Lib.hid (by have := HR.out; simpa [p1, p2] using this)
          have p3 : n ≠ 0 := fun h => p0 (Or.inl h)
          have p4 : n ≠ 1 := fun h => p0 (Or.inr h)
          clear p0
          go_wp2
          go_ret
          exact ⟨by rw [HZ.out]; rfl, (Below.refl _ w).alloc (Nat.le_refl _) _⟩
      · by_cases q3 : k = 3
        · subst q3
          by_cases p0 : n = 0
          · subst p0
            have HZ : Hid (r = decide ((s.size : Int) ≤ 60)) := Lib.hid (by have := HR.out; simpa using this)
            go_wp2
            go_ret
            exact ⟨by rw [HZ.out]; rfl, (Below.refl _ w).alloc (Nat.le_refl _) _⟩
          · have p1 : (n == 0) = false := beq_eq_false_iff_ne.2 p0
            have HZ : Hid (r = false) := Lib.hid (by have := HR.out; simpa [p1] using this)
            go_wp2
            go_ret
            exact ⟨by rw [HZ.out]; rfl, (Below.refl _ w).alloc (Nat.le_refl _) _⟩
        · have e0 : (k == 0) = false := beq_eq_false_iff_ne.2 q0
          have e1 : (k == 1) = false := beq_eq_false_iff_ne.2 q1
          have e2 : (k == 2) = false := beq_eq_false_iff_ne.2 q2
          have e3 : (k == 3) = false := beq_eq_false_iff_ne.2 q3
          have HZ : Hid (r = false) := Lib.hid (by have := HR.out; simpa [q0, q1, q2, q3] using this)
          go_wp2
          go_ret
          exact ⟨by rw [HZ.out]; rfl, (Below.refl _ w).alloc (Nat.le_refl _) _⟩

/-- cmp.Compare at numbers. -/
def cmpI (x y : Int) : Int := if x < y then -1 else if y < x then 1 else 0
/-- cmp.Compare at texts. -/
def cmpT (x y : ByteArray) : Int := if Op.bytesLess x.toList y.toList = true then -1 else if Op.bytesLess y.toList x.toList = true then 1 else 0
/-- cmp.Or of three numbers. -/
def orI (x y z : Int) : Int := if x ≠ 0 then x else if y ≠ 0 then y else z

set_option maxHeartbeats 800000 in
theorem cmpI_any (x y : Int) (w : World) : Calls Try.prog 19 #[.int .i64 x, .int .i64 y] w fun e w' => e = .returned (.int .i64 (cmpI x y)) ∧ w' = w := by
  go_enter Try.func19, Try.ntmps19
  go_wp2
  all_goals (go_ret; refine ⟨?_, rfl⟩; unfold cmpI; (repeat' split) <;> first | rfl | (exfalso; omega))

set_option maxHeartbeats 800000 in
theorem cmpT_any (x y : ByteArray) (w : World) : Calls Try.prog 20 #[.string x, .string y] w fun e w' => e = .returned (.int .i64 (cmpT x y)) ∧ w' = w := by
  go_enter Try.func20, Try.ntmps20
  cases q0 : Op.bytesLess x.toList y.toList with
  | true =>
    have hR : cmpT x y = -1 := by unfold cmpT; rw [if_pos q0]
    generalize cmpT x y = r at hR ⊢
    have HR := Lib.hid hR
    clear hR
    go_wp2
    go_ret
    exact ⟨by rw [HR.out]; rfl, rfl⟩
  | false =>
    cases q1 : Op.bytesLess y.toList x.toList with
    | true =>
      have hR : cmpT x y = 1 := by unfold cmpT; rw [if_neg (by simp [q0]), if_pos q1]
      have q2 : (x.toList == y.toList) = false := by
        cases q : (x.toList == y.toList) with
        | false => rfl
        | true => rw [(less_same q).2] at q1; cases q1
      generalize cmpT x y = r at hR ⊢
      have HR := Lib.hid hR
      clear hR
      go_wp2
      go_ret
      exact ⟨by rw [HR.out]; rfl, rfl⟩
    | false =>
      have hR : cmpT x y = 0 := by unfold cmpT; rw [if_neg (by simp [q0]), if_neg (by simp [q1])]
      have q2 : (x.toList == y.toList) = true := beq_iff_eq.2 (less_total _ _ q0 q1)
      generalize cmpT x y = r at hR ⊢
      have HR := Lib.hid hR
      clear hR
      go_wp2
      go_ret
      exact ⟨by rw [HR.out]; rfl, rfl⟩

set_option maxHeartbeats 800000 in
theorem or_any (g : Nat) (x y z : Int) (w : World) (c0 : w.cell? ⟨g, 0, none⟩ = some (.int .i64 x)) (c1 : w.cell? ⟨g, 1, none⟩ = some (.int .i64 y)) (c2 : w.cell? ⟨g, 2, none⟩ = some (.int .i64 z)) :
    Calls Try.prog 18 #[.slice (some ⟨g, 0, none⟩) 3 3] w fun e w' => e = .returned (.int .i64 (orI x y z)) ∧ w' = w := by
  have hR : orI x y z = if x ≠ 0 then x else if y ≠ 0 then y else z := rfl
  generalize orI x y z = r at hR ⊢
  have HR := Lib.hid hR
  clear hR
  go_enter Try.func18, Try.ntmps18
  go_wp2
  go_loop [8] (fun i => i = .int .i64 0 ∨ (i = .int .i64 1 ∧ x = 0) ∨ (i = .int .i64 2 ∧ x = 0 ∧ y = 0) ∨ (i = .int .i64 3 ∧ x = 0 ∧ y = 0 ∧ z = 0))
              (fun i => 3 - (intOf i).toNat)
  case atStart => exact Or.inl rfl
  case round =>
    rcases hrel with rfl | ⟨rfl, hx⟩ | ⟨rfl, hx, hy⟩ | ⟨rfl, hx, hy, hz⟩
    · by_cases q : x = 0
      · subst q
        go_wp2
        go_round
        case rel => simp
        case measure => simp [intOf]
      · have p : (x != 0) = true := bne_iff_ne.2 q
        have HZ : Hid (r = x) := Lib.hid (by have := HR.out; rwa [if_pos q] at this)
        go_wp2
        go_ret
        exact ⟨by rw [HZ.out]; rfl, rfl⟩
    · subst hx
      by_cases q : y = 0
      · subst q
        go_wp2
        go_round
        case rel => simp
        case measure => simp [intOf]
      · have p : (y != 0) = true := bne_iff_ne.2 q
        have HZ : Hid (r = y) := Lib.hid (by have := HR.out; rwa [if_neg (by simp), if_pos q] at this)
        go_wp2
        go_ret
        exact ⟨by rw [HZ.out]; rfl, rfl⟩
    · subst hx
      subst hy
      by_cases q : z = 0
      · subst q
        go_wp2
        go_round
        case rel => simp
        case measure => simp [intOf]
      · have p : (z != 0) = true := bne_iff_ne.2 q
        have HZ : Hid (r = z) := Lib.hid (by have := HR.out; rwa [if_neg (by simp), if_neg (by simp)] at this)
        go_wp2
        go_ret
        exact ⟨by rw [HZ.out]; rfl, rfl⟩
    · subst hx
      subst hy
      subst hz
      have HZ : Hid (r = 0) := Lib.hid (by have := HR.out; rwa [if_neg (by simp), if_neg (by simp)] at this)
      go_wp2
      go_ret
      exact ⟨by rw [HZ.out]; rfl, rfl⟩

theorem or_cmp (k n k2 n2 : Int) (s s2 : ByteArray) : orI (cmpI k k2) (cmpI n n2) (cmpT s s2) = cmpV ⟨k, n, s⟩ ⟨k2, n2, s2⟩ := by
  have hT : cmpT s s2 = if (s.toList == s2.toList) = true then 0 else if Op.bytesLess s.toList s2.toList = true then -1 else 1 := by
    unfold cmpT
    by_cases q : (s.toList == s2.toList) = true
    · have h := less_same q
      rw [if_pos q, if_neg (by rw [h.1]; simp), if_neg (by rw [h.2]; simp)]
    · rw [if_neg q]
      by_cases q2 : Op.bytesLess s.toList s2.toList = true
      · rw [if_pos q2, if_pos q2]
      · rw [if_neg q2, if_neg q2, if_pos (less_flip (by simpa using q) (by simpa using q2))]
  unfold orI cmpV
  rw [hT]
  unfold cmpI
  by_cases q0 : k < k2
  · simp [q0]
  · by_cases q1 : k2 < k
    · simp [q0, q1]
    · by_cases q2 : n < n2
      · simp [q0, q1, q2]
      · by_cases q3 : n2 < n
        · simp [q0, q1, q2, q3]
        · simp [q0, q1, q2, q3]

set_option maxRecDepth 20000 in
set_option maxHeartbeats 1600000 in
theorem cmp_any (a b : V) (w : World) : Calls Try.prog 11 #[a.v, b.v] w fun e w' => e = .returned (.int .i64 (cmpV a b)) ∧ Below w.heap.size w w' := by
  obtain ⟨k, n, s⟩ := a
  obtain ⟨k2, n2, s2⟩ := b
  rw [← or_cmp]
  have hc1 := fun W : World => cmpI_any k k2 W
  have hc2 := fun W : World => cmpI_any n n2 W
  have hc3 := fun W : World => cmpT_any s s2 W
  generalize cmpI k k2 = x at hc1 ⊢
  generalize cmpI n n2 = y at hc2 ⊢
  generalize cmpT s s2 = z at hc3 ⊢
  have ho := fun (W : World) (g : Nat) => or_any g x y z W
  generalize orI x y z = r at ho ⊢
  show Calls Try.prog 11 #[.agg #[.int .i64 k, .int .i64 n, .string s], .agg #[.int .i64 k2, .int .i64 n2, .string s2]] w _
  have hB : Below w.heap.size w ((w.alloc (.cells #[.int .i64 k, .int .i64 n, .string s] 23)).alloc (.cells #[.int .i64 k2, .int .i64 n2, .string s2] 23)) := ((Below.refl _ w).alloc (Nat.le_refl _) _).alloc (by simp) _
  have e1 : ∀ i, ((w.alloc (.cells #[.int .i64 k, .int .i64 n, .string s] 23)).alloc (.cells #[.int .i64 k2, .int .i64 n2, .string s2] 23)).cell? ⟨w.heap.size, i, none⟩ = (w.alloc (.cells #[.int .i64 k, .int .i64 n, .string s] 23)).cell? ⟨w.heap.size, i, none⟩ := fun i => ((Below.refl (w.heap.size + 1) _).alloc (by simp) _).cell (p := ⟨w.heap.size, i, none⟩) (by simp)
  have a0 : ((w.alloc (.cells #[.int .i64 k, .int .i64 n, .string s] 23)).alloc (.cells #[.int .i64 k2, .int .i64 n2, .string s2] 23)).cell? ⟨w.heap.size, 0, none⟩ = some (.int .i64 k) := (e1 0).trans (by simp [go_sem])
  have a1 : ((w.alloc (.cells #[.int .i64 k, .int .i64 n, .string s] 23)).alloc (.cells #[.int .i64 k2, .int .i64 n2, .string s2] 23)).cell? ⟨w.heap.size, 1, none⟩ = some (.int .i64 n) := (e1 1).trans (by simp [go_sem])
  have a2 : ((w.alloc (.cells #[.int .i64 k, .int .i64 n, .string s] 23)).alloc (.cells #[.int .i64 k2, .int .i64 n2, .string s2] 23)).cell? ⟨w.heap.size, 2, none⟩ = some (.string s) := (e1 2).trans (by simp [go_sem])
  have b0 : ((w.alloc (.cells #[.int .i64 k, .int .i64 n, .string s] 23)).alloc (.cells #[.int .i64 k2, .int .i64 n2, .string s2] 23)).cell? ⟨w.heap.size + 1, 0, none⟩ = some (.int .i64 k2) := by simp [go_sem]
  have b1 : ((w.alloc (.cells #[.int .i64 k, .int .i64 n, .string s] 23)).alloc (.cells #[.int .i64 k2, .int .i64 n2, .string s2] 23)).cell? ⟨w.heap.size + 1, 1, none⟩ = some (.int .i64 n2) := by simp [go_sem]
  have b2 : ((w.alloc (.cells #[.int .i64 k, .int .i64 n, .string s] 23)).alloc (.cells #[.int .i64 k2, .int .i64 n2, .string s2] 23)).cell? ⟨w.heap.size + 1, 2, none⟩ = some (.string s2) := by simp [go_sem]
  clear e1
  go_enter Try.func11, Try.ntmps11
  go_wp2_with fail
  generalize ((w.alloc (.cells #[.int .i64 k, .int .i64 n, .string s] 23)).alloc (.cells #[.int .i64 k2, .int .i64 n2, .string s2] 23)) = W at hB a0 a1 a2 b0 b1 b2 ⊢
  have ha := Lib.hid (And.intro a0 (And.intro a1 (And.intro a2 (And.intro b0 (And.intro b1 b2)))))
  have hlt : w.heap.size + 1 < W.heap.size := World.block_lt_of_cell? W _ b0
  clear a0 a1 a2 b0 b1 b2
  generalize hq2 : w.heap.size + 1 = q2 at ha hlt ⊢
  have hq1 : w.heap.size < q2 := by omega
  clear hq2
  generalize hq1' : w.heap.size = q1 at ha hq1 ⊢
  have hqB : q1 ≤ W.heap.size := by omega
  clear hq1' 
  have ha := Lib.hid (show W.drew.cell? ⟨q1, 0, none⟩ = some (.int .i64 k) ∧ W.drew.cell? ⟨q1, 1, none⟩ = some (.int .i64 n) ∧ W.drew.cell? ⟨q1, 2, none⟩ = some (.string s) ∧ W.drew.cell? ⟨q2, 0, none⟩ = some (.int .i64 k2) ∧ W.drew.cell? ⟨q2, 1, none⟩ = some (.int .i64 n2) ∧ W.drew.cell? ⟨q2, 2, none⟩ = some (.string s2) from ha.out)
  have hn : ∀ (o : Obj), (W.alloc o).drew.cell? ⟨q1, 0, none⟩ = some (.int .i64 k) ∧ (W.alloc o).drew.cell? ⟨q1, 1, none⟩ = some (.int .i64 n) ∧ (W.alloc o).drew.cell? ⟨q1, 2, none⟩ = some (.string s) ∧ (W.alloc o).drew.cell? ⟨q2, 0, none⟩ = some (.int .i64 k2) ∧ (W.alloc o).drew.cell? ⟨q2, 1, none⟩ = some (.int .i64 n2) ∧ (W.alloc o).drew.cell? ⟨q2, 2, none⟩ = some (.string s2) := fun o => by
    have e : ∀ g i, g < W.heap.size → (W.alloc o).drew.cell? ⟨g, i, none⟩ = W.drew.cell? ⟨g, i, none⟩ := fun g i h => ((Below.refl W.heap.size W).alloc (Nat.le_refl _) o).cell (p := ⟨g, i, none⟩) h
    obtain ⟨h0, h1, h2, h3, h4, h5⟩ := ha.out
    have l1 : q1 < W.heap.size := by omega
    exact ⟨(e _ _ l1).trans h0, (e _ _ l1).trans h1, (e _ _ l1).trans h2, (e _ _ hlt).trans h3, (e _ _ hlt).trans h4, (e _ _ hlt).trans h5⟩
  refine Lex.region_lex (ops := tfops) (calls := tfcalls) tford (fun U => U.cell? ⟨q1, 0, none⟩ = some (.int .i64 k) ∧ U.cell? ⟨q1, 1, none⟩ = some (.int .i64 n) ∧ U.cell? ⟨q1, 2, none⟩ = some (.string s) ∧ U.cell? ⟨q2, 0, none⟩ = some (.int .i64 k2) ∧ U.cell? ⟨q2, 1, none⟩ = some (.int .i64 n2) ∧ U.cell? ⟨q2, 2, none⟩ = some (.string s2)) (by kernel_rfl) (by kernel_rfl) tfsel (by kernel_rfl) (by kernel_rfl) tflex (ha.out) ?_
  unfold tford
  refine Lex.step_take (.pointer (some ⟨q1, 0, none⟩)) tf0 rfl (Lex.want_none rfl) (by intro Wx hSw; (try dsimp only at hSw); go_simp; (try (first | (with_reducible rfl) | assumption | rfl))) ?_
  simp only [Act.put, List.setIfInBounds_toArray, List.set_cons_zero, List.set_cons_succ]
  refine Lex.step_take (.int .i64 k) tf1 rfl (Lex.want_none rfl) (by intro Wx hSw; (try dsimp only at hSw); go_simp; (try (first | (with_reducible rfl) | assumption | rfl))) ?_
  simp only [Act.put, List.setIfInBounds_toArray, List.set_cons_zero, List.set_cons_succ]
  refine Lex.step_take (.pointer (some ⟨q2, 0, none⟩)) tf2 rfl (Lex.want_none rfl) (by intro Wx hSw; (try dsimp only at hSw); go_simp; (try (first | (with_reducible rfl) | assumption | rfl))) ?_
  simp only [Act.put, List.setIfInBounds_toArray, List.set_cons_zero, List.set_cons_succ]
  refine Lex.step_take (.int .i64 k2) tf3 rfl (Lex.want_none rfl) (by intro Wx hSw; (try dsimp only at hSw); go_simp; (try (first | (with_reducible rfl) | assumption | rfl))) ?_
  simp only [Act.put, List.setIfInBounds_toArray, List.set_cons_zero, List.set_cons_succ]
  refine Lex.step_take (.pointer (some ⟨q1, 1, none⟩)) tf5 rfl (Lex.want_none rfl) (by intro Wx hSw; (try dsimp only at hSw); go_simp; (try (first | (with_reducible rfl) | assumption | rfl))) ?_
  simp only [Act.put, List.setIfInBounds_toArray, List.set_cons_zero, List.set_cons_succ]
  refine Lex.step_take (.int .i64 n) tf6 rfl (Lex.want_none rfl) (by intro Wx hSw; (try dsimp only at hSw); go_simp; (try (first | (with_reducible rfl) | assumption | rfl))) ?_
  simp only [Act.put, List.setIfInBounds_toArray, List.set_cons_zero, List.set_cons_succ]
  refine Lex.step_take (.pointer (some ⟨q2, 1, none⟩)) tf7 rfl (Lex.want_none rfl) (by intro Wx hSw; (try dsimp only at hSw); go_simp; (try (first | (with_reducible rfl) | assumption | rfl))) ?_
  simp only [Act.put, List.setIfInBounds_toArray, List.set_cons_zero, List.set_cons_succ]
  refine Lex.step_take (.int .i64 n2) tf8 rfl (Lex.want_none rfl) (by intro Wx hSw; (try dsimp only at hSw); go_simp; (try (first | (with_reducible rfl) | assumption | rfl))) ?_
  simp only [Act.put, List.setIfInBounds_toArray, List.set_cons_zero, List.set_cons_succ]
  refine Lex.step_take (.pointer (some ⟨q1, 2, none⟩)) tf10 rfl (Lex.want_none rfl) (by intro Wx hSw; (try dsimp only at hSw); go_simp; (try (first | (with_reducible rfl) | assumption | rfl))) ?_
  simp only [Act.put, List.setIfInBounds_toArray, List.set_cons_zero, List.set_cons_succ]
  refine Lex.step_take (.string s) tf11 rfl (Lex.want_none rfl) (by intro Wx hSw; (try dsimp only at hSw); go_simp; (try (first | (with_reducible rfl) | assumption | rfl))) ?_
  simp only [Act.put, List.setIfInBounds_toArray, List.set_cons_zero, List.set_cons_succ]
  refine Lex.step_take (.pointer (some ⟨q2, 2, none⟩)) tf12 rfl (Lex.want_none rfl) (by intro Wx hSw; (try dsimp only at hSw); go_simp; (try (first | (with_reducible rfl) | assumption | rfl))) ?_
  simp only [Act.put, List.setIfInBounds_toArray, List.set_cons_zero, List.set_cons_succ]
  refine Lex.step_take (.string s2) tf13 rfl (Lex.want_none rfl) (by intro Wx hSw; (try dsimp only at hSw); go_simp; (try (first | (with_reducible rfl) | assumption | rfl))) ?_
  simp only [Act.put, List.setIfInBounds_toArray, List.set_cons_zero, List.set_cons_succ]
  refine Lex.step_call tf4 rfl (Lex.want_none rfl) (fun K hK => ?_)
  go_simp
  refine (hc1 _).mono ?_
  rintro e y1 ⟨rfl, rfl⟩
  refine hK.out _ _ _ (fun _ h => h) ha.out ?_
  clear hK K
  try simp only [Act.put, List.setIfInBounds_toArray, List.set_cons_zero, List.set_cons_succ]
  refine Lex.step_call tf9 rfl (Lex.want_none rfl) (fun K hK => ?_)
  go_simp
  refine (hc2 _).mono ?_
  rintro e y1 ⟨rfl, rfl⟩
  refine hK.out _ _ _ (fun _ h => h) ha.out ?_
  clear hK K
  try simp only [Act.put, List.setIfInBounds_toArray, List.set_cons_zero, List.set_cons_succ]
  refine Lex.step_call tf14 rfl (Lex.want_none rfl) (fun K hK => ?_)
  go_simp
  refine (hc3 _).mono ?_
  rintro e y1 ⟨rfl, rfl⟩
  refine hK.out _ _ _ (fun _ h => h) ha.out ?_
  clear hK K
  try simp only [Act.put, List.setIfInBounds_toArray, List.set_cons_zero, List.set_cons_succ]
  refine Lex.step_call tf15 rfl (Lex.want_none rfl) (fun K hK => ?_)
  go_simp
  refine hK.out _ _ _ (fun _ h => h) (hn _) ?_
  clear hK K
  try simp only [Act.put, List.setIfInBounds_toArray, List.set_cons_zero, List.set_cons_succ]
  refine Lex.step_call tf16 rfl (Lex.want_none rfl) (fun K hK => ?_)
  go_simp
  refine (ho _ _ (by simp [go_sem]) (by simp [go_sem]) (by simp [go_sem])).mono ?_
  rintro e y1 ⟨rfl, rfl⟩
  refine hK.out _ _ _ (fun _ h => h) (hn _) ?_
  clear hK K
  try simp only [Act.put, List.setIfInBounds_toArray, List.set_cons_zero, List.set_cons_succ]
  refine Lex.step_take (.int .i64 r) tf17 rfl (Lex.want_none rfl) (by intro Wx hSw; (try dsimp only at hSw); go_simp; (try (first | (with_reducible rfl) | assumption | rfl))) ?_
  simp only [Act.put, List.setIfInBounds_toArray, List.set_cons_zero, List.set_cons_succ]
  refine NoPanic.normal ?_
  go_wp2
  go_ret
  exact ⟨rfl, (hB.alloc hB.size _).drew⟩
end Go.Proofs.Ytnhejeppjhjnpaa.Va
