/- Rows of entries of one's own: a store, a cut, clear, copies; put as 'the first that is ahead'. -/
import Derived.Test.YtocmkjccaajnnaaMgU
import Derived.Laws.OwnMore
import Derived.Laws.CopyRow
namespace Go.Proofs.Ytocmkjccaajnnaa.Bu
open Go.RowKit Pac Ls

/-- The slice v owns a row that holds these. -/
abbrev OwnE (w : World) (base : Nat) (v : Value) (n : Nat) (l : List E) : Prop := w.ownsRow base 51 3 v n (Li.cellsL cellsE l)
theorem cellsE_cons (x : E) (l : List E) : Li.cellsL cellsE (x :: l) = .string x.key :: .int .i64 x.t :: .int .i64 x.s :: Li.cellsL cellsE l := rfl
theorem cellsE_app (a b : List E) : Li.cellsL cellsE (a ++ b) = Li.cellsL cellsE a ++ Li.cellsL cellsE b := by unfold Li.cellsL; rw [List.flatMap_append]
theorem cellsE_size (l : List E) : (Li.cellsL cellsE l).length = l.length * 3 := Li.cellsL_len cellsE_len l
theorem cellsE_one : ∀ (l : List E), ∀ v ∈ Li.cellsL cellsE l, v.oneCell' = true
  | [], v, h => by cases h
  | x :: l, v, h => by
    rw [cellsE_cons] at h
    rcases List.mem_cons.1 h with rfl | h
    · rfl
    rcases List.mem_cons.1 h with rfl | h
    · rfl
    rcases List.mem_cons.1 h with rfl | h
    · rfl
    exact cellsE_one l v h
theorem cellsE_set : ∀ (l : List E) (q : Nat) (e : E), (((Li.cellsL cellsE l).set (q * 3) (.string e.key)).set (q * 3 + 1) (.int .i64 e.t)).set (q * 3 + 2) (.int .i64 e.s) = Li.cellsL cellsE (l.set q e)
  | [], q, e => rfl
  | x :: l, 0, e => rfl
  | x :: l, q + 1, e => by
    have h : (q + 1) * 3 = q * 3 + 1 + 1 + 1 := by omega
    rw [h]
    show Value.string x.key :: .int .i64 x.t :: .int .i64 x.s :: (((Li.cellsL cellsE l).set (q * 3) (.string e.key)).set (q * 3 + 1) (.int .i64 e.t)).set (q * 3 + 2) (.int .i64 e.s) = _
    rw [cellsE_set l q e]
    rfl
theorem cellsE_take : ∀ (l : List E) (q : Nat), (Li.cellsL cellsE l).take (q * 3) = Li.cellsL cellsE (l.take q)
  | l, 0 => by simp [Li.cellsL]
  | [], q + 1 => by simp [Li.cellsL]
  | x :: l, q + 1 => by
    have h : (q + 1) * 3 = q * 3 + 1 + 1 + 1 := by omega
    rw [h, List.take_succ_cons, cellsE_cons, cellsE_cons, ← cellsE_take l q]
    rfl
theorem cellsE_drop : ∀ (l : List E) (q : Nat), (Li.cellsL cellsE l).drop (q * 3) = Li.cellsL cellsE (l.drop q)
  | l, 0 => by simp
  | [], q + 1 => by simp [Li.cellsL]
  | x :: l, q + 1 => by
    have h : (q + 1) * 3 = q * 3 + 1 + 1 + 1 := by omega
    rw [h, List.drop_succ_cons, cellsE_cons, ← cellsE_drop l q]
    rfl
section
variable {w : World} {base g n cp : Nat} {l : List E}
/-- The row itself. -/
theorem own_row (h : OwnE w base (.slice (some ⟨g, 0, none⟩) n cp) n l) : ∃ cur : Array Value, base ≤ g ∧ w.heap[g]? = some (.cells cur 51 (0, 0)) ∧ n ≤ cp ∧ cp ≤ maxLen ∧ cur.size = cp * 3 ∧ cur.toList.take (n * 3) = Li.cellsL cellsE l ∧ (Li.cellsL cellsE l).length = n * 3 := by
  rcases h.2 with ⟨h', _⟩ | ⟨g', cap', cur, h', hb, hg, hnc, hcm, hcs, htake⟩
  · simp at h'
  · simp only [Value.slice.injEq, Option.some.injEq, Addr.mk.injEq, and_true, true_and] at h'
    obtain ⟨rfl, rfl⟩ := h'
    exact ⟨cur, hb, hg, hnc, hcm, hcs, htake, h.1⟩
theorem own_of_row {cur : Array Value} (hb : base ≤ g) (hg : w.heap[g]? = some (.cells cur 51 (0, 0))) (hnc : n ≤ cp) (hcm : cp ≤ maxLen) (hcs : cur.size = cp * 3) (hn : l.length = n) (ht : cur.toList.take (n * 3) = Li.cellsL cellsE l) : OwnE w base (.slice (some ⟨g, 0, none⟩) n cp) n l :=
  ⟨by rw [cellsE_size, hn], .inr ⟨g, cp, cur, rfl, hb, hg, hnc, hcm, hcs, ht⟩⟩
theorem own_at (h : OwnE w base (.slice (some ⟨g, 0, none⟩) n cp) n l) {q : Nat} {e : E} (hq : l[q]? = some e) :
    w.cell? ⟨g, q * 3, none⟩ = some (.string e.key) ∧ w.cell? ⟨g, q * 3 + 1, none⟩ = some (.int .i64 e.t) ∧ w.cell? ⟨g, q * 3 + 2, none⟩ = some (.int .i64 e.s) := by
  have hl := h.1
  rw [cellsE_size] at hl
  have hql := (List.getElem?_eq_some_iff.1 hq).1
  have hqn : q < n := by omega
  exact ⟨(h.cellAt (q * 3) (by omega)).trans (Li.cellsL_at cellsE_len l q e hq 0 _ rfl), (h.cellAt (q * 3 + 1) (by omega)).trans (Li.cellsL_at cellsE_len l q e hq 1 _ rfl), (h.cellAt (q * 3 + 2) (by omega)).trans (Li.cellsL_at cellsE_len l q e hq 2 _ rfl)⟩
theorem own_storeE (h : OwnE w base (.slice (some ⟨g, 0, none⟩) n cp) n l) (q : Nat) (e : E) :
    OwnE (((w.setCell ⟨g, q * 3, none⟩ (.string e.key)).setCell ⟨g, q * 3 + 1, none⟩ (.int .i64 e.t)).setCell ⟨g, q * 3 + 2, none⟩ (.int .i64 e.s)) base (.slice (some ⟨g, 0, none⟩) n cp) n (l.set q e) := by
  have h3 := ((((h.stored (q * 3) (.string e.key)).1.stored (q * 3 + 1) (.int .i64 e.t)).1.stored (q * 3 + 2) (.int .i64 e.s))).1
  rw [cellsE_set] at h3
  exact h3
theorem own_weak {v : Value} {base' : Nat} (h : OwnE w base v n l) (hb : base' ≤ base) : OwnE w base' v n l := by
  refine ⟨h.1, ?_⟩
  rcases h.2 with h2 | ⟨k, cap, cur, e1, e2, r⟩
  · exact Or.inl h2
  · exact Or.inr ⟨k, cap, cur, e1, Nat.le_trans hb e2, r⟩
theorem grown_below {w w' : World} {base g : Nat} (hg : w.grownBy w' (some g)) (hb : base ≤ g) (hs : base ≤ w.heap.size) : Below base w w' :=
  (Below.refl base w).grown hg hs (fun k hk => by injection hk with hk; omega)
theorem setRow_grown (w : World) (g : Nat) (cs : Array Value) : w.grownBy (w.setRow g cs) (some g) :=
  ⟨rfl, rfl, rfl, by simp [World.setRow], fun k _ hk => setRow_other w g k cs (fun e => hk (by rw [e]))⟩
/-- 'clear(s[i:])'. -/
theorem run_clearE (h : OwnE w base (.slice (some ⟨g, 0, none⟩) n cp) n l) {i : Nat} (hi : i < n) :
    ∃ w', (∀ (ty : TypeId) (c : Nat), (Builtin.clear_ #[42] ty #[.slice (some ⟨g, i * 3, none⟩) (n - i) c]).run Try.prog w = .ok (.tuple #[]) w') ∧ OwnE w' base (.slice (some ⟨g, 0, none⟩) i cp) i (l.take i) ∧ w.grownBy w' (some g) := by
  obtain ⟨iE, hiE, hv0, hv1, hv2⟩ := info_parts infoE
  obtain ⟨cur, hb, hg, hnc, hcm, hcs, ht, hl⟩ := own_row h
  have hll := hl
  rw [cellsE_size] at hll
  have hz : ∀ W : World, (zeroValue 51).run Try.prog W = .ok (.agg #[.string ⟨#[]⟩, .int .i64 0, .int .i64 0]) W := fun W => by
    simp [zeroValue, typeInfo, hiE, hv0]
  obtain ⟨m, hm⟩ : ∃ m, n - i = m + 1 := ⟨n - i - 1, by omega⟩
  obtain ⟨zs, hzs⟩ : ∃ zs, zs = (Builtin.zeroCells (Value.agg #[.string ⟨#[]⟩, .int .i64 0, .int .i64 0]).cells (m + 1)).toList := ⟨_, rfl⟩
  have hzl : zs.length = (m + 1) * 3 := by rw [hzs, Array.length_toList, size_zeroCells]; rfl
  have hz1 : ∀ v ∈ zs, v.oneCell' = true := by
    intro v hv
    rw [hzs] at hv
    simp only [Builtin.zeroCells, Array.toList_map, List.mem_map] at hv
    obtain ⟨j, _, rfl⟩ := hv
    have hc : (Value.agg #[.string ⟨#[]⟩, .int .i64 0, .int .i64 0]).cells = #[.string ⟨#[]⟩, .int .i64 0, .int .i64 0] := rfl
    have h3 : (j : Nat) % 3 < 3 := Nat.mod_lt _ (by omega)
    rw [hc]
    show (#[Value.string ⟨#[]⟩, .int .i64 0, .int .i64 0] : Array Value)[(j : Nat) % 3]!.oneCell' = true
    match (j : Nat) % 3, h3 with
    | 0, _ => rfl
    | 1, _ => rfl
    | 2, _ => rfl
  have hst := run_storeCells_at Try.prog g (i * 3) 51 zs 0 cur w hg (by rw [hzl]; omega) hz1
  simp only [Nat.add_zero] at hst
  obtain ⟨nw, hnw⟩ : ∃ nw : List Value, nw = cur.toList.take (i * 3) ++ zs ++ cur.toList.drop (i * 3 + zs.length) := ⟨_, rfl⟩
  rw [← hnw] at hst
  refine ⟨w.setRow g nw.toArray, fun ty c => ?_, own_of_row hb (setRow_heap w g cur nw.toArray _ _ hg) (by omega) hcm ?_ (by rw [List.length_take]; omega) ?_, setRow_grown w g _⟩
  · rw [hm]
    simp only [Builtin.clear_]
    simp [run_underlying Try.underlying42, hz]
    rw [← hzs, hst]
    simp
  · rw [hnw]
    simp only [List.size_toArray, List.length_append, List.length_take, List.length_drop, Array.length_toList, hzl]
    omega
  · show nw.take (i * 3) = _
    rw [hnw]
    have hlt : (cur.toList.take (i * 3)).length = i * 3 := by rw [List.length_take, Array.length_toList]; omega
    rw [List.append_assoc, List.take_append_of_le_length (by omega), List.take_of_length_le (by omega), ← cellsE_take, ← ht, List.take_take]
    congr 1
    omega
end
/-- 'copy(d, s)', elements of k cells each. -/
theorem run_copy_rows {P : Program} (w : World) (dT sT ty elem : TypeId) (k g o dLen dCap : Nat) (a : Addr) (sLen sCap : Nat) (cur : Array Value) (t : TypeId) (cs : List Value)
    (hu : P.underlying dT = some (.slice elem)) (hs : (P.info? elem).map (·.size) = some k)
    (hg : w.heap[g]? = some (.cells cur t (0, 0))) (hn : cs.length = Nat.min sLen dLen * k)
    (hsrc : ∀ j v, cs[j]? = some v → w.cell? (a.add j) = some v) (hfit : o + cs.length ≤ cur.size) (h1 : ∀ v ∈ cs, v.oneCell' = true) :
    (Builtin.copy_ #[dT, sT] ty #[.slice (some ⟨g, o, none⟩) dLen dCap, .slice (some a) sLen sCap]).run P w =
      .ok (goInt (Nat.min sLen dLen)) (w.setRow g (cur.toList.take o ++ cs ++ cur.toList.drop (o + cs.length)).toArray) := by
  have hl := run_loadCells_list (P := P) w a cs hsrc
  have hst := run_storeCells_at P g o t cs 0 cur w hg (by simpa using hfit) h1
  simp only [Nat.add_zero] at hst
  cases hq : P.info? elem with
  | none => simp [hq] at hs
  | some i =>
    have hi : i.size = k := by simpa [hq] using hs
    simp [Builtin.copy_, run_underlying hu, Builtin.lenOf, Builtin.firstCells, sizeOf, typeInfo, hq, hi, ← hn, hl, hst]
/-- Put is: drop, then in ahead of the first that is ahead. -/
theorem drop_self : ∀ {l : List E} {k : List UInt8}, (∀ x ∈ l, lt k x.k) → dropL l k = l := by
  intro l k h
  unfold dropL
  rw [List.filter_eq_self]
  intro x hx
  have := lt_ne (h x hx)
  simpa using fun e => this e.symm
theorem put_first : ∀ {l : List E} {e : E} {k : Nat}, Rises l → k ≤ (dropL l e.k).length → (∀ y ∈ (dropL l e.k).take k, ¬ lt e.k y.k) → (∀ x, (dropL l e.k)[k]? = some x → lt e.k x.k) → (dropL l e.k).take k ++ e :: (dropL l e.k).drop k = putL l e
  | [], e, k, _, hk, _, _ => by
    have : k = 0 := by simpa [dropL] using hk
    subst this
    rfl
  | x :: l, e, k, hr, hk, hn, hx => by
    have hr' := List.pairwise_cons.1 hr
    unfold putL
    by_cases h1 : lt x.k e.k
    · rw [if_pos h1]
      have hd : dropL (x :: l) e.k = x :: dropL l e.k := by
        unfold dropL
        rw [List.filter_cons_of_pos (by simpa using lt_ne h1)]
      rw [hd] at hk hn hx ⊢
      match k, hk, hn, hx with
      | 0, _, _, hx => exact absurd (hx x rfl) (lt_asymm h1)
      | k + 1, hk, hn, hx =>
        have h := put_first (l := l) (e := e) (k := k) hr'.2 (by simpa using hk) (fun y hy => hn y (by rw [List.take_succ_cons]; exact List.mem_cons_of_mem _ hy)) (fun y hy => hx y (by simpa using hy))
        rw [← h]
        rfl
    · rw [if_neg h1]
      by_cases h2 : x.k = e.k
      · rw [if_pos h2]
        have hd : dropL (x :: l) e.k = l := by
          have : dropL (x :: l) e.k = dropL l e.k := by
            unfold dropL
            rw [List.filter_cons_of_neg (by simpa using h2)]
          rw [this, drop_self fun y hy => by rw [← h2]; exact hr'.1 y hy]
        rw [hd] at hk hn hx ⊢
        match k, l, hk, hn, hx, hr' with
        | 0, l, _, _, _, _ => rfl
        | k + 1, [], hk, _, _, _ => simp at hk
        | k + 1, y :: l, _, hn, _, hr' => exact absurd (by rw [← h2]; exact hr'.1 y (by simp)) (hn y (by simp))
      · rw [if_neg h2]
        have h3 : lt e.k x.k := by
          rcases lt_total x.k e.k with h | h | h
          · exact absurd h h1
          · exact absurd h h2
          · exact h
        have hd : dropL (x :: l) e.k = x :: l := drop_self fun y hy => by
          rcases List.mem_cons.1 hy with rfl | hy
          · exact h3
          · exact lt_trans h3 (hr'.1 y hy)
        rw [hd] at hk hn hx ⊢
        match k, hk, hn, hx with
        | 0, _, _, _ => rfl
        | k + 1, _, hn, _ => exact absurd h3 (hn x (by simp))
end Go.Proofs.Ytocmkjccaajnnaa.Bu
