/- slices.Insert of one entry into a row of one's own: where there is no room; all ways. -/
import Derived.Test.YtocmkjccaajnnaaBpD
namespace Go.Proofs.Ytocmkjccaajnnaa.Bu
open Go.RowKit Pac Ls

section
variable {w : World} {base g n cp i vb : Nat} {l : List E} {v : Value}
set_option maxRecDepth 20000 in
set_option maxHeartbeats 3200000 in
/-- In the middle, where there is no room. -/
theorem insert_grow (e : E) (hl : OwnE w base (.slice (some ⟨g, 0, none⟩) n cp) n l) (hn : l.length = n) (hi : i < n) (hroom : cp < n + 1) (h9 : n ≤ 100000) (hB9 : base ≤ w.heap.size)
    (hv : w.heap[vb]? = some (.cells #[.string e.key, .int .i64 e.t, .int .i64 e.s] 51 (0, 0))) :
    Calls Try.prog 47 #[.slice (some ⟨g, 0, none⟩) n cp, .int .i64 i, .slice (some ⟨vb, 0, none⟩) 1 1] w (InsPost base (l.take i ++ e :: l.drop i) w) := by
  obtain ⟨iE, hiE, hv0, hv1, hv2⟩ := info_parts infoE
  obtain ⟨hR, hncp⟩ := row_of_own hl
  have hgw : g < w.heap.size := (hl.lt g rfl).2
  have hvw : vb < w.heap.size := (Array.getElem?_eq_some_iff.1 hv).1
  have hcs := cellsE_size l
  rw [hn] at hcs
  have hdl : (Li.cellsL cellsE (l.drop i)).length = (n - i) * 3 := by rw [cellsE_size, List.length_drop, hn]
  have htl : (Li.cellsL cellsE (l.take i)).length = i * 3 := by rw [cellsE_size, List.length_take]; omega
  have hold : (Builtin.firstCells iE.size i (.slice (some ⟨g, 0, none⟩) i cp)).run Try.prog w.drew = .ok (Li.cellsL cellsE (l.take i)).toArray w.drew := by
    rw [hv1]
    exact run_firstCells_some w.drew 3 i ⟨g, 0, none⟩ i cp (Li.cellsL cellsE (l.take i)) htl (fun j u hj => by
      rw [Addr.add_lit, Nat.zero_add]
      rw [← cellsE_take, List.getElem?_take] at hj
      split at hj
      · have hjl := (List.getElem?_eq_some_iff.1 hj).1
        exact (hl.cellAt j (by omega)).trans hj
      · cases hj)
  have hap := fun ty => Lib.run_append_grow_zeros (P := Try.prog) w 42 3 ty 51 iE (.agg #[.string ⟨#[]⟩, .int .i64 0, .int .i64 0]) .i64 .i64 Try.underlying42 Try.underlying3 hiE hv0 (some ⟨g, 0, none⟩) i cp (Li.cellsL cellsE (l.take i)) hold (n + 1 - i) (by omega) (by omega) (by omega) (by omega) (by rw [hv2]; omega) (by rw [hv2]; exact growslice_fits (by omega) (by omega))
  have hin1 : i + (n + 1 - i) = n + 1 := by omega
  rw [hin1] at hap
  have hGn : n + 1 ≤ grownCap w (n + 1) cp 51 := grownCap_ge w _ _ _
  have hGm : grownCap w (n + 1) cp 51 ≤ maxLen := grownCap_le_maxLen w (n + 1) cp 51 (by unfold maxLen; omega)
  generalize grownCap w (n + 1) cp 51 = G at hap hGn hGm
  obtain ⟨Z, hZ⟩ : ∃ Z : List Value, Z = (Builtin.zeroCells (Value.agg #[.string ⟨#[]⟩, .int .i64 0, .int .i64 0]).cells (n + 1 - i)).toList ++ (Builtin.zeroCells (Value.agg #[.string ⟨#[]⟩, .int .i64 0, .int .i64 0]).cells (G - (n + 1))).toList := ⟨_, rfl⟩
  have hZl : Z.length = (n + 1 - i) * 3 + (G - (n + 1)) * 3 := by
    rw [hZ, List.length_append, Array.length_toList, Array.length_toList, size_zeroCells, size_zeroCells]
    rfl
  have hROW : (Li.cellsL cellsE (l.take i)).toArray ++ Builtin.zeroCells (Value.agg #[.string ⟨#[]⟩, .int .i64 0, .int .i64 0]).cells (n + 1 - i) ++ Builtin.zeroCells (Value.agg #[.string ⟨#[]⟩, .int .i64 0, .int .i64 0]).cells (G - (n + 1)) = (Li.cellsL cellsE (l.take i) ++ Z).toArray := by
    apply Array.toList_inj.1
    rw [hZ]
    simp
  rw [hROW] at hap
  obtain ⟨W1, hW1⟩ : ∃ W1, W1 = w.drew.alloc (.cells (Li.cellsL cellsE (l.take i) ++ Z).toArray 51) := ⟨_, rfl⟩
  rw [← hW1] at hap
  have hB1 : Below w.heap.size w W1 := by rw [hW1]; exact (Below.refl w.heap.size w).drew.alloc (Nat.le_refl _) _
  have hR1 : RowE W1 w.heap.size w.heap.size G (Li.cellsL cellsE (l.take i)) := ⟨Z, Nat.le_refl _, by rw [hW1]; exact heap_alloc_new w.drew _, hGm, by rw [htl, hZl]; omega⟩
  have hs1 : w.heap.size ≤ W1.heap.size := hB1.size
  have hE := news_at hv
  obtain ⟨W2, hc1, hR2, hg1⟩ := row_copy hR1 (i * 3) ⟨vb, 0, none⟩ (cellsE e) (by omega) (by rw [cellsE_len]; omega) (by
    intro j u hu
    have h := hE j u hu
    rw [Addr.add_lit] at h ⊢
    exact (hB1.cell (p := ⟨vb, 0 + j, none⟩) hvw).trans h) (one_E e)
  obtain ⟨W3, hc2, hR3, hg2⟩ := row_copy (row_drew hR2) ((i + 1) * 3) ⟨g, i * 3, none⟩ (Li.cellsL cellsE (l.drop i)) (by rw [List.length_append, List.length_append, List.length_take, cellsE_len]; omega) (by omega) (by
    intro j u hu
    rw [← cellsE_drop, List.getElem?_drop] at hu
    have hj := (List.getElem?_eq_some_iff.1 hu).1
    rw [hcs] at hj
    rw [Addr.add_lit]
    have h0 := (hl.cellAt (i * 3 + j) hj).trans hu
    have h1 := (hB1.cell (p := ⟨g, i * 3 + j, none⟩) hgw).trans h0
    exact hg1.cell h1 (by
      intro h
      injection h with h
      have h : g = w.heap.size := h
      omega)) (cellsE_one _)
  have hcells : ((Li.cellsL cellsE (l.take i)).take (i * 3) ++ cellsE e ++ (Li.cellsL cellsE (l.take i)).drop (i * 3 + (cellsE e).length)).take ((i + 1) * 3) ++ Li.cellsL cellsE (l.drop i) ++ ((Li.cellsL cellsE (l.take i)).take (i * 3) ++ cellsE e ++ (Li.cellsL cellsE (l.take i)).drop (i * 3 + (cellsE e).length)).drop ((i + 1) * 3 + (Li.cellsL cellsE (l.drop i)).length) = Li.cellsL cellsE (l.take i ++ e :: l.drop i) := by
    have e1 : (Li.cellsL cellsE (l.take i)).drop (i * 3 + (cellsE e).length) = [] := List.drop_eq_nil_of_le (by omega)
    have e2 : (Li.cellsL cellsE (l.take i)).take (i * 3) = Li.cellsL cellsE (l.take i) := List.take_of_length_le (by omega)
    have e3 : (Li.cellsL cellsE (l.take i) ++ cellsE e).length = (i + 1) * 3 := by rw [List.length_append, htl, cellsE_len]; omega
    have e4 : (Li.cellsL cellsE (l.take i) ++ cellsE e).drop ((i + 1) * 3 + (Li.cellsL cellsE (l.drop i)).length) = [] := List.drop_eq_nil_of_le (by omega)
    rw [e1, e2, List.append_nil, List.take_of_length_le (by omega), e4, List.append_nil, List.append_assoc, cellsE_app]
    rfl
  rw [hcells] at hR3
  have hfin : Hid (InsPost base (l.take i ++ e :: l.drop i) w (.returned (.slice (some ⟨w.heap.size, 0, none⟩) (n + 1) G)) W3) := Lib.hid (by
    have hln : (l.take i ++ e :: l.drop i).length = n + 1 := by rw [List.length_append, List.length_cons, List.length_take, List.length_drop]; omega
    have hB2 : Below w.heap.size w W2 := hB1.trans (grown_below hg1 (Nat.le_refl _) hs1)
    have hB3 : Below w.heap.size w W3 := (hB2.drew).trans (grown_below hg2 (Nat.le_refl _) hB2.size)
    exact ⟨_, n + 1, rfl, hln, own_weak (own_of_rowE hR3 hln) hB9, hB3.mono hB9⟩)
  generalize InsPost base (l.take i ++ e :: l.drop i) w = post at hfin ⊢
  have hkk : (n : Int) + 1 - (i : Int) = ((n + 1 - i : Nat) : Int) := by omega
  have hAP : ∀ ty, (Builtin.append_ #[42, 3] ty #[.slice (some ⟨g, 0, none⟩) i cp, .int .i64 ((n : Int) + 1 - (i : Int))]).run Try.prog w = .ok (.slice (some ⟨w.heap.size, 0, none⟩) (n + 1) G) W1 := fun ty => by
    rw [hkk]
    exact hap ty
  have hC1 : ∀ ty dc, (Builtin.copy_ #[42, 42] ty #[.slice (some ⟨w.heap.size, i * 3, none⟩) (n + 1 - i) dc, .slice (some ⟨vb, 0, none⟩) 1 1]).run Try.prog W1 = .ok (goInt 1) W2 := fun ty dc => by
    have hm : Nat.min 1 (n + 1 - i) = 1 := by simp only [Nat.min_def]; split <;> omega
    have h := hc1 ty (n + 1 - i) dc 1 1 (by rw [cellsE_len, hm])
    rw [hm] at h
    exact h
  have hC2 : ∀ ty dc sc, (Builtin.copy_ #[42, 42] ty #[.slice (some ⟨w.heap.size, (i + 1) * 3, none⟩) (n - i) dc, .slice (some ⟨g, i * 3, none⟩) (n - i) sc]).run Try.prog W2.drew = .ok (goInt ((n - i : Nat) : Int)) W3 := fun ty dc sc => by
    have hm : Nat.min (n - i) (n - i) = n - i := Nat.min_self _
    have h := hc2 ty (n - i) dc (n - i) sc (by rw [hdl, hm])
    rw [hm] at h
    exact h
  have hw1 : IntKind.i64.wrap ((i : Int) + 1) = (i : Int) + 1 := by rw [IntKind.wrap_i64]; omega
  have hw2 : IntKind.i64.wrap ((n : Int) + 1) = (n : Int) + 1 := by rw [IntKind.wrap_i64]; omega
  have hw3 : IntKind.i64.wrap ((n : Int) + 1 - (i : Int)) = (n : Int) + 1 - (i : Int) := by rw [IntKind.wrap_i64]; omega
  have hb1 : (0 : Int) ≤ (i : Int) + 1 := by omega
  have hb0 : (0 : Int) ≤ (i : Int) := by omega
  have hz2 : ¬ ((i : Int) = (n : Int)) := by omega
  have hz3 : (cp : Int) < (n : Int) + 1 := by omega
  have hb2 : ¬ (G = i + 1) := by omega
  have hb3 : (i : Int) ≤ (n : Int) + 1 := by omega
  have hb3' : (i : Int) ≤ (n : Int) := by omega
  have hb3'' : (i : Int) ≤ (cp : Int) := by omega
  have hb4 : ¬ (cp = i) := by omega
  have hb4' : ¬ (G = i) := by omega
  have hb6 : (i : Int) + 1 ≤ (n : Int) + 1 := by omega
  have htn : ((i : Int) + 1).toNat = i + 1 := by omega
  have hN : w.heap.size = W1.heap.size - 1 := by rw [hW1]; simp
  clear hN
  generalize w.heap.size = N at hAP hC1 hC2 hfin
  clear hl hR hR1 hR2 hR3 hc1 hc2 hg1 hg2 hcells hE hv hdl hcs htl hold hap hW1 hB1 hs1 hROW hZ hZl hGm hkk hin1 hvw hgw hB9
  go_enter Try.func47, Try.ntmps47
  go_wp2_with (first
    | (at_builtin; refine Lib.wpList_append_run _ rfl _ _ _ _ rfl _ _ rfl rfl _ _ (hAP _) ?_)
    | (at_builtin; refine wpList_copy_runI _ rfl _ _ 42 42 rfl _ _ rfl rfl (hC1 _ _) ?_))
  go_region_law (refine step_copy_runI rfl _ _ 42 42 rfl _ _ (by simp [Act.eval, Act.put]) (by simp [Act.eval, Act.put]) (hC2 _ _ _) ?_)
  go_wp2
  exact hfin.out
/-- All ways. -/
theorem insert_any (e : E) (hl : OwnE w base v n l) (hn : l.length = n) (hi : i ≤ n) (h9 : n ≤ 100000) (hB9 : base ≤ w.heap.size) (hne : v.ownBlock ≠ some vb)
    (hv : w.heap[vb]? = some (.cells #[.string e.key, .int .i64 e.t, .int .i64 e.s] 51 (0, 0))) :
    Calls Try.prog 47 #[v, .int .i64 i, .slice (some ⟨vb, 0, none⟩) 1 1] w (InsPost base (l.take i ++ e :: l.drop i) w) := by
  by_cases hin : i = n
  · subst hin
    rw [List.take_of_length_le (by omega), List.drop_eq_nil_of_le (by omega)]
    exact insert_end e hl hn h9 hB9 hv
  · rcases hl.2 with ⟨_, h0⟩ | ⟨g, cap, _, rfl, _⟩
    · omega
    · have hg : vb ≠ g := fun h => hne (by rw [h]; rfl)
      by_cases hr : n + 1 ≤ cap
      · exact insert_shift e hl hn (by omega) hr h9 hB9 hg hv
      · exact insert_grow e hl hn (by omega) (by omega) h9 hB9 hv
end
end Go.Proofs.Ytocmkjccaajnnaa.Bu
