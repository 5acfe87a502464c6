/- slices.Insert of one into a row of one's own. -/
import Derived.Test.YtcgkbcgpnlogoaaGreatDoorMgAH
namespace Go.Proofs.YtcgkbcgpnlogoaaGreatDoor.SlP
open Go.RowKit Pac

/-- The row at g begins with these cells. -/
def RowE (w : World) (base g cp : Nat) (C : List Value) : Prop :=
 ∃ T : List Value, base ≤ g ∧ w.heap[g]? = some (.cells (C ++ T).toArray 133 (0, 0)) ∧ cp ≤ maxLen ∧ C.length + T.length = cp * 2
section
variable {w : World} {base g n cp : Nat} {l : List E} {C : List Value}
theorem row_of_own (h : OwnE w base (.slice (some ⟨g, 0, none⟩) n cp) n l) : RowE w base g cp (Li.cellsL cellsE l) ∧ n ≤ cp := by
 obtain ⟨cur, hb, hg, hnc, hcm, hcs, ht, hl⟩ := own_row h
 have hcur : cur = (Li.cellsL cellsE l ++ cur.toList.drop (n * 2)).toArray := by rw [← ht, List.take_append_drop, Array.toArray_toList]
 refine ⟨⟨cur.toList.drop (n * 2), hb, by rw [← hcur]; exact hg, hcm, ?_⟩, hnc⟩
 rw [hl, List.length_drop, Array.length_toList]
 omega
theorem own_of_rowE (h : RowE w base g cp (Li.cellsL cellsE l)) (hn : l.length = n) : OwnE w base (.slice (some ⟨g, 0, none⟩) n cp) n l := by
 obtain ⟨T, hb, hg, hcm, hl⟩ := h
 rw [cellsE_size] at hl
 refine own_of_row hb hg (by omega) hcm ?_ hn ?_
 ·rw [List.size_toArray, List.length_append, cellsE_size]
  omega
 ·show (Li.cellsL cellsE l ++ T).take (n * 2) = _
  rw [← hn, ← cellsE_size, List.take_left]
theorem row_drew (h : RowE w base g cp C) : RowE w.drew base g cp C := h
theorem row_copy (h : RowE w base g cp C) (o : Nat) (a : Addr) (cs : List Value) (ho : o ≤ C.length) (hfit : o + cs.length ≤ cp * 2) (hsrc : ∀ j v, cs[j]? = some v → w.cell? (a.add j) = some v) (h1 : ∀ v ∈ cs, v.oneCell' = true) :
  ∃ w1, (∀ ty dLen dCap sLen sCap, cs.length = Nat.min sLen dLen * 2 → (Builtin.copy_ #[32, 32] ty #[.slice (some ⟨g, o, none⟩) dLen dCap, .slice (some a) sLen sCap]).run Tryz.prog w = .ok (goInt (Nat.min sLen dLen)) w1) ∧
   RowE w1 base g cp (C.take o ++ cs ++ C.drop (o + cs.length)) ∧ w.grownBy w1 (some g) := by
 obtain ⟨iE, hiE, hv0, hv1, hv2⟩ := info_parts infoE
 obtain ⟨T, hb, hg, hcm, hl⟩ := h
 refine ⟨w.setRow g ((C ++ T).toArray.toList.take o ++ cs ++ (C ++ T).toArray.toList.drop (o + cs.length)).toArray, fun ty dLen dCap sLen sCap hn => ?_, ⟨T.drop (o + cs.length - C.length), hb, ?_, hcm, ?_⟩, setRow_grown w g _⟩
 ·exact run_copy_rows (P := Tryz.prog) w 32 32 ty 133 2 g o dLen dCap a sLen sCap (C ++ T).toArray 133 cs Tryz.underlying32 (by rw [hiE]; simp [hv1]) hg hn hsrc (by rw [List.size_toArray, List.length_append]; omega) h1
 ·rw [setRow_heap w g _ _ _ _ hg]
  have e : ((C ++ T).toArray.toList.take o ++ cs ++ (C ++ T).toArray.toList.drop (o + cs.length)) = C.take o ++ cs ++ C.drop (o + cs.length) ++ T.drop (o + cs.length - C.length) := by
   show (C ++ T).take o ++ cs ++ (C ++ T).drop (o + cs.length) = _
   rw [List.take_append_of_le_length ho, List.drop_append, List.append_assoc (C.take o ++ cs)]
  rw [e]
 ·simp only [List.length_append, List.length_take, List.length_drop]
  omega
end
/-- The three cells of an entry in a block of its own. -/
theorem news_at {w : World} {vb : Nat} {ek : Nat} {et : ByteArray} (h : w.heap[vb]? = some (.cells #[.int .i64 (ek : Nat), .string et] 133 (0, 0))) : ∀ j u, (cellsE ⟨ek, et⟩)[j]? = some u → w.cell? ((⟨vb, 0, none⟩ : Addr).add j) = some u := by
 intro j u hu
 rw [Addr.add_lit, Nat.zero_add, cell_of_row w vb j _ _ (0, 0) h]
 simpa [cellsE] using hu
theorem one_E (e : E) : ∀ v ∈ cellsE e, v.oneCell' = true := by
 have := cellsE_one [e]
 intro v hv
 exact this v (by simpa [Li.cellsL] using hv)
def InsPost (base : Nat) (l : List E) (w : World) (e : Ending) (w' : World) : Prop := ∃ (v : Value) (m : Nat), e = .returned v ∧ l.length = m ∧ OwnE w' base v m l ∧ Below base w w'
section
variable {w : World} {base g n cp i vb : Nat} {l : List E} {v : Value}
set_option maxRecDepth 20000 in
set_option maxHeartbeats 1600000 in
/-- At the end. -/
theorem insert_end (e : E) (hl : OwnE w base v n l) (hn : l.length = n) (h9 : n ≤ 100000) (hB9 : base ≤ w.heap.size)
  (hv : w.heap[vb]? = some (.cells #[(Value.int .i64 (e.no : Nat)), (Value.string e.data)] 133 (0, 0))) :
  Calls Tryz.prog 198 #[v, .int .i64 n, .slice (some ⟨vb, 0, none⟩) 1 1] w (InsPost base (l ++ [e]) w) := by
 obtain ⟨iE, hiE, hv0, hv1, hv2⟩ := info_parts infoE
 obtain ⟨ek, et⟩ := e
 simp only at hv
 have HN := Lib.hid (news_at hv)
 have H1 := Lib.hid (one_E ⟨ek, et⟩)
 have hlen := hl.1
 have HP := Lib.hid (fun (sv : Value) (W : World) (hown : W.ownsRow base 133 2 sv (n + 1) (Li.cellsL cellsE l ++ cellsE ⟨ek, et⟩)) (hB : Below base w W) => (show InsPost base (l ++ [⟨ek, et⟩]) w (.returned sv) W from ⟨sv, n + 1, rfl, by rw [List.length_append, hn]; rfl, by rw [← Li.cellsL_snoc] at hown; exact hown, hB⟩))
 generalize InsPost base (l ++ [⟨ek, et⟩]) w = post at HP ⊢
 unfold OwnE at hl
 generalize Li.cellsL cellsE l = cs at hl hlen HP
 have hform : (v = .slice none 0 0 ∧ n = 0) ∨ ∃ g cap, v = .slice (some ⟨g, 0, none⟩) n cap ∧ n ≤ cap ∧ cap ≤ 9223372036854775807 := by
  rcases hl.2 with h | ⟨g, cap, _, e1, _, _, e2, e3, _⟩
  ·exact .inl h
  ·exact .inr ⟨g, cap, e1, e2, by unfold maxLen at e3; omega⟩
 rcases hform with ⟨rfl, rfl⟩ | ⟨g, cap, rfl, hnc, hc9⟩
 ·have HL := Lib.hid hl
  clear hl hv hlen hn
  go_enter Tryz.func198, Tryz.ntmps198
  go_wp2_with (at_builtin; go_must (refine wpList_append_own _ rfl _ _ 32 rfl base 133 iE (.agg #[.int .i64 0, .string ⟨#[]⟩]) 2 24 Tryz.underlying32 hiE hv0 hv1 hv2 rfl (by decide) (.slice none 0 0) 0 cs rfl HL.out ⟨vb, 0, none⟩ 1 1 (cellsE ⟨ek, et⟩) rfl rfl HN.out H1.out (by unfold maxLen; omega) (by omega) hB9 ?_))
  intro v5 y5 hown5 hgrow5 _
  have hB5 := (Below.refl base w).grown hgrow5 hB9 (fun k hk => (HL.out.lt k hk).1)
  have HF := Lib.hid (HP.out _ _ hown5 hB5)
  clear hown5 hB5 hgrow5
  go_wp2
  exact HF.out
 ·have HL := Lib.hid hl
  clear hl hv hlen hn
  go_enter Tryz.func198, Tryz.ntmps198
  go_wp2_with (at_builtin; go_must (refine wpList_append_own _ rfl _ _ 32 rfl base 133 iE (.agg #[.int .i64 0, .string ⟨#[]⟩]) 2 24 Tryz.underlying32 hiE hv0 hv1 hv2 rfl (by decide) (.slice (some ⟨g, 0, none⟩) n cap) n cs rfl HL.out ⟨vb, 0, none⟩ 1 1 (cellsE ⟨ek, et⟩) rfl rfl HN.out H1.out (by unfold maxLen; omega) (by omega) hB9 ?_))
  all_goals
   intro v5 y5 hown5 hgrow5 _
   have hB5 := (Below.refl base w).grown hgrow5 hB9 (fun k hk => (HL.out.lt k hk).1)
   have HF := Lib.hid (HP.out _ _ hown5 hB5)
   clear hown5 hB5 hgrow5
   go_wp2
   exact HF.out
set_option maxRecDepth 20000 in
set_option maxHeartbeats 3200000 in
/-- In the middle, where there is room. -/
theorem insert_shift (e : E) (hl : OwnE w base (.slice (some ⟨g, 0, none⟩) n cp) n l) (hn : l.length = n) (hi : i < n) (hroom : n + 1 ≤ cp) (h9 : n ≤ 100000) (hB9 : base ≤ w.heap.size) (hne : vb ≠ g)
  (hv : w.heap[vb]? = some (.cells #[(Value.int .i64 (e.no : Nat)), (Value.string e.data)] 133 (0, 0))) :
  Calls Tryz.prog 198 #[.slice (some ⟨g, 0, none⟩) n cp, .int .i64 i, .slice (some ⟨vb, 0, none⟩) 1 1] w (InsPost base (l.take i ++ e :: l.drop i) w) := by
 obtain ⟨iE, hiE, hv0, hv1, hv2⟩ := info_parts infoE
 obtain ⟨hR, hncp⟩ := row_of_own hl
 have hbg : base ≤ g := (hl.lt g rfl).1
 have hgw : g < w.heap.size := (hl.lt g rfl).2
 have hcp : cp ≤ 9223372036854775807 := by
  obtain ⟨_, _, _, h, _⟩ := hR
  unfold maxLen at h
  omega
 have hcs := cellsE_size l
 rw [hn] at hcs
 have hd : (Li.cellsL cellsE (l.drop i)).length = (n - i) * 2 := by rw [cellsE_size, List.length_drop, hn]
 -- what stands from i on, one place on
 obtain ⟨w1, hc1, hR1, hg1⟩ := row_copy (row_drew hR) ((i + 1) * 2) ⟨g, i * 2, none⟩ (Li.cellsL cellsE (l.drop i)) (by omega) (by omega) (by
  intro j u hu
  rw [← cellsE_drop, List.getElem?_drop] at hu
  have hj := (List.getElem?_eq_some_iff.1 hu).1
  rw [hcs] at hj
  rw [Addr.add_lit]
  exact (hl.cellAt (i * 2 + j) hj).trans hu) (cellsE_one _)
 have hE := news_at hv
 obtain ⟨w2, hc2, hR2, hg2⟩ := row_copy hR1 (i * 2) ⟨vb, 0, none⟩ (cellsE e) (by rw [List.length_append, List.length_append, List.length_take]; omega) (by rw [cellsE_len]; omega) (by
  intro j u hu
  exact hg1.cell (hE j u hu) (by
   rw [Addr.add_lit]
   intro h
   injection h with h
   exact hne h)) (one_E e)
 have hcells : (((Li.cellsL cellsE l).take ((i + 1) * 2) ++ Li.cellsL cellsE (l.drop i) ++ (Li.cellsL cellsE l).drop ((i + 1) * 2 + (Li.cellsL cellsE (l.drop i)).length)).take (i * 2) ++ cellsE e ++ ((Li.cellsL cellsE l).take ((i + 1) * 2) ++ Li.cellsL cellsE (l.drop i) ++ (Li.cellsL cellsE l).drop ((i + 1) * 2 + (Li.cellsL cellsE (l.drop i)).length)).drop (i * 2 + (cellsE e).length)) = Li.cellsL cellsE (l.take i ++ e :: l.drop i) := by
  have e1 : (Li.cellsL cellsE l).drop ((i + 1) * 2 + (Li.cellsL cellsE (l.drop i)).length) = [] := List.drop_eq_nil_of_le (by omega)
  have hlt : ((Li.cellsL cellsE l).take ((i + 1) * 2)).length = (i + 1) * 2 := by rw [List.length_take]; omega
  rw [e1, List.append_nil, List.take_append_of_le_length (by omega), List.take_take, Nat.min_eq_left (by omega), cellsE_len, show i * 2 + 2 = (i + 1) * 2 by omega]
  have e2 : ((Li.cellsL cellsE l).take ((i + 1) * 2) ++ Li.cellsL cellsE (l.drop i)).drop ((i + 1) * 2) = Li.cellsL cellsE (l.drop i) := by
   exact List.drop_left' hlt
  rw [e2, cellsE_take, List.append_assoc, cellsE_app]
  rfl
 rw [hcells] at hR2
 have hfin : Hid (InsPost base (l.take i ++ e :: l.drop i) w (.returned (.slice (some ⟨g, 0, none⟩) (n + 1) cp)) w2) := Lib.hid (by
  have hln : (l.take i ++ e :: l.drop i).length = n + 1 := by rw [List.length_append, List.length_cons, List.length_take, List.length_drop]; omega
  exact ⟨_, n + 1, rfl, hln, own_of_rowE hR2 hln, ((Below.refl base w).drew.trans (grown_below hg1 hbg hB9)).trans (grown_below hg2 hbg (Nat.le_trans hB9 hg1.size))⟩)
 generalize InsPost base (l.take i ++ e :: l.drop i) w = post at hfin ⊢
 have hov : ∀ lb cb, (callFunc 243 #[.slice (some ⟨vb, 0, none⟩) 1 1, .slice (some ⟨g, (i + 1) * 2, none⟩) lb cb]).run Tryz.prog w = .ok (.value (.bool false)) w := fun lb cb => by
  obtain ⟨T, _, hg, _, hT⟩ := hR
  have hz : ∀ W : World, (Go.sizeOf 133).run Tryz.prog W = .ok 2 W := fun W => by simp [sizeOf, typeInfo, hiE, hv1]
  rw [run_callFunc_extern Tryz.func243 (by kernel_rfl) (by kernel_rfl) (by kernel_rfl) (e := Extern.SlicesOverlaps.overlaps #[32, 32] #[4]) (by kernel_rfl),
   Lib.run_overlaps_apart w 32 4 133 Tryz.underlying32 2 hz ⟨vb, 0, none⟩ ⟨g, (i + 1) * 2, none⟩ 1 1 lb cb hne 133 133 2 (cp * 2) (by simp [World.shape?, hv]) (by
    rw [← hT]
    simp [World.shape?, hg]) (by omega) (frozen_of_row w vb 0 _ _ hv) (frozen_of_row w vb 2 _ _ hv)]
  rfl
 have hw1 : IntKind.i64.wrap ((i : Int) + 1) = (i : Int) + 1 := by rw [IntKind.wrap_i64]; omega
 have hw2 : IntKind.i64.wrap ((n : Int) + 1) = (n : Int) + 1 := by rw [IntKind.wrap_i64]; omega
 have hb1 : (0 : Int) ≤ (i : Int) + 1 := by omega
 have hb0 : (0 : Int) ≤ (i : Int) := by omega
 have hz2 : ¬ ((i : Int) = (n : Int)) := by omega
 have hz3 : ¬ ((cp : Int) < (n : Int) + 1) := by omega
 have hb2 : ¬ (cp = i + 1) := by omega
 have hb3 : (i : Int) ≤ (n : Int) + 1 := by omega
 have hb3' : (i : Int) ≤ (n : Int) := by omega
 have hb4 : ¬ (cp = i) := by omega
 have hb5 : (n : Int) + 1 ≤ (cp : Int) := by omega
 have hb6 : (i : Int) + 1 ≤ (n : Int) + 1 := by omega
 have htn : ((i : Int) + 1).toNat = i + 1 := by omega
 have htn2 : ((n : Int) + 1).toNat = n + 1 := by omega
 have hC1 : ∀ ty dc sc, (Builtin.copy_ #[32, 32] ty #[.slice (some ⟨g, (i + 1) * 2, none⟩) (n - i) dc, .slice (some ⟨g, i * 2, none⟩) (n + 1 - i) sc]).run Tryz.prog w.drew = .ok (goInt ((n - i : Nat) : Int)) w1 := fun ty dc sc => by
  have hm : Nat.min (n + 1 - i) (n - i) = n - i := by simp only [Nat.min_def]; split <;> omega
  have h := hc1 ty (n - i) dc (n + 1 - i) sc (by rw [hd, hm])
  rw [hm] at h
  exact h
 have hC2 : ∀ ty dc, (Builtin.copy_ #[32, 32] ty #[.slice (some ⟨g, i * 2, none⟩) (n + 1 - i) dc, .slice (some ⟨vb, 0, none⟩) 1 1]).run Tryz.prog w1 = .ok (goInt 1) w2 := fun ty dc => by
  have hm : Nat.min 1 (n + 1 - i) = 1 := by simp only [Nat.min_def]; split <;> omega
  have h := hc2 ty (n + 1 - i) dc 1 1 (by rw [cellsE_len, hm])
  rw [hm] at h
  exact h
 clear hl hR hR1 hR2 hc1 hc2 hg1 hg2 hcells hE hv hd hcs
 go_enter Tryz.func198, Tryz.ntmps198
 go_wp2_with (simp only [hov])
 go_region_law (refine step_copy_runI rfl _ _ 32 32 rfl _ _ (by simp [Act.eval, Act.put]) (by simp [Act.eval, Act.put]) (hC1 _ _ _) ?_)
 go_wp2_with (at_builtin; refine wpList_copy_runI _ rfl _ _ 32 32 rfl _ _ rfl rfl (hC2 _ _) ?_)
 exact hfin.out
end
section
variable {w : World} {base g n cp i vb : Nat} {l : List E} {v : Value}
set_option maxRecDepth 20000 in
set_option maxHeartbeats 3200000 in
/-- In the middle, where there is no room. -/
theorem insert_grow (e : E) (hl : OwnE w base (.slice (some ⟨g, 0, none⟩) n cp) n l) (hn : l.length = n) (hi : i < n) (hroom : cp < n + 1) (h9 : n ≤ 100000) (hB9 : base ≤ w.heap.size)
  (hv : w.heap[vb]? = some (.cells #[(Value.int .i64 (e.no : Nat)), (Value.string e.data)] 133 (0, 0))) :
  Calls Tryz.prog 198 #[.slice (some ⟨g, 0, none⟩) n cp, .int .i64 i, .slice (some ⟨vb, 0, none⟩) 1 1] w (InsPost base (l.take i ++ e :: l.drop i) w) := by
 obtain ⟨iE, hiE, hv0, hv1, hv2⟩ := info_parts infoE
 obtain ⟨hR, hncp⟩ := row_of_own hl
 have hgw : g < w.heap.size := (hl.lt g rfl).2
 have hvw : vb < w.heap.size := (Array.getElem?_eq_some_iff.1 hv).1
 have hcs := cellsE_size l
 rw [hn] at hcs
 have hdl : (Li.cellsL cellsE (l.drop i)).length = (n - i) * 2 := by rw [cellsE_size, List.length_drop, hn]
 have htl : (Li.cellsL cellsE (l.take i)).length = i * 2 := by rw [cellsE_size, List.length_take]; omega
 have hold : (Builtin.firstCells iE.size i (.slice (some ⟨g, 0, none⟩) i cp)).run Tryz.prog w.drew = .ok (Li.cellsL cellsE (l.take i)).toArray w.drew := by
  rw [hv1]
  exact run_firstCells_some w.drew 2 i ⟨g, 0, none⟩ i cp (Li.cellsL cellsE (l.take i)) htl (fun j u hj => by
   rw [Addr.add_lit, Nat.zero_add]
   rw [← cellsE_take, List.getElem?_take] at hj
   split at hj
   ·have hjl := (List.getElem?_eq_some_iff.1 hj).1
    exact (hl.cellAt j (by omega)).trans hj
   ·cases hj)
 have hap := fun ty => Lib.run_append_grow_zeros (P := Tryz.prog) w 32 3 ty 133 iE (.agg #[.int .i64 0, .string ⟨#[]⟩]) .i64 .i64 Tryz.underlying32 Tryz.underlying3 hiE hv0 (some ⟨g, 0, none⟩) i cp (Li.cellsL cellsE (l.take i)) hold (n + 1 - i) (by omega) (by omega) (by omega) (by omega) (by rw [hv2]; omega) (by rw [hv2]; exact growslice_fits (by omega) (by omega))
 have hin1 : i + (n + 1 - i) = n + 1 := by omega
 rw [hin1] at hap
 have hGn : n + 1 ≤ grownCap w (n + 1) cp 133 := grownCap_ge w _ _ _
 have hGm : grownCap w (n + 1) cp 133 ≤ maxLen := grownCap_le_maxLen w (n + 1) cp 133 (by unfold maxLen; omega)
 generalize grownCap w (n + 1) cp 133 = G at hap hGn hGm
 obtain ⟨Z, hZ⟩ : ∃ Z : List Value, Z = (Builtin.zeroCells (Value.agg #[.int .i64 0, .string ⟨#[]⟩]).cells (n + 1 - i)).toList ++ (Builtin.zeroCells (Value.agg #[.int .i64 0, .string ⟨#[]⟩]).cells (G - (n + 1))).toList := ⟨_, rfl⟩
 have hZl : Z.length = (n + 1 - i) * 2 + (G - (n + 1)) * 2 := by
  rw [hZ, List.length_append, Array.length_toList, Array.length_toList, size_zeroCells, size_zeroCells]
  rfl
 have hROW : (Li.cellsL cellsE (l.take i)).toArray ++ Builtin.zeroCells (Value.agg #[.int .i64 0, .string ⟨#[]⟩]).cells (n + 1 - i) ++ Builtin.zeroCells (Value.agg #[.int .i64 0, .string ⟨#[]⟩]).cells (G - (n + 1)) = (Li.cellsL cellsE (l.take i) ++ Z).toArray := by
  apply Array.toList_inj.1
  rw [hZ]
  simp
 rw [hROW] at hap
 obtain ⟨W1, hW1⟩ : ∃ W1, W1 = w.drew.alloc (.cells (Li.cellsL cellsE (l.take i) ++ Z).toArray 133) := ⟨_, rfl⟩
 rw [← hW1] at hap
 have hB1 : Below w.heap.size w W1 := by rw [hW1]; exact (Below.refl w.heap.size w).drew.alloc (Nat.le_refl _) _
 have hR1 : RowE W1 w.heap.size w.heap.size G (Li.cellsL cellsE (l.take i)) := ⟨Z, Nat.le_refl _, by rw [hW1]; exact heap_alloc_new w.drew _, hGm, by rw [htl, hZl]; omega⟩
 have hs1 : w.heap.size ≤ W1.heap.size := hB1.size
 have hE := news_at hv
 obtain ⟨W2, hc1, hR2, hg1⟩ := row_copy hR1 (i * 2) ⟨vb, 0, none⟩ (cellsE e) (by omega) (by rw [cellsE_len]; omega) (by
  intro j u hu
  have h := hE j u hu
  rw [Addr.add_lit] at h ⊢
  exact (hB1.cell (p := ⟨vb, 0 + j, none⟩) hvw).trans h) (one_E e)
 obtain ⟨W3, hc2, hR3, hg2⟩ := row_copy (row_drew hR2) ((i + 1) * 2) ⟨g, i * 2, none⟩ (Li.cellsL cellsE (l.drop i)) (by rw [List.length_append, List.length_append, List.length_take, cellsE_len]; omega) (by omega) (by
  intro j u hu
  rw [← cellsE_drop, List.getElem?_drop] at hu
  have hj := (List.getElem?_eq_some_iff.1 hu).1
  rw [hcs] at hj
  rw [Addr.add_lit]
  have h0 := (hl.cellAt (i * 2 + j) hj).trans hu
  have h1 := (hB1.cell (p := ⟨g, i * 2 + j, none⟩) hgw).trans h0
  exact hg1.cell h1 (by
   intro h
   injection h with h
   have h : g = w.heap.size := h
   omega)) (cellsE_one _)
 have hcells : ((Li.cellsL cellsE (l.take i)).take (i * 2) ++ cellsE e ++ (Li.cellsL cellsE (l.take i)).drop (i * 2 + (cellsE e).length)).take ((i + 1) * 2) ++ Li.cellsL cellsE (l.drop i) ++ ((Li.cellsL cellsE (l.take i)).take (i * 2) ++ cellsE e ++ (Li.cellsL cellsE (l.take i)).drop (i * 2 + (cellsE e).length)).drop ((i + 1) * 2 + (Li.cellsL cellsE (l.drop i)).length) = Li.cellsL cellsE (l.take i ++ e :: l.drop i) := by
  have e1 : (Li.cellsL cellsE (l.take i)).drop (i * 2 + (cellsE e).length) = [] := List.drop_eq_nil_of_le (by omega)
  have e2 : (Li.cellsL cellsE (l.take i)).take (i * 2) = Li.cellsL cellsE (l.take i) := List.take_of_length_le (by omega)
  have e3 : (Li.cellsL cellsE (l.take i) ++ cellsE e).length = (i + 1) * 2 := by rw [List.length_append, htl, cellsE_len]; omega
  have e4 : (Li.cellsL cellsE (l.take i) ++ cellsE e).drop ((i + 1) * 2 + (Li.cellsL cellsE (l.drop i)).length) = [] := List.drop_eq_nil_of_le (by omega)
  rw [e1, e2, List.append_nil, List.take_of_length_le (by omega), e4, List.append_nil, List.append_assoc, cellsE_app]
  rfl
 rw [hcells] at hR3
 have hfin : Hid (InsPost base (l.take i ++ e :: l.drop i) w (.returned (.slice (some ⟨w.heap.size, 0, none⟩) (n + 1) G)) W3) := Lib.hid (by
  have hln : (l.take i ++ e :: l.drop i).length = n + 1 := by rw [List.length_append, List.length_cons, List.length_take, List.length_drop]; omega
  have hB2 : Below w.heap.size w W2 := hB1.trans (grown_below hg1 (Nat.le_refl _) hs1)
  have hB3 : Below w.heap.size w W3 := (hB2.drew).trans (grown_below hg2 (Nat.le_refl _) hB2.size)
  exact ⟨_, n + 1, rfl, hln, own_weak (own_of_rowE hR3 hln) hB9, hB3.mono hB9⟩)
 generalize InsPost base (l.take i ++ e :: l.drop i) w = post at hfin ⊢
 have hkk : (n : Int) + 1 - (i : Int) = ((n + 1 - i : Nat) : Int) := by omega
 have hAP : ∀ ty, (Builtin.append_ #[32, 3] ty #[.slice (some ⟨g, 0, none⟩) i cp, .int .i64 ((n : Int) + 1 - (i : Int))]).run Tryz.prog w = .ok (.slice (some ⟨w.heap.size, 0, none⟩) (n + 1) G) W1 := fun ty => by
  rw [hkk]
  exact hap ty
 have hC1 : ∀ ty dc, (Builtin.copy_ #[32, 32] ty #[.slice (some ⟨w.heap.size, i * 2, none⟩) (n + 1 - i) dc, .slice (some ⟨vb, 0, none⟩) 1 1]).run Tryz.prog W1 = .ok (goInt 1) W2 := fun ty dc => by
  have hm : Nat.min 1 (n + 1 - i) = 1 := by simp only [Nat.min_def]; split <;> omega
  have h := hc1 ty (n + 1 - i) dc 1 1 (by rw [cellsE_len, hm])
  rw [hm] at h
  exact h
 have hC2 : ∀ ty dc sc, (Builtin.copy_ #[32, 32] ty #[.slice (some ⟨w.heap.size, (i + 1) * 2, none⟩) (n - i) dc, .slice (some ⟨g, i * 2, none⟩) (n - i) sc]).run Tryz.prog W2.drew = .ok (goInt ((n - i : Nat) : Int)) W3 := fun ty dc sc => by
  have hm : Nat.min (n - i) (n - i) = n - i := Nat.min_self _
  have h := hc2 ty (n - i) dc (n - i) sc (by rw [hdl, hm])
  rw [hm] at h
  exact h
 have hw1 : IntKind.i64.wrap ((i : Int) + 1) = (i : Int) + 1 := by rw [IntKind.wrap_i64]; omega
 have hw2 : IntKind.i64.wrap ((n : Int) + 1) = (n : Int) + 1 := by rw [IntKind.wrap_i64]; omega
 have hw3 : IntKind.i64.wrap ((n : Int) + 1 - (i : Int)) = (n : Int) + 1 - (i : Int) := by rw [IntKind.wrap_i64]; omega
 have hb1 : (0 : Int) ≤ (i : Int) + 1 := by omega
 have hb0 : (0 : Int) ≤ (i : Int) := by omega
 have hz2 : ¬ ((i : Int) = (n : Int)) := by omega
 have hz3 : (cp : Int) < (n : Int) + 1 := by omega
 have hb2 : ¬ (G = i + 1) := by omega
 have hb3 : (i : Int) ≤ (n : Int) + 1 := by omega
 have hb3' : (i : Int) ≤ (n : Int) := by omega
 have hb3'' : (i : Int) ≤ (cp : Int) := by omega
 have hb4 : ¬ (cp = i) := by omega
 have hb4' : ¬ (G = i) := by omega
 have hb6 : (i : Int) + 1 ≤ (n : Int) + 1 := by omega
 have htn : ((i : Int) + 1).toNat = i + 1 := by omega
 have hN : w.heap.size = W1.heap.size - 1 := by rw [hW1]; simp
 clear hN
 generalize w.heap.size = N at hAP hC1 hC2 hfin
 clear hl hR hR1 hR2 hR3 hc1 hc2 hg1 hg2 hcells hE hv hdl hcs htl hold hap hW1 hB1 hs1 hROW hZ hZl hGm hkk hin1 hvw hgw hB9
 go_enter Tryz.func198, Tryz.ntmps198
 go_wp2_with (first
  | (at_builtin; refine Lib.wpList_append_run _ rfl _ _ _ _ rfl _ _ rfl rfl _ _ (hAP _) ?_)
  | (at_builtin; refine wpList_copy_runI _ rfl _ _ 32 32 rfl _ _ rfl rfl (hC1 _ _) ?_))
 go_region_law (refine step_copy_runI rfl _ _ 32 32 rfl _ _ (by simp [Act.eval, Act.put]) (by simp [Act.eval, Act.put]) (hC2 _ _ _) ?_)
 go_wp2
 exact hfin.out
/-- All ways. -/
theorem insert_any (e : E) (hl : OwnE w base v n l) (hn : l.length = n) (hi : i ≤ n) (h9 : n ≤ 100000) (hB9 : base ≤ w.heap.size) (hne : v.ownBlock ≠ some vb)
  (hv : w.heap[vb]? = some (.cells #[(Value.int .i64 (e.no : Nat)), (Value.string e.data)] 133 (0, 0))) :
  Calls Tryz.prog 198 #[v, .int .i64 i, .slice (some ⟨vb, 0, none⟩) 1 1] w (InsPost base (l.take i ++ e :: l.drop i) w) := by
 by_cases hin : i = n
 ·subst hin
  rw [List.take_of_length_le (by omega), List.drop_eq_nil_of_le (by omega)]
  exact insert_end e hl hn h9 hB9 hv
 ·rcases hl.2 with ⟨_, h0⟩ | ⟨g, cap, _, rfl, _⟩
  ·omega
  ·have hg : vb ≠ g := fun h => hne (by rw [h]; rfl)
   by_cases hr : n + 1 ≤ cap
   ·exact insert_shift e hl hn (by omega) hr h9 hB9 hg hv
   ·exact insert_grow e hl hn (by omega) (by omega) h9 hB9 hv
end
end Go.Proofs.YtcgkbcgpnlogoaaGreatDoor.SlP
