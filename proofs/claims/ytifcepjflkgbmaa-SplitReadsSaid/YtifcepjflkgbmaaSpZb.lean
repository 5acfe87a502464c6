/- Two groups as one: the program's, walked. -/
import Derived.Test.YtifcepjflkgbmaaSpZa
import Derived.Test.YtifcepjflkgbmaaXpj
namespace Go.Proofs.Ytifcepjflkgbmaa.Sp
open Go.RowKit Pac Lex

theorem one_cells (g : List Int) : ∀ u ∈ Li.cellsL cellsI g, u.oneCell' = true := fun u hu => by
  rw [ints_map] at hu
  obtain ⟨x, _, rfl⟩ := List.mem_map.1 hu
  rfl
theorem joined_own {w : World} {B g5 cap5 p1 p2 : Nat} {ga gb : List Int} (h : w.ownsRow B 3 1 (.slice (some ⟨g5, 0, none⟩) (p1 + p2) cap5) (p1 + p2) (Li.cellsL cellsI ga ++ Li.cellsL cellsI gb)) (ha : ga.length = p1) (hb : gb.length = p2) :
    w.ownsRow B 3 1 (OG.v ⟨g5, cap5, ga ++ gb⟩) (OG.g ⟨g5, cap5, ga ++ gb⟩).length (Li.cellsL cellsI (OG.g ⟨g5, cap5, ga ++ gb⟩)) := by
  unfold OG.v
  show World.ownsRow w B 3 1 (.slice _ (ga ++ gb).length cap5) (ga ++ gb).length (Li.cellsL cellsI (ga ++ gb))
  have e : (ga ++ gb).length = p1 + p2 := by rw [List.length_append, ha, hb]
  rw [e, ints_map, List.map_append, ← ints_map, ← ints_map]
  exact h

set_option maxRecDepth 20000 in
set_option maxHeartbeats 6400000 in
theorem join_any (A1 : Option Addr) (cp1 : Nat) (l1 : List (List Int)) (n : Nat) (a b : Int) (lo1 : Nat) (w : World) (h1 : HasLL w lo1 A1 l1) (hs : IsSplit l1 n) (hlow : lo1 ≤ w.heap.size) (ha0 : -9223372036854775808 ≤ a) (ha1 : a ≤ 9223372036854775807) (hb0 : -9223372036854775808 ≤ b) (hb1 : b ≤ 9223372036854775807) :
    Calls Try.prog 21 #[.slice A1 l1.length cp1, .int .i64 a, .int .i64 b] w (JoinPost lo1 (joinI l1 a b) w) := by
  obtain ⟨i0, hi, hz0, hz1, hz2⟩ := info_parts infoI
  have hm8 : l1.length ≤ 8 := by have := hs.few; have := hs.n8; omega
  have hcl := cloned_any A1 cp1 l1 lo1 w h1 (by omega) (fun g hg => ⟨hs.ne g hg, by have := hs.short hg; omega⟩)
  obtain ⟨f, hf⟩ : ∃ f, min a b = f := ⟨_, rfl⟩
  obtain ⟨t, ht⟩ : ∃ t, max a b = t := ⟨_, rfl⟩
  by_cases hbad : f = t ∨ f < 0 ∨ (l1.length : Int) ≤ t
  · have hJ : joinI l1 a b = l1 := by
      unfold joinI
      rw [if_pos (by omega)]
    rw [hJ]
    have hP := fun (w' : World) (ks : List OG) (h2 : ks.map OG.g = l1) (h3 : w'.ownsRow w.heap.size 44 1 (.slice (some ⟨w.heap.size, 0, none⟩) l1.length l1.length) l1.length (ks.map OG.v)) (h4 : Free w' w.heap.size ks) (h5 : Below w.heap.size w w') =>
      (show JoinPost lo1 l1 w (.returned (.slice (some ⟨w.heap.size, 0, none⟩) l1.length l1.length)) w' from by
        rw [← cells_og] at h3
        obtain ⟨A', c', e', hc, hl⟩ := Li.list_of_own cellsG_len h3 (by have := h3.1; rw [Li.cellsL_len cellsG_len] at this; omega)
        injection e' with e1 e2 e3
        subst e1 e3
        exact ⟨_, _, rfl, (h4.has hl h2).lower hlow, h5⟩)
    generalize JoinPost lo1 l1 w = post at hP ⊢
    obtain ⟨m, hm⟩ : ∃ m, l1.length = m := ⟨_, rfl⟩
    rw [hm] at hP hbad hm8 hcl ⊢
    have HP := Lib.hid hP
    have HB := Lib.hid hbad
    have HF := Lib.hid hf
    have HT := Lib.hid ht
    clear hP h1 hs hm hbad hJ
    go_enter Try.func21, Try.ntmps21
    go_wp2_with fail
    all_goals
      refine hcl.mono ?_
      rintro e w2 ⟨ks, rfl, h2, h3, h4, h5⟩
      have HQ := Lib.hid (HP.out w2 ks h2 h3 h4 h5)
      clear h2 h3 h4 h5 hcl
      have hbad := HB.out
      have hf := HF.out
      have ht := HT.out
      by_cases q1 : f = t
      · subst q1
        go_wp2
        exact HQ.out
      by_cases q2 : f < 0
      · have q1' : (f == t) = false := beq_eq_false_iff_ne.2 q1
        clear hbad
        go_wp2
        exact HQ.out
      · have q3 : (m : Int) ≤ t := by omega
        have q1' : (f == t) = false := beq_eq_false_iff_ne.2 q1
        clear hbad
        go_wp2
        exact HQ.out
  · have hx0 : 0 ≤ f := by omega
    obtain ⟨x, rfl⟩ : ∃ x : Nat, f = (x : Int) := ⟨f.toNat, by omega⟩
    obtain ⟨y, rfl⟩ : ∃ y : Nat, t = (y : Int) := ⟨t.toNat, by omega⟩
    have hxy : x < y := by omega
    have hym : y < l1.length := by omega
    have hga : l1[x]? = some (l1[x]'(by omega)) := List.getElem?_eq_getElem _
    have hgb : l1[y]? = some (l1[y]'hym) := List.getElem?_eq_getElem _
    generalize (l1[x]'(by omega)) = ga at hga
    generalize (l1[y]'hym) = gb at hgb
    have hsort := sort_mrg (hs.ris ga (List.mem_of_getElem? hga)) (hs.ris gb (List.mem_of_getElem? hgb)) (hs.apart hxy hga hgb)
    have hJ : joinI l1 a b = (l1.set x ((ga ++ gb).mergeSort (fun x y => decide (x ≤ y)))).eraseIdx y := by
      unfold joinI
      rw [if_neg (by omega), hf, ht, Int.toNat_natCast, Int.toNat_natCast]
      unfold joinN
      rw [hga, hgb, out_erase hxy _ (Nat.le_refl _)]
      rw [hsort]
      rw [show l1.length = (l1.set x (mrg ((some ga).getD []) ((some gb).getD []))).length by rw [List.length_set], List.take_length]
      rfl
    have hJl : (joinI l1 a b).length = l1.length - 1 := by rw [hJ, List.length_eraseIdx_of_lt (by rw [List.length_set]; exact hym), List.length_set]
    have hP := fun (w' : World) (h2 : HasLL w' w.heap.size (some ⟨w.heap.size, 0, none⟩) (joinI l1 a b)) (h5 : Below w.heap.size w w') =>
      (show JoinPost lo1 (joinI l1 a b) w (.returned (.slice (some ⟨w.heap.size, 0, none⟩) (l1.length - 1) l1.length)) w' from
        ⟨_, l1.length, by rw [hJl], h2.lower hlow, h5⟩)
    generalize JoinPost lo1 (joinI l1 a b) w = post at hP ⊢
    rw [hJ] at hP
    have hp1 : 0 < ga.length := List.length_pos_iff.2 (hs.ne ga (List.mem_of_getElem? hga))
    have hp2 : 0 < gb.length := List.length_pos_iff.2 (hs.ne gb (List.mem_of_getElem? hgb))
    have hq1 := hs.short (List.mem_of_getElem? hga)
    have hq2 := hs.short (List.mem_of_getElem? hgb)
    clear hsort hJ hJl
    obtain ⟨m, hm⟩ : ∃ m, l1.length = m := ⟨_, rfl⟩
    rw [hm] at hP hbad hm8 hcl hym ⊢
    have HP := Lib.hid hP
    have HF := Lib.hid hf
    have HT := Lib.hid ht
    have HGA := Lib.hid hga
    have HGB := Lib.hid hgb
    clear hP h1 hs hm hbad hga hgb hx0
    go_enter Try.func21, Try.ntmps21
    go_wp2_with fail
    all_goals
      refine hcl.mono ?_
      rintro e wr ⟨ks, rfl, hks, hrow, hF, hB⟩
      have hf := HF.out
      have ht := HT.out
      have q1' : ((x : Int) == (y : Int)) = false := beq_eq_false_iff_ne.2 (by omega)
      have i1 : (x : Int) < (m : Int) := by omega
      have i0' : (0 : Int) ≤ (x : Int) := by omega
      have i3 : (y : Int) < (m : Int) := by omega
      have i4 : (0 : Int) ≤ (y : Int) := by omega
      have hkxa : ∃ k : OG, ks[x]? = some k ∧ k.g = ga := by
        have h := HGA.out
        rw [← hks, List.getElem?_map] at h
        exact Option.map_eq_some_iff.1 h
      have hkya : ∃ k : OG, ks[y]? = some k ∧ k.g = gb := by
        have h := HGB.out
        rw [← hks, List.getElem?_map] at h
        exact Option.map_eq_some_iff.1 h
      obtain ⟨⟨bx, cx, ga'⟩, hkx, e1⟩ := hkxa
      obtain ⟨⟨by', cy, gb'⟩, hky, e2⟩ := hkya
      obtain rfl : ga' = ga := e1
      obtain rfl : gb' = gb := e2
      clear hcl
      have hox := hF.own _ (List.mem_of_getElem? hkx)
      have hoy := hF.own _ (List.mem_of_getElem? hky)
      unfold OG.v at hox hoy
      simp only at hox hoy
      have hvx : (ks.map OG.v)[x]? = some (Value.slice (some ⟨bx, 0, none⟩) ga'.length cx) := by rw [List.getElem?_map, hkx]; rfl
      have hvy : (ks.map OG.v)[y]? = some (Value.slice (some ⟨by', 0, none⟩) gb'.length cy) := by rw [List.getElem?_map, hky]; rfl
      obtain ⟨p1, hpa⟩ : ∃ p, ga'.length = p := ⟨_, rfl⟩
      obtain ⟨p2, hpb⟩ : ∃ p, gb'.length = p := ⟨_, rfl⟩
      rw [hpa] at hox hvx hp1 hq1
      rw [hpb] at hoy hvy hp2 hq2
      have HPa := Lib.hid hpa
      have HPb := Lib.hid hpb
      have c1 := (hrow.cellAt x (by omega)).trans hvx
      have c2 := (hrow.cellAt y (by omega)).trans hvy
      have hsz := hB.size
      clear hpa hpb
      go_wp2
      refine Lex.region_last (ops := pjraw) (ops1 := pjops) (calls := pjcalls) 12 _ pjord (fun W => W.cell? ⟨w.heap.size, x, none⟩ = some (.slice (some ⟨bx, 0, none⟩) p1 cx) ∧ W.cell? ⟨w.heap.size, y, none⟩ = some (.slice (some ⟨by', 0, none⟩) p2 cy)) (by kernel_rfl) pjeq pjlast rfl rfl (by kernel_rfl) (by kernel_rfl) (by kernel_rfl) (by kernel_rfl) pjsel (by kernel_rfl) (by kernel_rfl) pjlex (⟨c1, c2⟩) ?_
      unfold pjord
      have hrow : wr.drew.ownsRow w.heap.size 44 1 (.slice (some ⟨w.heap.size, 0, none⟩) m m) m (ks.map OG.v) := hrow.drew
      have hF : Free wr.drew w.heap.size ks := ⟨fun k hk => (hF.own k hk).drew, hF.nd⟩
      have hB := hB.drew
      have hsz : w.heap.size ≤ wr.drew.heap.size := hsz
      have hox : wr.drew.ownsRow w.heap.size 3 1 (.slice (some ⟨bx, 0, none⟩) p1 cx) p1 (Li.cellsL cellsI ga') := hox
      have hoy : wr.drew.ownsRow w.heap.size 3 1 (.slice (some ⟨by', 0, none⟩) p2 cy) p2 (Li.cellsL cellsI gb') := hoy
      generalize wr.drew = wz at *
      refine Lex.step_take (.slice (some ⟨w.heap.size, 0, none⟩) m m) pj0 rfl (Lex.want_none rfl) (by intro Wx hSw; (try dsimp only at hSw); go_simp; (try (first | (with_reducible rfl) | assumption | rfl))) ?_
      simp only [Act.put, List.setIfInBounds_toArray, List.set_cons_zero, List.set_cons_succ]
      refine Lex.step_take (.int .i64 (x : Int)) pj1 rfl (Lex.want_none rfl) (by intro Wx hSw; (try dsimp only at hSw); go_simp; (try (first | (with_reducible rfl) | assumption | rfl))) ?_
      simp only [Act.put, List.setIfInBounds_toArray, List.set_cons_zero, List.set_cons_succ]
      refine Lex.step_take (.slice (some ⟨w.heap.size, 0, none⟩) m m) pj2 rfl (Lex.want_none rfl) (by intro Wx hSw; (try dsimp only at hSw); go_simp; (try (first | (with_reducible rfl) | assumption | rfl))) ?_
      simp only [Act.put, List.setIfInBounds_toArray, List.set_cons_zero, List.set_cons_succ]
      refine Lex.step_take (.int .i64 (x : Int)) pj3 rfl (Lex.want_none rfl) (by intro Wx hSw; (try dsimp only at hSw); go_simp; (try (first | (with_reducible rfl) | assumption | rfl))) ?_
      simp only [Act.put, List.setIfInBounds_toArray, List.set_cons_zero, List.set_cons_succ]
      refine Lex.step_take (.pointer (some ⟨w.heap.size, x, none⟩)) pj4 rfl (Lex.want_none rfl) (by intro Wx hSw; (try dsimp only at hSw); go_simp; (try (first | (with_reducible rfl) | assumption | rfl))) ?_
      simp only [Act.put, List.setIfInBounds_toArray, List.set_cons_zero, List.set_cons_succ]
      refine Lex.step_take (.slice (some ⟨bx, 0, none⟩) p1 cx) pj5 rfl (Lex.want_none rfl) (by intro Wx hSw; (try dsimp only at hSw); go_simp; (try (first | (with_reducible rfl) | assumption | rfl))) ?_
      simp only [Act.put, List.setIfInBounds_toArray, List.set_cons_zero, List.set_cons_succ]
      refine Lex.step_take (.slice (some ⟨w.heap.size, 0, none⟩) m m) pj6 rfl (Lex.want_none rfl) (by intro Wx hSw; (try dsimp only at hSw); go_simp; (try (first | (with_reducible rfl) | assumption | rfl))) ?_
      simp only [Act.put, List.setIfInBounds_toArray, List.set_cons_zero, List.set_cons_succ]
      refine Lex.step_take (.int .i64 (y : Int)) pj7 rfl (Lex.want_none rfl) (by intro Wx hSw; (try dsimp only at hSw); go_simp; (try (first | (with_reducible rfl) | assumption | rfl))) ?_
      simp only [Act.put, List.setIfInBounds_toArray, List.set_cons_zero, List.set_cons_succ]
      refine Lex.step_take (.pointer (some ⟨w.heap.size, y, none⟩)) pj8 rfl (Lex.want_none rfl) (by intro Wx hSw; (try dsimp only at hSw); go_simp; (try (first | (with_reducible rfl) | assumption | rfl))) ?_
      simp only [Act.put, List.setIfInBounds_toArray, List.set_cons_zero, List.set_cons_succ]
      refine Lex.step_take (.slice (some ⟨by', 0, none⟩) p2 cy) pj9 rfl (Lex.want_none rfl) (by intro Wx hSw; (try dsimp only at hSw); go_simp; (try (first | (with_reducible rfl) | assumption | rfl))) ?_
      simp only [Act.put, List.setIfInBounds_toArray, List.set_cons_zero, List.set_cons_succ]
      refine Lex.step_call pj10 rfl (Lex.want_none rfl) (fun K hK => ?_)
      refine wp_append_lies _ (.tmp 37) (.tmp 41) 44 (by rfl) w.heap.size 3 i0 _ 1 8 Try.underlying44 hi hz0 hz1 hz2 rfl (by omega) (.slice (some ⟨bx, 0, none⟩) p1 cx) p1 (Li.cellsL cellsI ga') (by rfl) hox ⟨by', 0, none⟩ p2 cy (Li.cellsL cellsI gb') (by rfl) hoy.1 (hoy.cells (g := by') rfl) (one_cells gb') hp2 (by unfold maxLen; omega) (by omega) hsz _ rfl ?_
      intro g5 cap5 y3 hown5 hgrow5 hor5 hlt5
      have hrow5 := own_other hrow hgrow5 (Or.inr (own_kind hox hrow (by decide) rfl))
      have hF5 := hF.put hkx hgrow5 (k' := ⟨g5, cap5, ga' ++ gb'⟩) (joined_own hown5 HPa.out HPb.out) (hor5.elim (fun h => Or.inl (Option.some.inj h).symm) (fun h => Or.inr h))
      have hB := hB.grown hgrow5 hsz (fun k hk => (hox.lt k hk).1)
      have c1 := (hrow5.cellAt x (by omega)).trans hvx
      have c2 := (hrow5.cellAt y (by omega)).trans hvy
      have hsz := Nat.le_trans hsz hgrow5.size
      clear hown5 hgrow5 hor5 hlt5 hF hrow hox hoy
      refine hK.out _ _ _ (fun _ h => h) ⟨c1, c2⟩ ?_
      clear hK K
      try simp only [Act.put, List.setIfInBounds_toArray, List.set_cons_zero, List.set_cons_succ]
      refine Lex.step_take (.pointer (some ⟨w.heap.size, x, none⟩)) pj11 rfl (Lex.want_none rfl) (by intro Wx hSw; (try dsimp only at hSw); go_simp; (try (first | (with_reducible rfl) | assumption | rfl))) ?_
      simp only [Act.put, List.setIfInBounds_toArray, List.set_cons_zero, List.set_cons_succ]
      refine Lex.step_take (.bool true) pj12 rfl (Lex.want_none rfl) (by intro Wx hSw; (try dsimp only at hSw); go_simp; (try (first | (with_reducible rfl) | assumption | rfl))) ?_
      simp only [Act.put, List.setIfInBounds_toArray, List.set_cons_zero, List.set_cons_succ]
      have k1 := c1
      have kf := hrow5.frozenAt x
      refine Lex.last_op pjlast rfl (fun K hK => ?_)
      go_simp
      refine hK.out _ _ ?_
      clear hK K
      have hl5 : (ga' ++ gb').length = p1 + p2 := by rw [List.length_append, HPa.out, HPb.out]
      have hxk := (List.getElem?_eq_some_iff.1 hkx).1
      have hx5 : (ks.set x ⟨g5, cap5, ga' ++ gb'⟩)[x]? = some ⟨g5, cap5, ga' ++ gb'⟩ := by rw [List.getElem?_set, if_pos rfl, if_pos hxk]
      have hv5 : OG.v ⟨g5, cap5, ga' ++ gb'⟩ = .slice (some ⟨g5, 0, none⟩) (p1 + p2) cap5 := by unfold OG.v; rw [hl5]
      have hst := hrow5.stored x (.slice (some ⟨g5, 0, none⟩) (p1 + p2) cap5)
      have hF6 := hF5.store hrow5 (q := x) (.slice (some ⟨g5, 0, none⟩) (p1 + p2) cap5)
      have hB6 := hB.grown hst.2 hsz (fun k hk => (hrow5.lt k hk).1)
      have hrow6 := hst.1
      rw [← hv5, ← List.map_set, hv5] at hrow6
      have k6 := hrow6.cellAt x (by omega)
      rw [List.getElem?_map, hx5, Option.map_some, hv5] at k6
      have hsrt := fun (W : World) (h : Free W w.heap.size (ks.set x ⟨g5, cap5, ga' ++ gb'⟩)) => sort_any h hx5 (by show (ga' ++ gb').length ≤ _; omega)
      rw [hv5] at hsrt
      clear hst hF5 hB hrow5 k1 kf c1 c2 hsz
      generalize y3.setCell ⟨w.heap.size, x, none⟩ (.slice (some ⟨g5, 0, none⟩) (p1 + p2) cap5) = y6 at *
      go_wp2_with fail
      refine (hsrt _ hF6).mono ?_
      rintro e y7 ⟨rfl, hF7, hg7⟩
      have hown6 := hF6.own _ (List.mem_of_getElem? hx5)
      have hrow7 := own_other hrow6 hg7 (Or.inr (own_kind hown6 hrow6 (by decide) rfl))
      have hB7 := hB6.grown hg7 hB6.size (fun k hk => (hown6.lt k hk).1)
      rw [List.set_set] at hF7
      have hE : (ks.set x ⟨g5, cap5, ga' ++ gb'⟩).map OG.v = (ks.set x ⟨g5, cap5, (ga' ++ gb').mergeSort (fun x y => decide (x ≤ y))⟩).map OG.v := by
        rw [List.map_set, List.map_set]
        unfold OG.v
        simp only [List.length_mergeSort]
      rw [hE] at hrow7
      have hdel := delete_any hF7 hrow7 hym (by omega)
      have hfin : ((ks.set x ⟨g5, cap5, (ga' ++ gb').mergeSort (fun x y => decide (x ≤ y))⟩).eraseIdx y).map OG.g = (l1.set x ((ga' ++ gb').mergeSort (fun x y => decide (x ≤ y)))).eraseIdx y := by
        rw [← map_erase, List.map_set, hks]
      rw [hfin] at hdel
      have HD := Lib.hid (And.intro hB7 hrow7)
      clear hF7 hrow7 hg7 hF6 hrow6 hB6 hB7 hown6 hE hfin k6 hsrt hx5 hv5
      go_wp2_with fail
      refine hdel.mono ?_
      rintro e y8 ⟨rfl, hL, hg8⟩
      have HQ := Lib.hid (HP.out y8 hL (HD.out.1.grown hg8 HD.out.1.size (fun k hk => (HD.out.2.lt k hk).1)))
      clear hL hg8 hdel
      go_wp2
      exact HQ.out
end Go.Proofs.Ytifcepjflkgbmaa.Sp
