/- Frames: the document's Parse, walked. -/
import Derived.Test.YtiacdpfodhggmaaDoorFrP
import Derived.Test.YtiacdpfodhggmaaDoorXfs
namespace Go.Proofs.YtiacdpfodhggmaaDoor.Fr
open Go.RowKit Tal Lf Lex
section
variable {w w' : World} {g q B : Nat} {f : F}
theorem BoxF.off4 (h : BoxF w g f) (hq : g ≠ q) (u : Value) {i : Nat} : BoxF (w.setCell ⟨q, i, none⟩ u) g f := by
  have o : ∀ j, (w.setCell ⟨q, i, none⟩ u).cell? ⟨g, j, none⟩ = w.cell? ⟨g, j, none⟩ := fun j => World.cell?_setCell_other w _ _ u (fun e => by injection e with e1 _; exact hq (by first | exact e1 | exact e1.symm))
  exact ⟨(o 0).trans h.c0, (o 1).trans h.c1, (o 2).trans h.c2, (o 3).trans h.c3, (o 4).trans h.c4, fun i => by rw [World.frozen?_setCell]; exact h.f i⟩
theorem BoxF.off (h : BoxF w g f) (hq : g ≠ q) (u : F) : BoxF (((((w.setCell ⟨q, 0, none⟩ (.int .i64 u.e)).setCell ⟨q, 1, none⟩ (.int .i64 u.i)).setCell ⟨q, 2, none⟩ (.bool u.c)).setCell ⟨q, 3, none⟩ (.int .i64 u.p)).setCell ⟨q, 4, none⟩ (.string u.d)) g f :=
  ((((h.off4 hq _).off4 hq _).off4 hq _).off4 hq _).off4 hq _
theorem BoxF.data (h : BoxF w g f) (d : ByteArray) : BoxF (w.setCell ⟨g, 4, none⟩ (.string d)) g ⟨f.e, f.i, f.c, f.p, d⟩ :=
  ⟨cell_set w g 4 0 _ _ (by decide) h.c0, cell_set w g 4 1 _ _ (by decide) h.c1, cell_set w g 4 2 _ _ (by decide) h.c2, cell_set w g 4 3 _ _ (by decide) h.c3, World.cell?_setCell_same w ⟨g, 4, none⟩ _ h.c4, fun i => by rw [World.frozen?_setCell]; exact h.f i⟩
end
theorem frame_word {f : F} (h : RightF f) : (frameB f).data.toList.take 4 = word f.c := by
  rw [frameB_data h.small]
  unfold bodyF
  rw [List.append_assoc, List.take_left' (word_len _)]
theorem tail_of (s : ByteArray) (k : Nat) : (s.extract k s.size).data.toList = s.data.toList.drop k := by
  have h := Lib.extract_toList s k s.size
  rw [ByteArray.toList_eq] at h
  rw [h, List.take_of_length_le (by simp)]
theorem beq_ext {a b : List UInt8} {c : Bool} (h : (a == b) = c) : (c = true → a = b) ∧ (c = false → a ≠ b) := ⟨fun e => beq_iff_eq.1 (h.trans e), fun e => beq_eq_false_iff_ne.1 (h.trans e)⟩
set_option maxRecDepth 20000 in
set_option maxHeartbeats 12800000 in
theorem refParse_any (s : ByteArray) (w : World) (hs : s.size ≤ 300) :
    Calls Tryd.prog 16 #[.string s] w fun e w' => e = .returned (.tuple #[.agg (cellsF ((parseF s).getD noF)), .bool (parseF s).isSome]) ∧ Below w.heap.size w w' := by
  have hB := (Below.refl w.heap.size w).alloc (Nat.le_refl _) (.cells (cellsF noF) 36)
  have hf := BoxF.new w noF 36
  obtain ⟨g, hg⟩ : ∃ g, w.heap.size = g := ⟨_, rfl⟩
  have hwg : w.heap.size ≤ g := by omega
  rw [hg] at hf
  generalize hwa : w.alloc (.cells (cellsF noF) 36) = wa at hB hf
  unfold cellsF noF at hwa
  simp only at hwa
  obtain ⟨post, hpe⟩ : ∃ post, (fun (e : Ending) (w' : World) => e = .returned (.tuple #[.agg (cellsF ((parseF s).getD noF)), .bool (parseF s).isSome]) ∧ Below w.heap.size w w') = post := ⟨_, rfl⟩
  rw [hpe]
  have no : parseF s = none → ∀ W, Below w.heap.size w W → post (.returned (.tuple #[.agg #[.int .i64 0, .int .i64 0, .bool false, .int .i64 0, .string ⟨#[]⟩], .bool false])) W := fun h W hW => by rw [← hpe, h]; exact ⟨rfl, hW⟩
  have yes : parseF s = some (cand s) → ∀ W, Below w.heap.size w W → post (.returned (.tuple #[.agg (cellsF (cand s)), .bool true])) W := fun h W hW => by rw [← hpe, h]; exact ⟨rfl, hW⟩
  have NO := Lib.hid no
  have YES := Lib.hid yes
  clear no yes hpe
  by_cases h : s.size = 256
  · have h1 : ((s.size : Int) == 256) = true := by rw [beq_iff_eq]; omega
    have h2 : ((s.size : Int) != 256) = false := by rw [bne, h1]; rfl
    have i4 : (4 : Int) ≤ (s.size : Int) := by omega
    have i8 : (8 : Int) ≤ (s.size : Int) := by omega
    have i12 : (12 : Int) ≤ (s.size : Int) := by omega
    have i216 : (216 : Int) ≤ (s.size : Int) := by omega
    have hRt := fun W => refRight_any (cand s) W
    have HP := Lib.hid (fun (h : RightF (cand s)) W => refPrint_any (cand s) W h)
    have HI : Hid (RightF (cand s) → frameB (cand s) = s → parseF s = some (cand s)) := Lib.hid (fun h1 h2 => by unfold parseF; rw [if_pos ⟨h, h1, h2⟩])
    have HN : Hid (¬ (RightF (cand s) ∧ frameB (cand s) = s) → parseF s = none) := Lib.hid (fun h1 => by unfold parseF; rw [if_neg (fun h2 => h1 h2.2)])
    have hn4 := fun W => num_any (s := s.extract 4 s.size) W (by rw [ByteArray.size_extract]; omega)
    have hn8 := fun W => num_any (s := s.extract 8 s.size) W (by rw [ByteArray.size_extract]; omega)
    have hn12 := fun W => num_any (s := s.extract 12 s.size) W (by rw [ByteArray.size_extract]; omega)
    rw [tail_of] at hn4 hn8 hn12
    have hpm : parseF s ≠ none → (s.extract 0 4).toList = [76, 79, 71, 80] ∨ (s.extract 0 4).toList = [76, 79, 71, 67] := fun hne => by
      obtain ⟨f, hf⟩ := Option.ne_none_iff_exists'.1 hne
      obtain ⟨h2, h3⟩ := parse_iff.1 hf
      rw [first4, h3, frame_word h2]
      cases f.c
      · exact Or.inl rfl
      · exact Or.inr rfl
    have hcd : ∀ b, ((s.extract 0 4).toList == [76, 79, 71, 67]) = b → cand s = ⟨nm (s.data.toList.drop 4), nm (s.data.toList.drop 8), b, nm (s.data.toList.drop 12), if b then ⟨#[]⟩ else s.extract 16 216⟩ := fun b hb => by
      have hb2 : (s.data.toList.take 4 == word true) = b := by rw [← hb, first4]; rfl
      unfold cand
      rw [hb2]
    generalize nm (s.data.toList.drop 4) = v4 at hn4 hcd
    generalize nm (s.data.toList.drop 8) = v8 at hn8 hcd
    generalize nm (s.data.toList.drop 12) = v12 at hn12 hcd
    obtain ⟨s4, e4⟩ : ∃ x, s.extract 4 s.size = x := ⟨_, rfl⟩
    obtain ⟨s8, e8⟩ : ∃ x, s.extract 8 s.size = x := ⟨_, rfl⟩
    obtain ⟨s12, e12⟩ : ∃ x, s.extract 12 s.size = x := ⟨_, rfl⟩
    rw [e4] at hn4
    rw [e8] at hn8
    rw [e12] at hn12
    obtain ⟨b2, hb2⟩ : ∃ b, ((s.extract 0 4).toList == [76, 79, 71, 67]) = b := ⟨_, rfl⟩
    obtain ⟨b1, hb1⟩ : ∃ b, ((s.extract 0 4).toList == [76, 79, 71, 80]) = b := ⟨_, rfl⟩
    have hcc := hcd b2 hb2
    clear hcd
    have hm1 : ((s.extract 0 4).toList != [76, 79, 71, 80]) = !b1 := by rw [bne, hb1]
    have hm2 : ((s.extract 0 4).toList != [76, 79, 71, 67]) = !b2 := by rw [bne, hb2]
    cases b2
    · rw [Bool.not_false] at hm2
      cases b1
      · rw [Bool.not_false] at hm1
        have hno : parseF s = none := Classical.byContradiction (fun hne => (hpm hne).elim (fun e => (beq_ext hb1).2 rfl e) (fun e => (beq_ext hb2).2 rfl e))
        have HR := Lib.hid (hf.put noF)
        have HB := Lib.hid (below_put hB hwg noF)
        have HNO := Lib.hid (NO.out hno)
        have x0 := hf.c0
        have x1 := hf.c1
        have x2 := hf.c2
        have x3 := hf.c3
        have x4 := hf.c4
        have xf := hf.f
        clear hf hB hno hpm hcc h HP HI HN hRt hn4 hn8 hn12 YES
        go_enter Tryd.func16, Tryd.ntmps16
        go_wp2
        refine bodyPost_ret (results_fr2 rfl _ _ g _ _ _ _ _ rfl HR.out.c0 HR.out.c1 HR.out.c2 HR.out.c3 HR.out.c4) rfl ?_
        exact HNO.out _ HB.out
      · rw [Bool.not_true] at hm1
        rw [hcc] at hRt HP HI HN YES
        unfold cellsF at hRt HP YES
        simp only [Bool.false_eq_true, if_false] at hRt HP HI HN YES
        clear hcc hpm h
        go_enter Tryd.func16, Tryd.ntmps16
        go_upto_region 3 with fail
        clear hwa hg
        have hdr := (Below.refl wa.heap.size wa).drew
        refine Lex.region_tree (ops := fsops) fstree (fun _ => True) (by kernel_rfl) (by kernel_rfl) fssel fslex (trivial) ?_
        unfold fstree
        have hf := hf.below hdr hf.lt
        have hB := hB.trans (hdr.mono hB.size)
        clear hdr
        generalize wa.drew = wd at hf hB ⊢
        refine Lex.tree_take (.string s) fs0 (Lex.want_none rfl) (by intro Wx hSw; (try dsimp only at hSw); go_simp; (try (first | (with_reducible rfl) | assumption | rfl))) ?_
        simp only [Act.put, List.setIfInBounds_toArray, List.set_cons_zero, List.set_cons_succ]
        refine Lex.tree_take (.string s4) fs1 (Lex.want_none rfl) (by intro Wx hSw; (try dsimp only at hSw); go_simp; (try (first | (with_reducible rfl) | assumption | rfl))) ?_
        simp only [Act.put, List.setIfInBounds_toArray, List.set_cons_zero, List.set_cons_succ]
        refine Lex.tree_take (.string s) fs3 (Lex.want_none rfl) (by intro Wx hSw; (try dsimp only at hSw); go_simp; (try (first | (with_reducible rfl) | assumption | rfl))) ?_
        simp only [Act.put, List.setIfInBounds_toArray, List.set_cons_zero, List.set_cons_succ]
        refine Lex.tree_take (.string s8) fs4 (Lex.want_none rfl) (by intro Wx hSw; (try dsimp only at hSw); go_simp; (try (first | (with_reducible rfl) | assumption | rfl))) ?_
        simp only [Act.put, List.setIfInBounds_toArray, List.set_cons_zero, List.set_cons_succ]
        refine Lex.tree_take (.string s) fs6 (Lex.want_none rfl) (by intro Wx hSw; (try dsimp only at hSw); go_simp; (try (first | (with_reducible rfl) | assumption | rfl))) ?_
        simp only [Act.put, List.setIfInBounds_toArray, List.set_cons_zero, List.set_cons_succ]
        refine Lex.tree_take (.string (s.extract 0 4)) fs7 (Lex.want_none rfl) (by intro Wx hSw; (try dsimp only at hSw); go_simp; (try (first | (with_reducible rfl) | assumption | rfl))) ?_
        simp only [Act.put, List.setIfInBounds_toArray, List.set_cons_zero, List.set_cons_succ]
        refine Lex.tree_take (.bool false) fs8 (Lex.want_none rfl) (by intro Wx hSw; (try dsimp only at hSw); go_simp; (try (first | (with_reducible rfl) | assumption | rfl))) ?_
        simp only [Act.put, List.setIfInBounds_toArray, List.set_cons_zero, List.set_cons_succ]
        refine Lex.tree_take (.string s) fs9 (Lex.want_none rfl) (by intro Wx hSw; (try dsimp only at hSw); go_simp; (try (first | (with_reducible rfl) | assumption | rfl))) ?_
        simp only [Act.put, List.setIfInBounds_toArray, List.set_cons_zero, List.set_cons_succ]
        refine Lex.tree_take (.string s12) fs10 (Lex.want_none rfl) (by intro Wx hSw; (try dsimp only at hSw); go_simp; (try (first | (with_reducible rfl) | assumption | rfl))) ?_
        simp only [Act.put, List.setIfInBounds_toArray, List.set_cons_zero, List.set_cons_succ]
        refine Lex.tree_call fs2 (Lex.want_none rfl) (fun K hK => ?_) ?_
        · go_simp
          refine (hn4 _).mono ?_
          rintro e y4 ⟨rfl, hv⟩
          have hf := hf.below hv hf.lt
          have hB := hB.trans (hv.mono hB.size)
          clear hv
          refine hK.out _ _ _ (fun _ h => h) trivial ?_
          clear hK K
          try simp only [Act.put, List.setIfInBounds_toArray, List.set_cons_zero, List.set_cons_succ]
          refine Lex.tree_call fs5 (Lex.want_none rfl) (fun K hK => ?_) ?_
          · go_simp
            refine (hn8 _).mono ?_
            rintro e y8 ⟨rfl, hv⟩
            have hf := hf.below hv hf.lt
            have hB := hB.trans (hv.mono hB.size)
            clear hv
            refine hK.out _ _ _ (fun _ h => h) trivial ?_
            clear hK K
            try simp only [Act.put, List.setIfInBounds_toArray, List.set_cons_zero, List.set_cons_succ]
            refine Lex.tree_call fs11 (Lex.want_none rfl) (fun K hK => ?_) ?_
            · go_simp
              refine (hn12 _).mono ?_
              rintro e y12 ⟨rfl, hv⟩
              have hf := hf.below hv hf.lt
              have hB := hB.trans (hv.mono hB.size)
              clear hv
              refine hK.out _ _ _ (fun _ h => h) trivial ?_
              clear hK K
              try simp only [Act.put, List.setIfInBounds_toArray, List.set_cons_zero, List.set_cons_succ]
              refine Lex.tree_take (.agg #[.int .i64 (v4 : Int), .int .i64 (v8 : Int), .bool false, .int .i64 (v12 : Int), .string ⟨#[]⟩]) fs12 (Lex.want_none rfl) (by intro Wx hSw; (try dsimp only at hSw); go_simp; (try (first | (with_reducible rfl) | assumption | rfl))) ?_
              simp only [Act.put, List.setIfInBounds_toArray, List.set_cons_zero, List.set_cons_succ]
              refine Lex.tree_call fs13 (Lex.want_none rfl) (fun K hK => ?_) Lex.tree_no
              go_simp
              have hn := (Below.refl y12.heap.size y12).alloc (Nat.le_refl _) (.cells #[.int .i64 0, .int .i64 0, .bool false, .int .i64 0, .string ⟨#[]⟩] 36)
              have hq : BoxF (y12.alloc (.cells #[.int .i64 0, .int .i64 0, .bool false, .int .i64 0, .string ⟨#[]⟩] 36)) y12.heap.size noF := BoxF.new y12 noF 36
              have hgq := hf.lt
              have hwq := hB.size
              have hf := hf.below hn hf.lt
              have hB := hB.trans (hn.mono hB.size)
              clear hn
              generalize y12.alloc (.cells #[.int .i64 0, .int .i64 0, .bool false, .int .i64 0, .string ⟨#[]⟩] 36) = zy12 at hf hB hq ⊢
              generalize y12.heap.size = gq at hq hgq hwq ⊢
              refine hK.out _ _ _ (fun _ h => h) trivial ?_
              clear hK K
              try simp only [Act.put, List.setIfInBounds_toArray, List.set_cons_zero, List.set_cons_succ]
              refine Lex.tree_call fs14 (Lex.want_none rfl) (fun K hK => ?_) Lex.tree_no
              have k0 := hq.c0
              have k1 := hq.c1
              have k2 := hq.c2
              have k3 := hq.c3
              have k4 := hq.c4
              have kf := hq.f
              go_simp
              clear k0 k1 k2 k3 k4 kf
              have hf := hf.off (Nat.ne_of_lt hgq) ⟨v4, v8, false, v12, ⟨#[]⟩⟩
              have hB := below_put hB hwq ⟨v4, v8, false, v12, ⟨#[]⟩⟩
              have hq := hq.put ⟨v4, v8, false, v12, ⟨#[]⟩⟩
              generalize (((((zy12).setCell ⟨gq, 0, none⟩ (.int .i64 (v4 : Int))).setCell ⟨gq, 1, none⟩ (.int .i64 (v8 : Int))).setCell ⟨gq, 2, none⟩ (.bool false)).setCell ⟨gq, 3, none⟩ (.int .i64 (v12 : Int))).setCell ⟨gq, 4, none⟩ (.string ⟨#[]⟩) = s9 at hf hB hq ⊢
              refine hK.out _ _ _ (fun _ h => h) trivial ?_
              clear hK K
              try simp only [Act.put, List.setIfInBounds_toArray, List.set_cons_zero, List.set_cons_succ]
              refine Lex.tree_end ?_
              refine NoPanic.normal ?_
              have q0 := hq.c0
              have q1 := hq.c1
              have q2 := hq.c2
              have q3 := hq.c3
              have q4 := hq.c4
              have qf := hq.f
              simp only at q0 q1 q2 q3 q4
              go_upto_region 6 with fail
              clear q0 q1 q2 q3 q4 qf
              have hq := hq.data (s.extract 16 216)
              have hf := hf.off4 (Nat.ne_of_lt hgq) (.string (s.extract 16 216)) (i := 4)
              have hB := hB.setCell (p := ⟨gq, 4, none⟩) hwq (.string (s.extract 16 216))
              generalize s9.setCell ⟨gq, 4, none⟩ (.string (s.extract 16 216)) = s9 at hf hB hq ⊢
              have q0 := hq.c0
              have q1 := hq.c1
              have q2 := hq.c2
              have q3 := hq.c3
              have q4 := hq.c4
              simp only at q0 q1 q2 q3 q4
              go_wp2_with fail
              refine (hRt _).mono ?_
              rintro e w4 ⟨is, rfl, hb, hv⟩
              have hf := hf.below hv hf.lt
              have hq := hq.below hv hq.lt
              have hB := hB.trans (hv.mono hB.size)
              clear hv q0 q1 q2 q3 q4
              have q0 := hq.c0
              have q1 := hq.c1
              have q2 := hq.c2
              have q3 := hq.c3
              have q4 := hq.c4
              simp only at q0 q1 q2 q3 q4
              cases is
              · have HR := Lib.hid (hf.put noF)
                have HB := Lib.hid (below_put hB hwg noF)
                have HNO := Lib.hid (NO.out (HN.out (fun h => by cases hb.2 h.1)))
                have x0 := hf.c0
                have x1 := hf.c1
                have x2 := hf.c2
                have x3 := hf.c3
                have x4 := hf.c4
                have xf := hf.f
                clear hf hB hq q0 q1 q2 q3 q4 hb
                go_wp2
                refine bodyPost_ret (results_fr2 rfl _ _ g _ _ _ _ _ rfl HR.out.c0 HR.out.c1 HR.out.c2 HR.out.c3 HR.out.c4) rfl ?_
                exact HNO.out _ HB.out
              · have hr := hb.1 rfl
                have hpf := HP.out hr
                clear hb
                go_wp2_with fail
                refine (hpf _).mono ?_
                rintro e w5 ⟨rfl, hv⟩
                have hf := hf.below hv hf.lt
                have hq := hq.below hv hq.lt
                have hB := hB.trans (hv.mono hB.size)
                clear hv hpf q0 q1 q2 q3 q4
                have x0 := hf.c0
                have x1 := hf.c1
                have x2 := hf.c2
                have x3 := hf.c3
                have x4 := hf.c4
                have xf := hf.f
                by_cases hqq : frameB ⟨v4, v8, false, v12, (s.extract 16 216)⟩ = s
                · have e1 : ((frameB ⟨v4, v8, false, v12, (s.extract 16 216)⟩).toList == s.toList) = true := by rw [hqq]; exact beq_self_eq_true _
                  have HR := Lib.hid (hf.put ⟨v4, v8, false, v12, (s.extract 16 216)⟩)
                  have HB := Lib.hid (below_put hB hwg ⟨v4, v8, false, v12, (s.extract 16 216)⟩)
                  have HYE := Lib.hid (YES.out (HI.out hr hqq))
                  have q0 := hq.c0
                  have q1 := hq.c1
                  have q2 := hq.c2
                  have q3 := hq.c3
                  have q4 := hq.c4
                  simp only at q0 q1 q2 q3 q4
                  generalize frameB ⟨v4, v8, false, v12, (s.extract 16 216)⟩ = sx at e1 ⊢
                  clear hf hB hq hqq hr
                  go_wp2
                  refine bodyPost_ret (results_fr2 rfl _ _ g _ _ _ _ _ rfl HR.out.c0 HR.out.c1 HR.out.c2 HR.out.c3 HR.out.c4) rfl ?_
                  exact HYE.out _ HB.out
                · have e1 : ((frameB ⟨v4, v8, false, v12, (s.extract 16 216)⟩).toList == s.toList) = false := str_ne hqq
                  have HR := Lib.hid (hf.put noF)
                  have HB := Lib.hid (below_put hB hwg noF)
                  have HNO := Lib.hid (NO.out (HN.out (fun h => hqq h.2)))
                  generalize frameB ⟨v4, v8, false, v12, (s.extract 16 216)⟩ = sx at e1 ⊢
                  clear hf hB hq hqq hr
                  go_wp2
                  refine bodyPost_ret (results_fr2 rfl _ _ g _ _ _ _ _ rfl HR.out.c0 HR.out.c1 HR.out.c2 HR.out.c3 HR.out.c4) rfl ?_
                  exact HNO.out _ HB.out
            refine Lex.tree_call fs13 (Lex.want_none rfl) (fun K hK => ?_) Lex.tree_no
            go_simp
            have hn := (Below.refl y8.heap.size y8).alloc (Nat.le_refl _) (.cells #[.int .i64 0, .int .i64 0, .bool false, .int .i64 0, .string ⟨#[]⟩] 36)
            have hq : BoxF (y8.alloc (.cells #[.int .i64 0, .int .i64 0, .bool false, .int .i64 0, .string ⟨#[]⟩] 36)) y8.heap.size noF := BoxF.new y8 noF 36
            have hgq := hf.lt
            have hwq := hB.size
            have hf := hf.below hn hf.lt
            have hB := hB.trans (hn.mono hB.size)
            clear hn
            generalize y8.alloc (.cells #[.int .i64 0, .int .i64 0, .bool false, .int .i64 0, .string ⟨#[]⟩] 36) = zy8 at hf hB hq ⊢
            generalize y8.heap.size = gq at hq hgq hwq ⊢
            refine hK.out _ _ _ (fun _ h => h) trivial ?_
            clear hK K
            try simp only [Act.put, List.setIfInBounds_toArray, List.set_cons_zero, List.set_cons_succ]
            refine Lex.tree_call fs11 (Lex.want_none rfl) (fun K hK => ?_) Lex.tree_no
            go_simp
            refine (hn12 _).mono ?_
            rintro e y12 ⟨rfl, hv⟩
            have hf := hf.below hv hf.lt
            have hq := hq.below hv hq.lt
            have hB := hB.trans (hv.mono hB.size)
            clear hv
            refine hK.out _ _ _ (fun _ h => h) trivial ?_
            clear hK K
            try simp only [Act.put, List.setIfInBounds_toArray, List.set_cons_zero, List.set_cons_succ]
            refine Lex.tree_take (.agg #[.int .i64 (v4 : Int), .int .i64 (v8 : Int), .bool false, .int .i64 (v12 : Int), .string ⟨#[]⟩]) fs12 (Lex.want_none rfl) (by intro Wx hSw; (try dsimp only at hSw); go_simp; (try (first | (with_reducible rfl) | assumption | rfl))) ?_
            simp only [Act.put, List.setIfInBounds_toArray, List.set_cons_zero, List.set_cons_succ]
            refine Lex.tree_call fs14 (Lex.want_none rfl) (fun K hK => ?_) Lex.tree_no
            have k0 := hq.c0
            have k1 := hq.c1
            have k2 := hq.c2
            have k3 := hq.c3
            have k4 := hq.c4
            have kf := hq.f
            go_simp
            clear k0 k1 k2 k3 k4 kf
            have hf := hf.off (Nat.ne_of_lt hgq) ⟨v4, v8, false, v12, ⟨#[]⟩⟩
            have hB := below_put hB hwq ⟨v4, v8, false, v12, ⟨#[]⟩⟩
            have hq := hq.put ⟨v4, v8, false, v12, ⟨#[]⟩⟩
            generalize (((((y12).setCell ⟨gq, 0, none⟩ (.int .i64 (v4 : Int))).setCell ⟨gq, 1, none⟩ (.int .i64 (v8 : Int))).setCell ⟨gq, 2, none⟩ (.bool false)).setCell ⟨gq, 3, none⟩ (.int .i64 (v12 : Int))).setCell ⟨gq, 4, none⟩ (.string ⟨#[]⟩) = s9 at hf hB hq ⊢
            refine hK.out _ _ _ (fun _ h => h) trivial ?_
            clear hK K
            try simp only [Act.put, List.setIfInBounds_toArray, List.set_cons_zero, List.set_cons_succ]
            refine Lex.tree_end ?_
            refine NoPanic.normal ?_
            have q0 := hq.c0
            have q1 := hq.c1
            have q2 := hq.c2
            have q3 := hq.c3
            have q4 := hq.c4
            have qf := hq.f
            simp only at q0 q1 q2 q3 q4
            go_upto_region 6 with fail
            clear q0 q1 q2 q3 q4 qf
            have hq := hq.data (s.extract 16 216)
            have hf := hf.off4 (Nat.ne_of_lt hgq) (.string (s.extract 16 216)) (i := 4)
            have hB := hB.setCell (p := ⟨gq, 4, none⟩) hwq (.string (s.extract 16 216))
            generalize s9.setCell ⟨gq, 4, none⟩ (.string (s.extract 16 216)) = s9 at hf hB hq ⊢
            have q0 := hq.c0
            have q1 := hq.c1
            have q2 := hq.c2
            have q3 := hq.c3
            have q4 := hq.c4
            simp only at q0 q1 q2 q3 q4
            go_wp2_with fail
            refine (hRt _).mono ?_
            rintro e w4 ⟨is, rfl, hb, hv⟩
            have hf := hf.below hv hf.lt
            have hq := hq.below hv hq.lt
            have hB := hB.trans (hv.mono hB.size)
            clear hv q0 q1 q2 q3 q4
            have q0 := hq.c0
            have q1 := hq.c1
            have q2 := hq.c2
            have q3 := hq.c3
            have q4 := hq.c4
            simp only at q0 q1 q2 q3 q4
            cases is
            · have HR := Lib.hid (hf.put noF)
              have HB := Lib.hid (below_put hB hwg noF)
              have HNO := Lib.hid (NO.out (HN.out (fun h => by cases hb.2 h.1)))
              have x0 := hf.c0
              have x1 := hf.c1
              have x2 := hf.c2
              have x3 := hf.c3
              have x4 := hf.c4
              have xf := hf.f
              clear hf hB hq q0 q1 q2 q3 q4 hb
              go_wp2
              refine bodyPost_ret (results_fr2 rfl _ _ g _ _ _ _ _ rfl HR.out.c0 HR.out.c1 HR.out.c2 HR.out.c3 HR.out.c4) rfl ?_
              exact HNO.out _ HB.out
            · have hr := hb.1 rfl
              have hpf := HP.out hr
              clear hb
              go_wp2_with fail
              refine (hpf _).mono ?_
              rintro e w5 ⟨rfl, hv⟩
              have hf := hf.below hv hf.lt
              have hq := hq.below hv hq.lt
              have hB := hB.trans (hv.mono hB.size)
              clear hv hpf q0 q1 q2 q3 q4
              have x0 := hf.c0
              have x1 := hf.c1
              have x2 := hf.c2
              have x3 := hf.c3
              have x4 := hf.c4
              have xf := hf.f
              by_cases hqq : frameB ⟨v4, v8, false, v12, (s.extract 16 216)⟩ = s
              · have e1 : ((frameB ⟨v4, v8, false, v12, (s.extract 16 216)⟩).toList == s.toList) = true := by rw [hqq]; exact beq_self_eq_true _
                have HR := Lib.hid (hf.put ⟨v4, v8, false, v12, (s.extract 16 216)⟩)
                have HB := Lib.hid (below_put hB hwg ⟨v4, v8, false, v12, (s.extract 16 216)⟩)
                have HYE := Lib.hid (YES.out (HI.out hr hqq))
                have q0 := hq.c0
                have q1 := hq.c1
                have q2 := hq.c2
                have q3 := hq.c3
                have q4 := hq.c4
                simp only at q0 q1 q2 q3 q4
                generalize frameB ⟨v4, v8, false, v12, (s.extract 16 216)⟩ = sx at e1 ⊢
                clear hf hB hq hqq hr
                go_wp2
                refine bodyPost_ret (results_fr2 rfl _ _ g _ _ _ _ _ rfl HR.out.c0 HR.out.c1 HR.out.c2 HR.out.c3 HR.out.c4) rfl ?_
                exact HYE.out _ HB.out
              · have e1 : ((frameB ⟨v4, v8, false, v12, (s.extract 16 216)⟩).toList == s.toList) = false := str_ne hqq
                have HR := Lib.hid (hf.put noF)
                have HB := Lib.hid (below_put hB hwg noF)
                have HNO := Lib.hid (NO.out (HN.out (fun h => hqq h.2)))
                generalize frameB ⟨v4, v8, false, v12, (s.extract 16 216)⟩ = sx at e1 ⊢
                clear hf hB hq hqq hr
                go_wp2
                refine bodyPost_ret (results_fr2 rfl _ _ g _ _ _ _ _ rfl HR.out.c0 HR.out.c1 HR.out.c2 HR.out.c3 HR.out.c4) rfl ?_
                exact HNO.out _ HB.out
          refine Lex.tree_call fs13 (Lex.want_none rfl) (fun K hK => ?_) Lex.tree_no
          go_simp
          have hn := (Below.refl y4.heap.size y4).alloc (Nat.le_refl _) (.cells #[.int .i64 0, .int .i64 0, .bool false, .int .i64 0, .string ⟨#[]⟩] 36)
          have hq : BoxF (y4.alloc (.cells #[.int .i64 0, .int .i64 0, .bool false, .int .i64 0, .string ⟨#[]⟩] 36)) y4.heap.size noF := BoxF.new y4 noF 36
          have hgq := hf.lt
          have hwq := hB.size
          have hf := hf.below hn hf.lt
          have hB := hB.trans (hn.mono hB.size)
          clear hn
          generalize y4.alloc (.cells #[.int .i64 0, .int .i64 0, .bool false, .int .i64 0, .string ⟨#[]⟩] 36) = zy4 at hf hB hq ⊢
          generalize y4.heap.size = gq at hq hgq hwq ⊢
          refine hK.out _ _ _ (fun _ h => h) trivial ?_
          clear hK K
          try simp only [Act.put, List.setIfInBounds_toArray, List.set_cons_zero, List.set_cons_succ]
          refine Lex.tree_call fs5 (Lex.want_none rfl) (fun K hK => ?_) Lex.tree_no
          go_simp
          refine (hn8 _).mono ?_
          rintro e y8 ⟨rfl, hv⟩
          have hf := hf.below hv hf.lt
          have hq := hq.below hv hq.lt
          have hB := hB.trans (hv.mono hB.size)
          clear hv
          refine hK.out _ _ _ (fun _ h => h) trivial ?_
          clear hK K
          try simp only [Act.put, List.setIfInBounds_toArray, List.set_cons_zero, List.set_cons_succ]
          refine Lex.tree_call fs11 (Lex.want_none rfl) (fun K hK => ?_) Lex.tree_no
          go_simp
          refine (hn12 _).mono ?_
          rintro e y12 ⟨rfl, hv⟩
          have hf := hf.below hv hf.lt
          have hq := hq.below hv hq.lt
          have hB := hB.trans (hv.mono hB.size)
          clear hv
          refine hK.out _ _ _ (fun _ h => h) trivial ?_
          clear hK K
          try simp only [Act.put, List.setIfInBounds_toArray, List.set_cons_zero, List.set_cons_succ]
          refine Lex.tree_take (.agg #[.int .i64 (v4 : Int), .int .i64 (v8 : Int), .bool false, .int .i64 (v12 : Int), .string ⟨#[]⟩]) fs12 (Lex.want_none rfl) (by intro Wx hSw; (try dsimp only at hSw); go_simp; (try (first | (with_reducible rfl) | assumption | rfl))) ?_
          simp only [Act.put, List.setIfInBounds_toArray, List.set_cons_zero, List.set_cons_succ]
          refine Lex.tree_call fs14 (Lex.want_none rfl) (fun K hK => ?_) Lex.tree_no
          have k0 := hq.c0
          have k1 := hq.c1
          have k2 := hq.c2
          have k3 := hq.c3
          have k4 := hq.c4
          have kf := hq.f
          go_simp
          clear k0 k1 k2 k3 k4 kf
          have hf := hf.off (Nat.ne_of_lt hgq) ⟨v4, v8, false, v12, ⟨#[]⟩⟩
          have hB := below_put hB hwq ⟨v4, v8, false, v12, ⟨#[]⟩⟩
          have hq := hq.put ⟨v4, v8, false, v12, ⟨#[]⟩⟩
          generalize (((((y12).setCell ⟨gq, 0, none⟩ (.int .i64 (v4 : Int))).setCell ⟨gq, 1, none⟩ (.int .i64 (v8 : Int))).setCell ⟨gq, 2, none⟩ (.bool false)).setCell ⟨gq, 3, none⟩ (.int .i64 (v12 : Int))).setCell ⟨gq, 4, none⟩ (.string ⟨#[]⟩) = s9 at hf hB hq ⊢
          refine hK.out _ _ _ (fun _ h => h) trivial ?_
          clear hK K
          try simp only [Act.put, List.setIfInBounds_toArray, List.set_cons_zero, List.set_cons_succ]
          refine Lex.tree_end ?_
          refine NoPanic.normal ?_
          have q0 := hq.c0
          have q1 := hq.c1
          have q2 := hq.c2
          have q3 := hq.c3
          have q4 := hq.c4
          have qf := hq.f
          simp only at q0 q1 q2 q3 q4
          go_upto_region 6 with fail
          clear q0 q1 q2 q3 q4 qf
          have hq := hq.data (s.extract 16 216)
          have hf := hf.off4 (Nat.ne_of_lt hgq) (.string (s.extract 16 216)) (i := 4)
          have hB := hB.setCell (p := ⟨gq, 4, none⟩) hwq (.string (s.extract 16 216))
          generalize s9.setCell ⟨gq, 4, none⟩ (.string (s.extract 16 216)) = s9 at hf hB hq ⊢
          have q0 := hq.c0
          have q1 := hq.c1
          have q2 := hq.c2
          have q3 := hq.c3
          have q4 := hq.c4
          simp only at q0 q1 q2 q3 q4
          go_wp2_with fail
          refine (hRt _).mono ?_
          rintro e w4 ⟨is, rfl, hb, hv⟩
          have hf := hf.below hv hf.lt
          have hq := hq.below hv hq.lt
          have hB := hB.trans (hv.mono hB.size)
          clear hv q0 q1 q2 q3 q4
          have q0 := hq.c0
          have q1 := hq.c1
          have q2 := hq.c2
          have q3 := hq.c3
          have q4 := hq.c4
          simp only at q0 q1 q2 q3 q4
          cases is
          · have HR := Lib.hid (hf.put noF)
            have HB := Lib.hid (below_put hB hwg noF)
            have HNO := Lib.hid (NO.out (HN.out (fun h => by cases hb.2 h.1)))
            have x0 := hf.c0
            have x1 := hf.c1
            have x2 := hf.c2
            have x3 := hf.c3
            have x4 := hf.c4
            have xf := hf.f
            clear hf hB hq q0 q1 q2 q3 q4 hb
            go_wp2
            refine bodyPost_ret (results_fr2 rfl _ _ g _ _ _ _ _ rfl HR.out.c0 HR.out.c1 HR.out.c2 HR.out.c3 HR.out.c4) rfl ?_
            exact HNO.out _ HB.out
          · have hr := hb.1 rfl
            have hpf := HP.out hr
            clear hb
            go_wp2_with fail
            refine (hpf _).mono ?_
            rintro e w5 ⟨rfl, hv⟩
            have hf := hf.below hv hf.lt
            have hq := hq.below hv hq.lt
            have hB := hB.trans (hv.mono hB.size)
            clear hv hpf q0 q1 q2 q3 q4
            have x0 := hf.c0
            have x1 := hf.c1
            have x2 := hf.c2
            have x3 := hf.c3
            have x4 := hf.c4
            have xf := hf.f
            by_cases hqq : frameB ⟨v4, v8, false, v12, (s.extract 16 216)⟩ = s
            · have e1 : ((frameB ⟨v4, v8, false, v12, (s.extract 16 216)⟩).toList == s.toList) = true := by rw [hqq]; exact beq_self_eq_true _
              have HR := Lib.hid (hf.put ⟨v4, v8, false, v12, (s.extract 16 216)⟩)
              have HB := Lib.hid (below_put hB hwg ⟨v4, v8, false, v12, (s.extract 16 216)⟩)
              have HYE := Lib.hid (YES.out (HI.out hr hqq))
              have q0 := hq.c0
              have q1 := hq.c1
              have q2 := hq.c2
              have q3 := hq.c3
              have q4 := hq.c4
              simp only at q0 q1 q2 q3 q4
              generalize frameB ⟨v4, v8, false, v12, (s.extract 16 216)⟩ = sx at e1 ⊢
              clear hf hB hq hqq hr
              go_wp2
              refine bodyPost_ret (results_fr2 rfl _ _ g _ _ _ _ _ rfl HR.out.c0 HR.out.c1 HR.out.c2 HR.out.c3 HR.out.c4) rfl ?_
              exact HYE.out _ HB.out
            · have e1 : ((frameB ⟨v4, v8, false, v12, (s.extract 16 216)⟩).toList == s.toList) = false := str_ne hqq
              have HR := Lib.hid (hf.put noF)
              have HB := Lib.hid (below_put hB hwg noF)
              have HNO := Lib.hid (NO.out (HN.out (fun h => hqq h.2)))
              generalize frameB ⟨v4, v8, false, v12, (s.extract 16 216)⟩ = sx at e1 ⊢
              clear hf hB hq hqq hr
              go_wp2
              refine bodyPost_ret (results_fr2 rfl _ _ g _ _ _ _ _ rfl HR.out.c0 HR.out.c1 HR.out.c2 HR.out.c3 HR.out.c4) rfl ?_
              exact HNO.out _ HB.out
        refine Lex.tree_call fs13 (Lex.want_none rfl) (fun K hK => ?_) Lex.tree_no
        go_simp
        have hn := (Below.refl wd.heap.size wd).alloc (Nat.le_refl _) (.cells #[.int .i64 0, .int .i64 0, .bool false, .int .i64 0, .string ⟨#[]⟩] 36)
        have hq : BoxF (wd.alloc (.cells #[.int .i64 0, .int .i64 0, .bool false, .int .i64 0, .string ⟨#[]⟩] 36)) wd.heap.size noF := BoxF.new wd noF 36
        have hgq := hf.lt
        have hwq := hB.size
        have hf := hf.below hn hf.lt
        have hB := hB.trans (hn.mono hB.size)
        clear hn
        generalize wd.alloc (.cells #[.int .i64 0, .int .i64 0, .bool false, .int .i64 0, .string ⟨#[]⟩] 36) = zwd at hf hB hq ⊢
        generalize wd.heap.size = gq at hq hgq hwq ⊢
        refine hK.out _ _ _ (fun _ h => h) trivial ?_
        clear hK K
        try simp only [Act.put, List.setIfInBounds_toArray, List.set_cons_zero, List.set_cons_succ]
        refine Lex.tree_call fs2 (Lex.want_none rfl) (fun K hK => ?_) Lex.tree_no
        go_simp
        refine (hn4 _).mono ?_
        rintro e y4 ⟨rfl, hv⟩
        have hf := hf.below hv hf.lt
        have hq := hq.below hv hq.lt
        have hB := hB.trans (hv.mono hB.size)
        clear hv
        refine hK.out _ _ _ (fun _ h => h) trivial ?_
        clear hK K
        try simp only [Act.put, List.setIfInBounds_toArray, List.set_cons_zero, List.set_cons_succ]
        refine Lex.tree_call fs5 (Lex.want_none rfl) (fun K hK => ?_) Lex.tree_no
        go_simp
        refine (hn8 _).mono ?_
        rintro e y8 ⟨rfl, hv⟩
        have hf := hf.below hv hf.lt
        have hq := hq.below hv hq.lt
        have hB := hB.trans (hv.mono hB.size)
        clear hv
        refine hK.out _ _ _ (fun _ h => h) trivial ?_
        clear hK K
        try simp only [Act.put, List.setIfInBounds_toArray, List.set_cons_zero, List.set_cons_succ]
        refine Lex.tree_call fs11 (Lex.want_none rfl) (fun K hK => ?_) Lex.tree_no
        go_simp
        refine (hn12 _).mono ?_
        rintro e y12 ⟨rfl, hv⟩
        have hf := hf.below hv hf.lt
        have hq := hq.below hv hq.lt
        have hB := hB.trans (hv.mono hB.size)
        clear hv
        refine hK.out _ _ _ (fun _ h => h) trivial ?_
        clear hK K
        try simp only [Act.put, List.setIfInBounds_toArray, List.set_cons_zero, List.set_cons_succ]
        refine Lex.tree_take (.agg #[.int .i64 (v4 : Int), .int .i64 (v8 : Int), .bool false, .int .i64 (v12 : Int), .string ⟨#[]⟩]) fs12 (Lex.want_none rfl) (by intro Wx hSw; (try dsimp only at hSw); go_simp; (try (first | (with_reducible rfl) | assumption | rfl))) ?_
        simp only [Act.put, List.setIfInBounds_toArray, List.set_cons_zero, List.set_cons_succ]
        refine Lex.tree_call fs14 (Lex.want_none rfl) (fun K hK => ?_) Lex.tree_no
        have k0 := hq.c0
        have k1 := hq.c1
        have k2 := hq.c2
        have k3 := hq.c3
        have k4 := hq.c4
        have kf := hq.f
        go_simp
        clear k0 k1 k2 k3 k4 kf
        have hf := hf.off (Nat.ne_of_lt hgq) ⟨v4, v8, false, v12, ⟨#[]⟩⟩
        have hB := below_put hB hwq ⟨v4, v8, false, v12, ⟨#[]⟩⟩
        have hq := hq.put ⟨v4, v8, false, v12, ⟨#[]⟩⟩
        generalize (((((y12).setCell ⟨gq, 0, none⟩ (.int .i64 (v4 : Int))).setCell ⟨gq, 1, none⟩ (.int .i64 (v8 : Int))).setCell ⟨gq, 2, none⟩ (.bool false)).setCell ⟨gq, 3, none⟩ (.int .i64 (v12 : Int))).setCell ⟨gq, 4, none⟩ (.string ⟨#[]⟩) = s9 at hf hB hq ⊢
        refine hK.out _ _ _ (fun _ h => h) trivial ?_
        clear hK K
        try simp only [Act.put, List.setIfInBounds_toArray, List.set_cons_zero, List.set_cons_succ]
        refine Lex.tree_end ?_
        refine NoPanic.normal ?_
        have q0 := hq.c0
        have q1 := hq.c1
        have q2 := hq.c2
        have q3 := hq.c3
        have q4 := hq.c4
        have qf := hq.f
        simp only at q0 q1 q2 q3 q4
        go_upto_region 6 with fail
        clear q0 q1 q2 q3 q4 qf
        have hq := hq.data (s.extract 16 216)
        have hf := hf.off4 (Nat.ne_of_lt hgq) (.string (s.extract 16 216)) (i := 4)
        have hB := hB.setCell (p := ⟨gq, 4, none⟩) hwq (.string (s.extract 16 216))
        generalize s9.setCell ⟨gq, 4, none⟩ (.string (s.extract 16 216)) = s9 at hf hB hq ⊢
        have q0 := hq.c0
        have q1 := hq.c1
        have q2 := hq.c2
        have q3 := hq.c3
        have q4 := hq.c4
        simp only at q0 q1 q2 q3 q4
        go_wp2_with fail
        refine (hRt _).mono ?_
        rintro e w4 ⟨is, rfl, hb, hv⟩
        have hf := hf.below hv hf.lt
        have hq := hq.below hv hq.lt
        have hB := hB.trans (hv.mono hB.size)
        clear hv q0 q1 q2 q3 q4
        have q0 := hq.c0
        have q1 := hq.c1
        have q2 := hq.c2
        have q3 := hq.c3
        have q4 := hq.c4
        simp only at q0 q1 q2 q3 q4
        cases is
        · have HR := Lib.hid (hf.put noF)
          have HB := Lib.hid (below_put hB hwg noF)
          have HNO := Lib.hid (NO.out (HN.out (fun h => by cases hb.2 h.1)))
          have x0 := hf.c0
          have x1 := hf.c1
          have x2 := hf.c2
          have x3 := hf.c3
          have x4 := hf.c4
          have xf := hf.f
          clear hf hB hq q0 q1 q2 q3 q4 hb
          go_wp2
          refine bodyPost_ret (results_fr2 rfl _ _ g _ _ _ _ _ rfl HR.out.c0 HR.out.c1 HR.out.c2 HR.out.c3 HR.out.c4) rfl ?_
          exact HNO.out _ HB.out
        · have hr := hb.1 rfl
          have hpf := HP.out hr
          clear hb
          go_wp2_with fail
          refine (hpf _).mono ?_
          rintro e w5 ⟨rfl, hv⟩
          have hf := hf.below hv hf.lt
          have hq := hq.below hv hq.lt
          have hB := hB.trans (hv.mono hB.size)
          clear hv hpf q0 q1 q2 q3 q4
          have x0 := hf.c0
          have x1 := hf.c1
          have x2 := hf.c2
          have x3 := hf.c3
          have x4 := hf.c4
          have xf := hf.f
          by_cases hqq : frameB ⟨v4, v8, false, v12, (s.extract 16 216)⟩ = s
          · have e1 : ((frameB ⟨v4, v8, false, v12, (s.extract 16 216)⟩).toList == s.toList) = true := by rw [hqq]; exact beq_self_eq_true _
            have HR := Lib.hid (hf.put ⟨v4, v8, false, v12, (s.extract 16 216)⟩)
            have HB := Lib.hid (below_put hB hwg ⟨v4, v8, false, v12, (s.extract 16 216)⟩)
            have HYE := Lib.hid (YES.out (HI.out hr hqq))
            have q0 := hq.c0
            have q1 := hq.c1
            have q2 := hq.c2
            have q3 := hq.c3
            have q4 := hq.c4
            simp only at q0 q1 q2 q3 q4
            generalize frameB ⟨v4, v8, false, v12, (s.extract 16 216)⟩ = sx at e1 ⊢
            clear hf hB hq hqq hr
            go_wp2
            refine bodyPost_ret (results_fr2 rfl _ _ g _ _ _ _ _ rfl HR.out.c0 HR.out.c1 HR.out.c2 HR.out.c3 HR.out.c4) rfl ?_
            exact HYE.out _ HB.out
          · have e1 : ((frameB ⟨v4, v8, false, v12, (s.extract 16 216)⟩).toList == s.toList) = false := str_ne hqq
            have HR := Lib.hid (hf.put noF)
            have HB := Lib.hid (below_put hB hwg noF)
            have HNO := Lib.hid (NO.out (HN.out (fun h => hqq h.2)))
            generalize frameB ⟨v4, v8, false, v12, (s.extract 16 216)⟩ = sx at e1 ⊢
            clear hf hB hq hqq hr
            go_wp2
            refine bodyPost_ret (results_fr2 rfl _ _ g _ _ _ _ _ rfl HR.out.c0 HR.out.c1 HR.out.c2 HR.out.c3 HR.out.c4) rfl ?_
            exact HNO.out _ HB.out
    · have hb3 : ((s.extract 0 4).toList == [76, 79, 71, 80]) = false := by
        rw [beq_eq_false_iff_ne, (beq_ext hb2).1 rfl]
        decide
      obtain rfl : b1 = false := hb1.symm.trans hb3
      rw [Bool.not_false] at hm1
      rw [Bool.not_true] at hm2
      rw [hcc] at hRt HP HI HN YES
      unfold cellsF at hRt HP YES
      simp only [if_true] at hRt HP HI HN YES
      clear hcc hpm h
      go_enter Tryd.func16, Tryd.ntmps16
      go_upto_region 3 with fail
      clear hwa hg
      have hdr := (Below.refl wa.heap.size wa).drew
      refine Lex.region_tree (ops := fsops) fstree (fun _ => True) (by kernel_rfl) (by kernel_rfl) fssel fslex (trivial) ?_
      unfold fstree
      have hf := hf.below hdr hf.lt
      have hB := hB.trans (hdr.mono hB.size)
      clear hdr
      generalize wa.drew = wd at hf hB ⊢
      refine Lex.tree_take (.string s) fs0 (Lex.want_none rfl) (by intro Wx hSw; (try dsimp only at hSw); go_simp; (try (first | (with_reducible rfl) | assumption | rfl))) ?_
      simp only [Act.put, List.setIfInBounds_toArray, List.set_cons_zero, List.set_cons_succ]
      refine Lex.tree_take (.string s4) fs1 (Lex.want_none rfl) (by intro Wx hSw; (try dsimp only at hSw); go_simp; (try (first | (with_reducible rfl) | assumption | rfl))) ?_
      simp only [Act.put, List.setIfInBounds_toArray, List.set_cons_zero, List.set_cons_succ]
      refine Lex.tree_take (.string s) fs3 (Lex.want_none rfl) (by intro Wx hSw; (try dsimp only at hSw); go_simp; (try (first | (with_reducible rfl) | assumption | rfl))) ?_
      simp only [Act.put, List.setIfInBounds_toArray, List.set_cons_zero, List.set_cons_succ]
      refine Lex.tree_take (.string s8) fs4 (Lex.want_none rfl) (by intro Wx hSw; (try dsimp only at hSw); go_simp; (try (first | (with_reducible rfl) | assumption | rfl))) ?_
      simp only [Act.put, List.setIfInBounds_toArray, List.set_cons_zero, List.set_cons_succ]
      refine Lex.tree_take (.string s) fs6 (Lex.want_none rfl) (by intro Wx hSw; (try dsimp only at hSw); go_simp; (try (first | (with_reducible rfl) | assumption | rfl))) ?_
      simp only [Act.put, List.setIfInBounds_toArray, List.set_cons_zero, List.set_cons_succ]
      refine Lex.tree_take (.string (s.extract 0 4)) fs7 (Lex.want_none rfl) (by intro Wx hSw; (try dsimp only at hSw); go_simp; (try (first | (with_reducible rfl) | assumption | rfl))) ?_
      simp only [Act.put, List.setIfInBounds_toArray, List.set_cons_zero, List.set_cons_succ]
      refine Lex.tree_take (.bool true) fs8 (Lex.want_none rfl) (by intro Wx hSw; (try dsimp only at hSw); go_simp; (try (first | (with_reducible rfl) | assumption | rfl))) ?_
      simp only [Act.put, List.setIfInBounds_toArray, List.set_cons_zero, List.set_cons_succ]
      refine Lex.tree_take (.string s) fs9 (Lex.want_none rfl) (by intro Wx hSw; (try dsimp only at hSw); go_simp; (try (first | (with_reducible rfl) | assumption | rfl))) ?_
      simp only [Act.put, List.setIfInBounds_toArray, List.set_cons_zero, List.set_cons_succ]
      refine Lex.tree_take (.string s12) fs10 (Lex.want_none rfl) (by intro Wx hSw; (try dsimp only at hSw); go_simp; (try (first | (with_reducible rfl) | assumption | rfl))) ?_
      simp only [Act.put, List.setIfInBounds_toArray, List.set_cons_zero, List.set_cons_succ]
      refine Lex.tree_call fs2 (Lex.want_none rfl) (fun K hK => ?_) ?_
      · go_simp
        refine (hn4 _).mono ?_
        rintro e y4 ⟨rfl, hv⟩
        have hf := hf.below hv hf.lt
        have hB := hB.trans (hv.mono hB.size)
        clear hv
        refine hK.out _ _ _ (fun _ h => h) trivial ?_
        clear hK K
        try simp only [Act.put, List.setIfInBounds_toArray, List.set_cons_zero, List.set_cons_succ]
        refine Lex.tree_call fs5 (Lex.want_none rfl) (fun K hK => ?_) ?_
        · go_simp
          refine (hn8 _).mono ?_
          rintro e y8 ⟨rfl, hv⟩
          have hf := hf.below hv hf.lt
          have hB := hB.trans (hv.mono hB.size)
          clear hv
          refine hK.out _ _ _ (fun _ h => h) trivial ?_
          clear hK K
          try simp only [Act.put, List.setIfInBounds_toArray, List.set_cons_zero, List.set_cons_succ]
          refine Lex.tree_call fs11 (Lex.want_none rfl) (fun K hK => ?_) ?_
          · go_simp
            refine (hn12 _).mono ?_
            rintro e y12 ⟨rfl, hv⟩
            have hf := hf.below hv hf.lt
            have hB := hB.trans (hv.mono hB.size)
            clear hv
            refine hK.out _ _ _ (fun _ h => h) trivial ?_
            clear hK K
            try simp only [Act.put, List.setIfInBounds_toArray, List.set_cons_zero, List.set_cons_succ]
            refine Lex.tree_take (.agg #[.int .i64 (v4 : Int), .int .i64 (v8 : Int), .bool true, .int .i64 (v12 : Int), .string ⟨#[]⟩]) fs12 (Lex.want_none rfl) (by intro Wx hSw; (try dsimp only at hSw); go_simp; (try (first | (with_reducible rfl) | assumption | rfl))) ?_
            simp only [Act.put, List.setIfInBounds_toArray, List.set_cons_zero, List.set_cons_succ]
            refine Lex.tree_call fs13 (Lex.want_none rfl) (fun K hK => ?_) Lex.tree_no
            go_simp
            have hn := (Below.refl y12.heap.size y12).alloc (Nat.le_refl _) (.cells #[.int .i64 0, .int .i64 0, .bool false, .int .i64 0, .string ⟨#[]⟩] 36)
            have hq : BoxF (y12.alloc (.cells #[.int .i64 0, .int .i64 0, .bool false, .int .i64 0, .string ⟨#[]⟩] 36)) y12.heap.size noF := BoxF.new y12 noF 36
            have hgq := hf.lt
            have hwq := hB.size
            have hf := hf.below hn hf.lt
            have hB := hB.trans (hn.mono hB.size)
            clear hn
            generalize y12.alloc (.cells #[.int .i64 0, .int .i64 0, .bool false, .int .i64 0, .string ⟨#[]⟩] 36) = zy12 at hf hB hq ⊢
            generalize y12.heap.size = gq at hq hgq hwq ⊢
            refine hK.out _ _ _ (fun _ h => h) trivial ?_
            clear hK K
            try simp only [Act.put, List.setIfInBounds_toArray, List.set_cons_zero, List.set_cons_succ]
            refine Lex.tree_call fs14 (Lex.want_none rfl) (fun K hK => ?_) Lex.tree_no
            have k0 := hq.c0
            have k1 := hq.c1
            have k2 := hq.c2
            have k3 := hq.c3
            have k4 := hq.c4
            have kf := hq.f
            go_simp
            clear k0 k1 k2 k3 k4 kf
            have hf := hf.off (Nat.ne_of_lt hgq) ⟨v4, v8, true, v12, ⟨#[]⟩⟩
            have hB := below_put hB hwq ⟨v4, v8, true, v12, ⟨#[]⟩⟩
            have hq := hq.put ⟨v4, v8, true, v12, ⟨#[]⟩⟩
            generalize (((((zy12).setCell ⟨gq, 0, none⟩ (.int .i64 (v4 : Int))).setCell ⟨gq, 1, none⟩ (.int .i64 (v8 : Int))).setCell ⟨gq, 2, none⟩ (.bool true)).setCell ⟨gq, 3, none⟩ (.int .i64 (v12 : Int))).setCell ⟨gq, 4, none⟩ (.string ⟨#[]⟩) = s9 at hf hB hq ⊢
            refine hK.out _ _ _ (fun _ h => h) trivial ?_
            clear hK K
            try simp only [Act.put, List.setIfInBounds_toArray, List.set_cons_zero, List.set_cons_succ]
            refine Lex.tree_end ?_
            refine NoPanic.normal ?_
            have q0 := hq.c0
            have q1 := hq.c1
            have q2 := hq.c2
            have q3 := hq.c3
            have q4 := hq.c4
            have qf := hq.f
            simp only at q0 q1 q2 q3 q4
            go_upto_region 6 with fail
            clear q0 q1 q2 q3 q4 qf
            have q0 := hq.c0
            have q1 := hq.c1
            have q2 := hq.c2
            have q3 := hq.c3
            have q4 := hq.c4
            simp only at q0 q1 q2 q3 q4
            go_wp2_with fail
            refine (hRt _).mono ?_
            rintro e w4 ⟨is, rfl, hb, hv⟩
            have hf := hf.below hv hf.lt
            have hq := hq.below hv hq.lt
            have hB := hB.trans (hv.mono hB.size)
            clear hv q0 q1 q2 q3 q4
            have q0 := hq.c0
            have q1 := hq.c1
            have q2 := hq.c2
            have q3 := hq.c3
            have q4 := hq.c4
            simp only at q0 q1 q2 q3 q4
            cases is
            · have HR := Lib.hid (hf.put noF)
              have HB := Lib.hid (below_put hB hwg noF)
              have HNO := Lib.hid (NO.out (HN.out (fun h => by cases hb.2 h.1)))
              have x0 := hf.c0
              have x1 := hf.c1
              have x2 := hf.c2
              have x3 := hf.c3
              have x4 := hf.c4
              have xf := hf.f
              clear hf hB hq q0 q1 q2 q3 q4 hb
              go_wp2
              refine bodyPost_ret (results_fr2 rfl _ _ g _ _ _ _ _ rfl HR.out.c0 HR.out.c1 HR.out.c2 HR.out.c3 HR.out.c4) rfl ?_
              exact HNO.out _ HB.out
            · have hr := hb.1 rfl
              have hpf := HP.out hr
              clear hb
              go_wp2_with fail
              refine (hpf _).mono ?_
              rintro e w5 ⟨rfl, hv⟩
              have hf := hf.below hv hf.lt
              have hq := hq.below hv hq.lt
              have hB := hB.trans (hv.mono hB.size)
              clear hv hpf q0 q1 q2 q3 q4
              have x0 := hf.c0
              have x1 := hf.c1
              have x2 := hf.c2
              have x3 := hf.c3
              have x4 := hf.c4
              have xf := hf.f
              by_cases hqq : frameB ⟨v4, v8, true, v12, ⟨#[]⟩⟩ = s
              · have e1 : ((frameB ⟨v4, v8, true, v12, ⟨#[]⟩⟩).toList == s.toList) = true := by rw [hqq]; exact beq_self_eq_true _
                have HR := Lib.hid (hf.put ⟨v4, v8, true, v12, ⟨#[]⟩⟩)
                have HB := Lib.hid (below_put hB hwg ⟨v4, v8, true, v12, ⟨#[]⟩⟩)
                have HYE := Lib.hid (YES.out (HI.out hr hqq))
                have q0 := hq.c0
                have q1 := hq.c1
                have q2 := hq.c2
                have q3 := hq.c3
                have q4 := hq.c4
                simp only at q0 q1 q2 q3 q4
                generalize frameB ⟨v4, v8, true, v12, ⟨#[]⟩⟩ = sx at e1 ⊢
                clear hf hB hq hqq hr
                go_wp2
                refine bodyPost_ret (results_fr2 rfl _ _ g _ _ _ _ _ rfl HR.out.c0 HR.out.c1 HR.out.c2 HR.out.c3 HR.out.c4) rfl ?_
                exact HYE.out _ HB.out
              · have e1 : ((frameB ⟨v4, v8, true, v12, ⟨#[]⟩⟩).toList == s.toList) = false := str_ne hqq
                have HR := Lib.hid (hf.put noF)
                have HB := Lib.hid (below_put hB hwg noF)
                have HNO := Lib.hid (NO.out (HN.out (fun h => hqq h.2)))
                generalize frameB ⟨v4, v8, true, v12, ⟨#[]⟩⟩ = sx at e1 ⊢
                clear hf hB hq hqq hr
                go_wp2
                refine bodyPost_ret (results_fr2 rfl _ _ g _ _ _ _ _ rfl HR.out.c0 HR.out.c1 HR.out.c2 HR.out.c3 HR.out.c4) rfl ?_
                exact HNO.out _ HB.out
          refine Lex.tree_call fs13 (Lex.want_none rfl) (fun K hK => ?_) Lex.tree_no
          go_simp
          have hn := (Below.refl y8.heap.size y8).alloc (Nat.le_refl _) (.cells #[.int .i64 0, .int .i64 0, .bool false, .int .i64 0, .string ⟨#[]⟩] 36)
          have hq : BoxF (y8.alloc (.cells #[.int .i64 0, .int .i64 0, .bool false, .int .i64 0, .string ⟨#[]⟩] 36)) y8.heap.size noF := BoxF.new y8 noF 36
          have hgq := hf.lt
          have hwq := hB.size
          have hf := hf.below hn hf.lt
          have hB := hB.trans (hn.mono hB.size)
          clear hn
          generalize y8.alloc (.cells #[.int .i64 0, .int .i64 0, .bool false, .int .i64 0, .string ⟨#[]⟩] 36) = zy8 at hf hB hq ⊢
          generalize y8.heap.size = gq at hq hgq hwq ⊢
          refine hK.out _ _ _ (fun _ h => h) trivial ?_
          clear hK K
          try simp only [Act.put, List.setIfInBounds_toArray, List.set_cons_zero, List.set_cons_succ]
          refine Lex.tree_call fs11 (Lex.want_none rfl) (fun K hK => ?_) Lex.tree_no
          go_simp
          refine (hn12 _).mono ?_
          rintro e y12 ⟨rfl, hv⟩
          have hf := hf.below hv hf.lt
          have hq := hq.below hv hq.lt
          have hB := hB.trans (hv.mono hB.size)
          clear hv
          refine hK.out _ _ _ (fun _ h => h) trivial ?_
          clear hK K
          try simp only [Act.put, List.setIfInBounds_toArray, List.set_cons_zero, List.set_cons_succ]
          refine Lex.tree_take (.agg #[.int .i64 (v4 : Int), .int .i64 (v8 : Int), .bool true, .int .i64 (v12 : Int), .string ⟨#[]⟩]) fs12 (Lex.want_none rfl) (by intro Wx hSw; (try dsimp only at hSw); go_simp; (try (first | (with_reducible rfl) | assumption | rfl))) ?_
          simp only [Act.put, List.setIfInBounds_toArray, List.set_cons_zero, List.set_cons_succ]
          refine Lex.tree_call fs14 (Lex.want_none rfl) (fun K hK => ?_) Lex.tree_no
          have k0 := hq.c0
          have k1 := hq.c1
          have k2 := hq.c2
          have k3 := hq.c3
          have k4 := hq.c4
          have kf := hq.f
          go_simp
          clear k0 k1 k2 k3 k4 kf
          have hf := hf.off (Nat.ne_of_lt hgq) ⟨v4, v8, true, v12, ⟨#[]⟩⟩
          have hB := below_put hB hwq ⟨v4, v8, true, v12, ⟨#[]⟩⟩
          have hq := hq.put ⟨v4, v8, true, v12, ⟨#[]⟩⟩
          generalize (((((y12).setCell ⟨gq, 0, none⟩ (.int .i64 (v4 : Int))).setCell ⟨gq, 1, none⟩ (.int .i64 (v8 : Int))).setCell ⟨gq, 2, none⟩ (.bool true)).setCell ⟨gq, 3, none⟩ (.int .i64 (v12 : Int))).setCell ⟨gq, 4, none⟩ (.string ⟨#[]⟩) = s9 at hf hB hq ⊢
          refine hK.out _ _ _ (fun _ h => h) trivial ?_
          clear hK K
          try simp only [Act.put, List.setIfInBounds_toArray, List.set_cons_zero, List.set_cons_succ]
          refine Lex.tree_end ?_
          refine NoPanic.normal ?_
          have q0 := hq.c0
          have q1 := hq.c1
          have q2 := hq.c2
          have q3 := hq.c3
          have q4 := hq.c4
          have qf := hq.f
          simp only at q0 q1 q2 q3 q4
          go_upto_region 6 with fail
          clear q0 q1 q2 q3 q4 qf
          have q0 := hq.c0
          have q1 := hq.c1
          have q2 := hq.c2
          have q3 := hq.c3
          have q4 := hq.c4
          simp only at q0 q1 q2 q3 q4
          go_wp2_with fail
          refine (hRt _).mono ?_
          rintro e w4 ⟨is, rfl, hb, hv⟩
          have hf := hf.below hv hf.lt
          have hq := hq.below hv hq.lt
          have hB := hB.trans (hv.mono hB.size)
          clear hv q0 q1 q2 q3 q4
          have q0 := hq.c0
          have q1 := hq.c1
          have q2 := hq.c2
          have q3 := hq.c3
          have q4 := hq.c4
          simp only at q0 q1 q2 q3 q4
          cases is
          · have HR := Lib.hid (hf.put noF)
            have HB := Lib.hid (below_put hB hwg noF)
            have HNO := Lib.hid (NO.out (HN.out (fun h => by cases hb.2 h.1)))
            have x0 := hf.c0
            have x1 := hf.c1
            have x2 := hf.c2
            have x3 := hf.c3
            have x4 := hf.c4
            have xf := hf.f
            clear hf hB hq q0 q1 q2 q3 q4 hb
            go_wp2
            refine bodyPost_ret (results_fr2 rfl _ _ g _ _ _ _ _ rfl HR.out.c0 HR.out.c1 HR.out.c2 HR.out.c3 HR.out.c4) rfl ?_
            exact HNO.out _ HB.out
          · have hr := hb.1 rfl
            have hpf := HP.out hr
            clear hb
            go_wp2_with fail
            refine (hpf _).mono ?_
            rintro e w5 ⟨rfl, hv⟩
            have hf := hf.below hv hf.lt
            have hq := hq.below hv hq.lt
            have hB := hB.trans (hv.mono hB.size)
            clear hv hpf q0 q1 q2 q3 q4
            have x0 := hf.c0
            have x1 := hf.c1
            have x2 := hf.c2
            have x3 := hf.c3
            have x4 := hf.c4
            have xf := hf.f
            by_cases hqq : frameB ⟨v4, v8, true, v12, ⟨#[]⟩⟩ = s
            · have e1 : ((frameB ⟨v4, v8, true, v12, ⟨#[]⟩⟩).toList == s.toList) = true := by rw [hqq]; exact beq_self_eq_true _
              have HR := Lib.hid (hf.put ⟨v4, v8, true, v12, ⟨#[]⟩⟩)
              have HB := Lib.hid (below_put hB hwg ⟨v4, v8, true, v12, ⟨#[]⟩⟩)
              have HYE := Lib.hid (YES.out (HI.out hr hqq))
              have q0 := hq.c0
              have q1 := hq.c1
              have q2 := hq.c2
              have q3 := hq.c3
              have q4 := hq.c4
              simp only at q0 q1 q2 q3 q4
              generalize frameB ⟨v4, v8, true, v12, ⟨#[]⟩⟩ = sx at e1 ⊢
              clear hf hB hq hqq hr
              go_wp2
              refine bodyPost_ret (results_fr2 rfl _ _ g _ _ _ _ _ rfl HR.out.c0 HR.out.c1 HR.out.c2 HR.out.c3 HR.out.c4) rfl ?_
              exact HYE.out _ HB.out
            · have e1 : ((frameB ⟨v4, v8, true, v12, ⟨#[]⟩⟩).toList == s.toList) = false := str_ne hqq
              have HR := Lib.hid (hf.put noF)
              have HB := Lib.hid (below_put hB hwg noF)
              have HNO := Lib.hid (NO.out (HN.out (fun h => hqq h.2)))
              generalize frameB ⟨v4, v8, true, v12, ⟨#[]⟩⟩ = sx at e1 ⊢
              clear hf hB hq hqq hr
              go_wp2
              refine bodyPost_ret (results_fr2 rfl _ _ g _ _ _ _ _ rfl HR.out.c0 HR.out.c1 HR.out.c2 HR.out.c3 HR.out.c4) rfl ?_
              exact HNO.out _ HB.out
        refine Lex.tree_call fs13 (Lex.want_none rfl) (fun K hK => ?_) Lex.tree_no
        go_simp
        have hn := (Below.refl y4.heap.size y4).alloc (Nat.le_refl _) (.cells #[.int .i64 0, .int .i64 0, .bool false, .int .i64 0, .string ⟨#[]⟩] 36)
        have hq : BoxF (y4.alloc (.cells #[.int .i64 0, .int .i64 0, .bool false, .int .i64 0, .string ⟨#[]⟩] 36)) y4.heap.size noF := BoxF.new y4 noF 36
        have hgq := hf.lt
        have hwq := hB.size
        have hf := hf.below hn hf.lt
        have hB := hB.trans (hn.mono hB.size)
        clear hn
        generalize y4.alloc (.cells #[.int .i64 0, .int .i64 0, .bool false, .int .i64 0, .string ⟨#[]⟩] 36) = zy4 at hf hB hq ⊢
        generalize y4.heap.size = gq at hq hgq hwq ⊢
        refine hK.out _ _ _ (fun _ h => h) trivial ?_
        clear hK K
        try simp only [Act.put, List.setIfInBounds_toArray, List.set_cons_zero, List.set_cons_succ]
        refine Lex.tree_call fs5 (Lex.want_none rfl) (fun K hK => ?_) Lex.tree_no
        go_simp
        refine (hn8 _).mono ?_
        rintro e y8 ⟨rfl, hv⟩
        have hf := hf.below hv hf.lt
        have hq := hq.below hv hq.lt
        have hB := hB.trans (hv.mono hB.size)
        clear hv
        refine hK.out _ _ _ (fun _ h => h) trivial ?_
        clear hK K
        try simp only [Act.put, List.setIfInBounds_toArray, List.set_cons_zero, List.set_cons_succ]
        refine Lex.tree_call fs11 (Lex.want_none rfl) (fun K hK => ?_) Lex.tree_no
        go_simp
        refine (hn12 _).mono ?_
        rintro e y12 ⟨rfl, hv⟩
        have hf := hf.below hv hf.lt
        have hq := hq.below hv hq.lt
        have hB := hB.trans (hv.mono hB.size)
        clear hv
        refine hK.out _ _ _ (fun _ h => h) trivial ?_
        clear hK K
        try simp only [Act.put, List.setIfInBounds_toArray, List.set_cons_zero, List.set_cons_succ]
        refine Lex.tree_take (.agg #[.int .i64 (v4 : Int), .int .i64 (v8 : Int), .bool true, .int .i64 (v12 : Int), .string ⟨#[]⟩]) fs12 (Lex.want_none rfl) (by intro Wx hSw; (try dsimp only at hSw); go_simp; (try (first | (with_reducible rfl) | assumption | rfl))) ?_
        simp only [Act.put, List.setIfInBounds_toArray, List.set_cons_zero, List.set_cons_succ]
        refine Lex.tree_call fs14 (Lex.want_none rfl) (fun K hK => ?_) Lex.tree_no
        have k0 := hq.c0
        have k1 := hq.c1
        have k2 := hq.c2
        have k3 := hq.c3
        have k4 := hq.c4
        have kf := hq.f
        go_simp
        clear k0 k1 k2 k3 k4 kf
        have hf := hf.off (Nat.ne_of_lt hgq) ⟨v4, v8, true, v12, ⟨#[]⟩⟩
        have hB := below_put hB hwq ⟨v4, v8, true, v12, ⟨#[]⟩⟩
        have hq := hq.put ⟨v4, v8, true, v12, ⟨#[]⟩⟩
        generalize (((((y12).setCell ⟨gq, 0, none⟩ (.int .i64 (v4 : Int))).setCell ⟨gq, 1, none⟩ (.int .i64 (v8 : Int))).setCell ⟨gq, 2, none⟩ (.bool true)).setCell ⟨gq, 3, none⟩ (.int .i64 (v12 : Int))).setCell ⟨gq, 4, none⟩ (.string ⟨#[]⟩) = s9 at hf hB hq ⊢
        refine hK.out _ _ _ (fun _ h => h) trivial ?_
        clear hK K
        try simp only [Act.put, List.setIfInBounds_toArray, List.set_cons_zero, List.set_cons_succ]
        refine Lex.tree_end ?_
        refine NoPanic.normal ?_
        have q0 := hq.c0
        have q1 := hq.c1
        have q2 := hq.c2
        have q3 := hq.c3
        have q4 := hq.c4
        have qf := hq.f
        simp only at q0 q1 q2 q3 q4
        go_upto_region 6 with fail
        clear q0 q1 q2 q3 q4 qf
        have q0 := hq.c0
        have q1 := hq.c1
        have q2 := hq.c2
        have q3 := hq.c3
        have q4 := hq.c4
        simp only at q0 q1 q2 q3 q4
        go_wp2_with fail
        refine (hRt _).mono ?_
        rintro e w4 ⟨is, rfl, hb, hv⟩
        have hf := hf.below hv hf.lt
        have hq := hq.below hv hq.lt
        have hB := hB.trans (hv.mono hB.size)
        clear hv q0 q1 q2 q3 q4
        have q0 := hq.c0
        have q1 := hq.c1
        have q2 := hq.c2
        have q3 := hq.c3
        have q4 := hq.c4
        simp only at q0 q1 q2 q3 q4
        cases is
        · have HR := Lib.hid (hf.put noF)
          have HB := Lib.hid (below_put hB hwg noF)
          have HNO := Lib.hid (NO.out (HN.out (fun h => by cases hb.2 h.1)))
          have x0 := hf.c0
          have x1 := hf.c1
          have x2 := hf.c2
          have x3 := hf.c3
          have x4 := hf.c4
          have xf := hf.f
          clear hf hB hq q0 q1 q2 q3 q4 hb
          go_wp2
          refine bodyPost_ret (results_fr2 rfl _ _ g _ _ _ _ _ rfl HR.out.c0 HR.out.c1 HR.out.c2 HR.out.c3 HR.out.c4) rfl ?_
          exact HNO.out _ HB.out
        · have hr := hb.1 rfl
          have hpf := HP.out hr
          clear hb
          go_wp2_with fail
          refine (hpf _).mono ?_
          rintro e w5 ⟨rfl, hv⟩
          have hf := hf.below hv hf.lt
          have hq := hq.below hv hq.lt
          have hB := hB.trans (hv.mono hB.size)
          clear hv hpf q0 q1 q2 q3 q4
          have x0 := hf.c0
          have x1 := hf.c1
          have x2 := hf.c2
          have x3 := hf.c3
          have x4 := hf.c4
          have xf := hf.f
          by_cases hqq : frameB ⟨v4, v8, true, v12, ⟨#[]⟩⟩ = s
          · have e1 : ((frameB ⟨v4, v8, true, v12, ⟨#[]⟩⟩).toList == s.toList) = true := by rw [hqq]; exact beq_self_eq_true _
            have HR := Lib.hid (hf.put ⟨v4, v8, true, v12, ⟨#[]⟩⟩)
            have HB := Lib.hid (below_put hB hwg ⟨v4, v8, true, v12, ⟨#[]⟩⟩)
            have HYE := Lib.hid (YES.out (HI.out hr hqq))
            have q0 := hq.c0
            have q1 := hq.c1
            have q2 := hq.c2
            have q3 := hq.c3
            have q4 := hq.c4
            simp only at q0 q1 q2 q3 q4
            generalize frameB ⟨v4, v8, true, v12, ⟨#[]⟩⟩ = sx at e1 ⊢
            clear hf hB hq hqq hr
            go_wp2
            refine bodyPost_ret (results_fr2 rfl _ _ g _ _ _ _ _ rfl HR.out.c0 HR.out.c1 HR.out.c2 HR.out.c3 HR.out.c4) rfl ?_
            exact HYE.out _ HB.out
          · have e1 : ((frameB ⟨v4, v8, true, v12, ⟨#[]⟩⟩).toList == s.toList) = false := str_ne hqq
            have HR := Lib.hid (hf.put noF)
            have HB := Lib.hid (below_put hB hwg noF)
            have HNO := Lib.hid (NO.out (HN.out (fun h => hqq h.2)))
            generalize frameB ⟨v4, v8, true, v12, ⟨#[]⟩⟩ = sx at e1 ⊢
            clear hf hB hq hqq hr
            go_wp2
            refine bodyPost_ret (results_fr2 rfl _ _ g _ _ _ _ _ rfl HR.out.c0 HR.out.c1 HR.out.c2 HR.out.c3 HR.out.c4) rfl ?_
            exact HNO.out _ HB.out
      refine Lex.tree_call fs13 (Lex.want_none rfl) (fun K hK => ?_) Lex.tree_no
      go_simp
      have hn := (Below.refl wd.heap.size wd).alloc (Nat.le_refl _) (.cells #[.int .i64 0, .int .i64 0, .bool false, .int .i64 0, .string ⟨#[]⟩] 36)
      have hq : BoxF (wd.alloc (.cells #[.int .i64 0, .int .i64 0, .bool false, .int .i64 0, .string ⟨#[]⟩] 36)) wd.heap.size noF := BoxF.new wd noF 36
      have hgq := hf.lt
      have hwq := hB.size
      have hf := hf.below hn hf.lt
      have hB := hB.trans (hn.mono hB.size)
      clear hn
      generalize wd.alloc (.cells #[.int .i64 0, .int .i64 0, .bool false, .int .i64 0, .string ⟨#[]⟩] 36) = zwd at hf hB hq ⊢
      generalize wd.heap.size = gq at hq hgq hwq ⊢
      refine hK.out _ _ _ (fun _ h => h) trivial ?_
      clear hK K
      try simp only [Act.put, List.setIfInBounds_toArray, List.set_cons_zero, List.set_cons_succ]
      refine Lex.tree_call fs2 (Lex.want_none rfl) (fun K hK => ?_) Lex.tree_no
      go_simp
      refine (hn4 _).mono ?_
      rintro e y4 ⟨rfl, hv⟩
      have hf := hf.below hv hf.lt
      have hq := hq.below hv hq.lt
      have hB := hB.trans (hv.mono hB.size)
      clear hv
      refine hK.out _ _ _ (fun _ h => h) trivial ?_
      clear hK K
      try simp only [Act.put, List.setIfInBounds_toArray, List.set_cons_zero, List.set_cons_succ]
      refine Lex.tree_call fs5 (Lex.want_none rfl) (fun K hK => ?_) Lex.tree_no
      go_simp
      refine (hn8 _).mono ?_
      rintro e y8 ⟨rfl, hv⟩
      have hf := hf.below hv hf.lt
      have hq := hq.below hv hq.lt
      have hB := hB.trans (hv.mono hB.size)
      clear hv
      refine hK.out _ _ _ (fun _ h => h) trivial ?_
      clear hK K
      try simp only [Act.put, List.setIfInBounds_toArray, List.set_cons_zero, List.set_cons_succ]
      refine Lex.tree_call fs11 (Lex.want_none rfl) (fun K hK => ?_) Lex.tree_no
      go_simp
      refine (hn12 _).mono ?_
      rintro e y12 ⟨rfl, hv⟩
      have hf := hf.below hv hf.lt
      have hq := hq.below hv hq.lt
      have hB := hB.trans (hv.mono hB.size)
      clear hv
      refine hK.out _ _ _ (fun _ h => h) trivial ?_
      clear hK K
      try simp only [Act.put, List.setIfInBounds_toArray, List.set_cons_zero, List.set_cons_succ]
      refine Lex.tree_take (.agg #[.int .i64 (v4 : Int), .int .i64 (v8 : Int), .bool true, .int .i64 (v12 : Int), .string ⟨#[]⟩]) fs12 (Lex.want_none rfl) (by intro Wx hSw; (try dsimp only at hSw); go_simp; (try (first | (with_reducible rfl) | assumption | rfl))) ?_
      simp only [Act.put, List.setIfInBounds_toArray, List.set_cons_zero, List.set_cons_succ]
      refine Lex.tree_call fs14 (Lex.want_none rfl) (fun K hK => ?_) Lex.tree_no
      have k0 := hq.c0
      have k1 := hq.c1
      have k2 := hq.c2
      have k3 := hq.c3
      have k4 := hq.c4
      have kf := hq.f
      go_simp
      clear k0 k1 k2 k3 k4 kf
      have hf := hf.off (Nat.ne_of_lt hgq) ⟨v4, v8, true, v12, ⟨#[]⟩⟩
      have hB := below_put hB hwq ⟨v4, v8, true, v12, ⟨#[]⟩⟩
      have hq := hq.put ⟨v4, v8, true, v12, ⟨#[]⟩⟩
      generalize (((((y12).setCell ⟨gq, 0, none⟩ (.int .i64 (v4 : Int))).setCell ⟨gq, 1, none⟩ (.int .i64 (v8 : Int))).setCell ⟨gq, 2, none⟩ (.bool true)).setCell ⟨gq, 3, none⟩ (.int .i64 (v12 : Int))).setCell ⟨gq, 4, none⟩ (.string ⟨#[]⟩) = s9 at hf hB hq ⊢
      refine hK.out _ _ _ (fun _ h => h) trivial ?_
      clear hK K
      try simp only [Act.put, List.setIfInBounds_toArray, List.set_cons_zero, List.set_cons_succ]
      refine Lex.tree_end ?_
      refine NoPanic.normal ?_
      have q0 := hq.c0
      have q1 := hq.c1
      have q2 := hq.c2
      have q3 := hq.c3
      have q4 := hq.c4
      have qf := hq.f
      simp only at q0 q1 q2 q3 q4
      go_upto_region 6 with fail
      clear q0 q1 q2 q3 q4 qf
      have q0 := hq.c0
      have q1 := hq.c1
      have q2 := hq.c2
      have q3 := hq.c3
      have q4 := hq.c4
      simp only at q0 q1 q2 q3 q4
      go_wp2_with fail
      refine (hRt _).mono ?_
      rintro e w4 ⟨is, rfl, hb, hv⟩
      have hf := hf.below hv hf.lt
      have hq := hq.below hv hq.lt
      have hB := hB.trans (hv.mono hB.size)
      clear hv q0 q1 q2 q3 q4
      have q0 := hq.c0
      have q1 := hq.c1
      have q2 := hq.c2
      have q3 := hq.c3
      have q4 := hq.c4
      simp only at q0 q1 q2 q3 q4
      cases is
      · have HR := Lib.hid (hf.put noF)
        have HB := Lib.hid (below_put hB hwg noF)
        have HNO := Lib.hid (NO.out (HN.out (fun h => by cases hb.2 h.1)))
        have x0 := hf.c0
        have x1 := hf.c1
        have x2 := hf.c2
        have x3 := hf.c3
        have x4 := hf.c4
        have xf := hf.f
        clear hf hB hq q0 q1 q2 q3 q4 hb
        go_wp2
        refine bodyPost_ret (results_fr2 rfl _ _ g _ _ _ _ _ rfl HR.out.c0 HR.out.c1 HR.out.c2 HR.out.c3 HR.out.c4) rfl ?_
        exact HNO.out _ HB.out
      · have hr := hb.1 rfl
        have hpf := HP.out hr
        clear hb
        go_wp2_with fail
        refine (hpf _).mono ?_
        rintro e w5 ⟨rfl, hv⟩
        have hf := hf.below hv hf.lt
        have hq := hq.below hv hq.lt
        have hB := hB.trans (hv.mono hB.size)
        clear hv hpf q0 q1 q2 q3 q4
        have x0 := hf.c0
        have x1 := hf.c1
        have x2 := hf.c2
        have x3 := hf.c3
        have x4 := hf.c4
        have xf := hf.f
        by_cases hqq : frameB ⟨v4, v8, true, v12, ⟨#[]⟩⟩ = s
        · have e1 : ((frameB ⟨v4, v8, true, v12, ⟨#[]⟩⟩).toList == s.toList) = true := by rw [hqq]; exact beq_self_eq_true _
          have HR := Lib.hid (hf.put ⟨v4, v8, true, v12, ⟨#[]⟩⟩)
          have HB := Lib.hid (below_put hB hwg ⟨v4, v8, true, v12, ⟨#[]⟩⟩)
          have HYE := Lib.hid (YES.out (HI.out hr hqq))
          have q0 := hq.c0
          have q1 := hq.c1
          have q2 := hq.c2
          have q3 := hq.c3
          have q4 := hq.c4
          simp only at q0 q1 q2 q3 q4
          generalize frameB ⟨v4, v8, true, v12, ⟨#[]⟩⟩ = sx at e1 ⊢
          clear hf hB hq hqq hr
          go_wp2
          refine bodyPost_ret (results_fr2 rfl _ _ g _ _ _ _ _ rfl HR.out.c0 HR.out.c1 HR.out.c2 HR.out.c3 HR.out.c4) rfl ?_
          exact HYE.out _ HB.out
        · have e1 : ((frameB ⟨v4, v8, true, v12, ⟨#[]⟩⟩).toList == s.toList) = false := str_ne hqq
          have HR := Lib.hid (hf.put noF)
          have HB := Lib.hid (below_put hB hwg noF)
          have HNO := Lib.hid (NO.out (HN.out (fun h => hqq h.2)))
          generalize frameB ⟨v4, v8, true, v12, ⟨#[]⟩⟩ = sx at e1 ⊢
          clear hf hB hq hqq hr
          go_wp2
          refine bodyPost_ret (results_fr2 rfl _ _ g _ _ _ _ _ rfl HR.out.c0 HR.out.c1 HR.out.c2 HR.out.c3 HR.out.c4) rfl ?_
          exact HNO.out _ HB.out
  · have h1 : ((s.size : Int) == 256) = false := beq_eq_false_iff_ne.2 (by omega)
    have h2 : ((s.size : Int) != 256) = true := by rw [bne, h1]; rfl
    have e : parseF s = none := by unfold parseF; rw [if_neg (fun hc => h hc.1)]
    have HR := Lib.hid (hf.put noF)
    have HB := Lib.hid (below_put hB hwg noF)
    have HNO := Lib.hid (NO.out e)
    have x0 := hf.c0
    have x1 := hf.c1
    have x2 := hf.c2
    have x3 := hf.c3
    have x4 := hf.c4
    have xf := hf.f
    clear hf hB e
    go_enter Tryd.func16, Tryd.ntmps16
    go_wp2
    refine bodyPost_ret (results_fr2 rfl _ _ g _ _ _ _ _ rfl HR.out.c0 HR.out.c1 HR.out.c2 HR.out.c3 HR.out.c4) rfl ?_
    exact HNO.out _ HB.out
end Go.Proofs.YtiacdpfodhggmaaDoor.Fr
