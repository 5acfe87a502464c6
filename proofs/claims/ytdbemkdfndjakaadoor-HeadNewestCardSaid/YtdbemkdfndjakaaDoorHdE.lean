/- Heads: Parse of the program (762697a) and of the document, walked. -/
import Derived.Test.YtdbemkdfndjakaaDoorHdD
import Derived.Test.YtdbemkdfndjakaaDoorMgX
namespace Go.Proofs.YtdbemkdfndjakaaDoor.Hd
open Go.RowKit Tal Fr Lex
section
variable {w w' : World} {g q B : Nat} {h : H}
theorem BoxH.off1 (k : BoxH w g h) (hq : g ≠ q) (u : Value) {i : Nat} : BoxH (w.setCell ⟨q, i, none⟩ u) g h := by
  have o : ∀ j, (w.setCell ⟨q, i, none⟩ u).cell? ⟨g, j, none⟩ = w.cell? ⟨g, j, none⟩ := fun j => World.cell?_setCell_other w _ _ u (fun e => by injection e with e1 _; exact hq (by first | exact e1 | exact e1.symm))
  exact ⟨(o 0).trans k.c0, (o 1).trans k.c1, (o 2).trans k.c2, fun i => by rw [World.frozen?_setCell]; exact k.f i⟩
theorem BoxH.off (k : BoxH w g h) (hq : g ≠ q) (u : H) : BoxH (((w.setCell ⟨q, 0, none⟩ (.int .i64 u.p)).setCell ⟨q, 1, none⟩ (.int .i64 u.l)).setCell ⟨q, 2, none⟩ (.int .i64 u.e)) g h :=
  ((k.off1 hq _).off1 hq _).off1 hq _
end
theorem tail_of (s : ByteArray) (k : Nat) : (s.extract k s.size).data.toList = s.data.toList.drop k := by
  have h := Lib.extract_toList s k s.size
  rw [ByteArray.toList_eq] at h
  rw [h, List.take_of_length_le (by simp)]
theorem first8 (s : ByteArray) : (s.extract 0 8).toList = s.data.toList.take 8 := by
  rw [Lib.extract_toList, List.drop_zero]
theorem at_any (s : ByteArray) (k : Nat) (w : World) (hk : k ≤ 1000) (hz : s.size ≤ 300000) :
    Calls Tryd.prog 30 #[.string s, .int .i64 k] w fun e w' => e = .returned (.int .i64 (nmz s k : Nat)) ∧ Below w.heap.size w w' := by
  unfold nmz
  by_cases h : k + 4 ≤ s.size
  · rw [if_pos h]
    exact numberAt_any k w hk h hz
  · rw [if_neg h]
    exact numberAt_short k w hk (by omega) hz
def ParsePost (s : ByteArray) (w : World) (e : Ending) (w' : World) : Prop := e = .returned (.tuple #[.agg (cellsH ((parseH s).getD noH)), .bool (parseH s).isSome]) ∧ Below w.heap.size w w'
set_option maxRecDepth 20000 in
set_option maxHeartbeats 3200000 in
theorem parse_any (s : ByteArray) (w : World) (ht : Tab w) (hs : s.size ≤ 300000) :
    Calls Tryd.prog 9 #[.string s] w (ParsePost s w) := by
  have HT := Lib.hid ht
  clear ht
  have hB := (Below.refl w.heap.size w).alloc (Nat.le_refl _) (.cells (cellsH noH) 23)
  have hf := BoxH.new w noH 23
  obtain ⟨g, hg⟩ : ∃ g, w.heap.size = g := ⟨_, rfl⟩
  have hwg : w.heap.size ≤ g := by omega
  rw [hg] at hf
  generalize hwa : w.alloc (.cells (cellsH noH) 23) = wa at hB hf
  unfold cellsH noH at hwa
  simp only at hwa
  obtain ⟨post, hpe⟩ : ∃ post, ParsePost s w = post := ⟨_, rfl⟩
  rw [hpe]
  have no : parseH s = none → ∀ W, Below w.heap.size w W → post (.returned (.tuple #[.agg #[.int .i64 0, .int .i64 0, .int .i64 0], .bool false])) W := fun h W hW => by rw [← hpe, ParsePost, h]; exact ⟨rfl, hW⟩
  have yes : parseH s = some (candH s) → ∀ W, Below w.heap.size w W → post (.returned (.tuple #[.agg (cellsH (candH s)), .bool true])) W := fun h W hW => by rw [← hpe, ParsePost, h]; exact ⟨rfl, hW⟩
  have NO := Lib.hid no
  have YES := Lib.hid yes
  clear no yes hpe
  have hRt := fun W => right_any (candH s) W
  have HP := Lib.hid (fun (h : RightH (candH s)) W (ht : Tab W) => print_any (candH s) W ht h)
  have HI : Hid (RightH (candH s) → headB (candH s) = s → parseH s = some (candH s)) := Lib.hid (fun h1 h2 => by unfold parseH; rw [if_pos ⟨h1, h2⟩])
  have HN : Hid (¬ (RightH (candH s) ∧ headB (candH s) = s) → parseH s = none) := Lib.hid (fun h1 => by unfold parseH; rw [if_neg h1])
  have n8 := fun W => at_any s 8 W (by decide) hs
  have n12 := fun W => at_any s 12 W (by decide) hs
  have n16 := fun W => at_any s 16 W (by decide) hs
  have hcc : candH s = ⟨nmz s 8, nmz s 12, nmz s 16⟩ := rfl
  generalize nmz s 8 = v8 at n8 hcc
  generalize nmz s 12 = v12 at n12 hcc
  generalize nmz s 16 = v16 at n16 hcc
  rw [hcc] at hRt HP HI HN YES
  unfold cellsH at hRt HP YES
  simp only at hRt HP YES
  clear hcc
  go_enter Tryd.func9, Tryd.ntmps9
  go_wp2_with fail
  clear hwa hg
  refine (n8 _).mono ?_
  rintro e w1 ⟨rfl, hv⟩
  have hf := hf.below hv hf.lt
  have hB := hB.trans (hv.mono hB.size)
  clear hv
  go_wp2_with fail
  refine (n12 _).mono ?_
  rintro e w2 ⟨rfl, hv⟩
  have hf := hf.below hv hf.lt
  have hB := hB.trans (hv.mono hB.size)
  clear hv
  go_wp2_with fail
  refine (n16 _).mono ?_
  rintro e w3 ⟨rfl, hv⟩
  have hf := hf.below hv hf.lt
  have hB := hB.trans (hv.mono hB.size)
  clear hv n8 n12 n16
  go_upto_region 2 with fail
  have hn : Below w3.heap.size w3 (w3.alloc (.cells #[.int .i64 (v8 : Int), .int .i64 (v12 : Int), .int .i64 (v16 : Int)] 23)) := (Below.refl w3.heap.size w3).alloc (Nat.le_refl _) _
  have hq : BoxH (w3.alloc (.cells #[.int .i64 (v8 : Int), .int .i64 (v12 : Int), .int .i64 (v16 : Int)] 23)) w3.heap.size ⟨v8, v12, v16⟩ := BoxH.new w3 ⟨v8, v12, v16⟩ 23
  have hf := hf.below hn hf.lt
  have hB := hB.trans (hn.mono hB.size)
  clear hn
  generalize w3.alloc (.cells #[.int .i64 (v8 : Int), .int .i64 (v12 : Int), .int .i64 (v16 : Int)] 23) = wq at hf hq hB ⊢
  generalize w3.heap.size = gq at hq ⊢
  have q0 := hq.c0
  have q1 := hq.c1
  have q2 := hq.c2
  simp only at q0 q1 q2
  go_wp2_with fail
  refine (hRt _).mono ?_
  rintro e w4 ⟨is, rfl, hb, hv⟩
  have hf := hf.below hv hf.lt
  have hq := hq.below hv hq.lt
  have hB := hB.trans (hv.mono hB.size)
  clear hv q0 q1 q2
  have q0 := hq.c0
  have q1 := hq.c1
  have q2 := hq.c2
  simp only at q0 q1 q2
  cases is
  · have HR := Lib.hid (hf.put noH)
    have HB := Lib.hid (below_putH hB hwg noH)
    have HNO := Lib.hid (NO.out (HN.out (fun h => by cases hb.2 h.1)))
    have x0 := hf.c0
    have x1 := hf.c1
    have x2 := hf.c2
    have xf := hf.f
    clear hf hB hq q0 q1 q2 hb
    go_wp2
    refine bodyPost_ret (results_h2 rfl _ _ g _ _ _ rfl HR.out.c0 HR.out.c1 HR.out.c2) rfl ?_
    exact HNO.out _ HB.out
  · have hr := hb.1 rfl
    have hpf := HP.out hr
    clear hb
    go_wp2_with fail
    refine (hpf _ (HT.out.below hB)).mono ?_
    rintro e w5 ⟨rfl, hv⟩
    have hf := hf.below hv hf.lt
    have hq := hq.below hv hq.lt
    have hB := hB.trans (hv.mono hB.size)
    clear hv hpf q0 q1 q2
    have x0 := hf.c0
    have x1 := hf.c1
    have x2 := hf.c2
    have xf := hf.f
    by_cases hqq : headB ⟨v8, v12, v16⟩ = s
    · have e1 : ((headB ⟨v8, v12, v16⟩).toList == s.toList) = true := by rw [hqq]; exact beq_self_eq_true _
      have HR := Lib.hid (hf.put ⟨v8, v12, v16⟩)
      have HB := Lib.hid (below_putH hB hwg ⟨v8, v12, v16⟩)
      have HYE := Lib.hid (YES.out (HI.out hr hqq))
      have q0 := hq.c0
      have q1 := hq.c1
      have q2 := hq.c2
      simp only at q0 q1 q2
      generalize headB ⟨v8, v12, v16⟩ = sx at e1 ⊢
      clear hf hB hq hqq hr
      go_wp2
      refine bodyPost_ret (results_h2 rfl _ _ g _ _ _ rfl HR.out.c0 HR.out.c1 HR.out.c2) rfl ?_
      exact HYE.out _ HB.out
    · have e1 : ((headB ⟨v8, v12, v16⟩).toList == s.toList) = false := str_ne hqq
      have HR := Lib.hid (hf.put noH)
      have HB := Lib.hid (below_putH hB hwg noH)
      have HNO := Lib.hid (NO.out (HN.out (fun h => hqq h.2)))
      generalize headB ⟨v8, v12, v16⟩ = sx at e1 ⊢
      clear hf hB hq hqq hr
      go_wp2
      refine bodyPost_ret (results_h2 rfl _ _ g _ _ _ rfl HR.out.c0 HR.out.c1 HR.out.c2) rfl ?_
      exact HNO.out _ HB.out
set_option maxRecDepth 20000 in
set_option maxHeartbeats 6400000 in
theorem refParse_any (s : ByteArray) (w : World) (hs : s.size ≤ 300000) :
    Calls Tryd.prog 10 #[.string s] w (ParsePost s w) := by
  have hB := (Below.refl w.heap.size w).alloc (Nat.le_refl _) (.cells (cellsH noH) 23)
  have hf := BoxH.new w noH 23
  obtain ⟨g, hg⟩ : ∃ g, w.heap.size = g := ⟨_, rfl⟩
  have hwg : w.heap.size ≤ g := by omega
  rw [hg] at hf
  generalize hwa : w.alloc (.cells (cellsH noH) 23) = wa at hB hf
  unfold cellsH noH at hwa
  simp only at hwa
  obtain ⟨post, hpe⟩ : ∃ post, ParsePost s w = post := ⟨_, rfl⟩
  rw [hpe]
  have no : parseH s = none → ∀ W, Below w.heap.size w W → post (.returned (.tuple #[.agg #[.int .i64 0, .int .i64 0, .int .i64 0], .bool false])) W := fun h W hW => by rw [← hpe, ParsePost, h]; exact ⟨rfl, hW⟩
  have yes : parseH s = some (candH s) → ∀ W, Below w.heap.size w W → post (.returned (.tuple #[.agg (cellsH (candH s)), .bool true])) W := fun h W hW => by rw [← hpe, ParsePost, h]; exact ⟨rfl, hW⟩
  have NO := Lib.hid no
  have YES := Lib.hid yes
  clear no yes hpe
  by_cases h : s.size = 256 ∧ (s.extract 0 8).toList = [77, 79, 83, 65, 73, 67, 48, 49]
  · obtain ⟨h, hm⟩ := h
    have h1 : ((s.size : Int) == 256) = true := by rw [beq_iff_eq]; omega
    have h2 : ((s.size : Int) != 256) = false := by rw [bne, h1]; rfl
    have m1 : ((s.extract 0 8).toList == [77, 79, 83, 65, 73, 67, 48, 49]) = true := by rw [hm]; rfl
    have m2 : ((s.extract 0 8).toList != [77, 79, 83, 65, 73, 67, 48, 49]) = false := by rw [bne, m1]; rfl
    have i8 : (8 : Int) ≤ (s.size : Int) := by omega
    have i12 : (12 : Int) ≤ (s.size : Int) := by omega
    have i16 : (16 : Int) ≤ (s.size : Int) := by omega
    have hRt := fun W => refRight_any (candH s) W
    have HP := Lib.hid (fun (h : RightH (candH s)) W => refPrint_any (candH s) W h)
    have HI : Hid (RightH (candH s) → headB (candH s) = s → parseH s = some (candH s)) := Lib.hid (fun h1 h2 => by unfold parseH; rw [if_pos ⟨h1, h2⟩])
    have HN : Hid (¬ (RightH (candH s) ∧ headB (candH s) = s) → parseH s = none) := Lib.hid (fun h1 => by unfold parseH; rw [if_neg h1])
    have hn8 := fun W => num_any (s := s.extract 8 s.size) W (by rw [ByteArray.size_extract]; omega)
    have hn12 := fun W => num_any (s := s.extract 12 s.size) W (by rw [ByteArray.size_extract]; omega)
    have hn16 := fun W => num_any (s := s.extract 16 s.size) W (by rw [ByteArray.size_extract]; omega)
    rw [tail_of] at hn8 hn12 hn16
    have hcc : candH s = ⟨nm (s.data.toList.drop 8), nm (s.data.toList.drop 12), nm (s.data.toList.drop 16)⟩ := by
      unfold candH nmz
      rw [if_pos (by omega), if_pos (by omega), if_pos (by omega)]
    generalize nm (s.data.toList.drop 8) = v8 at hn8 hcc
    generalize nm (s.data.toList.drop 12) = v12 at hn12 hcc
    generalize nm (s.data.toList.drop 16) = v16 at hn16 hcc
    obtain ⟨s8, e8⟩ : ∃ x, s.extract 8 s.size = x := ⟨_, rfl⟩
    obtain ⟨s12, e12⟩ : ∃ x, s.extract 12 s.size = x := ⟨_, rfl⟩
    obtain ⟨s16, e16⟩ : ∃ x, s.extract 16 s.size = x := ⟨_, rfl⟩
    rw [e8] at hn8
    rw [e12] at hn12
    rw [e16] at hn16
    rw [hcc] at hRt HP HI HN YES
    unfold cellsH at hRt HP YES
    simp only at hRt HP YES
    clear hcc h hm
    go_enter Tryd.func10, Tryd.ntmps10
    go_upto_region 3 with fail
    clear hwa hg
    have hdr := (Below.refl wa.heap.size wa).drew
    refine Lex.region_tree (ops := hsops) hstree (fun _ => True) (by kernel_rfl) (by kernel_rfl) hssel hslex (trivial) ?_
    unfold hstree
    have hf := hf.below hdr hf.lt
    have hB := hB.trans (hdr.mono hB.size)
    clear hdr
    generalize wa.drew = wd at hf hB ⊢
    refine Lex.tree_take (.string s) hs0 (Lex.want_none rfl) (by intro Wx hSw; (try dsimp only at hSw); go_simp; (try (first | (with_reducible rfl) | assumption | rfl))) ?_
    simp only [Act.put, List.setIfInBounds_toArray, List.set_cons_zero, List.set_cons_succ]
    refine Lex.tree_take (.string s8) hs1 (Lex.want_none rfl) (by intro Wx hSw; (try dsimp only at hSw); go_simp; (try (first | (with_reducible rfl) | assumption | rfl))) ?_
    simp only [Act.put, List.setIfInBounds_toArray, List.set_cons_zero, List.set_cons_succ]
    refine Lex.tree_take (.string s) hs3 (Lex.want_none rfl) (by intro Wx hSw; (try dsimp only at hSw); go_simp; (try (first | (with_reducible rfl) | assumption | rfl))) ?_
    simp only [Act.put, List.setIfInBounds_toArray, List.set_cons_zero, List.set_cons_succ]
    refine Lex.tree_take (.string s12) hs4 (Lex.want_none rfl) (by intro Wx hSw; (try dsimp only at hSw); go_simp; (try (first | (with_reducible rfl) | assumption | rfl))) ?_
    simp only [Act.put, List.setIfInBounds_toArray, List.set_cons_zero, List.set_cons_succ]
    refine Lex.tree_take (.string s) hs6 (Lex.want_none rfl) (by intro Wx hSw; (try dsimp only at hSw); go_simp; (try (first | (with_reducible rfl) | assumption | rfl))) ?_
    simp only [Act.put, List.setIfInBounds_toArray, List.set_cons_zero, List.set_cons_succ]
    refine Lex.tree_take (.string s16) hs7 (Lex.want_none rfl) (by intro Wx hSw; (try dsimp only at hSw); go_simp; (try (first | (with_reducible rfl) | assumption | rfl))) ?_
    simp only [Act.put, List.setIfInBounds_toArray, List.set_cons_zero, List.set_cons_succ]
    refine Lex.tree_call hs2 (Lex.want_none rfl) (fun K hK => ?_) ?_
    · go_simp
      refine (hn8 _).mono ?_
      rintro e y8 ⟨rfl, hv⟩
      have hf := hf.below hv hf.lt
      have hB := hB.trans (hv.mono hB.size)
      clear hv
      refine hK.out _ _ _ (fun _ h => h) trivial ?_
      clear hK K
      try simp only [Act.put, List.setIfInBounds_toArray, List.set_cons_zero, List.set_cons_succ]
      refine Lex.tree_call hs5 (Lex.want_none rfl) (fun K hK => ?_) ?_
      · go_simp
        refine (hn12 _).mono ?_
        rintro e y12 ⟨rfl, hv⟩
        have hf := hf.below hv hf.lt
        have hB := hB.trans (hv.mono hB.size)
        clear hv
        refine hK.out _ _ _ (fun _ h => h) trivial ?_
        clear hK K
        try simp only [Act.put, List.setIfInBounds_toArray, List.set_cons_zero, List.set_cons_succ]
        refine Lex.tree_call hs8 (Lex.want_none rfl) (fun K hK => ?_) ?_
        · go_simp
          refine (hn16 _).mono ?_
          rintro e y16 ⟨rfl, hv⟩
          have hf := hf.below hv hf.lt
          have hB := hB.trans (hv.mono hB.size)
          clear hv
          refine hK.out _ _ _ (fun _ h => h) trivial ?_
          clear hK K
          try simp only [Act.put, List.setIfInBounds_toArray, List.set_cons_zero, List.set_cons_succ]
          refine Lex.tree_take (.agg #[.int .i64 (v8 : Int), .int .i64 (v12 : Int), .int .i64 (v16 : Int)]) hs9 (Lex.want_none rfl) (by intro Wx hSw; (try dsimp only at hSw); go_simp; (try (first | (with_reducible rfl) | assumption | rfl))) ?_
          simp only [Act.put, List.setIfInBounds_toArray, List.set_cons_zero, List.set_cons_succ]
          refine Lex.tree_call hs10 (Lex.want_none rfl) (fun K hK => ?_) Lex.tree_no
          go_simp
          have hn := (Below.refl y16.heap.size y16).alloc (Nat.le_refl _) (.cells #[.int .i64 0, .int .i64 0, .int .i64 0] 23)
          have hq : BoxH (y16.alloc (.cells #[.int .i64 0, .int .i64 0, .int .i64 0] 23)) y16.heap.size noH := BoxH.new y16 noH 23
          have hgq := hf.lt
          have hwq := hB.size
          have hf := hf.below hn hf.lt
          have hB := hB.trans (hn.mono hB.size)
          clear hn
          generalize y16.alloc (.cells #[.int .i64 0, .int .i64 0, .int .i64 0] 23) = zy16 at hf hB hq ⊢
          generalize y16.heap.size = gq at hq hgq hwq ⊢
          refine hK.out _ _ _ (fun _ h => h) trivial ?_
          clear hK K
          try simp only [Act.put, List.setIfInBounds_toArray, List.set_cons_zero, List.set_cons_succ]
          refine Lex.tree_call hs11 (Lex.want_none rfl) (fun K hK => ?_) Lex.tree_no
          have k0 := hq.c0
          have k1 := hq.c1
          have k2 := hq.c2
          have kf := hq.f
          go_simp
          clear k0 k1 k2 kf
          have hf := hf.off (Nat.ne_of_lt hgq) ⟨v8, v12, v16⟩
          have hB := below_putH hB hwq ⟨v8, v12, v16⟩
          have hq := hq.put ⟨v8, v12, v16⟩
          generalize (((zy16).setCell ⟨gq, 0, none⟩ (.int .i64 (v8 : Int))).setCell ⟨gq, 1, none⟩ (.int .i64 (v12 : Int))).setCell ⟨gq, 2, none⟩ (.int .i64 (v16 : Int)) = s9 at hf hB hq ⊢
          refine hK.out _ _ _ (fun _ h => h) trivial ?_
          clear hK K
          try simp only [Act.put, List.setIfInBounds_toArray, List.set_cons_zero, List.set_cons_succ]
          refine Lex.tree_end ?_
          refine NoPanic.normal ?_
          have q0 := hq.c0
          have q1 := hq.c1
          have q2 := hq.c2
          simp only at q0 q1 q2
          go_wp2_with fail
          refine (hRt _).mono ?_
          rintro e w4 ⟨is, rfl, hb, hv⟩
          have hf := hf.below hv hf.lt
          have hq := hq.below hv hq.lt
          have hB := hB.trans (hv.mono hB.size)
          clear hv q0 q1 q2
          have q0 := hq.c0
          have q1 := hq.c1
          have q2 := hq.c2
          simp only at q0 q1 q2
          cases is
          · have HR := Lib.hid (hf.put noH)
            have HB := Lib.hid (below_putH hB hwg noH)
            have HNO := Lib.hid (NO.out (HN.out (fun h => by cases hb.2 h.1)))
            have x0 := hf.c0
            have x1 := hf.c1
            have x2 := hf.c2
            have xf := hf.f
            clear hf hB hq q0 q1 q2 hb
            go_wp2
            refine bodyPost_ret (results_h2 rfl _ _ g _ _ _ rfl HR.out.c0 HR.out.c1 HR.out.c2) rfl ?_
            exact HNO.out _ HB.out
          · have hr := hb.1 rfl
            have hpf := HP.out hr
            clear hb
            go_wp2_with fail
            refine (hpf _).mono ?_
            rintro e w5 ⟨rfl, hv⟩
            have hf := hf.below hv hf.lt
            have hq := hq.below hv hq.lt
            have hB := hB.trans (hv.mono hB.size)
            clear hv hpf q0 q1 q2
            have x0 := hf.c0
            have x1 := hf.c1
            have x2 := hf.c2
            have xf := hf.f
            by_cases hqq : headB ⟨v8, v12, v16⟩ = s
            · have e1 : ((headB ⟨v8, v12, v16⟩).toList == s.toList) = true := by rw [hqq]; exact beq_self_eq_true _
              have HR := Lib.hid (hf.put ⟨v8, v12, v16⟩)
              have HB := Lib.hid (below_putH hB hwg ⟨v8, v12, v16⟩)
              have HYE := Lib.hid (YES.out (HI.out hr hqq))
              have q0 := hq.c0
              have q1 := hq.c1
              have q2 := hq.c2
              simp only at q0 q1 q2
              generalize headB ⟨v8, v12, v16⟩ = sx at e1 ⊢
              clear hf hB hq hqq hr
              go_wp2
              refine bodyPost_ret (results_h2 rfl _ _ g _ _ _ rfl HR.out.c0 HR.out.c1 HR.out.c2) rfl ?_
              exact HYE.out _ HB.out
            · have e1 : ((headB ⟨v8, v12, v16⟩).toList == s.toList) = false := str_ne hqq
              have HR := Lib.hid (hf.put noH)
              have HB := Lib.hid (below_putH hB hwg noH)
              have HNO := Lib.hid (NO.out (HN.out (fun h => hqq h.2)))
              generalize headB ⟨v8, v12, v16⟩ = sx at e1 ⊢
              clear hf hB hq hqq hr
              go_wp2
              refine bodyPost_ret (results_h2 rfl _ _ g _ _ _ rfl HR.out.c0 HR.out.c1 HR.out.c2) rfl ?_
              exact HNO.out _ HB.out
        refine Lex.tree_call hs10 (Lex.want_none rfl) (fun K hK => ?_) Lex.tree_no
        go_simp
        have hn := (Below.refl y12.heap.size y12).alloc (Nat.le_refl _) (.cells #[.int .i64 0, .int .i64 0, .int .i64 0] 23)
        have hq : BoxH (y12.alloc (.cells #[.int .i64 0, .int .i64 0, .int .i64 0] 23)) y12.heap.size noH := BoxH.new y12 noH 23
        have hgq := hf.lt
        have hwq := hB.size
        have hf := hf.below hn hf.lt
        have hB := hB.trans (hn.mono hB.size)
        clear hn
        generalize y12.alloc (.cells #[.int .i64 0, .int .i64 0, .int .i64 0] 23) = zy12 at hf hB hq ⊢
        generalize y12.heap.size = gq at hq hgq hwq ⊢
        refine hK.out _ _ _ (fun _ h => h) trivial ?_
        clear hK K
        try simp only [Act.put, List.setIfInBounds_toArray, List.set_cons_zero, List.set_cons_succ]
        refine Lex.tree_call hs8 (Lex.want_none rfl) (fun K hK => ?_) Lex.tree_no
        go_simp
        refine (hn16 _).mono ?_
        rintro e y16 ⟨rfl, hv⟩
        have hf := hf.below hv hf.lt
        have hq := hq.below hv hq.lt
        have hB := hB.trans (hv.mono hB.size)
        clear hv
        refine hK.out _ _ _ (fun _ h => h) trivial ?_
        clear hK K
        try simp only [Act.put, List.setIfInBounds_toArray, List.set_cons_zero, List.set_cons_succ]
        refine Lex.tree_take (.agg #[.int .i64 (v8 : Int), .int .i64 (v12 : Int), .int .i64 (v16 : Int)]) hs9 (Lex.want_none rfl) (by intro Wx hSw; (try dsimp only at hSw); go_simp; (try (first | (with_reducible rfl) | assumption | rfl))) ?_
        simp only [Act.put, List.setIfInBounds_toArray, List.set_cons_zero, List.set_cons_succ]
        refine Lex.tree_call hs11 (Lex.want_none rfl) (fun K hK => ?_) Lex.tree_no
        have k0 := hq.c0
        have k1 := hq.c1
        have k2 := hq.c2
        have kf := hq.f
        go_simp
        clear k0 k1 k2 kf
        have hf := hf.off (Nat.ne_of_lt hgq) ⟨v8, v12, v16⟩
        have hB := below_putH hB hwq ⟨v8, v12, v16⟩
        have hq := hq.put ⟨v8, v12, v16⟩
        generalize (((y16).setCell ⟨gq, 0, none⟩ (.int .i64 (v8 : Int))).setCell ⟨gq, 1, none⟩ (.int .i64 (v12 : Int))).setCell ⟨gq, 2, none⟩ (.int .i64 (v16 : Int)) = s9 at hf hB hq ⊢
        refine hK.out _ _ _ (fun _ h => h) trivial ?_
        clear hK K
        try simp only [Act.put, List.setIfInBounds_toArray, List.set_cons_zero, List.set_cons_succ]
        refine Lex.tree_end ?_
        refine NoPanic.normal ?_
        have q0 := hq.c0
        have q1 := hq.c1
        have q2 := hq.c2
        simp only at q0 q1 q2
        go_wp2_with fail
        refine (hRt _).mono ?_
        rintro e w4 ⟨is, rfl, hb, hv⟩
        have hf := hf.below hv hf.lt
        have hq := hq.below hv hq.lt
        have hB := hB.trans (hv.mono hB.size)
        clear hv q0 q1 q2
        have q0 := hq.c0
        have q1 := hq.c1
        have q2 := hq.c2
        simp only at q0 q1 q2
        cases is
        · have HR := Lib.hid (hf.put noH)
          have HB := Lib.hid (below_putH hB hwg noH)
          have HNO := Lib.hid (NO.out (HN.out (fun h => by cases hb.2 h.1)))
          have x0 := hf.c0
          have x1 := hf.c1
          have x2 := hf.c2
          have xf := hf.f
          clear hf hB hq q0 q1 q2 hb
          go_wp2
          refine bodyPost_ret (results_h2 rfl _ _ g _ _ _ rfl HR.out.c0 HR.out.c1 HR.out.c2) rfl ?_
          exact HNO.out _ HB.out
        · have hr := hb.1 rfl
          have hpf := HP.out hr
          clear hb
          go_wp2_with fail
          refine (hpf _).mono ?_
          rintro e w5 ⟨rfl, hv⟩
          have hf := hf.below hv hf.lt
          have hq := hq.below hv hq.lt
          have hB := hB.trans (hv.mono hB.size)
          clear hv hpf q0 q1 q2
          have x0 := hf.c0
          have x1 := hf.c1
          have x2 := hf.c2
          have xf := hf.f
          by_cases hqq : headB ⟨v8, v12, v16⟩ = s
          · have e1 : ((headB ⟨v8, v12, v16⟩).toList == s.toList) = true := by rw [hqq]; exact beq_self_eq_true _
            have HR := Lib.hid (hf.put ⟨v8, v12, v16⟩)
            have HB := Lib.hid (below_putH hB hwg ⟨v8, v12, v16⟩)
            have HYE := Lib.hid (YES.out (HI.out hr hqq))
            have q0 := hq.c0
            have q1 := hq.c1
            have q2 := hq.c2
            simp only at q0 q1 q2
            generalize headB ⟨v8, v12, v16⟩ = sx at e1 ⊢
            clear hf hB hq hqq hr
            go_wp2
            refine bodyPost_ret (results_h2 rfl _ _ g _ _ _ rfl HR.out.c0 HR.out.c1 HR.out.c2) rfl ?_
            exact HYE.out _ HB.out
          · have e1 : ((headB ⟨v8, v12, v16⟩).toList == s.toList) = false := str_ne hqq
            have HR := Lib.hid (hf.put noH)
            have HB := Lib.hid (below_putH hB hwg noH)
            have HNO := Lib.hid (NO.out (HN.out (fun h => hqq h.2)))
            generalize headB ⟨v8, v12, v16⟩ = sx at e1 ⊢
            clear hf hB hq hqq hr
            go_wp2
            refine bodyPost_ret (results_h2 rfl _ _ g _ _ _ rfl HR.out.c0 HR.out.c1 HR.out.c2) rfl ?_
            exact HNO.out _ HB.out
      refine Lex.tree_call hs10 (Lex.want_none rfl) (fun K hK => ?_) Lex.tree_no
      go_simp
      have hn := (Below.refl y8.heap.size y8).alloc (Nat.le_refl _) (.cells #[.int .i64 0, .int .i64 0, .int .i64 0] 23)
      have hq : BoxH (y8.alloc (.cells #[.int .i64 0, .int .i64 0, .int .i64 0] 23)) y8.heap.size noH := BoxH.new y8 noH 23
      have hgq := hf.lt
      have hwq := hB.size
      have hf := hf.below hn hf.lt
      have hB := hB.trans (hn.mono hB.size)
      clear hn
      generalize y8.alloc (.cells #[.int .i64 0, .int .i64 0, .int .i64 0] 23) = zy8 at hf hB hq ⊢
      generalize y8.heap.size = gq at hq hgq hwq ⊢
      refine hK.out _ _ _ (fun _ h => h) trivial ?_
      clear hK K
      try simp only [Act.put, List.setIfInBounds_toArray, List.set_cons_zero, List.set_cons_succ]
      refine Lex.tree_call hs5 (Lex.want_none rfl) (fun K hK => ?_) Lex.tree_no
      go_simp
      refine (hn12 _).mono ?_
      rintro e y12 ⟨rfl, hv⟩
      have hf := hf.below hv hf.lt
      have hq := hq.below hv hq.lt
      have hB := hB.trans (hv.mono hB.size)
      clear hv
      refine hK.out _ _ _ (fun _ h => h) trivial ?_
      clear hK K
      try simp only [Act.put, List.setIfInBounds_toArray, List.set_cons_zero, List.set_cons_succ]
      refine Lex.tree_call hs8 (Lex.want_none rfl) (fun K hK => ?_) Lex.tree_no
      go_simp
      refine (hn16 _).mono ?_
      rintro e y16 ⟨rfl, hv⟩
      have hf := hf.below hv hf.lt
      have hq := hq.below hv hq.lt
      have hB := hB.trans (hv.mono hB.size)
      clear hv
      refine hK.out _ _ _ (fun _ h => h) trivial ?_
      clear hK K
      try simp only [Act.put, List.setIfInBounds_toArray, List.set_cons_zero, List.set_cons_succ]
      refine Lex.tree_take (.agg #[.int .i64 (v8 : Int), .int .i64 (v12 : Int), .int .i64 (v16 : Int)]) hs9 (Lex.want_none rfl) (by intro Wx hSw; (try dsimp only at hSw); go_simp; (try (first | (with_reducible rfl) | assumption | rfl))) ?_
      simp only [Act.put, List.setIfInBounds_toArray, List.set_cons_zero, List.set_cons_succ]
      refine Lex.tree_call hs11 (Lex.want_none rfl) (fun K hK => ?_) Lex.tree_no
      have k0 := hq.c0
      have k1 := hq.c1
      have k2 := hq.c2
      have kf := hq.f
      go_simp
      clear k0 k1 k2 kf
      have hf := hf.off (Nat.ne_of_lt hgq) ⟨v8, v12, v16⟩
      have hB := below_putH hB hwq ⟨v8, v12, v16⟩
      have hq := hq.put ⟨v8, v12, v16⟩
      generalize (((y16).setCell ⟨gq, 0, none⟩ (.int .i64 (v8 : Int))).setCell ⟨gq, 1, none⟩ (.int .i64 (v12 : Int))).setCell ⟨gq, 2, none⟩ (.int .i64 (v16 : Int)) = s9 at hf hB hq ⊢
      refine hK.out _ _ _ (fun _ h => h) trivial ?_
      clear hK K
      try simp only [Act.put, List.setIfInBounds_toArray, List.set_cons_zero, List.set_cons_succ]
      refine Lex.tree_end ?_
      refine NoPanic.normal ?_
      have q0 := hq.c0
      have q1 := hq.c1
      have q2 := hq.c2
      simp only at q0 q1 q2
      go_wp2_with fail
      refine (hRt _).mono ?_
      rintro e w4 ⟨is, rfl, hb, hv⟩
      have hf := hf.below hv hf.lt
      have hq := hq.below hv hq.lt
      have hB := hB.trans (hv.mono hB.size)
      clear hv q0 q1 q2
      have q0 := hq.c0
      have q1 := hq.c1
      have q2 := hq.c2
      simp only at q0 q1 q2
      cases is
      · have HR := Lib.hid (hf.put noH)
        have HB := Lib.hid (below_putH hB hwg noH)
        have HNO := Lib.hid (NO.out (HN.out (fun h => by cases hb.2 h.1)))
        have x0 := hf.c0
        have x1 := hf.c1
        have x2 := hf.c2
        have xf := hf.f
        clear hf hB hq q0 q1 q2 hb
        go_wp2
        refine bodyPost_ret (results_h2 rfl _ _ g _ _ _ rfl HR.out.c0 HR.out.c1 HR.out.c2) rfl ?_
        exact HNO.out _ HB.out
      · have hr := hb.1 rfl
        have hpf := HP.out hr
        clear hb
        go_wp2_with fail
        refine (hpf _).mono ?_
        rintro e w5 ⟨rfl, hv⟩
        have hf := hf.below hv hf.lt
        have hq := hq.below hv hq.lt
        have hB := hB.trans (hv.mono hB.size)
        clear hv hpf q0 q1 q2
        have x0 := hf.c0
        have x1 := hf.c1
        have x2 := hf.c2
        have xf := hf.f
        by_cases hqq : headB ⟨v8, v12, v16⟩ = s
        · have e1 : ((headB ⟨v8, v12, v16⟩).toList == s.toList) = true := by rw [hqq]; exact beq_self_eq_true _
          have HR := Lib.hid (hf.put ⟨v8, v12, v16⟩)
          have HB := Lib.hid (below_putH hB hwg ⟨v8, v12, v16⟩)
          have HYE := Lib.hid (YES.out (HI.out hr hqq))
          have q0 := hq.c0
          have q1 := hq.c1
          have q2 := hq.c2
          simp only at q0 q1 q2
          generalize headB ⟨v8, v12, v16⟩ = sx at e1 ⊢
          clear hf hB hq hqq hr
          go_wp2
          refine bodyPost_ret (results_h2 rfl _ _ g _ _ _ rfl HR.out.c0 HR.out.c1 HR.out.c2) rfl ?_
          exact HYE.out _ HB.out
        · have e1 : ((headB ⟨v8, v12, v16⟩).toList == s.toList) = false := str_ne hqq
          have HR := Lib.hid (hf.put noH)
          have HB := Lib.hid (below_putH hB hwg noH)
          have HNO := Lib.hid (NO.out (HN.out (fun h => hqq h.2)))
          generalize headB ⟨v8, v12, v16⟩ = sx at e1 ⊢
          clear hf hB hq hqq hr
          go_wp2
          refine bodyPost_ret (results_h2 rfl _ _ g _ _ _ rfl HR.out.c0 HR.out.c1 HR.out.c2) rfl ?_
          exact HNO.out _ HB.out
    refine Lex.tree_call hs10 (Lex.want_none rfl) (fun K hK => ?_) Lex.tree_no
    go_simp
    have hn := (Below.refl wd.heap.size wd).alloc (Nat.le_refl _) (.cells #[.int .i64 0, .int .i64 0, .int .i64 0] 23)
    have hq : BoxH (wd.alloc (.cells #[.int .i64 0, .int .i64 0, .int .i64 0] 23)) wd.heap.size noH := BoxH.new wd noH 23
    have hgq := hf.lt
    have hwq := hB.size
    have hf := hf.below hn hf.lt
    have hB := hB.trans (hn.mono hB.size)
    clear hn
    generalize wd.alloc (.cells #[.int .i64 0, .int .i64 0, .int .i64 0] 23) = zwd at hf hB hq ⊢
    generalize wd.heap.size = gq at hq hgq hwq ⊢
    refine hK.out _ _ _ (fun _ h => h) trivial ?_
    clear hK K
    try simp only [Act.put, List.setIfInBounds_toArray, List.set_cons_zero, List.set_cons_succ]
    refine Lex.tree_call hs2 (Lex.want_none rfl) (fun K hK => ?_) Lex.tree_no
    go_simp
    refine (hn8 _).mono ?_
    rintro e y8 ⟨rfl, hv⟩
    have hf := hf.below hv hf.lt
    have hq := hq.below hv hq.lt
    have hB := hB.trans (hv.mono hB.size)
    clear hv
    refine hK.out _ _ _ (fun _ h => h) trivial ?_
    clear hK K
    try simp only [Act.put, List.setIfInBounds_toArray, List.set_cons_zero, List.set_cons_succ]
    refine Lex.tree_call hs5 (Lex.want_none rfl) (fun K hK => ?_) Lex.tree_no
    go_simp
    refine (hn12 _).mono ?_
    rintro e y12 ⟨rfl, hv⟩
    have hf := hf.below hv hf.lt
    have hq := hq.below hv hq.lt
    have hB := hB.trans (hv.mono hB.size)
    clear hv
    refine hK.out _ _ _ (fun _ h => h) trivial ?_
    clear hK K
    try simp only [Act.put, List.setIfInBounds_toArray, List.set_cons_zero, List.set_cons_succ]
    refine Lex.tree_call hs8 (Lex.want_none rfl) (fun K hK => ?_) Lex.tree_no
    go_simp
    refine (hn16 _).mono ?_
    rintro e y16 ⟨rfl, hv⟩
    have hf := hf.below hv hf.lt
    have hq := hq.below hv hq.lt
    have hB := hB.trans (hv.mono hB.size)
    clear hv
    refine hK.out _ _ _ (fun _ h => h) trivial ?_
    clear hK K
    try simp only [Act.put, List.setIfInBounds_toArray, List.set_cons_zero, List.set_cons_succ]
    refine Lex.tree_take (.agg #[.int .i64 (v8 : Int), .int .i64 (v12 : Int), .int .i64 (v16 : Int)]) hs9 (Lex.want_none rfl) (by intro Wx hSw; (try dsimp only at hSw); go_simp; (try (first | (with_reducible rfl) | assumption | rfl))) ?_
    simp only [Act.put, List.setIfInBounds_toArray, List.set_cons_zero, List.set_cons_succ]
    refine Lex.tree_call hs11 (Lex.want_none rfl) (fun K hK => ?_) Lex.tree_no
    have k0 := hq.c0
    have k1 := hq.c1
    have k2 := hq.c2
    have kf := hq.f
    go_simp
    clear k0 k1 k2 kf
    have hf := hf.off (Nat.ne_of_lt hgq) ⟨v8, v12, v16⟩
    have hB := below_putH hB hwq ⟨v8, v12, v16⟩
    have hq := hq.put ⟨v8, v12, v16⟩
    generalize (((y16).setCell ⟨gq, 0, none⟩ (.int .i64 (v8 : Int))).setCell ⟨gq, 1, none⟩ (.int .i64 (v12 : Int))).setCell ⟨gq, 2, none⟩ (.int .i64 (v16 : Int)) = s9 at hf hB hq ⊢
    refine hK.out _ _ _ (fun _ h => h) trivial ?_
    clear hK K
    try simp only [Act.put, List.setIfInBounds_toArray, List.set_cons_zero, List.set_cons_succ]
    refine Lex.tree_end ?_
    refine NoPanic.normal ?_
    have q0 := hq.c0
    have q1 := hq.c1
    have q2 := hq.c2
    simp only at q0 q1 q2
    go_wp2_with fail
    refine (hRt _).mono ?_
    rintro e w4 ⟨is, rfl, hb, hv⟩
    have hf := hf.below hv hf.lt
    have hq := hq.below hv hq.lt
    have hB := hB.trans (hv.mono hB.size)
    clear hv q0 q1 q2
    have q0 := hq.c0
    have q1 := hq.c1
    have q2 := hq.c2
    simp only at q0 q1 q2
    cases is
    · have HR := Lib.hid (hf.put noH)
      have HB := Lib.hid (below_putH hB hwg noH)
      have HNO := Lib.hid (NO.out (HN.out (fun h => by cases hb.2 h.1)))
      have x0 := hf.c0
      have x1 := hf.c1
      have x2 := hf.c2
      have xf := hf.f
      clear hf hB hq q0 q1 q2 hb
      go_wp2
      refine bodyPost_ret (results_h2 rfl _ _ g _ _ _ rfl HR.out.c0 HR.out.c1 HR.out.c2) rfl ?_
      exact HNO.out _ HB.out
    · have hr := hb.1 rfl
      have hpf := HP.out hr
      clear hb
      go_wp2_with fail
      refine (hpf _).mono ?_
      rintro e w5 ⟨rfl, hv⟩
      have hf := hf.below hv hf.lt
      have hq := hq.below hv hq.lt
      have hB := hB.trans (hv.mono hB.size)
      clear hv hpf q0 q1 q2
      have x0 := hf.c0
      have x1 := hf.c1
      have x2 := hf.c2
      have xf := hf.f
      by_cases hqq : headB ⟨v8, v12, v16⟩ = s
      · have e1 : ((headB ⟨v8, v12, v16⟩).toList == s.toList) = true := by rw [hqq]; exact beq_self_eq_true _
        have HR := Lib.hid (hf.put ⟨v8, v12, v16⟩)
        have HB := Lib.hid (below_putH hB hwg ⟨v8, v12, v16⟩)
        have HYE := Lib.hid (YES.out (HI.out hr hqq))
        have q0 := hq.c0
        have q1 := hq.c1
        have q2 := hq.c2
        simp only at q0 q1 q2
        generalize headB ⟨v8, v12, v16⟩ = sx at e1 ⊢
        clear hf hB hq hqq hr
        go_wp2
        refine bodyPost_ret (results_h2 rfl _ _ g _ _ _ rfl HR.out.c0 HR.out.c1 HR.out.c2) rfl ?_
        exact HYE.out _ HB.out
      · have e1 : ((headB ⟨v8, v12, v16⟩).toList == s.toList) = false := str_ne hqq
        have HR := Lib.hid (hf.put noH)
        have HB := Lib.hid (below_putH hB hwg noH)
        have HNO := Lib.hid (NO.out (HN.out (fun h => hqq h.2)))
        generalize headB ⟨v8, v12, v16⟩ = sx at e1 ⊢
        clear hf hB hq hqq hr
        go_wp2
        refine bodyPost_ret (results_h2 rfl _ _ g _ _ _ rfl HR.out.c0 HR.out.c1 HR.out.c2) rfl ?_
        exact HNO.out _ HB.out
  · have e : parseH s = none := by
      cases hp : parseH s with
      | none => rfl
      | some f =>
        obtain ⟨_, rfl⟩ := parse_iff.1 hp
        exact absurd ⟨headB_size f, by rw [first8, head_eight]⟩ h
    have HR := Lib.hid (hf.put noH)
    have HB := Lib.hid (below_putH hB hwg noH)
    have HNO := Lib.hid (NO.out e)
    have x0 := hf.c0
    have x1 := hf.c1
    have x2 := hf.c2
    have xf := hf.f
    clear hf hB e
    by_cases h1 : s.size = 256
    · have m1 : ((s.extract 0 8).toList == [77, 79, 83, 65, 73, 67, 48, 49]) = false := beq_eq_false_iff_ne.2 (fun e => h ⟨h1, e⟩)
      have m2 : ((s.extract 0 8).toList != [77, 79, 83, 65, 73, 67, 48, 49]) = true := by rw [bne, m1]; rfl
      have h2 : ((s.size : Int) == 256) = true := by rw [beq_iff_eq]; omega
      have h3 : ((s.size : Int) != 256) = false := by rw [bne, h2]; rfl
      have i8 : (8 : Int) ≤ (s.size : Int) := by omega
      clear h h1
      go_enter Tryd.func10, Tryd.ntmps10
      go_wp2
      refine bodyPost_ret (results_h2 rfl _ _ g _ _ _ rfl HR.out.c0 HR.out.c1 HR.out.c2) rfl ?_
      exact HNO.out _ HB.out
    · have h2 : ((s.size : Int) == 256) = false := beq_eq_false_iff_ne.2 (by omega)
      have h3 : ((s.size : Int) != 256) = true := by rw [bne, h2]; rfl
      clear h h1
      go_enter Tryd.func10, Tryd.ntmps10
      go_wp2
      refine bodyPost_ret (results_h2 rfl _ _ g _ _ _ rfl HR.out.c0 HR.out.c1 HR.out.c2) rfl ?_
      exact HNO.out _ HB.out
end Go.Proofs.YtdbemkdfndjakaaDoor.Hd
