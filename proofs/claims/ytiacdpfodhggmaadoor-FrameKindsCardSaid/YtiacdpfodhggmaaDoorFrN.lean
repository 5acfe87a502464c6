/- Frames: the program's read and Parse at 4d08357, walked. -/
import Derived.Test.YtiacdpfodhggmaaDoorFrM
namespace Go.Proofs.YtiacdpfodhggmaaDoor.Fr
open Go.RowKit Tal Lf
theorem results_fr1 {fn : Func} {p : Tmp} (h : fn.results = #[.cell p 36]) (tmps : Array Value) (w : World) (g : Nat) (v0 v1 v2 v3 v4 : Value)
    (hp : tmps.getD p undef = .pointer (some ⟨g, 0, none⟩)) (c0 : w.cell? ⟨g, 0, none⟩ = some v0) (c1 : w.cell? ⟨g, 1, none⟩ = some v1) (c2 : w.cell? ⟨g, 2, none⟩ = some v2) (c3 : w.cell? ⟨g, 3, none⟩ = some v3) (c4 : w.cell? ⟨g, 4, none⟩ = some v4) :
    (results fn tmps).run Tryd.prog w = .ok (.agg #[v0, v1, v2, v3, v4]) w := by
  have hp' : tmps[p]?.getD undef = .pointer (some ⟨g, 0, none⟩) := by simpa using hp
  clear hp
  simp only [results, h]
  go_simp
theorem results_fr2 {fn : Func} {p q : Tmp} (h : fn.results = #[.cell p 36, .tmp q]) (tmps : Array Value) (w : World) (g : Nat) (v0 v1 v2 v3 v4 : Value)
    (hp : tmps.getD p undef = .pointer (some ⟨g, 0, none⟩)) (c0 : w.cell? ⟨g, 0, none⟩ = some v0) (c1 : w.cell? ⟨g, 1, none⟩ = some v1) (c2 : w.cell? ⟨g, 2, none⟩ = some v2) (c3 : w.cell? ⟨g, 3, none⟩ = some v3) (c4 : w.cell? ⟨g, 4, none⟩ = some v4) :
    (results fn tmps).run Tryd.prog w = .ok (.tuple #[.agg #[v0, v1, v2, v3, v4], tmps.getD q undef]) w := by
  have hp' : tmps[p]?.getD undef = .pointer (some ⟨g, 0, none⟩) := by simpa using hp
  clear hp
  simp only [results, h]
  go_simp
section
variable {w w' : World} {g B : Nat} {f : F}
theorem cell_set (w : World) (g i j : Nat) (u v : Value) (hij : i ≠ j) (h : w.cell? ⟨g, j, none⟩ = some v) : (w.setCell ⟨g, i, none⟩ u).cell? ⟨g, j, none⟩ = some v :=
  (World.cell?_setCell_other w _ _ u (fun e => by injection e with _ e2; exact hij e2)).trans h
/-- Another frame put into the variable. -/
theorem BoxF.put (h : BoxF w g f) (u : F) : BoxF (((((w.setCell ⟨g, 0, none⟩ (.int .i64 u.e)).setCell ⟨g, 1, none⟩ (.int .i64 u.i)).setCell ⟨g, 2, none⟩ (.bool u.c)).setCell ⟨g, 3, none⟩ (.int .i64 u.p)).setCell ⟨g, 4, none⟩ (.string u.d)) g u := by
  have a0 := World.cell?_setCell_same w ⟨g, 0, none⟩ (.int .i64 u.e) h.c0
  have b1 := cell_set w g 0 1 (.int .i64 u.e) _ (by decide) h.c1
  have b2 := cell_set w g 0 2 (.int .i64 u.e) _ (by decide) h.c2
  have b3 := cell_set w g 0 3 (.int .i64 u.e) _ (by decide) h.c3
  have b4 := cell_set w g 0 4 (.int .i64 u.e) _ (by decide) h.c4
  have f0 : ∀ i, (w.setCell ⟨g, 0, none⟩ (.int .i64 u.e)).frozen? ⟨g, i, none⟩ = false := fun i => by rw [World.frozen?_setCell]; exact h.f i
  generalize w.setCell ⟨g, 0, none⟩ (.int .i64 u.e) = w1 at a0 b1 b2 b3 b4 f0 ⊢
  have a0 := cell_set w1 g 1 0 (.int .i64 u.i) _ (by decide) a0
  have a1 := World.cell?_setCell_same w1 ⟨g, 1, none⟩ (.int .i64 u.i) b1
  have b2 := cell_set w1 g 1 2 (.int .i64 u.i) _ (by decide) b2
  have b3 := cell_set w1 g 1 3 (.int .i64 u.i) _ (by decide) b3
  have b4 := cell_set w1 g 1 4 (.int .i64 u.i) _ (by decide) b4
  have f0 : ∀ i, (w1.setCell ⟨g, 1, none⟩ (.int .i64 u.i)).frozen? ⟨g, i, none⟩ = false := fun i => by rw [World.frozen?_setCell]; exact f0 i
  generalize w1.setCell ⟨g, 1, none⟩ (.int .i64 u.i) = w2 at a0 a1 b2 b3 b4 f0 ⊢
  have a0 := cell_set w2 g 2 0 (.bool u.c) _ (by decide) a0
  have a1 := cell_set w2 g 2 1 (.bool u.c) _ (by decide) a1
  have a2 := World.cell?_setCell_same w2 ⟨g, 2, none⟩ (.bool u.c) b2
  have b3 := cell_set w2 g 2 3 (.bool u.c) _ (by decide) b3
  have b4 := cell_set w2 g 2 4 (.bool u.c) _ (by decide) b4
  have f0 : ∀ i, (w2.setCell ⟨g, 2, none⟩ (.bool u.c)).frozen? ⟨g, i, none⟩ = false := fun i => by rw [World.frozen?_setCell]; exact f0 i
  generalize w2.setCell ⟨g, 2, none⟩ (.bool u.c) = w3 at a0 a1 a2 b3 b4 f0 ⊢
  have a0 := cell_set w3 g 3 0 (.int .i64 u.p) _ (by decide) a0
  have a1 := cell_set w3 g 3 1 (.int .i64 u.p) _ (by decide) a1
  have a2 := cell_set w3 g 3 2 (.int .i64 u.p) _ (by decide) a2
  have a3 := World.cell?_setCell_same w3 ⟨g, 3, none⟩ (.int .i64 u.p) b3
  have b4 := cell_set w3 g 3 4 (.int .i64 u.p) _ (by decide) b4
  have f0 : ∀ i, (w3.setCell ⟨g, 3, none⟩ (.int .i64 u.p)).frozen? ⟨g, i, none⟩ = false := fun i => by rw [World.frozen?_setCell]; exact f0 i
  generalize w3.setCell ⟨g, 3, none⟩ (.int .i64 u.p) = w4 at a0 a1 a2 a3 b4 f0 ⊢
  exact ⟨cell_set w4 g 4 0 _ _ (by decide) a0, cell_set w4 g 4 1 _ _ (by decide) a1, cell_set w4 g 4 2 _ _ (by decide) a2, cell_set w4 g 4 3 _ _ (by decide) a3, World.cell?_setCell_same w4 ⟨g, 4, none⟩ _ b4, fun i => by rw [World.frozen?_setCell]; exact f0 i⟩
theorem below_put (hB : Below B w w') (hg : B ≤ g) (u : F) : Below B w (((((w'.setCell ⟨g, 0, none⟩ (.int .i64 u.e)).setCell ⟨g, 1, none⟩ (.int .i64 u.i)).setCell ⟨g, 2, none⟩ (.bool u.c)).setCell ⟨g, 3, none⟩ (.int .i64 u.p)).setCell ⟨g, 4, none⟩ (.string u.d)) :=
  ((((hB.setCell (p := ⟨g, 0, none⟩) hg _).setCell (p := ⟨g, 1, none⟩) hg _).setCell (p := ⟨g, 2, none⟩) hg _).setCell (p := ⟨g, 3, none⟩) hg _).setCell (p := ⟨g, 4, none⟩) hg _
end
theorem first4 (s : ByteArray) : (s.extract 0 4).toList = s.data.toList.take 4 := by
  rw [Lib.extract_toList, List.drop_zero]
theorem cand_read (s : ByteArray) (b : Bool) (hb : ((s.extract 0 4).toList == [76, 79, 71, 67]) = b) : cand s = ⟨nm (s.data.toList.drop 4), nm (s.data.toList.drop 8), b, nm (s.data.toList.drop 12), s.extract 16 (16 + lenOf b)⟩ := by
  have hb2 : (s.data.toList.take 4 == word true) = b := by rw [← hb, first4]; rfl
  unfold cand
  rw [hb2]
  cases b with
  | true =>
    have e : s.extract 16 (16 + lenOf true) = ⟨#[]⟩ := none_size (by show (s.extract 16 16).size = 0; rw [ByteArray.size_extract]; omega)
    rw [e]
    rfl
  | false => rfl
set_option maxRecDepth 20000 in
set_option maxHeartbeats 1600000 in
theorem read_any (s : ByteArray) (w : World) (hs : s.size = 256) :
    Calls Tryd.prog 25 #[.string s] w fun e w' => e = .returned (.agg (cellsF (cand s))) ∧ Below w.heap.size w w' := by
  have hB := (Below.refl w.heap.size w).alloc (Nat.le_refl _) (.cells (cellsF noF) 36)
  have hf := BoxF.new w noF 36
  obtain ⟨g, hg⟩ : ∃ g, w.heap.size = g := ⟨_, rfl⟩
  have hwg : w.heap.size ≤ g := by omega
  rw [hg] at hf
  generalize hwa : w.alloc (.cells (cellsF noF) 36) = wa at hB hf
  unfold cellsF noF at hwa
  simp only at hwa
  obtain ⟨b, hb⟩ : ∃ b, ((s.extract 0 4).toList == [76, 79, 71, 67]) = b := ⟨_, rfl⟩
  have HC := Lib.hid (cand_read s b hb)
  have n4 : ∀ W, Calls Tryd.prog 38 #[.string s, .int .i64 4] W fun e w' => e = .returned (.int .i64 (nm (s.data.toList.drop 4) : Nat)) ∧ Below W.heap.size W w' := fun W => numberAt_any 4 W (by decide) (by omega) (by omega)
  have n8 : ∀ W, Calls Tryd.prog 38 #[.string s, .int .i64 8] W fun e w' => e = .returned (.int .i64 (nm (s.data.toList.drop 8) : Nat)) ∧ Below W.heap.size W w' := fun W => numberAt_any 8 W (by decide) (by omega) (by omega)
  have n12 : ∀ W, Calls Tryd.prog 38 #[.string s, .int .i64 12] W fun e w' => e = .returned (.int .i64 (nm (s.data.toList.drop 12) : Nat)) ∧ Below W.heap.size W w' := fun W => numberAt_any 12 W (by decide) (by omega) (by omega)
  have hR := fun W : World => dataBytes_any b W
  have hl : lenOf b ≤ 200 := by cases b <;> decide
  generalize lenOf b = ln at HC hR hl
  generalize nm (s.data.toList.drop 4) = v4 at HC n4
  generalize nm (s.data.toList.drop 8) = v8 at HC n8
  generalize nm (s.data.toList.drop 12) = v12 at HC n12
  have i0 : (4 : Int) ≤ (s.size : Int) := by omega
  have i2 : (16 : Int) + (ln : Int) ≤ (s.size : Int) := by omega
  have i3 : (16 : Int) ≤ (16 : Int) + (ln : Int) := by omega
  have i4 : ((16 : Int) + (ln : Int)).toNat = 16 + ln := by omega
  go_enter Tryd.func25, Tryd.ntmps25
  go_wp2_with fail
  clear hwa hg hb
  refine (n4 _).mono ?_
  rintro e w1 ⟨rfl, hv⟩
  have hf := hf.below hv hf.lt
  have hB := hB.trans (hv.mono hB.size)
  clear hv
  go_wp2_with fail
  refine (n8 _).mono ?_
  rintro e w2 ⟨rfl, hv⟩
  have hf := hf.below hv hf.lt
  have hB := hB.trans (hv.mono hB.size)
  clear hv
  go_wp2_with fail
  refine (n12 _).mono ?_
  rintro e w3 ⟨rfl, hv⟩
  have hf := hf.below hv hf.lt
  have hB := hB.trans (hv.mono hB.size)
  clear hv
  go_wp2_with fail
  refine (hR _).mono ?_
  rintro e w4 ⟨rfl, rfl⟩
  have HR := Lib.hid (hf.put ⟨v4, v8, b, v12, s.extract 16 (16 + ln)⟩)
  have HB := Lib.hid (below_put hB hwg ⟨v4, v8, b, v12, s.extract 16 (16 + ln)⟩)
  have x0 := hf.c0
  have x1 := hf.c1
  have x2 := hf.c2
  have x3 := hf.c3
  have x4 := hf.c4
  have xf := hf.f
  clear hf hB n4 n8 n12 hR
  go_wp2
  refine bodyPost_ret (results_fr1 rfl _ _ g _ _ _ _ _ rfl HR.out.c0 HR.out.c1 HR.out.c2 HR.out.c3 HR.out.c4) rfl ?_
  rw [HC.out]
  exact ⟨rfl, HB.out⟩
set_option maxRecDepth 20000 in
set_option maxHeartbeats 1600000 in
theorem parse_any (s : ByteArray) (w : World) (ht : Tab w) (hs : s.size ≤ 300) :
    Calls Tryd.prog 15 #[.string s] w fun e w' => e = .returned (.tuple #[.agg (cellsF ((parseF s).getD noF)), .bool (parseF s).isSome]) ∧ Below w.heap.size w w' := by
  have HT := Lib.hid ht
  clear ht
  have hB := (Below.refl w.heap.size w).alloc (Nat.le_refl _) (.cells (cellsF noF) 36)
  have hf := BoxF.new w noF 36
  obtain ⟨g, hg⟩ : ∃ g, w.heap.size = g := ⟨_, rfl⟩
  have hwg : w.heap.size ≤ g := by omega
  rw [hg] at hf
  generalize hwa : w.alloc (.cells (cellsF noF) 36) = wa at hB hf
  unfold cellsF noF at hwa
  simp only at hwa
  obtain ⟨post, hpe⟩ : ∃ post, (fun (e : Ending) (w' : World) => e = .returned (.tuple #[.agg (cellsF ((parseF s).getD noF)), .bool (parseF s).isSome]) ∧ Below w.heap.size w w') = post := ⟨_, rfl⟩
  rw [hpe]
  have no : parseF s = none → ∀ W, Below w.heap.size w W → post (.returned (.tuple #[.agg #[.int .i64 0, .int .i64 0, .bool false, .int .i64 0, .string ⟨#[]⟩], .bool false])) W := fun h W hW => by rw [← hpe, h]; exact ⟨rfl, hW⟩
  have yes : parseF s = some (cand s) → ∀ W, Below w.heap.size w W → post (.returned (.tuple #[.agg (cellsF (cand s)), .bool true])) W := fun h W hW => by rw [← hpe, h]; exact ⟨rfl, hW⟩
  have NO := Lib.hid no
  have YES := Lib.hid yes
  clear no yes hpe
  by_cases h : s.size = 256
  · have h1 : ((s.size : Int) == 256) = true := by rw [beq_iff_eq]; omega
    have hRd := fun W => read_any s W h
    have hRt := fun W => right_any (cand s) W
    have HP := Lib.hid (fun (h : RightF (cand s)) W (ht : Tab W) => print_any (cand s) W ht h)
    have HI : Hid (RightF (cand s) → frameB (cand s) = s → parseF s = some (cand s)) := Lib.hid (fun h1 h2 => by unfold parseF; rw [if_pos ⟨h, h1, h2⟩])
    have HN : Hid (¬ (RightF (cand s) ∧ frameB (cand s) = s) → parseF s = none) := Lib.hid (fun h1 => by unfold parseF; rw [if_neg (fun h2 => h1 h2.2)])
    generalize cand s = cf at hRd hRt HP HI HN YES
    obtain ⟨fe, fi, fc, fp, fd⟩ := cf
    unfold cellsF at hRd hRt
    have HQ := HP.out
    unfold cellsF at HQ
    have HP := Lib.hid HQ
    clear HQ
    have YQ := YES.out
    unfold cellsF at YQ
    have YES := Lib.hid YQ
    clear YQ
    simp only at hRd hRt
    go_enter Tryd.func15, Tryd.ntmps15
    go_wp2_with fail
    clear hwa hg
    refine (hRd _).mono ?_
    rintro e w1 ⟨rfl, hv⟩
    have hf := hf.below hv hf.lt
    have hB := hB.trans (hv.mono hB.size)
    clear hv hRd
    go_upto_region 4 with fail
    have hn : Below w1.heap.size w1 (w1.alloc (.cells #[.int .i64 fe, .int .i64 fi, .bool fc, .int .i64 fp, .string fd] 36)) := (Below.refl w1.heap.size w1).alloc (Nat.le_refl _) _
    have ha : BoxF (w1.alloc (.cells #[.int .i64 fe, .int .i64 fi, .bool fc, .int .i64 fp, .string fd] 36)) w1.heap.size ⟨fe, fi, fc, fp, fd⟩ := BoxF.new w1 ⟨fe, fi, fc, fp, fd⟩ 36
    have hf := hf.below hn hf.lt
    have hB := hB.trans (hn.mono hB.size)
    clear hn
    generalize w1.alloc (.cells #[.int .i64 fe, .int .i64 fi, .bool fc, .int .i64 fp, .string fd] 36) = w3 at hf ha hB ⊢
    generalize w1.heap.size = ga at ha ⊢
    have a0 := ha.c0
    have a1 := ha.c1
    have a2 := ha.c2
    have a3 := ha.c3
    have a4 := ha.c4
    simp only at a0 a1 a2 a3 a4
    go_wp2_with fail
    refine (hRt _).mono ?_
    rintro e w4 ⟨is, rfl, hb, hv⟩
    have hf := hf.below hv hf.lt
    have ha := ha.below hv ha.lt
    have hB := hB.trans (hv.mono hB.size)
    clear hv hRt a0 a1 a2 a3 a4
    have a0 := ha.c0
    have a1 := ha.c1
    have a2 := ha.c2
    have a3 := ha.c3
    have a4 := ha.c4
    simp only at a0 a1 a2 a3 a4
    cases is
    · have HR := Lib.hid (hf.put noF)
      have HB := Lib.hid (below_put hB hwg noF)
      have HNO := Lib.hid (NO.out (HN.out (fun h => by cases hb.2 h.1)))
      have x0 := hf.c0
      have x1 := hf.c1
      have x2 := hf.c2
      have x3 := hf.c3
      have x4 := hf.c4
      have xf := hf.f
      clear hf hB ha a0 a1 a2 a3 a4 hb
      go_wp2
      refine bodyPost_ret (results_fr2 rfl _ _ g _ _ _ _ _ rfl HR.out.c0 HR.out.c1 HR.out.c2 HR.out.c3 HR.out.c4) rfl ?_
      exact HNO.out _ HB.out
    · have hr := hb.1 rfl
      have hpf := HP.out hr
      clear hb
      go_wp2_with fail
      refine (hpf _ (HT.out.below hB)).mono ?_
      rintro e w5 ⟨rfl, hv⟩
      have hf := hf.below hv hf.lt
      have ha := ha.below hv ha.lt
      have hB := hB.trans (hv.mono hB.size)
      clear hv hpf a0 a1 a2 a3 a4
      have x0 := hf.c0
      have x1 := hf.c1
      have x2 := hf.c2
      have x3 := hf.c3
      have x4 := hf.c4
      have xf := hf.f
      by_cases hq : frameB ⟨fe, fi, fc, fp, fd⟩ = s
      · have e1 : ((frameB ⟨fe, fi, fc, fp, fd⟩).toList == s.toList) = true := by rw [hq]; exact beq_self_eq_true _
        have HR := Lib.hid (hf.put ⟨fe, fi, fc, fp, fd⟩)
        have HB := Lib.hid (below_put hB hwg ⟨fe, fi, fc, fp, fd⟩)
        have HYE := Lib.hid (YES.out (HI.out hr hq))
        have a0 := ha.c0
        have a1 := ha.c1
        have a2 := ha.c2
        have a3 := ha.c3
        have a4 := ha.c4
        simp only at a0 a1 a2 a3 a4
        generalize frameB ⟨fe, fi, fc, fp, fd⟩ = sx at e1 ⊢
        clear hf hB ha hq hr
        go_wp2
        refine bodyPost_ret (results_fr2 rfl _ _ g _ _ _ _ _ rfl HR.out.c0 HR.out.c1 HR.out.c2 HR.out.c3 HR.out.c4) rfl ?_
        exact HYE.out _ HB.out
      · have e1 : ((frameB ⟨fe, fi, fc, fp, fd⟩).toList == s.toList) = false := str_ne hq
        have HR := Lib.hid (hf.put noF)
        have HB := Lib.hid (below_put hB hwg noF)
        have HNO := Lib.hid (NO.out (HN.out (fun h => hq h.2)))
        generalize frameB ⟨fe, fi, fc, fp, fd⟩ = sx at e1 ⊢
        clear hf hB ha hq hr
        go_wp2
        refine bodyPost_ret (results_fr2 rfl _ _ g _ _ _ _ _ rfl HR.out.c0 HR.out.c1 HR.out.c2 HR.out.c3 HR.out.c4) rfl ?_
        exact HNO.out _ HB.out
  · have h1 : ((s.size : Int) == 256) = false := beq_eq_false_iff_ne.2 (by omega)
    have e : parseF s = none := by unfold parseF; rw [if_neg (fun hc => h hc.1)]
    have HR := Lib.hid (hf.put noF)
    have HB := Lib.hid (below_put hB hwg noF)
    have HNO := Lib.hid (NO.out e)
    have x0 := hf.c0
    have x1 := hf.c1
    have x2 := hf.c2
    have x3 := hf.c3
    have x4 := hf.c4
    have xf := hf.f
    clear hf hB e
    go_enter Tryd.func15, Tryd.ntmps15
    go_wp2
    refine bodyPost_ret (results_fr2 rfl _ _ g _ _ _ _ _ rfl HR.out.c0 HR.out.c1 HR.out.c2 HR.out.c3 HR.out.c4) rfl ?_
    exact HNO.out _ HB.out
end Go.Proofs.YtiacdpfodhggmaaDoor.Fr
