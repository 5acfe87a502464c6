/- A schema is read, and judged: the document's, walked. -/
import Derived.Test.YtajoklimdlalhaaScL
import Derived.Test.YtajoklimdlalhaaScE
namespace Go.Proofs.Ytajoklimdlalhaa.Sc
open Go.RowKit Pac

theorem readCs_bad (m : Nat) (s : ByteArray) : readCs m s true = ([], s, true) := by
  cases m with
  | zero => rfl
  | succ m => rfl
theorem readCs_ok : ∀ (m : Nat) (s : ByteArray) (d : Bool), s.size ≤ 9223372036854775807 → ∀ (j : Nat) (c : C), (readCs m s d).1[j]? = some c → c.Ok
  | 0, _, _, _, j, c, h => by simp [readCs] at h
  | m + 1, s, true, _, j, c, h => by rw [readCs_bad] at h; simp at h
  | m + 1, s, false, hs, 0, c, h => by
    have h : (readC s).1 = c := by simpa [readCs] using h
    rw [← h, ← readCd_good]
    exact readCd_ok s false hs
  | m + 1, s, false, hs, j + 1, c, h => by
    have h : (readCs m (readC s).2.1 (readC s).2.2).1[j]? = some c := by simpa [readCs] using h
    exact readCs_ok m _ _ (Nat.le_trans (readCd_size s false) hs) j c h
theorem readCs_len : ∀ (m : Nat) (s : ByteArray) (d : Bool), (readCs m s d).1.length ≤ m
  | 0, _, _ => Nat.le_refl _
  | m + 1, s, true => by rw [readCs_bad]; exact Nat.zero_le _
  | m + 1, s, false => by
    show ((readC s).1 :: (readCs m _ _).1).length ≤ m + 1
    have := readCs_len m (readC s).2.1 (readC s).2.2
    rw [List.length_cons]
    omega

set_option maxRecDepth 20000 in
set_option maxHeartbeats 16000000 in
theorem refRead_any (g : Nat) (s : ByteArray) (d : Bool) (w : World) (hb : IsBox w g s d) (hs : s.size ≤ 9223372036854775807) :
    Calls Try.prog 15 #[.pointer (some ⟨g, 0, none⟩)] w (SchPost g w.heap.size (readS s d).1 (readS s d).2.1 (readS s d).2.2.1 (readS s d).2.2.2 w) := by
  obtain ⟨i0, hi, hz0, hz1, hz2⟩ := info_parts info41
  have hlt := hb.lt
  have hbA := hb.alloc (.cells #[.string ⟨#[]⟩, .slice none 0 0] 24)
  have hrA := Box2.new w (.string ⟨#[]⟩) (.slice none 0 0) 24
  have hBA := bar_alloc (Bar.refl g w) (.cells #[.string ⟨#[]⟩, .slice none 0 0] 24)
  have hc1 := fun (W : World) (h : IsBox W g s d) => refBoxText_any g s d 20 W h hs
  have hz1' := txtS_size s d 20
  have hc2 := fun (W : World) (h : IsBox W g (txtS s d 20) (txtBad s d 20)) => refBetween_any g (txtS s d 20) (txtBad s d 20) 1 8 W h (by omega)
  have h0 := btwR_pos (txtS s d 20) (txtBad s d 20) 1 8 (by omega)
  have h1 := btwR_high (txtS s d 20) (txtBad s d 20) 1 8 (by omega)
  have hz2' := numS_size (txtS s d 20) (txtBad s d 20)
  have hnz := Nat.le_trans (txtR_le s d 20) hs
  have hRS : readS s d = if ((seenS s d).2.2.2 || !rightS (seenS s d).1 (seenS s d).2.1) = true then (⟨#[]⟩, [], (seenS s d).2.2.1, true) else seenS s d := rfl
  have hE : seenS s d = (txtR s d 20, readCs (btwR (txtS s d 20) (txtBad s d 20) 1 8).toNat (numS (txtS s d 20) (txtBad s d 20)) (btwBad (txtS s d 20) (txtBad s d 20) 1 8)) := rfl
  rw [hE] at hRS
  clear hE
  generalize readS s d = J at hRS ⊢
  generalize txtR s d 20 = nm at hc1 hnz hRS
  generalize txtS s d 20 = s1 at hc1 hc2 h0 h1 hz1' hz2' hRS
  generalize txtBad s d 20 = d1 at hc1 hc2 h0 h1 hz2' hRS
  generalize btwR s1 d1 1 8 = kn at hc2 h0 h1 hRS
  generalize numS s1 d1 = s2 at hc2 hz2' hRS
  generalize btwBad s1 d1 1 8 = d2 at hc2 hRS
  obtain ⟨m, rfl⟩ := Int.eq_ofNat_of_zero_le h0
  rw [Int.toNat_natCast] at hRS
  have hml := readCs_len m s2 d2
  have hok := readCs_ok m s2 d2 (by omega)
  generalize hRP : readCs m s2 d2 = RP at hml hok hRS
  have HRP := Lib.hid hRP
  have HML := Lib.hid hml
  have HOK := Lib.hid hok
  have HRS := Lib.hid hRS
  clear hRP hml hok hRS h0
  have ngr : g ≠ w.heap.size := by omega
  go_enter Try.func15, Try.ntmps15
  go_wp2_with fail
  refine (hc1 _ hbA).mono ?_
  rintro e w1 ⟨rfl, hb1, hB1⟩
  have hl1 : w.heap.size < w1.heap.size := Nat.lt_of_lt_of_le hrA.lt hB1.size
  have hr1 := hrA.bar hB1 (Ne.symm ngr)
  have hBB := hBA.trans hB1
  clear hc1 hbA hrA hBA hB1
  have hx2 := Box2.new w1 (.string nm) (.slice none 0 0) 24
  have hb2 := hb1.alloc (.cells #[.string nm, .slice none 0 0] 24)
  have hr2 := hr1.alloc (.cells #[.string nm, .slice none 0 0] 24)
  have hBC := bar_alloc hBB (.cells #[.string nm, .slice none 0 0] 24)
  have hsz2 : w1.heap.size + 1 ≤ (w1.alloc (.cells #[.string nm, .slice none 0 0] 24)).heap.size := by simp
  have HX := Lib.hid (And.intro hx2 (And.intro hb2 (And.intro hr2 (And.intro hBC hsz2))))
  clear hx2 hb2 hr2 hBC hsz2 hb1 hr1 hBB
  go_wp2_with fail
  obtain ⟨hx, hb2, hr, hB, hsz⟩ := HX.out
  refine (hc2 _ hb2).mono ?_
  rintro e w3 ⟨rfl, hb3, hB3⟩
  generalize hbase : w1.heap.size + 1 = base at hsz
  have n3g : w1.heap.size ≠ g := by omega
  have gb : g < base := by omega
  have b3b : w1.heap.size < base := by omega
  have b2b : w.heap.size < base := by omega
  have wb : w.heap.size ≤ base := by omega
  have wb3 : w.heap.size ≤ w1.heap.size := by omega
  have n32 : w1.heap.size ≠ w.heap.size := by omega
  have hx := hx.bar hB3 n3g
  have hr := hr.bar hB3 (Ne.symm ngr)
  have hB := hB.trans hB3
  have hsz := Nat.le_trans hsz hB3.size
  have hz3 : s2.size ≤ s.size := by omega
  clear hB3 hb2 HX hc2 hbase hz1' hz2'
  have HG := Lib.hid (And.intro n3g (And.intro gb (And.intro b3b (And.intro b2b (And.intro wb (And.intro wb3 n32))))))
  clear n3g gb b3b b2b wb wb3 n32
  go_wp2
  have hx0 : ∃ sv, Box2 w3 w1.heap.size (.string nm) sv ∧ w3.ownsRow base 41 3 sv 0 (cellsOf []) := ⟨_, hx, World.ownsRow_nil _ _ _ _⟩
  clear hx
  generalize w1.heap.size = b3 at hx0 HG hl1 ⊢
  go_loopw [4] (fun i wr => ∃ (r q : Nat) (cs : List C) (sv : Value) (sa : ByteArray) (da : Bool), q + r = m ∧ i = .int .i64 r ∧ Box2 wr b3 (.string nm) sv ∧ wr.ownsRow base 41 3 sv q (cellsOf cs) ∧ Hid (cs.length = q) ∧ IsBox wr g sa da ∧ sa.size ≤ s.size ∧ Hid (RP = (cs ++ (readCs r sa da).1, (readCs r sa da).2)) ∧ Bar g w wr ∧ Box2 wr w.heap.size (.string ⟨#[]⟩) (.slice none 0 0) ∧ base ≤ wr.heap.size) (fun i _ => (intOf i).toNat)
  case atStart =>
    obtain ⟨sv, h1', h2'⟩ := hx0
    exact ⟨m, 0, [], sv, s2, d2, Nat.zero_add _, rfl, h1', h2', Lib.hid rfl, hb3, hz3, Lib.hid HRP.out.symm, hB, hr, hsz⟩
  case round =>
    clear hx0 hb3 hB hr hsz HRP
    obtain ⟨r, q, cs, sv, sa, da, hqr, rfl, hx, hown, HCL, hbx, hzs, HR, hB, hr, hsz⟩ := hrel
    obtain ⟨n3g, gb, b3b, b2b, wb, wb3, n32⟩ := HG.out
    have b1 := hbx.c1
    have hstop : (r = 0 ∨ da = true) → RP = (cs, sa, da) := fun h => by
      rw [HR.out]
      rcases h with rfl | rfl
      · show (cs ++ [], _) = _
        rw [List.append_nil]
        rfl
      · rw [readCs_bad, List.append_nil]
    by_cases hgo : 0 < r ∧ da = false
    · obtain ⟨hr0, rfl⟩ := hgo
      obtain ⟨r, rfl⟩ : ∃ r', r = r' + 1 := ⟨r - 1, by omega⟩
      have hR2 : RP = ((cs ++ [(readC sa).1]) ++ (readCs r (readC sa).2.1 (readC sa).2.2).1, (readCs r (readC sa).2.1 (readC sa).2.2).2) := by
        rw [HR.out]
        show (cs ++ ((readC sa).1 :: (readCs r (readC sa).2.1 (readC sa).2.2).1), _) = _
        rw [List.append_assoc]
        rfl
      have hzq : (readC sa).2.1.size ≤ sa.size := readCd_size sa false
      have hcT := fun (W : World) (h : IsBox W g sa false) => refBoxText_any g sa false 20 W h (by omega)
      have hzt := txtS_size sa false 20
      have hcB := fun (W : World) (h : IsBox W g (txtS sa false 20) (txtBad sa false 20)) => refBetween_any g (txtS sa false 20) (txtBad sa false 20) 0 7 W h (by omega)
      have k0 := btwR_pos (txtS sa false 20) (txtBad sa false 20) 0 7 (Int.le_refl _)
      have k7 := btwR_high (txtS sa false 20) (txtBad sa false 20) 0 7 (by omega)
      have hRC : readC sa = (⟨txtR sa false 20, (btwR (txtS sa false 20) (txtBad sa false 20) 0 7).tdiv 2, (btwR (txtS sa false 20) (txtBad sa false 20) 0 7).tmod 2 == 1⟩, numS (txtS sa false 20) (txtBad sa false 20), btwBad (txtS sa false 20) (txtBad sa false 20) 0 7) := rfl
      rw [hRC] at hR2 hzq
      clear hRC HR hstop hzt
      generalize txtR sa false 20 = n at hR2 hcT
      generalize txtS sa false 20 = s4 at hR2 hcT hcB k0 k7 hzq
      generalize txtBad sa false 20 = d4 at hR2 hcT hcB k0 k7 hzq
      generalize btwR s4 d4 0 7 = kk at hR2 hcB k0 k7
      generalize numS s4 d4 = s5 at hR2 hcB hzq
      generalize btwBad s4 d4 0 7 = d5 at hR2 hcB
      obtain ⟨k, rfl⟩ := Int.eq_ofNat_of_zero_le k0
      rw [Int.tdiv_eq_ediv_of_nonneg k0, Int.tmod_eq_emod_of_nonneg k0] at hR2
      have hz5 : s5.size ≤ s.size := Nat.le_trans hzq hzs
      have HR2 := Lib.hid hR2
      clear hR2 hzq
      go_wp2_with fail
      refine (hcT _ hbx).mono ?_
      rintro e y1 ⟨rfl, hbx1, hBy1⟩
      have hx := hx.bar hBy1 n3g
      have hr := hr.bar hBy1 (Ne.symm ngr)
      have hown := own_bar hown hBy1 gb
      have hB := hB.trans hBy1
      have hsz := Nat.le_trans hsz hBy1.size
      have ngv : g ≠ y1.heap.size := Nat.ne_of_lt hbx1.lt
      have n3v : b3 ≠ y1.heap.size := Nat.ne_of_lt hx.lt
      have nrv : w.heap.size ≠ y1.heap.size := Nat.ne_of_lt hr.lt
      have wv : w.heap.size ≤ y1.heap.size := Nat.le_of_lt hr.lt
      have hob : sv.ownBlock ≠ some y1.heap.size := fun e => Nat.lt_irrefl _ (hown.lt _ e).2
      have hv := Box3.new y1 (.string n) (.int .i64 0) (.bool false) 41
      have hx := hx.alloc (.cells #[.string n, .int .i64 0, .bool false] 41)
      have hr := hr.alloc (.cells #[.string n, .int .i64 0, .bool false] 41)
      have hown := hown.alloc (.cells #[.string n, .int .i64 0, .bool false] 41)
      have hB := bar_alloc hB (.cells #[.string n, .int .i64 0, .bool false] 41)
      have hbx1 := hbx1.alloc (.cells #[.string n, .int .i64 0, .bool false] 41)
      have hsz : base ≤ (y1.alloc (.cells #[.string n, .int .i64 0, .bool false] 41)).heap.size := Nat.le_trans hsz (by simp)
      have HY := Lib.hid (And.intro hx (And.intro hr (And.intro hown (And.intro hB (And.intro hbx1 (And.intro hsz (And.intro hob hv)))))))
      clear hx hr hown hB hbx1 hsz hob hv hBy1 hcT hbx
      go_wp2_with fail
      obtain ⟨hx, hr, hown, hB, hbx1, hsz, hob, hv⟩ := HY.out
      refine (hcB _ hbx1).mono ?_
      rintro e y3 ⟨rfl, hbx, hBy3⟩
      have hx := hx.bar hBy3 n3g
      have hr := hr.bar hBy3 (Ne.symm ngr)
      have hv := hv.bar hBy3 (Ne.symm ngv)
      have hown := own_bar hown hBy3 gb
      have hB := hB.trans hBy3
      have hsz := Nat.le_trans hsz hBy3.size
      clear HY hBy3 hcB hbx1
      generalize y1.heap.size = v at ngv n3v nrv wv hob hv ⊢
      have x1 := hx.c1
      have v0 := hv.c0
      have v1 := hv.c1
      have v2 := hv.c2
      have vf := hv.f
      have xf := hx.f
      have hownW := (ownsRow_setCell_other (ownsRow_setCell_other hown (a := ⟨v, 1, none⟩) hob (.int .i64 ((k : Int) / 2))) (a := ⟨v, 2, none⟩) hob (.bool ((k : Int) % 2 == 1))).alloc (.cells #[.string n, .int .i64 ((k : Int) / 2), .bool ((k : Int) % 2 == 1)] 41)
      have hxW := ((box2_setOther (box2_setOther hx (p := ⟨v, 1, none⟩) (Ne.symm n3v) (.int .i64 ((k : Int) / 2))) (p := ⟨v, 2, none⟩) (Ne.symm n3v) (.bool ((k : Int) % 2 == 1)))).alloc (.cells #[.string n, .int .i64 ((k : Int) / 2), .bool ((k : Int) % 2 == 1)] 41)
      have hrW := ((box2_setOther (box2_setOther hr (p := ⟨v, 1, none⟩) (Ne.symm nrv) (.int .i64 ((k : Int) / 2))) (p := ⟨v, 2, none⟩) (Ne.symm nrv) (.bool ((k : Int) % 2 == 1)))).alloc (.cells #[.string n, .int .i64 ((k : Int) / 2), .bool ((k : Int) % 2 == 1)] 41)
      have hbW := ((box2_setOther (box2_setOther hbx (p := ⟨v, 1, none⟩) (Ne.symm ngv) (.int .i64 ((k : Int) / 2))) (p := ⟨v, 2, none⟩) (Ne.symm ngv) (.bool ((k : Int) % 2 == 1)))).alloc (.cells #[.string n, .int .i64 ((k : Int) / 2), .bool ((k : Int) % 2 == 1)] 41)
      have hBW := bar_alloc (bar_set (bar_set hB (p := ⟨v, 1, none⟩) wv (.int .i64 ((k : Int) / 2))) (p := ⟨v, 2, none⟩) wv (.bool ((k : Int) % 2 == 1))) (.cells #[.string n, .int .i64 ((k : Int) / 2), .bool ((k : Int) % 2 == 1)] 41)
      have hnW := heap_alloc_new ((y3.setCell ⟨v, 1, none⟩ (.int .i64 ((k : Int) / 2))).setCell ⟨v, 2, none⟩ (.bool ((k : Int) % 2 == 1))) (.cells #[.string n, .int .i64 ((k : Int) / 2), .bool ((k : Int) % 2 == 1)] 41)
      have hsW : base ≤ (((y3.setCell ⟨v, 1, none⟩ (.int .i64 ((k : Int) / 2))).setCell ⟨v, 2, none⟩ (.bool ((k : Int) % 2 == 1))).alloc (.cells #[.string n, .int .i64 ((k : Int) / 2), .bool ((k : Int) % 2 == 1)] 41)).heap.size := by first | (simp; done) | (simp; omega)
      rw [show ((y3.setCell ⟨v, 1, none⟩ (.int .i64 ((k : Int) / 2))).setCell ⟨v, 2, none⟩ (.bool ((k : Int) % 2 == 1))).heap.size = y3.heap.size by simp] at hnW
      have HW := Lib.hid (And.intro hownW (And.intro hxW (And.intro hrW (And.intro hbW (And.intro hBW (And.intro hnW hsW))))))
      clear hownW hxW hrW hbW hBW hnW hsW hown hx hr hbx hB hv
      go_wp2_with (at_builtin; refine wpList_append_own _ rfl _ _ 22 rfl base 41 i0 (.agg #[.string ⟨#[]⟩, .int .i64 0, .bool false]) 3 32 Try.underlying22 hi hz0 hz1 hz2 rfl (by decide) sv q (cellsOf cs) rfl HW.out.1 ⟨y3.heap.size, 0, none⟩ 1 1 [.string n, .int .i64 ((k : Int) / 2), .bool ((k : Int) % 2 == 1)] rfl rfl (World.news_of_block HW.out.2.2.2.2.2.1) (by simp [Value.oneCell']) (by unfold maxLen; omega) (by omega) HW.out.2.2.2.2.2.2 ?_)
      intro v5 y5 hown5 hgrow5 _
      obtain ⟨g5, cap5, rfl, _, hlt5⟩ := hown5.form (by omega)
      obtain ⟨hownW, hxW, hrW, hbW, hBW, hnW, hsW⟩ := HW.out
      have hbl := (Below.refl base _).grown hgrow5 hsW (fun k hk => (hownW.lt k hk).1)
      have hx := hxW.below hbl b3b
      have hr := hrW.below hbl b2b
      have hbx := hbW.below hbl gb
      have hB := bar_step hBW hbl wb
      have hsz := Nat.le_trans hsW hbl.size
      clear hownW hxW hrW hbW hBW hnW hsW hgrow5 hbl HW x1 v0 v1 v2 vf xf
      have x1 := hx.c1
      have xf := hx.f
      go_wp2
      go_roundw
      case rel =>
        refine ⟨r, q + 1, cs ++ [⟨n, (k : Int) / 2, (k : Int) % 2 == 1⟩], _, s5, d5, by omega, by go_num, hx.set1 (.slice (some ⟨g5, 0, none⟩) (q + 1) cap5), ?_, by rw [List.length_append, HCL.out]; rfl, box2_setOther hbx (p := ⟨b3, 1, none⟩) n3g _, hz5, HR2, bar_set hB (p := ⟨b3, 1, none⟩) wb3 _, box2_setOther hr (p := ⟨b3, 1, none⟩) n32 _, by simpa using hsz⟩
        rw [cellsOf_snoc]
        exact ownsRow_setCell_below hown5 (a := ⟨b3, 1, none⟩) b3b _
      case measure => simp [intOf]
    · have hfin : RP = (cs, sa, da) := hstop (by
        by_cases h : r = 0
        · exact Or.inl h
        · cases da
          · exact absurd ⟨Nat.pos_of_ne_zero h, rfl⟩ hgo
          · exact Or.inr rfl)
      have hcase : (r = 0) ∨ (0 < r ∧ da = true) := by
        by_cases h : r = 0
        · exact Or.inl h
        · cases da
          · exact absurd ⟨Nat.pos_of_ne_zero h, rfl⟩ hgo
          · exact Or.inr ⟨Nat.pos_of_ne_zero h, rfl⟩
      subst hfin
      obtain ⟨A, cp, rfl, hcc, hcols⟩ := cols_of_own hown HCL.out
      have hcl := HCL.out
      have hJ := HRS.out
      simp only at hJ
      have hq8 : q ≤ 8 := by have := HML.out; omega
      have hokc := HOK.out
      simp only at hokc
      clear hown HR HML hstop hgo HOK HRS
      have x0 := hx.c0
      have x1 := hx.c1
      have bf := hbx.f
      have r0 := hr.c0
      have r1 := hr.c1
      have rf := hr.f
      cases da with
      | true =>
        have hJ : J = (⟨#[]⟩, [], sa, true) := hJ
        subst hJ
        rcases hcase with rfl | ⟨hrp, _⟩
        all_goals
          go_wp2
          have hrZ := ((box2_setOther hr (p := ⟨g, 1, none⟩) ngr (.bool true)).set0 (.string ⟨#[]⟩)).set1 (.slice none 0 0)
          have hbZ := box2_setOther (box2_setOther (hbx.set1 (.bool true)) (p := ⟨w.heap.size, 0, none⟩) (Ne.symm ngr) (.string ⟨#[]⟩)) (p := ⟨w.heap.size, 1, none⟩) (Ne.symm ngr) (.slice none 0 0)
          have hBZ := bar_set (bar_set (hB.setCell 1 (.bool true)) (p := ⟨w.heap.size, 0, none⟩) (Nat.le_refl _) (.string ⟨#[]⟩)) (p := ⟨w.heap.size, 1, none⟩) (Nat.le_refl _) (.slice none 0 0)
          refine bodyPost_ret (results_sch rfl _ _ w.heap.size _ _ rfl hrZ.c0 hrZ.c1) rfl ?_
          exact ⟨_, rfl, ⟨none, 0, rfl, Nat.le_refl _, HasCols.nil _ _ _⟩, hbZ, hBZ⟩
      | false =>
        obtain rfl : r = 0 := by
          rcases hcase with h | ⟨_, h⟩
          · exact h
          · cases h
        clear hcase
        have hcall := fun W (hC : HasCols W base A cs) => refRight_any A cp nm cs base W hC (by omega) hnz (by omega) hokc
        rw [hcl] at hcall
        have HC := Lib.hid hcols
        have HJ := Lib.hid hJ
        clear hcols hokc hJ
        go_wp2_with fail
        refine (hcall _ HC.out).mono ?_
        rintro e y ⟨rfl, hy⟩
        have hx3 := hx.below hy hx.lt
        have hb3 := hbx.below hy hbx.lt
        have hr3 := hr.below hy hr.lt
        have hC3 := HC.out.below hy (Nat.le_refl _)
        have hB3 := hB.trans (Bar.of_below g hy (Nat.le_refl _))
        clear hx hbx hr hB hy HC x0 x1 b1 bf r0 r1 rf hcall
        have x0 := hx3.c0
        have x1 := hx3.c1
        have b1 := hb3.c1
        have bf := hb3.f
        have r0 := hr3.c0
        have r1 := hr3.c1
        have rf := hr3.f
        have HC3 := Lib.hid hC3
        clear hC3
        have hJ := HJ.out
        clear HJ
        generalize rightS nm cs = rr at hJ ⊢
        cases rr with
        | false =>
          have hJ : J = (⟨#[]⟩, [], sa, true) := hJ
          subst hJ
          go_wp2
          have hrZ := ((box2_setOther hr3 (p := ⟨g, 1, none⟩) ngr (.bool true)).set0 (.string ⟨#[]⟩)).set1 (.slice none 0 0)
          have hbZ := box2_setOther (box2_setOther (hb3.set1 (.bool true)) (p := ⟨w.heap.size, 0, none⟩) (Ne.symm ngr) (.string ⟨#[]⟩)) (p := ⟨w.heap.size, 1, none⟩) (Ne.symm ngr) (.slice none 0 0)
          have hBZ := bar_set (bar_set (hB3.setCell 1 (.bool true)) (p := ⟨w.heap.size, 0, none⟩) (Nat.le_refl _) (.string ⟨#[]⟩)) (p := ⟨w.heap.size, 1, none⟩) (Nat.le_refl _) (.slice none 0 0)
          refine bodyPost_ret (results_sch rfl _ _ w.heap.size _ _ rfl hrZ.c0 hrZ.c1) rfl ?_
          exact ⟨_, rfl, ⟨none, 0, rfl, Nat.le_refl _, HasCols.nil _ _ _⟩, hbZ, hBZ⟩
        | true =>
          have hJ : J = (nm, cs, sa, false) := hJ
          subst hJ
          go_wp2
          have hrZ := (hr3.set0 (.string nm)).set1 (.slice A q cp)
          have hbZ := box2_setOther (box2_setOther hb3 (p := ⟨w.heap.size, 0, none⟩) (Ne.symm ngr) (.string nm)) (p := ⟨w.heap.size, 1, none⟩) (Ne.symm ngr) (.slice A q cp)
          have hBZ := bar_set (bar_set hB3 (p := ⟨w.heap.size, 0, none⟩) (Nat.le_refl _) (.string nm)) (p := ⟨w.heap.size, 1, none⟩) (Nat.le_refl _) (.slice A q cp)
          have hCZ := (HC3.out.bar ((Bar.refl w.heap.size _).setCell 0 (.string nm)) (Or.inl b2b)).bar ((Bar.refl w.heap.size _).setCell 1 (.slice A q cp)) (Or.inl b2b)
          refine bodyPost_ret (results_sch rfl _ _ w.heap.size _ _ rfl hrZ.c0 hrZ.c1) rfl ?_
          exact ⟨_, rfl, ⟨A, cp, by rw [hcl], by rw [hcl]; exact hcc, hCZ.lower wb⟩, hbZ, hBZ⟩
end Go.Proofs.Ytajoklimdlalhaa.Sc
