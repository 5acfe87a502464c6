/- A head that is put, and the power gone: the law, walked. -/
import Derived.Test.YtdbemkdfndjakaaDoorHdU
import Derived.Test.YtdbemkdfndjakaaDoorXho
import Derived.Deep.DeepCutAuto
import Derived.Deep.CutRange
namespace Go.Proofs.YtdbemkdfndjakaaDoor.Hd
open Go.RowKit Tal Sla Fr Lex
theorem box3_but {w w' : World} {g g2 : Nat} {v0 v1 v2 : Value} (h : Box3 w g v0 v1 v2) (hb : But g2 w w') (hne : g ≠ g2) : Box3 w' g v0 v1 v2 :=
  ⟨(hb.cell (p := ⟨g, 0, none⟩) hne).trans h.c0, (hb.cell (p := ⟨g, 1, none⟩) hne).trans h.c1, (hb.cell (p := ⟨g, 2, none⟩) hne).trans h.c2⟩
/-- What holds behind the put that dies. -/
structure TornM (w : World) (old next : H) (f : Fat) (D2 X : Dev) (g2 g3 g5 g9 gq : Nat) (A2 : Option Addr) (n2 c2 : Nat) (B2 : Option Addr) (m2 k2 : Nat) (dd2 : Bool) (lf2 ds2 : Int) (A4 : Option Addr) (n4 c4 : Nat) (B4 : Option Addr) (m4 k4 : Nat) (dd4 : Bool) (lf4 ds4 : Int) (W : World) : Prop where
  hh : BoxH W g2 old
  hf : Box3 W g3 (.int .u64 f.stay) (.int .i64 f.torn) (.int .i64 f.bytes)
  hs : Box5 W g5 (.slice A2 n2 c2) (.slice B2 m2 k2) (.bool dd2) (.int .i64 lf2) (.int .i64 ds2)
  hd : IsDev W (.agg #[.slice A2 n2 c2, .slice B2 m2 k2, .bool dd2, .int .i64 lf2, .int .i64 ds2]) D2
  hn : BoxH W g9 next
  hx : Box5 W gq (.slice A4 n4 c4) (.slice B4 m4 k4) (.bool dd4) (.int .i64 lf4) (.int .i64 ds4)
  hdx : IsDev W (.agg #[.slice A4 n4 c4, .slice B4 m4 k4, .bool dd4, .int .i64 lf4, .int .i64 ds4]) X
  hB : Below w.heap.size w W
  l1 : g2 < gq
  l2 : g9 < gq
  l3 : g5 < gq
  l4 : g3 < gq
  wx : w.heap.size ≤ gq
set_option maxRecDepth 20000 in
set_option maxHeartbeats 25600000 in
theorem torn_any (old : H) (f : Fat) (w : World) (ht : Tab w) (hf0 : 0 ≤ f.stay) (hf1 : f.stay < 18446744073709551616) : Calls Tryd.prog 5 #[.agg (cellsH old), .agg #[.int .u64 f.stay, .int .i64 f.torn, .int .i64 f.bytes]] w fun e w' => e = .returned (.bool true) ∧ Below w.heap.size w w' := by
  have HT := Lib.hid ht
  clear ht
  have hB := (Below.refl w.heap.size w).alloc (Nat.le_refl _) (.cells (cellsH old) 23)
  have hh := BoxH.new w old 23
  obtain ⟨g2, hg2⟩ : ∃ g, w.heap.size = g := ⟨_, rfl⟩
  rw [hg2] at hh
  generalize hwa : w.alloc (.cells (cellsH old) 23) = wa at hB hh
  have hv := (Below.refl wa.heap.size wa).alloc (Nat.le_refl _) (.cells #[.int .u64 f.stay, .int .i64 f.torn, .int .i64 f.bytes] 52)
  have hf := Box3.new wa (.int .u64 f.stay) (.int .i64 f.torn) (.int .i64 f.bytes) 52
  have o_hh_hf := hh.lt
  have hh := hh.below hv hh.lt
  have hB := hB.trans (hv.mono hB.size)
  clear hv
  generalize hg3 : wa.heap.size = g3 at hf o_hh_hf
  generalize hwb : wa.alloc (.cells #[.int .u64 f.stay, .int .i64 f.torn, .int .i64 f.bytes] 52) = wb at hB hh hf
  have hRt := fun W => right_any old W
  obtain ⟨op, ol, oe⟩ := old
  unfold cellsH at hwa hRt ⊢
  simp only at hwa hRt ⊢
  have q0 : wb.cell? ⟨g2, 0, none⟩ = some (.int .i64 op) := hh.c0
  have q1 : wb.cell? ⟨g2, 1, none⟩ = some (.int .i64 ol) := hh.c1
  have q2 : wb.cell? ⟨g2, 2, none⟩ = some (.int .i64 oe) := hh.c2
  go_enter Tryd.func5, Tryd.ntmps5
  go_wp2_with fail
  clear hwa hwb hg2 hg3 q0 q1 q2
  refine (hRt _).mono ?_
  rintro e w2 ⟨is, rfl, hi, hv⟩
  have hh := hh.below hv hh.lt
  have hf := hf.below hv (World.block_lt_of_cell? _ _ hf.c0)
  have hB := hB.trans (hv.mono hB.size)
  clear hv hRt
  cases is
  · clear hh hf hi
    go_wp2_with fail
    refine (awake_any _ (HT.out.below hB)).mono ?_
    rintro e w3 ⟨rfl, hv⟩
    have HB := Lib.hid (hB.trans (hv.mono hB.size))
    clear hv hB
    go_wp2
    go_ret
    exact ⟨rfl, HB.out⟩
  have ho := hi.1 rfl
  clear hi
  have q2 : w2.cell? ⟨g2, 2, none⟩ = some (.int .i64 oe) := hh.c2
  by_cases hbig : 1073741824 ≤ oe
  · go_wp2_with fail
    clear q2 hh hf
    refine (awake_any _ (HT.out.below hB)).mono ?_
    rintro e w3 ⟨rfl, hv⟩
    have HB := Lib.hid (hB.trans (hv.mono hB.size))
    clear hv hB
    go_wp2
    go_ret
    exact ⟨rfl, HB.out⟩
  have h0e : 1 ≤ oe := ho.e0
  have hnr : RightH ⟨op, ol, oe + 1⟩ := ⟨ho.p0, ho.p1, ho.l0, ho.l1, by show 1 ≤ oe + 1; omega, by show oe + 1 < 2147483648; omega⟩
  by_cases h1 : oe = 1
  · have H1 := Lib.hid h1
    clear h1
    go_wp2_with fail
    refine (refNew_any 4 _ (by decide) (by decide)).mono ?_
    rintro e w3 ⟨v0, rfl, hd, hv⟩
    have hh := hh.below hv hh.lt
    have hf := hf.below hv (World.block_lt_of_cell? _ _ hf.c0)
    have hB := hB.trans (hv.mono hB.size)
    clear hv
    obtain ⟨A0, n0, c0, B0, m0, k0, dd0, lf0, ds0, rfl⟩ := dev_form hd
    go_upto_region 4 with fail
    have hv := (Below.refl w3.heap.size w3).alloc (Nat.le_refl _) (.cells #[.slice A0 n0 c0, .slice B0 m0 k0, .bool dd0, .int .i64 lf0, .int .i64 ds0] 39)
    have hs : Box5 (w3.alloc (.cells #[.slice A0 n0 c0, .slice B0 m0 k0, .bool dd0, .int .i64 lf0, .int .i64 ds0] 39)) w3.heap.size (.slice A0 n0 c0) (.slice B0 m0 k0) (.bool dd0) (.int .i64 lf0) (.int .i64 ds0) := Box5.new w3 (.slice A0 n0 c0) (.slice B0 m0 k0) (.bool dd0) (.int .i64 lf0) (.int .i64 ds0) 39
    have o_hh_hs : g2 < _ := hh.lt
    have o_hf_hs : g3 < _ := (World.block_lt_of_cell? _ _ hf.c0)
    have w_hs := hB.size
    have hh := hh.below hv hh.lt
    have hf := hf.below hv (World.block_lt_of_cell? _ _ hf.c0)
    have hd := hd.below hv (Nat.le_refl _)
    have hB := hB.trans (hv.mono hB.size)
    clear hv
    generalize w3.alloc (.cells #[.slice A0 n0 c0, .slice B0 m0 k0, .bool dd0, .int .i64 lf0, .int .i64 ds0] 39) = w4 at hh hs hf hd hB ⊢
    generalize w3.heap.size = g5 at hs w_hs o_hh_hs o_hf_hs ⊢
    have hh_0 : (_ : World).cell? ⟨g2, 0, none⟩ = some (.int .i64 op) := hh.c0
    have hh_1 : (_ : World).cell? ⟨g2, 1, none⟩ = some (.int .i64 ol) := hh.c1
    have hh_2 : (_ : World).cell? ⟨g2, 2, none⟩ = some (.int .i64 oe) := hh.c2
    have hh_f := hh.f
    go_upto_region 5 with fail
    clear hh_0 hh_1 hh_2 hh_f
    have hv := (Below.refl w4.heap.size w4).alloc (Nat.le_refl _) (.cells #[.int .i64 op, .int .i64 ol, .int .i64 oe] 23)
    have hp : BoxH (w4.alloc (.cells #[.int .i64 op, .int .i64 ol, .int .i64 oe] 23)) w4.heap.size ⟨op, ol, oe⟩ := BoxH.new w4 ⟨op, ol, oe⟩ 23
    have o_hh_hp : g2 < _ := hh.lt
    have o_hs_hp : g5 < _ := hs.lt5
    have o_hf_hp : g3 < _ := (World.block_lt_of_cell? _ _ hf.c0)
    have w_hp := hB.size
    have hh := hh.below hv hh.lt
    have hs := hs.below hv hs.lt5
    have hf := hf.below hv (World.block_lt_of_cell? _ _ hf.c0)
    have hd := hd.below hv (Nat.le_refl _)
    have hB := hB.trans (hv.mono hB.size)
    clear hv
    generalize w4.alloc (.cells #[.int .i64 op, .int .i64 ol, .int .i64 oe] 23) = w5 at hh hp hs hf hd hB ⊢
    generalize hg_hp : w4.heap.size = g7 at hp w_hp o_hh_hp o_hs_hp o_hf_hp ⊢
    clear hg_hp
    have hp_0 : (_ : World).cell? ⟨g7, 0, none⟩ = some (.int .i64 op) := hp.c0
    have hp_1 : (_ : World).cell? ⟨g7, 1, none⟩ = some (.int .i64 ol) := hp.c1
    have hp_2 : (_ : World).cell? ⟨g7, 2, none⟩ = some (.int .i64 oe) := hp.c2
    have hp_f := hp.f
    go_upto_region 6 with fail
    clear hp_0 hp_1 hp_2 hp_f
    have hn4 : 1 ≤ (fresh 4).n := by show 1 ≤ 4; decide
    have hb := (But.refl g7 w5).setCell 2 (.int .i64 (oe - 1))
    have hd := dev_butH hd hn4 hp hb
    have hh := hh.but hb (by omega)
    have hp := hp.epoch (oe - 1)
    have hf := box3_but hf hb (by omega)
    have hs := hs.but hb (by omega)
    have hB := hB.setCell (p := ⟨g7, 2, none⟩) w_hp (.int .i64 (oe - 1))
    clear hb
    generalize w5.setCell ⟨g7, 2, none⟩ (.int .i64 (oe - 1)) = w6 at hh hp hs hf hd hB ⊢
    have cal1 : Calm (fresh 4) 4 (fun _ => nought) 2 := ⟨rfl, rfl, rfl, rfl, rfl, Int.le_refl _, by show (0 : Int) ≤ _; decide⟩
    have hol := older_first (old := ⟨op, ol, oe⟩) H1.out
    have hs1 : ∀ j, j < 4 → ((fun _ : Nat => nought) j).size = 256 := fun _ _ => nought_size
    generalize fresh 4 = D1 at cal1 hd hn4
    generalize (fun _ : Nat => nought) = S1 at cal1 hol hs1
    have i6 : ¬ 0 < oe - 1 := by have := H1.out; omega
    have hp_0 : (_ : World).cell? ⟨g7, 0, none⟩ = some (.int .i64 op) := hp.c0
    have hp_1 : (_ : World).cell? ⟨g7, 1, none⟩ = some (.int .i64 ol) := hp.c1
    have hp_2 : (_ : World).cell? ⟨g7, 2, none⟩ = some (.int .i64 (oe - 1)) := hp.c2
    have hp_f := hp.f
    have ok1 := cal1.ok (by decide) (by decide) hs1
    obtain ⟨D2, e2, cal2⟩ := put_calm cal1 ho
    have hs2 : ∀ j, j < 4 → (putS S1 ⟨op, ol, oe⟩ j).size = 256 := putS_size hs1
    have ok2 := cal2.ok (by decide) (by decide) hs2
    obtain ⟨Z, e7, cal7⟩ := put_calm cal2 hnr
    have ok7 := cal7.ok (by decide) (by decide) (putS_size hs2)
    obtain ⟨D8, e8, cal8⟩ := newest_calm cal7
    rw [next_law ho hnr rfl, if_neg (show ¬ oe + 1 = 0 by omega)] at e8
    have ex := torn_put cal2 hnr
    obtain ⟨kk, hkk, calY⟩ := torn_start (h := ⟨op, ol, oe + 1⟩) cal2 f
    have hsy := tornS_size (h := ⟨op, ol, oe + 1⟩) hkk hs2
    have okY := calY.ok (by decide) (by decide) hsy
    obtain ⟨D6, e6, cal6⟩ := newest_calm calY
    have htl := torn_law (next := ⟨op, ol, oe + 1⟩) ho rfl hkk hol
    have okA := ok2.armed 1 (by decide)
    have hnX : (((armed D2 1).putAt ((oe + 1) % 2) (headB ⟨op, ol, oe + 1⟩)).down).n = 4 := cal2.n
    have okX : (((armed D2 1).putAt ((oe + 1) % 2) (headB ⟨op, ol, oe + 1⟩)).down).Ok 7 := by
      have h1 : (armed D2 1).has ((oe + 1) % 2) = true := by
        unfold Dev.has
        have : (armed D2 1).n = 4 := cal2.n
        exact decide_eq_true ⟨by omega, by omega⟩
      exact (okA.put _ _ h1 (by rw [headB_size]; decide)).down.more (by decide)
    have hPo : ∀ W v, Tab W → IsDev W v D1 → Calls Tryd.prog 24 #[v, .agg #[.int .i64 op, .int .i64 ol, .int .i64 oe]] W fun e w' => ∃ v', e = .returned (.tuple #[v', .int .i64 0]) ∧ IsDev w' v' D2 ∧ Below W.heap.size W w' := fun W v ht hd => by
      have := headPut v D1 ⟨op, ol, oe⟩ W ht hd ok1 (by decide) (by rw [cal1.n]; decide)
      unfold DevErr at this
      rw [e2] at this
      exact this
    have hArm := fun W v (hd : IsDev W v D2) => refArm_dev v D2 1 W hd
    have hPx : ∀ W v, Tab W → IsDev W v (armed D2 1) → Calls Tryd.prog 24 #[v, .agg #[.int .i64 op, .int .i64 ol, .int .i64 (oe + 1)]] W fun e w' => ∃ v', e = .returned (.tuple #[v', .int .i64 10]) ∧ IsDev w' v' (((armed D2 1).putAt ((oe + 1) % 2) (headB ⟨op, ol, oe + 1⟩)).down) ∧ Below W.heap.size W w' := fun W v ht hd => by
      have := headPut v (armed D2 1) ⟨op, ol, oe + 1⟩ W ht hd okA (by decide) (by show 2 ≤ D2.n; rw [cal2.n]; decide)
      unfold DevErr at this
      rw [ex] at this
      exact this
    have hPz : ∀ W v, Tab W → IsDev W v D2 → Calls Tryd.prog 24 #[v, .agg #[.int .i64 op, .int .i64 ol, .int .i64 (oe + 1)]] W fun e w' => ∃ v', e = .returned (.tuple #[v', .int .i64 0]) ∧ IsDev w' v' Z ∧ Below W.heap.size W w' := fun W v ht hd => by
      have := headPut v D2 ⟨op, ol, oe + 1⟩ W ht hd ok2 (by decide) (by rw [cal2.n]; decide)
      unfold DevErr at this
      rw [e7] at this
      exact this
    have hNz : ∀ W v, Tab W → IsDev W v Z → Calls Tryd.prog 22 #[v] W fun e w' => ∃ v', e = .returned (.tuple #[v', .agg #[.int .i64 op, .int .i64 ol, .int .i64 (oe + 1)], .int .i64 0]) ∧ IsDev w' v' D8 ∧ Below W.heap.size W w' := fun W v ht hd => by
      have := newest_any v Z W ht hd ok7 (by decide) (by rw [cal7.n]; decide)
      unfold NewPost at this
      rw [e8] at this
      exact this
    have hNy0 := fun W v (ht : Tab W) hd => newest_any v ((((armed D2 1).putAt ((oe + 1) % 2) (headB ⟨op, ol, oe + 1⟩)).down).started f) W ht hd okY (by decide) (by rw [calY.n]; decide)
    have hBe : ∀ W v, IsDev W v ((((armed D2 1).putAt ((oe + 1) % 2) (headB ⟨op, ol, oe + 1⟩)).down).started f) → Calls Tryd.prog 29 #[v, .agg #[.int .i64 op, .int .i64 ol, .int .i64 oe], .agg #[.int .i64 op, .int .i64 ol, .int .i64 (oe + 1)]] W fun e w' => ∃ b : Bool, e = .returned (.bool b) ∧ (b = true ↔ Chance (tornS (putS S1 ⟨op, ol, oe⟩) ⟨op, ol, oe + 1⟩ kk) ⟨op, ol, oe⟩ ⟨op, ol, oe + 1⟩ 0 ∨ Chance (tornS (putS S1 ⟨op, ol, oe⟩) ⟨op, ol, oe + 1⟩ kk) ⟨op, ol, oe⟩ ⟨op, ol, oe + 1⟩ 1) ∧ Below W.heap.size W w' := fun W v hd => by
      have := bent_any v _ ⟨op, ol, oe⟩ ⟨op, ol, oe + 1⟩ W hd (by rw [calY.n]; decide) (by rw [calY.n]; decide) (by rw [calY.n, calY.s]; exact hsy)
      rw [calY.s] at this
      exact this
    have hSt := fun W v (hd : IsDev W v (((armed D2 1).putAt ((oe + 1) % 2) (headB ⟨op, ol, oe + 1⟩)).down)) => refStart_any v _ f W hd okX (by decide) hf0 hf1
    have hnn : 1 ≤ D2.n ∧ 1 ≤ (((armed D2 1).putAt ((oe + 1) % 2) (headB ⟨op, ol, oe + 1⟩)).down).n ∧ 1 ≤ ((((armed D2 1).putAt ((oe + 1) % 2) (headB ⟨op, ol, oe + 1⟩)).down).started f).n ∧ 1 ≤ Z.n := by rw [cal2.n, hnX, calY.n, cal7.n]; decide
    have hor0 : ¬ (Chance (tornS (putS S1 ⟨op, ol, oe⟩) ⟨op, ol, oe + 1⟩ kk) ⟨op, ol, oe⟩ ⟨op, ol, oe + 1⟩ 0 ∨ Chance (tornS (putS S1 ⟨op, ol, oe⟩) ⟨op, ol, oe + 1⟩ kk) ⟨op, ol, oe⟩ ⟨op, ol, oe + 1⟩ 1) → ∃ r : H, (r = ⟨op, ol, oe⟩ ∨ r = ⟨op, ol, oe + 1⟩) ∧ newestR ((((armed D2 1).putAt ((oe + 1) % 2) (headB ⟨op, ol, oe + 1⟩)).down).started f) = (D6, r, 0) := fun hc => by
      have hb := htl hc
      refine ⟨_, hb, e6.trans (if_neg ?_)⟩
      rcases hb with h | h
      · rw [h]
        show ¬ oe = 0
        omega
      · rw [h]
        show ¬ oe + 1 = 0
        omega
    generalize ((((armed D2 1).putAt ((oe + 1) % 2) (headB ⟨op, ol, oe + 1⟩)).down).started f) = Y at hNy0 hBe hSt hnn hor0
    generalize (((armed D2 1).putAt ((oe + 1) % 2) (headB ⟨op, ol, oe + 1⟩)).down) = X at hPx hSt hnn
    generalize (Chance (tornS (putS S1 ⟨op, ol, oe⟩) ⟨op, ol, oe + 1⟩ kk) ⟨op, ol, oe⟩ ⟨op, ol, oe + 1⟩ 0 ∨ Chance (tornS (putS S1 ⟨op, ol, oe⟩) ⟨op, ol, oe + 1⟩ kk) ⟨op, ol, oe⟩ ⟨op, ol, oe + 1⟩ 1) = CHN at hBe hor0
    have HN := Lib.hid (And.intro hnn.1 hnn.2.1)
    have HN2 := Lib.hid (And.intro hnn.2.2.1 hnn.2.2.2)
    have HOR := Lib.hid hor0
    have hso := hs1
    clear hnn hor0 hs1 ok1 e2 cal1 hol hs2 ok2 e7 cal7 ok7 e8 cal8 ex calY hsy okY e6 cal6 htl okA hnX okX cal2 hkk hso
    have hs_0 : (_ : World).cell? ⟨g5, 0, none⟩ = some (.slice A0 n0 c0) := hs.c0
    have hs_1 : (_ : World).cell? ⟨g5, 1, none⟩ = some (.slice B0 m0 k0) := hs.c1
    have hs_2 : (_ : World).cell? ⟨g5, 2, none⟩ = some (.bool dd0) := hs.c2
    have hs_3 : (_ : World).cell? ⟨g5, 3, none⟩ = some (.int .i64 lf0) := hs.c3
    have hs_4 : (_ : World).cell? ⟨g5, 4, none⟩ = some (.int .i64 ds0) := hs.c4
    have hs_f := hs.f
    have hh_0 : (_ : World).cell? ⟨g2, 0, none⟩ = some (.int .i64 op) := hh.c0
    have hh_1 : (_ : World).cell? ⟨g2, 1, none⟩ = some (.int .i64 ol) := hh.c1
    have hh_2 : (_ : World).cell? ⟨g2, 2, none⟩ = some (.int .i64 oe) := hh.c2
    have hh_f := hh.f
    go_wp2_with fail
    refine (hPo _ _ (HT.out.below hB) hd).mono ?_
    rintro e w9 ⟨v2, rfl, hd2, hv⟩
    clear hp_0 hp_1 hp_2 hp_f hs_0 hs_1 hs_2 hs_3 hs_4 hs_f hh_0 hh_1 hh_2 hh_f
    have hh := hh.below hv hh.lt
    have hp := hp.below hv hp.lt
    have hs := hs.below hv hs.lt5
    have hf := hf.below hv (World.block_lt_of_cell? _ _ hf.c0)
    have hd := hd.below hv (Nat.le_refl _)
    have hB := hB.trans (hv.mono hB.size)
    clear hv
    obtain ⟨A2, n2, c2, B2, m2, k2, dd2, lf2, ds2, rfl⟩ := dev_form hd2
    clear hd
    go_upto_region 9 with (first
      | (refine wpList_store5 rfl 39 (.tmp 5) (.tmp 52) rfl g5 _ _ _ _ _ _ _ _ _ _ rfl rfl hs size31 (by simp [Value.oneCell']) ?_
         intro waa hnw hb
         have hd2 := hd2.but HN.out.1 hs.c0 hb
         have hh := hh.but hb (by omega)
         have hp := hp.but hb (by omega)
         have hf := box3_but hf hb (by omega)
         have hs := hnw
         have hB := hB.trans (hb.below w_hs)
         clear hnw hb))
    have hd := hd2
    clear hd2 hp
    have hh_0 : (_ : World).cell? ⟨g2, 0, none⟩ = some (.int .i64 op) := hh.c0
    have hh_1 : (_ : World).cell? ⟨g2, 1, none⟩ = some (.int .i64 ol) := hh.c1
    have hh_2 : (_ : World).cell? ⟨g2, 2, none⟩ = some (.int .i64 oe) := hh.c2
    have hh_f := hh.f
    go_upto_region 10 with fail
    clear hh_0 hh_1 hh_2 hh_f
    have hv := (Below.refl waa.heap.size waa).alloc (Nat.le_refl _) (.cells #[.int .i64 op, .int .i64 ol, .int .i64 oe] 23)
    have hn : BoxH (waa.alloc (.cells #[.int .i64 op, .int .i64 ol, .int .i64 oe] 23)) waa.heap.size ⟨op, ol, oe⟩ := BoxH.new waa ⟨op, ol, oe⟩ 23
    have o_hh_hn : g2 < _ := hh.lt
    have o_hs_hn : g5 < _ := hs.lt5
    have o_hf_hn : g3 < _ := (World.block_lt_of_cell? _ _ hf.c0)
    have w_hn := hB.size
    have hh := hh.below hv hh.lt
    have hs := hs.below hv hs.lt5
    have hf := hf.below hv (World.block_lt_of_cell? _ _ hf.c0)
    have hd := hd.below hv (Nat.le_refl _)
    have hB := hB.trans (hv.mono hB.size)
    clear hv
    generalize waa.alloc (.cells #[.int .i64 op, .int .i64 ol, .int .i64 oe] 23) = wb at hh hn hs hf hd hB ⊢
    generalize hg_hn : waa.heap.size = g9 at hn w_hn o_hh_hn o_hs_hn o_hf_hn ⊢
    clear hg_hn
    have hn_0 : (_ : World).cell? ⟨g9, 0, none⟩ = some (.int .i64 op) := hn.c0
    have hn_1 : (_ : World).cell? ⟨g9, 1, none⟩ = some (.int .i64 ol) := hn.c1
    have hn_2 : (_ : World).cell? ⟨g9, 2, none⟩ = some (.int .i64 oe) := hn.c2
    have hn_f := hn.f
    go_upto_region 11 with fail
    clear hn_0 hn_1 hn_2 hn_f
    have hb := (But.refl g9 wb).setCell 2 (.int .i64 (oe + 1))
    have hd := dev_butH hd HN.out.1 hn hb
    have hh := hh.but hb (by omega)
    have hn := hn.epoch (oe + 1)
    have hf := box3_but hf hb (by omega)
    have hs := hs.but hb (by omega)
    have hB := hB.setCell (p := ⟨g9, 2, none⟩) w_hn (.int .i64 (oe + 1))
    clear hb
    generalize wb.setCell ⟨g9, 2, none⟩ (.int .i64 (oe + 1)) = wc0 at hh hn hs hf hd hB ⊢
    go_cut [10, 11] from 59 to 65 (fun p er wx => ∃ (gq : Nat) (A4 : Option Addr) (n4 c4 : Nat) (B4 : Option Addr) (m4 k4 : Nat) (dd4 : Bool) (lf4 ds4 : Int), p = .pointer (some ⟨gq, 0, none⟩) ∧ er = .int .i64 10 ∧ TornM w ⟨op, ol, oe⟩ ⟨op, ol, oe + 1⟩ f D2 X g2 g3 g5 g9 gq A2 n2 c2 B2 m2 k2 dd2 lf2 ds2 A4 n4 c4 B4 m4 k4 dd4 lf4 ds4 wx)
    case first =>
      have hdr := (Below.refl wc0.heap.size wc0).drew
      have hf := hf.below hdr (World.block_lt_of_cell? _ _ hf.c0)
      have hh := hh.below hdr hh.lt
      have hn := hn.below hdr hn.lt
      have hs := hs.below hdr hs.lt5
      have hd := hd.below hdr (Nat.le_refl _)
      have hB := hB.trans (hdr.mono hB.size)
      clear hdr
      refine Lex.region_tree (ops := htoops) htotree (fun W => W.cell? ⟨g5, 0, none⟩ = some (.slice A2 n2 c2) ∧ W.cell? ⟨g5, 1, none⟩ = some (.slice B2 m2 k2) ∧ W.cell? ⟨g5, 2, none⟩ = some (.bool dd2) ∧ W.cell? ⟨g5, 3, none⟩ = some (.int .i64 lf2) ∧ W.cell? ⟨g5, 4, none⟩ = some (.int .i64 ds2) ∧ W.cell? ⟨g9, 0, none⟩ = some (.int .i64 op) ∧ W.cell? ⟨g9, 1, none⟩ = some (.int .i64 ol) ∧ W.cell? ⟨g9, 2, none⟩ = some (.int .i64 (oe + 1))) (by kernel_rfl) (by kernel_rfl) htosel htolex (⟨hs.c0, hs.c1, hs.c2, hs.c3, hs.c4, hn.c0, hn.c1, hn.c2⟩) ?_
      unfold htotree
      generalize wc0.drew = wd at hh hn hs hd hf hB ⊢
      refine Lex.tree_take (.agg #[.slice A2 n2 c2, .slice B2 m2 k2, .bool dd2, .int .i64 lf2, .int .i64 ds2]) hto0 (Lex.want_none rfl) (by intro Wx hSw; (try dsimp only at hSw); go_simp; (try (first | (with_reducible rfl) | assumption | rfl))) ?_
      simp only [Act.put, List.setIfInBounds_toArray, List.set_cons_zero, List.set_cons_succ]
      refine Lex.tree_take (.agg #[.int .i64 op, .int .i64 ol, .int .i64 (oe + 1)]) hto2 (Lex.want_none rfl) (by intro Wx hSw; (try dsimp only at hSw); go_simp; (try (first | (with_reducible rfl) | assumption | rfl))) ?_
      simp only [Act.put, List.setIfInBounds_toArray, List.set_cons_zero, List.set_cons_succ]
      refine Lex.tree_call hto1 (Lex.want_none rfl) (fun K hK => ?_) ?_
      · go_simp
        refine (hArm _ _ hd).mono ?_
        rintro e ya ⟨va, rfl, hda, hv⟩
        obtain ⟨A3, n3, c3, B3, m3, k3, dd3, lf3, ds3, rfl⟩ := dev_form hda
        have hf := hf.below hv (World.block_lt_of_cell? _ _ hf.c0)
        have hh := hh.below hv hh.lt
        have hn := hn.below hv hn.lt
        have hs := hs.below hv hs.lt5
        have hd := hd.below hv (Nat.le_refl _)
        have hB := hB.trans (hv.mono hB.size)
        clear hv
        refine hK.out _ _ _ (fun _ h => h) ⟨hs.c0, hs.c1, hs.c2, hs.c3, hs.c4, hn.c0, hn.c1, hn.c2⟩ ?_
        clear hK K
        try simp only [Act.put, List.setIfInBounds_toArray, List.set_cons_zero, List.set_cons_succ]
        refine Lex.tree_call hto3 (Lex.want_none rfl) (fun K hK => ?_) ?_
        · go_simp
          refine (hPx _ _ (HT.out.below hB) hda).mono ?_
          rintro e yp ⟨vp, rfl, hdx, hv⟩
          obtain ⟨A4, n4, c4, B4, m4, k4, dd4, lf4, ds4, rfl⟩ := dev_form hdx
          have hf := hf.below hv (World.block_lt_of_cell? _ _ hf.c0)
          have hh := hh.below hv hh.lt
          have hn := hn.below hv hn.lt
          have hs := hs.below hv hs.lt5
          have hd := hd.below hv (Nat.le_refl _)
          have hda := hda.below hv (Nat.le_refl _)
          have hB := hB.trans (hv.mono hB.size)
          clear hv
          refine hK.out _ _ _ (fun _ h => h) ⟨hs.c0, hs.c1, hs.c2, hs.c3, hs.c4, hn.c0, hn.c1, hn.c2⟩ ?_
          clear hK K
          try simp only [Act.put, List.setIfInBounds_toArray, List.set_cons_zero, List.set_cons_succ]
          refine Lex.tree_take (.tuple #[.agg #[.slice A4 n4 c4, .slice B4 m4 k4, .bool dd4, .int .i64 lf4, .int .i64 ds4], .int .i64 10]) hto4 (Lex.want_none rfl) (by intro Wx hSw; (try dsimp only at hSw); go_simp; (try (first | (with_reducible rfl) | assumption | rfl))) ?_
          simp only [Act.put, List.setIfInBounds_toArray, List.set_cons_zero, List.set_cons_succ]
          refine Lex.tree_take (.agg #[.slice A4 n4 c4, .slice B4 m4 k4, .bool dd4, .int .i64 lf4, .int .i64 ds4]) hto5 (Lex.want_none rfl) (by intro Wx hSw; (try dsimp only at hSw); go_simp; (try (first | (with_reducible rfl) | assumption | rfl))) ?_
          simp only [Act.put, List.setIfInBounds_toArray, List.set_cons_zero, List.set_cons_succ]
          refine Lex.tree_take (.int .i64 10) hto6 (Lex.want_none rfl) (by intro Wx hSw; (try dsimp only at hSw); go_simp; (try (first | (with_reducible rfl) | assumption | rfl))) ?_
          simp only [Act.put, List.setIfInBounds_toArray, List.set_cons_zero, List.set_cons_succ]
          refine Lex.tree_call hto7 (Lex.want_none rfl) (fun K hK => ?_) Lex.tree_no
          go_simp
          have hnw := (Below.refl yp.heap.size yp).alloc (Nat.le_refl _) (.cells #[.slice none 0 0, .slice none 0 0, .bool false, .int .i64 0, .int .i64 0] 39)
          have hx : Box5 (yp.alloc (.cells #[.slice none 0 0, .slice none 0 0, .bool false, .int .i64 0, .int .i64 0] 39)) yp.heap.size (.slice none 0 0) (.slice none 0 0) (.bool false) (.int .i64 0) (.int .i64 0) := Box5.new yp (.slice none 0 0) (.slice none 0 0) (.bool false) (.int .i64 0) (.int .i64 0) 39
          have l1 := hh.lt
          have l2 := hn.lt
          have l3 := hs.lt5
          have l4 : g3 < _ := World.block_lt_of_cell? _ _ hf.c0
          have wx := hB.size
          have hf := hf.below hnw (World.block_lt_of_cell? _ _ hf.c0)
          have hh := hh.below hnw hh.lt
          have hn := hn.below hnw hn.lt
          have hs := hs.below hnw hs.lt5
          have hd := hd.below hnw (Nat.le_refl _)
          have hdx := hdx.below hnw (Nat.le_refl _)
          have hB := hB.trans (hnw.mono hB.size)
          clear hnw
          generalize yp.alloc (.cells #[.slice none 0 0, .slice none 0 0, .bool false, .int .i64 0, .int .i64 0] 39) = zyp at hh hn hs hd hf hB hx hdx ⊢
          generalize yp.heap.size = gq at hx l1 l2 l3 l4 wx ⊢
          refine hK.out _ _ _ (fun _ h => h) ⟨hs.c0, hs.c1, hs.c2, hs.c3, hs.c4, hn.c0, hn.c1, hn.c2⟩ ?_
          clear hK K
          try simp only [Act.put, List.setIfInBounds_toArray, List.set_cons_zero, List.set_cons_succ]
          refine Lex.tree_call hto8 (Lex.want_none rfl) (fun K hK => ?_) Lex.tree_no
          have k0 := hx.c0
          have k1 := hx.c1
          have k2 := hx.c2
          have k3x := hx.c3
          have k4x := hx.c4
          have kf := hx.f
          go_simp
          clear k0 k1 k2 k3x k4x kf
          have hb := but5 zyp gq (.slice A4 n4 c4) (.slice B4 m4 k4) (.bool dd4) (.int .i64 lf4) (.int .i64 ds4)
          have hd := hd.but HN.out.1 hx.c0 hb
          have hdx := hdx.but HN.out.2 hx.c0 hb
          have hh := hh.but hb (by omega)
          have hn := hn.but hb (by omega)
          have hs := hs.but hb (by omega)
          have hf := box3_but hf hb (by omega)
          have hB := below_box5 hB wx (.slice A4 n4 c4) (.slice B4 m4 k4) (.bool dd4) (.int .i64 lf4) (.int .i64 ds4)
          have hx := hx.set (.slice A4 n4 c4) (.slice B4 m4 k4) (.bool dd4) (.int .i64 lf4) (.int .i64 ds4)
          clear hb
          generalize (((((zyp).setCell ⟨gq, 0, none⟩ (.slice A4 n4 c4)).setCell ⟨gq, 1, none⟩ (.slice B4 m4 k4)).setCell ⟨gq, 2, none⟩ (.bool dd4)).setCell ⟨gq, 3, none⟩ (.int .i64 lf4)).setCell ⟨gq, 4, none⟩ (.int .i64 ds4) = s9 at hh hn hs hd hdx hf hB hx ⊢
          refine hK.out _ _ _ (fun _ h => h) ⟨hs.c0, hs.c1, hs.c2, hs.c3, hs.c4, hn.c0, hn.c1, hn.c2⟩ ?_
          clear hK K
          try simp only [Act.put, List.setIfInBounds_toArray, List.set_cons_zero, List.set_cons_succ]
          refine Lex.tree_take (.int .i64 10) hto9 (Lex.want_none rfl) (by intro Wx hSw; (try dsimp only at hSw); go_simp; (try (first | (with_reducible rfl) | assumption | rfl))) ?_
          simp only [Act.put, List.setIfInBounds_toArray, List.set_cons_zero, List.set_cons_succ]
          refine Lex.tree_end ?_
          refine NoPanic.normal ?_
          have HM := Lib.hid (TornM.mk hh hf hs hd hn hx hdx hB l1 l2 l3 l4 wx)
          clear hh hf hs hd hn hx hdx hB l1 l2 l3 l4 wx
          (try clear hda)
          go_wp2
          go_meet
          case rel => exact ⟨gq, _, _, _, _, _, _, _, _, _, rfl, rfl, HM.out⟩
        refine Lex.tree_call hto7 (Lex.want_none rfl) (fun K hK => ?_) Lex.tree_no
        go_simp
        have hnw := (Below.refl ya.heap.size ya).alloc (Nat.le_refl _) (.cells #[.slice none 0 0, .slice none 0 0, .bool false, .int .i64 0, .int .i64 0] 39)
        have hx : Box5 (ya.alloc (.cells #[.slice none 0 0, .slice none 0 0, .bool false, .int .i64 0, .int .i64 0] 39)) ya.heap.size (.slice none 0 0) (.slice none 0 0) (.bool false) (.int .i64 0) (.int .i64 0) := Box5.new ya (.slice none 0 0) (.slice none 0 0) (.bool false) (.int .i64 0) (.int .i64 0) 39
        have l1 := hh.lt
        have l2 := hn.lt
        have l3 := hs.lt5
        have l4 : g3 < _ := World.block_lt_of_cell? _ _ hf.c0
        have wx := hB.size
        have hf := hf.below hnw (World.block_lt_of_cell? _ _ hf.c0)
        have hh := hh.below hnw hh.lt
        have hn := hn.below hnw hn.lt
        have hs := hs.below hnw hs.lt5
        have hd := hd.below hnw (Nat.le_refl _)
        have hda := hda.below hnw (Nat.le_refl _)
        have hB := hB.trans (hnw.mono hB.size)
        clear hnw
        generalize ya.alloc (.cells #[.slice none 0 0, .slice none 0 0, .bool false, .int .i64 0, .int .i64 0] 39) = zya at hh hn hs hd hf hB hx hda ⊢
        generalize ya.heap.size = gq at hx l1 l2 l3 l4 wx ⊢
        refine hK.out _ _ _ (fun _ h => h) ⟨hs.c0, hs.c1, hs.c2, hs.c3, hs.c4, hn.c0, hn.c1, hn.c2⟩ ?_
        clear hK K
        try simp only [Act.put, List.setIfInBounds_toArray, List.set_cons_zero, List.set_cons_succ]
        refine Lex.tree_call hto3 (Lex.want_none rfl) (fun K hK => ?_) Lex.tree_no
        go_simp
        refine (hPx _ _ (HT.out.below hB) hda).mono ?_
        rintro e yp ⟨vp, rfl, hdx, hv⟩
        obtain ⟨A4, n4, c4, B4, m4, k4, dd4, lf4, ds4, rfl⟩ := dev_form hdx
        have hf := hf.below hv (World.block_lt_of_cell? _ _ hf.c0)
        have hh := hh.below hv hh.lt
        have hn := hn.below hv hn.lt
        have hs := hs.below hv hs.lt5
        have hd := hd.below hv (Nat.le_refl _)
        have hx := hx.below hv hx.lt5
        have hda := hda.below hv (Nat.le_refl _)
        have hB := hB.trans (hv.mono hB.size)
        clear hv
        refine hK.out _ _ _ (fun _ h => h) ⟨hs.c0, hs.c1, hs.c2, hs.c3, hs.c4, hn.c0, hn.c1, hn.c2⟩ ?_
        clear hK K
        try simp only [Act.put, List.setIfInBounds_toArray, List.set_cons_zero, List.set_cons_succ]
        refine Lex.tree_take (.tuple #[.agg #[.slice A4 n4 c4, .slice B4 m4 k4, .bool dd4, .int .i64 lf4, .int .i64 ds4], .int .i64 10]) hto4 (Lex.want_none rfl) (by intro Wx hSw; (try dsimp only at hSw); go_simp; (try (first | (with_reducible rfl) | assumption | rfl))) ?_
        simp only [Act.put, List.setIfInBounds_toArray, List.set_cons_zero, List.set_cons_succ]
        refine Lex.tree_take (.agg #[.slice A4 n4 c4, .slice B4 m4 k4, .bool dd4, .int .i64 lf4, .int .i64 ds4]) hto5 (Lex.want_none rfl) (by intro Wx hSw; (try dsimp only at hSw); go_simp; (try (first | (with_reducible rfl) | assumption | rfl))) ?_
        simp only [Act.put, List.setIfInBounds_toArray, List.set_cons_zero, List.set_cons_succ]
        refine Lex.tree_take (.int .i64 10) hto6 (Lex.want_none rfl) (by intro Wx hSw; (try dsimp only at hSw); go_simp; (try (first | (with_reducible rfl) | assumption | rfl))) ?_
        simp only [Act.put, List.setIfInBounds_toArray, List.set_cons_zero, List.set_cons_succ]
        refine Lex.tree_call hto8 (Lex.want_none rfl) (fun K hK => ?_) Lex.tree_no
        have k0 := hx.c0
        have k1 := hx.c1
        have k2 := hx.c2
        have k3x := hx.c3
        have k4x := hx.c4
        have kf := hx.f
        go_simp
        clear k0 k1 k2 k3x k4x kf
        have hb := but5 yp gq (.slice A4 n4 c4) (.slice B4 m4 k4) (.bool dd4) (.int .i64 lf4) (.int .i64 ds4)
        have hd := hd.but HN.out.1 hx.c0 hb
        have hdx := hdx.but HN.out.2 hx.c0 hb
        have hh := hh.but hb (by omega)
        have hn := hn.but hb (by omega)
        have hs := hs.but hb (by omega)
        have hf := box3_but hf hb (by omega)
        have hB := below_box5 hB wx (.slice A4 n4 c4) (.slice B4 m4 k4) (.bool dd4) (.int .i64 lf4) (.int .i64 ds4)
        have hx := hx.set (.slice A4 n4 c4) (.slice B4 m4 k4) (.bool dd4) (.int .i64 lf4) (.int .i64 ds4)
        clear hb
        generalize (((((yp).setCell ⟨gq, 0, none⟩ (.slice A4 n4 c4)).setCell ⟨gq, 1, none⟩ (.slice B4 m4 k4)).setCell ⟨gq, 2, none⟩ (.bool dd4)).setCell ⟨gq, 3, none⟩ (.int .i64 lf4)).setCell ⟨gq, 4, none⟩ (.int .i64 ds4) = s9 at hh hn hs hd hdx hf hB hx ⊢
        refine hK.out _ _ _ (fun _ h => h) ⟨hs.c0, hs.c1, hs.c2, hs.c3, hs.c4, hn.c0, hn.c1, hn.c2⟩ ?_
        clear hK K
        try simp only [Act.put, List.setIfInBounds_toArray, List.set_cons_zero, List.set_cons_succ]
        refine Lex.tree_take (.int .i64 10) hto9 (Lex.want_none rfl) (by intro Wx hSw; (try dsimp only at hSw); go_simp; (try (first | (with_reducible rfl) | assumption | rfl))) ?_
        simp only [Act.put, List.setIfInBounds_toArray, List.set_cons_zero, List.set_cons_succ]
        refine Lex.tree_end ?_
        refine NoPanic.normal ?_
        have HM := Lib.hid (TornM.mk hh hf hs hd hn hx hdx hB l1 l2 l3 l4 wx)
        clear hh hf hs hd hn hx hdx hB l1 l2 l3 l4 wx
        (try clear hda)
        go_wp2
        go_meet
        case rel => exact ⟨gq, _, _, _, _, _, _, _, _, _, rfl, rfl, HM.out⟩
      refine Lex.tree_call hto7 (Lex.want_none rfl) (fun K hK => ?_) Lex.tree_no
      go_simp
      have hnw := (Below.refl wd.heap.size wd).alloc (Nat.le_refl _) (.cells #[.slice none 0 0, .slice none 0 0, .bool false, .int .i64 0, .int .i64 0] 39)
      have hx : Box5 (wd.alloc (.cells #[.slice none 0 0, .slice none 0 0, .bool false, .int .i64 0, .int .i64 0] 39)) wd.heap.size (.slice none 0 0) (.slice none 0 0) (.bool false) (.int .i64 0) (.int .i64 0) := Box5.new wd (.slice none 0 0) (.slice none 0 0) (.bool false) (.int .i64 0) (.int .i64 0) 39
      have l1 := hh.lt
      have l2 := hn.lt
      have l3 := hs.lt5
      have l4 : g3 < _ := World.block_lt_of_cell? _ _ hf.c0
      have wx := hB.size
      have hf := hf.below hnw (World.block_lt_of_cell? _ _ hf.c0)
      have hh := hh.below hnw hh.lt
      have hn := hn.below hnw hn.lt
      have hs := hs.below hnw hs.lt5
      have hd := hd.below hnw (Nat.le_refl _)
      have hB := hB.trans (hnw.mono hB.size)
      clear hnw
      generalize wd.alloc (.cells #[.slice none 0 0, .slice none 0 0, .bool false, .int .i64 0, .int .i64 0] 39) = zwd at hh hn hs hd hf hB hx ⊢
      generalize wd.heap.size = gq at hx l1 l2 l3 l4 wx ⊢
      refine hK.out _ _ _ (fun _ h => h) ⟨hs.c0, hs.c1, hs.c2, hs.c3, hs.c4, hn.c0, hn.c1, hn.c2⟩ ?_
      clear hK K
      try simp only [Act.put, List.setIfInBounds_toArray, List.set_cons_zero, List.set_cons_succ]
      refine Lex.tree_call hto1 (Lex.want_none rfl) (fun K hK => ?_) Lex.tree_no
      go_simp
      refine (hArm _ _ hd).mono ?_
      rintro e ya ⟨va, rfl, hda, hv⟩
      obtain ⟨A3, n3, c3, B3, m3, k3, dd3, lf3, ds3, rfl⟩ := dev_form hda
      have hf := hf.below hv (World.block_lt_of_cell? _ _ hf.c0)
      have hh := hh.below hv hh.lt
      have hn := hn.below hv hn.lt
      have hs := hs.below hv hs.lt5
      have hd := hd.below hv (Nat.le_refl _)
      have hx := hx.below hv hx.lt5
      have hB := hB.trans (hv.mono hB.size)
      clear hv
      refine hK.out _ _ _ (fun _ h => h) ⟨hs.c0, hs.c1, hs.c2, hs.c3, hs.c4, hn.c0, hn.c1, hn.c2⟩ ?_
      clear hK K
      try simp only [Act.put, List.setIfInBounds_toArray, List.set_cons_zero, List.set_cons_succ]
      refine Lex.tree_call hto3 (Lex.want_none rfl) (fun K hK => ?_) Lex.tree_no
      go_simp
      refine (hPx _ _ (HT.out.below hB) hda).mono ?_
      rintro e yp ⟨vp, rfl, hdx, hv⟩
      obtain ⟨A4, n4, c4, B4, m4, k4, dd4, lf4, ds4, rfl⟩ := dev_form hdx
      have hf := hf.below hv (World.block_lt_of_cell? _ _ hf.c0)
      have hh := hh.below hv hh.lt
      have hn := hn.below hv hn.lt
      have hs := hs.below hv hs.lt5
      have hd := hd.below hv (Nat.le_refl _)
      have hx := hx.below hv hx.lt5
      have hda := hda.below hv (Nat.le_refl _)
      have hB := hB.trans (hv.mono hB.size)
      clear hv
      refine hK.out _ _ _ (fun _ h => h) ⟨hs.c0, hs.c1, hs.c2, hs.c3, hs.c4, hn.c0, hn.c1, hn.c2⟩ ?_
      clear hK K
      try simp only [Act.put, List.setIfInBounds_toArray, List.set_cons_zero, List.set_cons_succ]
      refine Lex.tree_take (.tuple #[.agg #[.slice A4 n4 c4, .slice B4 m4 k4, .bool dd4, .int .i64 lf4, .int .i64 ds4], .int .i64 10]) hto4 (Lex.want_none rfl) (by intro Wx hSw; (try dsimp only at hSw); go_simp; (try (first | (with_reducible rfl) | assumption | rfl))) ?_
      simp only [Act.put, List.setIfInBounds_toArray, List.set_cons_zero, List.set_cons_succ]
      refine Lex.tree_take (.agg #[.slice A4 n4 c4, .slice B4 m4 k4, .bool dd4, .int .i64 lf4, .int .i64 ds4]) hto5 (Lex.want_none rfl) (by intro Wx hSw; (try dsimp only at hSw); go_simp; (try (first | (with_reducible rfl) | assumption | rfl))) ?_
      simp only [Act.put, List.setIfInBounds_toArray, List.set_cons_zero, List.set_cons_succ]
      refine Lex.tree_take (.int .i64 10) hto6 (Lex.want_none rfl) (by intro Wx hSw; (try dsimp only at hSw); go_simp; (try (first | (with_reducible rfl) | assumption | rfl))) ?_
      simp only [Act.put, List.setIfInBounds_toArray, List.set_cons_zero, List.set_cons_succ]
      refine Lex.tree_call hto8 (Lex.want_none rfl) (fun K hK => ?_) Lex.tree_no
      have k0 := hx.c0
      have k1 := hx.c1
      have k2 := hx.c2
      have k3x := hx.c3
      have k4x := hx.c4
      have kf := hx.f
      go_simp
      clear k0 k1 k2 k3x k4x kf
      have hb := but5 yp gq (.slice A4 n4 c4) (.slice B4 m4 k4) (.bool dd4) (.int .i64 lf4) (.int .i64 ds4)
      have hd := hd.but HN.out.1 hx.c0 hb
      have hdx := hdx.but HN.out.2 hx.c0 hb
      have hh := hh.but hb (by omega)
      have hn := hn.but hb (by omega)
      have hs := hs.but hb (by omega)
      have hf := box3_but hf hb (by omega)
      have hB := below_box5 hB wx (.slice A4 n4 c4) (.slice B4 m4 k4) (.bool dd4) (.int .i64 lf4) (.int .i64 ds4)
      have hx := hx.set (.slice A4 n4 c4) (.slice B4 m4 k4) (.bool dd4) (.int .i64 lf4) (.int .i64 ds4)
      clear hb
      generalize (((((yp).setCell ⟨gq, 0, none⟩ (.slice A4 n4 c4)).setCell ⟨gq, 1, none⟩ (.slice B4 m4 k4)).setCell ⟨gq, 2, none⟩ (.bool dd4)).setCell ⟨gq, 3, none⟩ (.int .i64 lf4)).setCell ⟨gq, 4, none⟩ (.int .i64 ds4) = s9 at hh hn hs hd hdx hf hB hx ⊢
      refine hK.out _ _ _ (fun _ h => h) ⟨hs.c0, hs.c1, hs.c2, hs.c3, hs.c4, hn.c0, hn.c1, hn.c2⟩ ?_
      clear hK K
      try simp only [Act.put, List.setIfInBounds_toArray, List.set_cons_zero, List.set_cons_succ]
      refine Lex.tree_take (.int .i64 10) hto9 (Lex.want_none rfl) (by intro Wx hSw; (try dsimp only at hSw); go_simp; (try (first | (with_reducible rfl) | assumption | rfl))) ?_
      simp only [Act.put, List.setIfInBounds_toArray, List.set_cons_zero, List.set_cons_succ]
      refine Lex.tree_end ?_
      refine NoPanic.normal ?_
      have HM := Lib.hid (TornM.mk hh hf hs hd hn hx hdx hB l1 l2 l3 l4 wx)
      clear hh hf hs hd hn hx hdx hB l1 l2 l3 l4 wx
      (try clear hda)
      go_wp2
      go_meet
      case rel => exact ⟨gq, _, _, _, _, _, _, _, _, _, rfl, rfl, HM.out⟩
    case rest =>
      obtain ⟨g10, A4, n4, c4, B4, m4, k4, dd4, lf4, ds4, rfl, rfl, hM⟩ := hcut
      clear hh hn hs hd hf hB
      obtain ⟨hh, hf, hs, hd, hn, hx, hdx, hB, o_hh_hx, o_hn_hx, o_hs_hx, o_hf_hx, w_hx⟩ := hM
      have o_x : True := trivial
      have hx_0 : (_ : World).cell? ⟨g10, 0, none⟩ = some (.slice A4 n4 c4) := hx.c0
      have hx_1 : (_ : World).cell? ⟨g10, 1, none⟩ = some (.slice B4 m4 k4) := hx.c1
      have hx_2 : (_ : World).cell? ⟨g10, 2, none⟩ = some (.bool dd4) := hx.c2
      have hx_3 : (_ : World).cell? ⟨g10, 3, none⟩ = some (.int .i64 lf4) := hx.c3
      have hx_4 : (_ : World).cell? ⟨g10, 4, none⟩ = some (.int .i64 ds4) := hx.c4
      have hx_f := hx.f
      have hf_0 : (_ : World).cell? ⟨g3, 0, none⟩ = some (.int .u64 f.stay) := hf.c0
      have hf_1 : (_ : World).cell? ⟨g3, 1, none⟩ = some (.int .i64 f.torn) := hf.c1
      have hf_2 : (_ : World).cell? ⟨g3, 2, none⟩ = some (.int .i64 f.bytes) := hf.c2
      go_wp2_with fail
      refine (hSt _ _ hdx).mono ?_
      rintro e wd1 ⟨v5, rfl, hdy, hv⟩
      clear hx_0 hx_1 hx_2 hx_3 hx_4 hx_f hf_0 hf_1 hf_2
      have hh := hh.below hv hh.lt
      have hn := hn.below hv hn.lt
      have hs := hs.below hv hs.lt5
      have hx := hx.below hv hx.lt5
      have hf := hf.below hv (World.block_lt_of_cell? _ _ hf.c0)
      have hd := hd.below hv (Nat.le_refl _)
      have hdx := hdx.below hv (Nat.le_refl _)
      have hB := hB.trans (hv.mono hB.size)
      clear hv
      obtain ⟨A5, n5, c5, B5, m5, k5, dd5, lf5, ds5, rfl⟩ := dev_form hdy
      clear hx hdx hf
      go_upto_region 13 with fail
      have hv := (Below.refl wd1.heap.size wd1).alloc (Nat.le_refl _) (.cells #[.slice A5 n5 c5, .slice B5 m5 k5, .bool dd5, .int .i64 lf5, .int .i64 ds5] 39)
      have hy : Box5 (wd1.alloc (.cells #[.slice A5 n5 c5, .slice B5 m5 k5, .bool dd5, .int .i64 lf5, .int .i64 ds5] 39)) wd1.heap.size (.slice A5 n5 c5) (.slice B5 m5 k5) (.bool dd5) (.int .i64 lf5) (.int .i64 ds5) := Box5.new wd1 (.slice A5 n5 c5) (.slice B5 m5 k5) (.bool dd5) (.int .i64 lf5) (.int .i64 ds5) 39
      have o_hh_hy : g2 < _ := hh.lt
      have o_hn_hy : g9 < _ := hn.lt
      have o_hs_hy : g5 < _ := hs.lt5
      have w_hy := hB.size
      have hh := hh.below hv hh.lt
      have hn := hn.below hv hn.lt
      have hs := hs.below hv hs.lt5
      have hd := hd.below hv (Nat.le_refl _)
      have hdy := hdy.below hv (Nat.le_refl _)
      have hB := hB.trans (hv.mono hB.size)
      clear hv
      generalize wd1.alloc (.cells #[.slice A5 n5 c5, .slice B5 m5 k5, .bool dd5, .int .i64 lf5, .int .i64 ds5] 39) = we1 at hh hn hs hy hd hdy hB ⊢
      generalize wd1.heap.size = g12 at hy w_hy o_hh_hy o_hn_hy o_hs_hy ⊢
      have hy_0 : (_ : World).cell? ⟨g12, 0, none⟩ = some (.slice A5 n5 c5) := hy.c0
      have hy_1 : (_ : World).cell? ⟨g12, 1, none⟩ = some (.slice B5 m5 k5) := hy.c1
      have hy_2 : (_ : World).cell? ⟨g12, 2, none⟩ = some (.bool dd5) := hy.c2
      have hy_3 : (_ : World).cell? ⟨g12, 3, none⟩ = some (.int .i64 lf5) := hy.c3
      have hy_4 : (_ : World).cell? ⟨g12, 4, none⟩ = some (.int .i64 ds5) := hy.c4
      have hy_f := hy.f
      have hh_0 : (_ : World).cell? ⟨g2, 0, none⟩ = some (.int .i64 op) := hh.c0
      have hh_1 : (_ : World).cell? ⟨g2, 1, none⟩ = some (.int .i64 ol) := hh.c1
      have hh_2 : (_ : World).cell? ⟨g2, 2, none⟩ = some (.int .i64 oe) := hh.c2
      have hh_f := hh.f
      have hn_0 : (_ : World).cell? ⟨g9, 0, none⟩ = some (.int .i64 op) := hn.c0
      have hn_1 : (_ : World).cell? ⟨g9, 1, none⟩ = some (.int .i64 ol) := hn.c1
      have hn_2 : (_ : World).cell? ⟨g9, 2, none⟩ = some (.int .i64 (oe + 1)) := hn.c2
      have hn_f := hn.f
      go_wp2_with fail
      refine (hBe _ _ hdy).mono ?_
      rintro e wf ⟨bt, rfl, hbt, hv⟩
      clear hy_0 hy_1 hy_2 hy_3 hy_4 hy_f hh_0 hh_1 hh_2 hh_f hn_0 hn_1 hn_2 hn_f
      have hh := hh.below hv hh.lt
      have hn := hn.below hv hn.lt
      have hs := hs.below hv hs.lt5
      have hy := hy.below hv hy.lt5
      have hd := hd.below hv (Nat.le_refl _)
      have hdy := hdy.below hv (Nat.le_refl _)
      have hB := hB.trans (hv.mono hB.size)
      clear hv
      cases bt
      rotate_left
      · clear hs hd hn hh hy hdy
        go_wp2_with fail
        refine (awake_any _ (HT.out.below hB)).mono ?_
        rintro e wg ⟨rfl, hv⟩
        have HB := Lib.hid (hB.trans (hv.mono hB.size))
        clear hv hB
        go_wp2
        go_ret
        exact ⟨rfl, HB.out⟩
      obtain ⟨r, hor, er⟩ := HOR.out (fun h => by cases hbt.2 h)
      clear hbt
      obtain ⟨rp, rl, re⟩ := r
      have hNy : ∀ W v, Tab W → IsDev W v Y → Calls Tryd.prog 22 #[v] W fun e w' => ∃ v', e = .returned (.tuple #[v', .agg #[.int .i64 rp, .int .i64 rl, .int .i64 re], .int .i64 0]) ∧ IsDev w' v' D6 ∧ Below W.heap.size W w' := fun W v ht hd => by
        have := hNy0 W v ht hd
        unfold NewPost at this
        rw [er] at this
        exact this
      clear er hNy0
      have hy_0 : (_ : World).cell? ⟨g12, 0, none⟩ = some (.slice A5 n5 c5) := hy.c0
      have hy_1 : (_ : World).cell? ⟨g12, 1, none⟩ = some (.slice B5 m5 k5) := hy.c1
      have hy_2 : (_ : World).cell? ⟨g12, 2, none⟩ = some (.bool dd5) := hy.c2
      have hy_3 : (_ : World).cell? ⟨g12, 3, none⟩ = some (.int .i64 lf5) := hy.c3
      have hy_4 : (_ : World).cell? ⟨g12, 4, none⟩ = some (.int .i64 ds5) := hy.c4
      have hy_f := hy.f
      go_wp2_with fail
      refine (hNy _ _ (HT.out.below hB) hdy).mono ?_
      rintro e wg ⟨v6, rfl, hd6, hv⟩
      clear hy_0 hy_1 hy_2 hy_3 hy_4 hy_f
      have hh := hh.below hv hh.lt
      have hn := hn.below hv hn.lt
      have hs := hs.below hv hs.lt5
      have hy := hy.below hv hy.lt5
      have hd := hd.below hv (Nat.le_refl _)
      have hdy := hdy.below hv (Nat.le_refl _)
      have hB := hB.trans (hv.mono hB.size)
      clear hv
      obtain ⟨A6, n6, c6, B6, m6, k6, dd6, lf6, ds6, rfl⟩ := dev_form hd6
      clear hd6 hdy hy
      have hv := (Below.refl wg.heap.size wg).alloc (Nat.le_refl _) (.cells #[.slice none 0 0, .slice none 0 0, .bool false, .int .i64 0, .int .i64 0] 39)
      have h13 : Box5 (wg.alloc (.cells #[.slice none 0 0, .slice none 0 0, .bool false, .int .i64 0, .int .i64 0] 39)) wg.heap.size (.slice none 0 0) (.slice none 0 0) (.bool false) (.int .i64 0) (.int .i64 0) := Box5.new wg (.slice none 0 0) (.slice none 0 0) (.bool false) (.int .i64 0) (.int .i64 0) 39
      have o_hh_h13 : g2 < _ := hh.lt
      have o_hn_h13 : g9 < _ := hn.lt
      have o_hs_h13 : g5 < _ := hs.lt5
      have w_h13 := hB.size
      have hh := hh.below hv hh.lt
      have hn := hn.below hv hn.lt
      have hs := hs.below hv hs.lt5
      have hd := hd.below hv (Nat.le_refl _)
      have hB := hB.trans (hv.mono hB.size)
      clear hv
      generalize hq_h13 : wg.alloc (.cells #[.slice none 0 0, .slice none 0 0, .bool false, .int .i64 0, .int .i64 0] 39) = wiz0 at hh hn hs h13 hd hB
      generalize hg_h13 : wg.heap.size = g13 at h13 w_h13 o_hh_h13 o_hn_h13 o_hs_h13
      have hv := (Below.refl wiz0.heap.size wiz0).alloc (Nat.le_refl _) (.cells #[.int .i64 0, .int .i64 0, .int .i64 0] 23)
      have h14 : BoxH (wiz0.alloc (.cells #[.int .i64 0, .int .i64 0, .int .i64 0] 23)) wiz0.heap.size noH := BoxH.new wiz0 noH 23
      have o_hh_h14 : g2 < _ := hh.lt
      have o_hn_h14 : g9 < _ := hn.lt
      have o_hs_h14 : g5 < _ := hs.lt5
      have o_h13_h14 : g13 < _ := h13.lt5
      have w_h14 := hB.size
      have hh := hh.below hv hh.lt
      have hn := hn.below hv hn.lt
      have hs := hs.below hv hs.lt5
      have h13 := h13.below hv h13.lt5
      have hd := hd.below hv (Nat.le_refl _)
      have hB := hB.trans (hv.mono hB.size)
      clear hv
      generalize hq_h14 : wiz0.alloc (.cells #[.int .i64 0, .int .i64 0, .int .i64 0] 23) = wiz1 at hh hn h14 hs h13 hd hB
      generalize hg_h14 : wiz0.heap.size = g14 at h14 w_h14 o_hh_h14 o_hn_h14 o_hs_h14 o_h13_h14
      go_upto_region 16 with (first
        | (refine wpList_store5 rfl 39 (.tmp 13) (.tmp 77) rfl g13 _ _ _ _ _ _ _ _ _ _ rfl rfl h13 size31 (by simp [Value.oneCell']) ?_
           intro wia hnw hb
           have hd := hd.but HN.out.1 h13.c0 hb
           have hh := hh.but hb (by omega)
           have hn := hn.but hb (by omega)
           have h14 := h14.but hb (by omega)
           have hs := hs.but hb (by omega)
           have h13 := hnw
           have hB := hB.trans (hb.below w_h13)
           clear hnw hb)
        | (refine wpList_store3 rfl 23 (.tmp 14) (.tmp 78) rfl g14 _ ⟨rp, rl, re⟩ rfl rfl h14 size3 ?_
           intro wib hnw hb
           have hd := dev_butH hd HN.out.1 h14 hb
           have hh := hh.but hb (by omega)
           have hn := hn.but hb (by omega)
           have hs := hs.but hb (by omega)
           have h13 := h13.but hb (by omega)
           have h14 := hnw
           have hB := hB.trans (hb.below w_h14)
           clear hnw hb))
      clear hq_h13 hg_h13 hq_h14 hg_h14
      clear h13
      have hs_0 : (_ : World).cell? ⟨g5, 0, none⟩ = some (.slice A2 n2 c2) := hs.c0
      have hs_1 : (_ : World).cell? ⟨g5, 1, none⟩ = some (.slice B2 m2 k2) := hs.c1
      have hs_2 : (_ : World).cell? ⟨g5, 2, none⟩ = some (.bool dd2) := hs.c2
      have hs_3 : (_ : World).cell? ⟨g5, 3, none⟩ = some (.int .i64 lf2) := hs.c3
      have hs_4 : (_ : World).cell? ⟨g5, 4, none⟩ = some (.int .i64 ds2) := hs.c4
      have hs_f := hs.f
      have hn_0 : (_ : World).cell? ⟨g9, 0, none⟩ = some (.int .i64 op) := hn.c0
      have hn_1 : (_ : World).cell? ⟨g9, 1, none⟩ = some (.int .i64 ol) := hn.c1
      have hn_2 : (_ : World).cell? ⟨g9, 2, none⟩ = some (.int .i64 (oe + 1)) := hn.c2
      have hn_f := hn.f
      go_wp2_with fail
      refine (hPz _ _ (HT.out.below hB) hd).mono ?_
      rintro e wj ⟨v7, rfl, hd7, hv⟩
      clear hs_0 hs_1 hs_2 hs_3 hs_4 hs_f hn_0 hn_1 hn_2 hn_f
      have hh := hh.below hv hh.lt
      have hn := hn.below hv hn.lt
      have h14 := h14.below hv h14.lt
      have hs := hs.below hv hs.lt5
      have hd := hd.below hv (Nat.le_refl _)
      have hB := hB.trans (hv.mono hB.size)
      clear hv
      obtain ⟨A7, n7, c7, B7, m7, k7, dd7, lf7, ds7, rfl⟩ := dev_form hd7
      clear hd hs
      go_upto_region 17 with fail
      have hv := (Below.refl wj.heap.size wj).alloc (Nat.le_refl _) (.cells #[.slice A7 n7 c7, .slice B7 m7 k7, .bool dd7, .int .i64 lf7, .int .i64 ds7] 39)
      have hz : Box5 (wj.alloc (.cells #[.slice A7 n7 c7, .slice B7 m7 k7, .bool dd7, .int .i64 lf7, .int .i64 ds7] 39)) wj.heap.size (.slice A7 n7 c7) (.slice B7 m7 k7) (.bool dd7) (.int .i64 lf7) (.int .i64 ds7) := Box5.new wj (.slice A7 n7 c7) (.slice B7 m7 k7) (.bool dd7) (.int .i64 lf7) (.int .i64 ds7) 39
      have o_hh_hz : g2 < _ := hh.lt
      have o_hn_hz : g9 < _ := hn.lt
      have o_h14_hz : g14 < _ := h14.lt
      have w_hz := hB.size
      have hh := hh.below hv hh.lt
      have hn := hn.below hv hn.lt
      have h14 := h14.below hv h14.lt
      have hd7 := hd7.below hv (Nat.le_refl _)
      have hB := hB.trans (hv.mono hB.size)
      clear hv
      generalize wj.alloc (.cells #[.slice A7 n7 c7, .slice B7 m7 k7, .bool dd7, .int .i64 lf7, .int .i64 ds7] 39) = wk at hh hn h14 hz hd7 hB ⊢
      generalize wj.heap.size = g16 at hz w_hz o_hh_hz o_hn_hz o_h14_hz ⊢
      have hz_0 : (_ : World).cell? ⟨g16, 0, none⟩ = some (.slice A7 n7 c7) := hz.c0
      have hz_1 : (_ : World).cell? ⟨g16, 1, none⟩ = some (.slice B7 m7 k7) := hz.c1
      have hz_2 : (_ : World).cell? ⟨g16, 2, none⟩ = some (.bool dd7) := hz.c2
      have hz_3 : (_ : World).cell? ⟨g16, 3, none⟩ = some (.int .i64 lf7) := hz.c3
      have hz_4 : (_ : World).cell? ⟨g16, 4, none⟩ = some (.int .i64 ds7) := hz.c4
      have hz_f := hz.f
      go_wp2_with fail
      refine (hNz _ _ (HT.out.below hB) hd7).mono ?_
      rintro e wl ⟨v8, rfl, hd8, hv⟩
      clear hz_0 hz_1 hz_2 hz_3 hz_4 hz_f
      have hh := hh.below hv hh.lt
      have hn := hn.below hv hn.lt
      have h14 := h14.below hv h14.lt
      have hz := hz.below hv hz.lt5
      have hd7 := hd7.below hv (Nat.le_refl _)
      have hB := hB.trans (hv.mono hB.size)
      clear hv
      obtain ⟨A8, n8, c8, B8, m8, k8, dd8, lf8, ds8, rfl⟩ := dev_form hd8
      clear hd8 hd7 hz
      have hv := (Below.refl wl.heap.size wl).alloc (Nat.le_refl _) (.cells #[.slice none 0 0, .slice none 0 0, .bool false, .int .i64 0, .int .i64 0] 39)
      have h18 : Box5 (wl.alloc (.cells #[.slice none 0 0, .slice none 0 0, .bool false, .int .i64 0, .int .i64 0] 39)) wl.heap.size (.slice none 0 0) (.slice none 0 0) (.bool false) (.int .i64 0) (.int .i64 0) := Box5.new wl (.slice none 0 0) (.slice none 0 0) (.bool false) (.int .i64 0) (.int .i64 0) 39
      have o_hh_h18 : g2 < _ := hh.lt
      have o_hn_h18 : g9 < _ := hn.lt
      have o_h14_h18 : g14 < _ := h14.lt
      have w_h18 := hB.size
      have hh := hh.below hv hh.lt
      have hn := hn.below hv hn.lt
      have h14 := h14.below hv h14.lt
      have hB := hB.trans (hv.mono hB.size)
      clear hv
      generalize hq_h18 : wl.alloc (.cells #[.slice none 0 0, .slice none 0 0, .bool false, .int .i64 0, .int .i64 0] 39) = wmz0 at hh hn h14 h18 hB
      generalize hg_h18 : wl.heap.size = g18 at h18 w_h18 o_hh_h18 o_hn_h18 o_h14_h18
      have hv := (Below.refl wmz0.heap.size wmz0).alloc (Nat.le_refl _) (.cells #[.int .i64 0, .int .i64 0, .int .i64 0] 23)
      have h19 : BoxH (wmz0.alloc (.cells #[.int .i64 0, .int .i64 0, .int .i64 0] 23)) wmz0.heap.size noH := BoxH.new wmz0 noH 23
      have o_hh_h19 : g2 < _ := hh.lt
      have o_hn_h19 : g9 < _ := hn.lt
      have o_h14_h19 : g14 < _ := h14.lt
      have o_h18_h19 : g18 < _ := h18.lt5
      have w_h19 := hB.size
      have hh := hh.below hv hh.lt
      have hn := hn.below hv hn.lt
      have h14 := h14.below hv h14.lt
      have h18 := h18.below hv h18.lt5
      have hB := hB.trans (hv.mono hB.size)
      clear hv
      generalize hq_h19 : wmz0.alloc (.cells #[.int .i64 0, .int .i64 0, .int .i64 0] 23) = wmz1 at hh hn h14 h19 h18 hB
      generalize hg_h19 : wmz0.heap.size = g19 at h19 w_h19 o_hh_h19 o_hn_h19 o_h14_h19 o_h18_h19
      go_upto_region 18 with (first
        | (refine wpList_store5 rfl 39 (.tmp 18) (.tmp 89) rfl g18 _ _ _ _ _ _ _ _ _ _ rfl rfl h18 size31 (by simp [Value.oneCell']) ?_
           intro wma hnw hb
           have hh := hh.but hb (by omega)
           have hn := hn.but hb (by omega)
           have h14 := h14.but hb (by omega)
           have h19 := h19.but hb (by omega)
           have h18 := hnw
           have hB := hB.trans (hb.below w_h18)
           clear hnw hb)
        | (refine wpList_store3 rfl 23 (.tmp 19) (.tmp 90) rfl g19 _ ⟨op, ol, oe + 1⟩ rfl rfl h19 size3 ?_
           intro wmb hnw hb
           have hh := hh.but hb (by omega)
           have hn := hn.but hb (by omega)
           have h14 := h14.but hb (by omega)
           have h18 := h18.but hb (by omega)
           have h19 := hnw
           have hB := hB.trans (hb.below w_h19)
           clear hnw hb))
      clear hq_h18 hg_h18 hq_h19 hg_h19
      clear h18
      go_wp2_with fail
      refine (awake_any _ (HT.out.below hB)).mono ?_
      rintro e wn ⟨rfl, hv⟩
      have hh := hh.below hv hh.lt
      have hn := hn.below hv hn.lt
      have h14 := h14.below hv h14.lt
      have h19 := h19.below hv h19.lt
      have hB := hB.trans (hv.mono hB.size)
      clear hv
      have HB := Lib.hid hB
      have en : (oe + 1 == oe) = false := beq_eq_false_iff_ne.2 (by omega)
      rcases hor with h | h
      · injection h with h0 h1 h2
        have h0 := h0.symm
        have h1 := h1.symm
        have h2 := h2.symm
        subst h0 h1 h2
        have hh_0 : (_ : World).cell? ⟨g2, 0, none⟩ = some (.int .i64 op) := hh.c0
        have hh_1 : (_ : World).cell? ⟨g2, 1, none⟩ = some (.int .i64 ol) := hh.c1
        have hh_2 : (_ : World).cell? ⟨g2, 2, none⟩ = some (.int .i64 oe) := hh.c2
        have hh_f := hh.f
        have hn_0 : (_ : World).cell? ⟨g9, 0, none⟩ = some (.int .i64 op) := hn.c0
        have hn_1 : (_ : World).cell? ⟨g9, 1, none⟩ = some (.int .i64 ol) := hn.c1
        have hn_2 : (_ : World).cell? ⟨g9, 2, none⟩ = some (.int .i64 (oe + 1)) := hn.c2
        have hn_f := hn.f
        have h14_0 : (_ : World).cell? ⟨g14, 0, none⟩ = some (.int .i64 op) := h14.c0
        have h14_1 : (_ : World).cell? ⟨g14, 1, none⟩ = some (.int .i64 ol) := h14.c1
        have h14_2 : (_ : World).cell? ⟨g14, 2, none⟩ = some (.int .i64 oe) := h14.c2
        have h14_f := h14.f
        have h19_0 : (_ : World).cell? ⟨g19, 0, none⟩ = some (.int .i64 op) := h19.c0
        have h19_1 : (_ : World).cell? ⟨g19, 1, none⟩ = some (.int .i64 ol) := h19.c1
        have h19_2 : (_ : World).cell? ⟨g19, 2, none⟩ = some (.int .i64 (oe + 1)) := h19.c2
        have h19_f := h19.f
        clear hh hn h14 h19 hB
        go_wp2
        go_ret
        exact ⟨rfl, HB.out⟩
      · injection h with h0 h1 h2
        have h0 := h0.symm
        have h1 := h1.symm
        have h2 := h2.symm
        subst h0 h1 h2
        have hh_0 : (_ : World).cell? ⟨g2, 0, none⟩ = some (.int .i64 op) := hh.c0
        have hh_1 : (_ : World).cell? ⟨g2, 1, none⟩ = some (.int .i64 ol) := hh.c1
        have hh_2 : (_ : World).cell? ⟨g2, 2, none⟩ = some (.int .i64 oe) := hh.c2
        have hh_f := hh.f
        have hn_0 : (_ : World).cell? ⟨g9, 0, none⟩ = some (.int .i64 op) := hn.c0
        have hn_1 : (_ : World).cell? ⟨g9, 1, none⟩ = some (.int .i64 ol) := hn.c1
        have hn_2 : (_ : World).cell? ⟨g9, 2, none⟩ = some (.int .i64 (oe + 1)) := hn.c2
        have hn_f := hn.f
        have h14_0 : (_ : World).cell? ⟨g14, 0, none⟩ = some (.int .i64 op) := h14.c0
        have h14_1 : (_ : World).cell? ⟨g14, 1, none⟩ = some (.int .i64 ol) := h14.c1
        have h14_2 : (_ : World).cell? ⟨g14, 2, none⟩ = some (.int .i64 (oe + 1)) := h14.c2
        have h14_f := h14.f
        have h19_0 : (_ : World).cell? ⟨g19, 0, none⟩ = some (.int .i64 op) := h19.c0
        have h19_1 : (_ : World).cell? ⟨g19, 1, none⟩ = some (.int .i64 ol) := h19.c1
        have h19_2 : (_ : World).cell? ⟨g19, 2, none⟩ = some (.int .i64 (oe + 1)) := h19.c2
        have h19_f := h19.f
        clear hh hn h14 h19 hB
        go_wp2
        go_ret
        exact ⟨rfl, HB.out⟩
  · skip
    go_wp2_with fail
    refine (refNew_any 4 _ (by decide) (by decide)).mono ?_
    rintro e w3 ⟨v0, rfl, hd, hv⟩
    have hh := hh.below hv hh.lt
    have hf := hf.below hv (World.block_lt_of_cell? _ _ hf.c0)
    have hB := hB.trans (hv.mono hB.size)
    clear hv
    obtain ⟨A0, n0, c0, B0, m0, k0, dd0, lf0, ds0, rfl⟩ := dev_form hd
    go_upto_region 4 with fail
    have hv := (Below.refl w3.heap.size w3).alloc (Nat.le_refl _) (.cells #[.slice A0 n0 c0, .slice B0 m0 k0, .bool dd0, .int .i64 lf0, .int .i64 ds0] 39)
    have hs : Box5 (w3.alloc (.cells #[.slice A0 n0 c0, .slice B0 m0 k0, .bool dd0, .int .i64 lf0, .int .i64 ds0] 39)) w3.heap.size (.slice A0 n0 c0) (.slice B0 m0 k0) (.bool dd0) (.int .i64 lf0) (.int .i64 ds0) := Box5.new w3 (.slice A0 n0 c0) (.slice B0 m0 k0) (.bool dd0) (.int .i64 lf0) (.int .i64 ds0) 39
    have o_hh_hs : g2 < _ := hh.lt
    have o_hf_hs : g3 < _ := (World.block_lt_of_cell? _ _ hf.c0)
    have w_hs := hB.size
    have hh := hh.below hv hh.lt
    have hf := hf.below hv (World.block_lt_of_cell? _ _ hf.c0)
    have hd := hd.below hv (Nat.le_refl _)
    have hB := hB.trans (hv.mono hB.size)
    clear hv
    generalize w3.alloc (.cells #[.slice A0 n0 c0, .slice B0 m0 k0, .bool dd0, .int .i64 lf0, .int .i64 ds0] 39) = w4 at hh hs hf hd hB ⊢
    generalize w3.heap.size = g5 at hs w_hs o_hh_hs o_hf_hs ⊢
    have hh_0 : (_ : World).cell? ⟨g2, 0, none⟩ = some (.int .i64 op) := hh.c0
    have hh_1 : (_ : World).cell? ⟨g2, 1, none⟩ = some (.int .i64 ol) := hh.c1
    have hh_2 : (_ : World).cell? ⟨g2, 2, none⟩ = some (.int .i64 oe) := hh.c2
    have hh_f := hh.f
    go_upto_region 5 with fail
    clear hh_0 hh_1 hh_2 hh_f
    have hv := (Below.refl w4.heap.size w4).alloc (Nat.le_refl _) (.cells #[.int .i64 op, .int .i64 ol, .int .i64 oe] 23)
    have hp : BoxH (w4.alloc (.cells #[.int .i64 op, .int .i64 ol, .int .i64 oe] 23)) w4.heap.size ⟨op, ol, oe⟩ := BoxH.new w4 ⟨op, ol, oe⟩ 23
    have o_hh_hp : g2 < _ := hh.lt
    have o_hs_hp : g5 < _ := hs.lt5
    have o_hf_hp : g3 < _ := (World.block_lt_of_cell? _ _ hf.c0)
    have w_hp := hB.size
    have hh := hh.below hv hh.lt
    have hs := hs.below hv hs.lt5
    have hf := hf.below hv (World.block_lt_of_cell? _ _ hf.c0)
    have hd := hd.below hv (Nat.le_refl _)
    have hB := hB.trans (hv.mono hB.size)
    clear hv
    generalize w4.alloc (.cells #[.int .i64 op, .int .i64 ol, .int .i64 oe] 23) = w5 at hh hp hs hf hd hB ⊢
    generalize hg_hp : w4.heap.size = g7 at hp w_hp o_hh_hp o_hs_hp o_hf_hp ⊢
    clear hg_hp
    have hp_0 : (_ : World).cell? ⟨g7, 0, none⟩ = some (.int .i64 op) := hp.c0
    have hp_1 : (_ : World).cell? ⟨g7, 1, none⟩ = some (.int .i64 ol) := hp.c1
    have hp_2 : (_ : World).cell? ⟨g7, 2, none⟩ = some (.int .i64 oe) := hp.c2
    have hp_f := hp.f
    go_upto_region 6 with fail
    clear hp_0 hp_1 hp_2 hp_f
    have hn4 : 1 ≤ (fresh 4).n := by show 1 ≤ 4; decide
    have hb := (But.refl g7 w5).setCell 2 (.int .i64 (oe - 1))
    have hd := dev_butH hd hn4 hp hb
    have hh := hh.but hb (by omega)
    have hp := hp.epoch (oe - 1)
    have hf := box3_but hf hb (by omega)
    have hs := hs.but hb (by omega)
    have hB := hB.setCell (p := ⟨g7, 2, none⟩) w_hp (.int .i64 (oe - 1))
    clear hb
    generalize w5.setCell ⟨g7, 2, none⟩ (.int .i64 (oe - 1)) = w6 at hh hp hs hf hd hB ⊢
    have hbr : RightH ⟨op, ol, oe - 1⟩ := ⟨ho.p0, ho.p1, ho.l0, ho.l1, by show 1 ≤ oe - 1; omega, by show oe - 1 < 2147483648; omega⟩
    obtain ⟨D1, e1, cal1⟩ := put_calm (fresh_calm 4) hbr
    have hPb : ∀ W v, Tab W → IsDev W v (fresh 4) → Calls Tryd.prog 24 #[v, .agg #[.int .i64 op, .int .i64 ol, .int .i64 (oe - 1)]] W fun e w' => ∃ v', e = .returned (.tuple #[v', .int .i64 0]) ∧ IsDev w' v' D1 ∧ Below W.heap.size W w' := fun W v ht hd => by
      have := headPut v (fresh 4) ⟨op, ol, oe - 1⟩ W ht hd (fresh_ok 4 (by decide) (by decide)) (by decide) (by show 2 ≤ 4; decide)
      unfold DevErr at this
      rw [e1] at this
      exact this
    have cal1 : Calm D1 4 (putS (fun _ => nought) ⟨op, ol, oe - 1⟩) 2 := cal1
    have hol := older_next (old := ⟨op, ol, oe⟩) (before := ⟨op, ol, oe - 1⟩) rfl (show 1 < oe by omega)
    have hs1 : ∀ j, j < 4 → (putS (fun _ => nought) ⟨op, ol, oe - 1⟩ j).size = 256 := putS_size (fun _ _ => nought_size)
    generalize putS (fun _ => nought) ⟨op, ol, oe - 1⟩ = S1 at cal1 hol hs1
    have i6 : 0 < oe - 1 := by omega
    clear e1 hbr
    have hp_0 : (_ : World).cell? ⟨g7, 0, none⟩ = some (.int .i64 op) := hp.c0
    have hp_1 : (_ : World).cell? ⟨g7, 1, none⟩ = some (.int .i64 ol) := hp.c1
    have hp_2 : (_ : World).cell? ⟨g7, 2, none⟩ = some (.int .i64 (oe - 1)) := hp.c2
    have hp_f := hp.f
    have hs_0 : (_ : World).cell? ⟨g5, 0, none⟩ = some (.slice A0 n0 c0) := hs.c0
    have hs_1 : (_ : World).cell? ⟨g5, 1, none⟩ = some (.slice B0 m0 k0) := hs.c1
    have hs_2 : (_ : World).cell? ⟨g5, 2, none⟩ = some (.bool dd0) := hs.c2
    have hs_3 : (_ : World).cell? ⟨g5, 3, none⟩ = some (.int .i64 lf0) := hs.c3
    have hs_4 : (_ : World).cell? ⟨g5, 4, none⟩ = some (.int .i64 ds0) := hs.c4
    have hs_f := hs.f
    go_wp2_with fail
    refine (hPb _ _ (HT.out.below hB) hd).mono ?_
    rintro e w7 ⟨v1, rfl, hd1, hv⟩
    clear hp_0 hp_1 hp_2 hp_f hs_0 hs_1 hs_2 hs_3 hs_4 hs_f
    have hh := hh.below hv hh.lt
    have hp := hp.below hv hp.lt
    have hs := hs.below hv hs.lt5
    have hf := hf.below hv (World.block_lt_of_cell? _ _ hf.c0)
    have hd := hd.below hv (Nat.le_refl _)
    have hB := hB.trans (hv.mono hB.size)
    clear hv
    obtain ⟨A1, n1, c1, B1, m1, k1, dd1, lf1, ds1, rfl⟩ := dev_form hd1
    have hn41 : 1 ≤ D1.n := by rw [cal1.n]; decide
    clear hd hPb
    go_upto_region 8 with (first
      | (refine wpList_store5 rfl 39 (.tmp 5) (.tmp 46) rfl g5 _ _ _ _ _ _ _ _ _ _ rfl rfl hs size31 (by simp [Value.oneCell']) ?_
         intro w8a hnw hb
         have hd1 := hd1.but hn41 hs.c0 hb
         have hh := hh.but hb (by omega)
         have hp := hp.but hb (by omega)
         have hf := box3_but hf hb (by omega)
         have hs := hnw
         have hB := hB.trans (hb.below w_hs)
         clear hnw hb))
    have hd := hd1
    have hn4 := hn41
    clear hd1 hn41
    have ok1 := cal1.ok (by decide) (by decide) hs1
    obtain ⟨D2, e2, cal2⟩ := put_calm cal1 ho
    have hs2 : ∀ j, j < 4 → (putS S1 ⟨op, ol, oe⟩ j).size = 256 := putS_size hs1
    have ok2 := cal2.ok (by decide) (by decide) hs2
    obtain ⟨Z, e7, cal7⟩ := put_calm cal2 hnr
    have ok7 := cal7.ok (by decide) (by decide) (putS_size hs2)
    obtain ⟨D8, e8, cal8⟩ := newest_calm cal7
    rw [next_law ho hnr rfl, if_neg (show ¬ oe + 1 = 0 by omega)] at e8
    have ex := torn_put cal2 hnr
    obtain ⟨kk, hkk, calY⟩ := torn_start (h := ⟨op, ol, oe + 1⟩) cal2 f
    have hsy := tornS_size (h := ⟨op, ol, oe + 1⟩) hkk hs2
    have okY := calY.ok (by decide) (by decide) hsy
    obtain ⟨D6, e6, cal6⟩ := newest_calm calY
    have htl := torn_law (next := ⟨op, ol, oe + 1⟩) ho rfl hkk hol
    have okA := ok2.armed 1 (by decide)
    have hnX : (((armed D2 1).putAt ((oe + 1) % 2) (headB ⟨op, ol, oe + 1⟩)).down).n = 4 := cal2.n
    have okX : (((armed D2 1).putAt ((oe + 1) % 2) (headB ⟨op, ol, oe + 1⟩)).down).Ok 7 := by
      have h1 : (armed D2 1).has ((oe + 1) % 2) = true := by
        unfold Dev.has
        have : (armed D2 1).n = 4 := cal2.n
        exact decide_eq_true ⟨by omega, by omega⟩
      exact (okA.put _ _ h1 (by rw [headB_size]; decide)).down.more (by decide)
    have hPo : ∀ W v, Tab W → IsDev W v D1 → Calls Tryd.prog 24 #[v, .agg #[.int .i64 op, .int .i64 ol, .int .i64 oe]] W fun e w' => ∃ v', e = .returned (.tuple #[v', .int .i64 0]) ∧ IsDev w' v' D2 ∧ Below W.heap.size W w' := fun W v ht hd => by
      have := headPut v D1 ⟨op, ol, oe⟩ W ht hd ok1 (by decide) (by rw [cal1.n]; decide)
      unfold DevErr at this
      rw [e2] at this
      exact this
    have hArm := fun W v (hd : IsDev W v D2) => refArm_dev v D2 1 W hd
    have hPx : ∀ W v, Tab W → IsDev W v (armed D2 1) → Calls Tryd.prog 24 #[v, .agg #[.int .i64 op, .int .i64 ol, .int .i64 (oe + 1)]] W fun e w' => ∃ v', e = .returned (.tuple #[v', .int .i64 10]) ∧ IsDev w' v' (((armed D2 1).putAt ((oe + 1) % 2) (headB ⟨op, ol, oe + 1⟩)).down) ∧ Below W.heap.size W w' := fun W v ht hd => by
      have := headPut v (armed D2 1) ⟨op, ol, oe + 1⟩ W ht hd okA (by decide) (by show 2 ≤ D2.n; rw [cal2.n]; decide)
      unfold DevErr at this
      rw [ex] at this
      exact this
    have hPz : ∀ W v, Tab W → IsDev W v D2 → Calls Tryd.prog 24 #[v, .agg #[.int .i64 op, .int .i64 ol, .int .i64 (oe + 1)]] W fun e w' => ∃ v', e = .returned (.tuple #[v', .int .i64 0]) ∧ IsDev w' v' Z ∧ Below W.heap.size W w' := fun W v ht hd => by
      have := headPut v D2 ⟨op, ol, oe + 1⟩ W ht hd ok2 (by decide) (by rw [cal2.n]; decide)
      unfold DevErr at this
      rw [e7] at this
      exact this
    have hNz : ∀ W v, Tab W → IsDev W v Z → Calls Tryd.prog 22 #[v] W fun e w' => ∃ v', e = .returned (.tuple #[v', .agg #[.int .i64 op, .int .i64 ol, .int .i64 (oe + 1)], .int .i64 0]) ∧ IsDev w' v' D8 ∧ Below W.heap.size W w' := fun W v ht hd => by
      have := newest_any v Z W ht hd ok7 (by decide) (by rw [cal7.n]; decide)
      unfold NewPost at this
      rw [e8] at this
      exact this
    have hNy0 := fun W v (ht : Tab W) hd => newest_any v ((((armed D2 1).putAt ((oe + 1) % 2) (headB ⟨op, ol, oe + 1⟩)).down).started f) W ht hd okY (by decide) (by rw [calY.n]; decide)
    have hBe : ∀ W v, IsDev W v ((((armed D2 1).putAt ((oe + 1) % 2) (headB ⟨op, ol, oe + 1⟩)).down).started f) → Calls Tryd.prog 29 #[v, .agg #[.int .i64 op, .int .i64 ol, .int .i64 oe], .agg #[.int .i64 op, .int .i64 ol, .int .i64 (oe + 1)]] W fun e w' => ∃ b : Bool, e = .returned (.bool b) ∧ (b = true ↔ Chance (tornS (putS S1 ⟨op, ol, oe⟩) ⟨op, ol, oe + 1⟩ kk) ⟨op, ol, oe⟩ ⟨op, ol, oe + 1⟩ 0 ∨ Chance (tornS (putS S1 ⟨op, ol, oe⟩) ⟨op, ol, oe + 1⟩ kk) ⟨op, ol, oe⟩ ⟨op, ol, oe + 1⟩ 1) ∧ Below W.heap.size W w' := fun W v hd => by
      have := bent_any v _ ⟨op, ol, oe⟩ ⟨op, ol, oe + 1⟩ W hd (by rw [calY.n]; decide) (by rw [calY.n]; decide) (by rw [calY.n, calY.s]; exact hsy)
      rw [calY.s] at this
      exact this
    have hSt := fun W v (hd : IsDev W v (((armed D2 1).putAt ((oe + 1) % 2) (headB ⟨op, ol, oe + 1⟩)).down)) => refStart_any v _ f W hd okX (by decide) hf0 hf1
    have hnn : 1 ≤ D2.n ∧ 1 ≤ (((armed D2 1).putAt ((oe + 1) % 2) (headB ⟨op, ol, oe + 1⟩)).down).n ∧ 1 ≤ ((((armed D2 1).putAt ((oe + 1) % 2) (headB ⟨op, ol, oe + 1⟩)).down).started f).n ∧ 1 ≤ Z.n := by rw [cal2.n, hnX, calY.n, cal7.n]; decide
    have hor0 : ¬ (Chance (tornS (putS S1 ⟨op, ol, oe⟩) ⟨op, ol, oe + 1⟩ kk) ⟨op, ol, oe⟩ ⟨op, ol, oe + 1⟩ 0 ∨ Chance (tornS (putS S1 ⟨op, ol, oe⟩) ⟨op, ol, oe + 1⟩ kk) ⟨op, ol, oe⟩ ⟨op, ol, oe + 1⟩ 1) → ∃ r : H, (r = ⟨op, ol, oe⟩ ∨ r = ⟨op, ol, oe + 1⟩) ∧ newestR ((((armed D2 1).putAt ((oe + 1) % 2) (headB ⟨op, ol, oe + 1⟩)).down).started f) = (D6, r, 0) := fun hc => by
      have hb := htl hc
      refine ⟨_, hb, e6.trans (if_neg ?_)⟩
      rcases hb with h | h
      · rw [h]
        show ¬ oe = 0
        omega
      · rw [h]
        show ¬ oe + 1 = 0
        omega
    generalize ((((armed D2 1).putAt ((oe + 1) % 2) (headB ⟨op, ol, oe + 1⟩)).down).started f) = Y at hNy0 hBe hSt hnn hor0
    generalize (((armed D2 1).putAt ((oe + 1) % 2) (headB ⟨op, ol, oe + 1⟩)).down) = X at hPx hSt hnn
    generalize (Chance (tornS (putS S1 ⟨op, ol, oe⟩) ⟨op, ol, oe + 1⟩ kk) ⟨op, ol, oe⟩ ⟨op, ol, oe + 1⟩ 0 ∨ Chance (tornS (putS S1 ⟨op, ol, oe⟩) ⟨op, ol, oe + 1⟩ kk) ⟨op, ol, oe⟩ ⟨op, ol, oe + 1⟩ 1) = CHN at hBe hor0
    have HN := Lib.hid (And.intro hnn.1 hnn.2.1)
    have HN2 := Lib.hid (And.intro hnn.2.2.1 hnn.2.2.2)
    have HOR := Lib.hid hor0
    have hso := hs1
    clear hnn hor0 hs1 ok1 e2 cal1 hol hs2 ok2 e7 cal7 ok7 e8 cal8 ex calY hsy okY e6 cal6 htl okA hnX okX cal2 hkk hso
    have hs_0 : (_ : World).cell? ⟨g5, 0, none⟩ = some (.slice A1 n1 c1) := hs.c0
    have hs_1 : (_ : World).cell? ⟨g5, 1, none⟩ = some (.slice B1 m1 k1) := hs.c1
    have hs_2 : (_ : World).cell? ⟨g5, 2, none⟩ = some (.bool dd1) := hs.c2
    have hs_3 : (_ : World).cell? ⟨g5, 3, none⟩ = some (.int .i64 lf1) := hs.c3
    have hs_4 : (_ : World).cell? ⟨g5, 4, none⟩ = some (.int .i64 ds1) := hs.c4
    have hs_f := hs.f
    have hh_0 : (_ : World).cell? ⟨g2, 0, none⟩ = some (.int .i64 op) := hh.c0
    have hh_1 : (_ : World).cell? ⟨g2, 1, none⟩ = some (.int .i64 ol) := hh.c1
    have hh_2 : (_ : World).cell? ⟨g2, 2, none⟩ = some (.int .i64 oe) := hh.c2
    have hh_f := hh.f
    go_wp2_with fail
    refine (hPo _ _ (HT.out.below hB) hd).mono ?_
    rintro e w9 ⟨v2, rfl, hd2, hv⟩
    clear hs_0 hs_1 hs_2 hs_3 hs_4 hs_f hh_0 hh_1 hh_2 hh_f
    have hh := hh.below hv hh.lt
    have hp := hp.below hv hp.lt
    have hs := hs.below hv hs.lt5
    have hf := hf.below hv (World.block_lt_of_cell? _ _ hf.c0)
    have hd := hd.below hv (Nat.le_refl _)
    have hB := hB.trans (hv.mono hB.size)
    clear hv
    obtain ⟨A2, n2, c2, B2, m2, k2, dd2, lf2, ds2, rfl⟩ := dev_form hd2
    clear hd
    go_upto_region 9 with (first
      | (refine wpList_store5 rfl 39 (.tmp 5) (.tmp 52) rfl g5 _ _ _ _ _ _ _ _ _ _ rfl rfl hs size31 (by simp [Value.oneCell']) ?_
         intro waa hnw hb
         have hd2 := hd2.but HN.out.1 hs.c0 hb
         have hh := hh.but hb (by omega)
         have hp := hp.but hb (by omega)
         have hf := box3_but hf hb (by omega)
         have hs := hnw
         have hB := hB.trans (hb.below w_hs)
         clear hnw hb))
    have hd := hd2
    clear hd2 hp
    have hh_0 : (_ : World).cell? ⟨g2, 0, none⟩ = some (.int .i64 op) := hh.c0
    have hh_1 : (_ : World).cell? ⟨g2, 1, none⟩ = some (.int .i64 ol) := hh.c1
    have hh_2 : (_ : World).cell? ⟨g2, 2, none⟩ = some (.int .i64 oe) := hh.c2
    have hh_f := hh.f
    go_upto_region 10 with fail
    clear hh_0 hh_1 hh_2 hh_f
    have hv := (Below.refl waa.heap.size waa).alloc (Nat.le_refl _) (.cells #[.int .i64 op, .int .i64 ol, .int .i64 oe] 23)
    have hn : BoxH (waa.alloc (.cells #[.int .i64 op, .int .i64 ol, .int .i64 oe] 23)) waa.heap.size ⟨op, ol, oe⟩ := BoxH.new waa ⟨op, ol, oe⟩ 23
    have o_hh_hn : g2 < _ := hh.lt
    have o_hs_hn : g5 < _ := hs.lt5
    have o_hf_hn : g3 < _ := (World.block_lt_of_cell? _ _ hf.c0)
    have w_hn := hB.size
    have hh := hh.below hv hh.lt
    have hs := hs.below hv hs.lt5
    have hf := hf.below hv (World.block_lt_of_cell? _ _ hf.c0)
    have hd := hd.below hv (Nat.le_refl _)
    have hB := hB.trans (hv.mono hB.size)
    clear hv
    generalize waa.alloc (.cells #[.int .i64 op, .int .i64 ol, .int .i64 oe] 23) = wb at hh hn hs hf hd hB ⊢
    generalize hg_hn : waa.heap.size = g9 at hn w_hn o_hh_hn o_hs_hn o_hf_hn ⊢
    clear hg_hn
    have hn_0 : (_ : World).cell? ⟨g9, 0, none⟩ = some (.int .i64 op) := hn.c0
    have hn_1 : (_ : World).cell? ⟨g9, 1, none⟩ = some (.int .i64 ol) := hn.c1
    have hn_2 : (_ : World).cell? ⟨g9, 2, none⟩ = some (.int .i64 oe) := hn.c2
    have hn_f := hn.f
    go_upto_region 11 with fail
    clear hn_0 hn_1 hn_2 hn_f
    have hb := (But.refl g9 wb).setCell 2 (.int .i64 (oe + 1))
    have hd := dev_butH hd HN.out.1 hn hb
    have hh := hh.but hb (by omega)
    have hn := hn.epoch (oe + 1)
    have hf := box3_but hf hb (by omega)
    have hs := hs.but hb (by omega)
    have hB := hB.setCell (p := ⟨g9, 2, none⟩) w_hn (.int .i64 (oe + 1))
    clear hb
    generalize wb.setCell ⟨g9, 2, none⟩ (.int .i64 (oe + 1)) = wc0 at hh hn hs hf hd hB ⊢
    go_cut [10, 11] from 59 to 65 (fun p er wx => ∃ (gq : Nat) (A4 : Option Addr) (n4 c4 : Nat) (B4 : Option Addr) (m4 k4 : Nat) (dd4 : Bool) (lf4 ds4 : Int), p = .pointer (some ⟨gq, 0, none⟩) ∧ er = .int .i64 10 ∧ TornM w ⟨op, ol, oe⟩ ⟨op, ol, oe + 1⟩ f D2 X g2 g3 g5 g9 gq A2 n2 c2 B2 m2 k2 dd2 lf2 ds2 A4 n4 c4 B4 m4 k4 dd4 lf4 ds4 wx)
    case first =>
      have hdr := (Below.refl wc0.heap.size wc0).drew
      have hf := hf.below hdr (World.block_lt_of_cell? _ _ hf.c0)
      have hh := hh.below hdr hh.lt
      have hn := hn.below hdr hn.lt
      have hs := hs.below hdr hs.lt5
      have hd := hd.below hdr (Nat.le_refl _)
      have hB := hB.trans (hdr.mono hB.size)
      clear hdr
      refine Lex.region_tree (ops := htoops) htotree (fun W => W.cell? ⟨g5, 0, none⟩ = some (.slice A2 n2 c2) ∧ W.cell? ⟨g5, 1, none⟩ = some (.slice B2 m2 k2) ∧ W.cell? ⟨g5, 2, none⟩ = some (.bool dd2) ∧ W.cell? ⟨g5, 3, none⟩ = some (.int .i64 lf2) ∧ W.cell? ⟨g5, 4, none⟩ = some (.int .i64 ds2) ∧ W.cell? ⟨g9, 0, none⟩ = some (.int .i64 op) ∧ W.cell? ⟨g9, 1, none⟩ = some (.int .i64 ol) ∧ W.cell? ⟨g9, 2, none⟩ = some (.int .i64 (oe + 1))) (by kernel_rfl) (by kernel_rfl) htosel htolex (⟨hs.c0, hs.c1, hs.c2, hs.c3, hs.c4, hn.c0, hn.c1, hn.c2⟩) ?_
      unfold htotree
      generalize wc0.drew = wd at hh hn hs hd hf hB ⊢
      refine Lex.tree_take (.agg #[.slice A2 n2 c2, .slice B2 m2 k2, .bool dd2, .int .i64 lf2, .int .i64 ds2]) hto0 (Lex.want_none rfl) (by intro Wx hSw; (try dsimp only at hSw); go_simp; (try (first | (with_reducible rfl) | assumption | rfl))) ?_
      simp only [Act.put, List.setIfInBounds_toArray, List.set_cons_zero, List.set_cons_succ]
      refine Lex.tree_take (.agg #[.int .i64 op, .int .i64 ol, .int .i64 (oe + 1)]) hto2 (Lex.want_none rfl) (by intro Wx hSw; (try dsimp only at hSw); go_simp; (try (first | (with_reducible rfl) | assumption | rfl))) ?_
      simp only [Act.put, List.setIfInBounds_toArray, List.set_cons_zero, List.set_cons_succ]
      refine Lex.tree_call hto1 (Lex.want_none rfl) (fun K hK => ?_) ?_
      · go_simp
        refine (hArm _ _ hd).mono ?_
        rintro e ya ⟨va, rfl, hda, hv⟩
        obtain ⟨A3, n3, c3, B3, m3, k3, dd3, lf3, ds3, rfl⟩ := dev_form hda
        have hf := hf.below hv (World.block_lt_of_cell? _ _ hf.c0)
        have hh := hh.below hv hh.lt
        have hn := hn.below hv hn.lt
        have hs := hs.below hv hs.lt5
        have hd := hd.below hv (Nat.le_refl _)
        have hB := hB.trans (hv.mono hB.size)
        clear hv
        refine hK.out _ _ _ (fun _ h => h) ⟨hs.c0, hs.c1, hs.c2, hs.c3, hs.c4, hn.c0, hn.c1, hn.c2⟩ ?_
        clear hK K
        try simp only [Act.put, List.setIfInBounds_toArray, List.set_cons_zero, List.set_cons_succ]
        refine Lex.tree_call hto3 (Lex.want_none rfl) (fun K hK => ?_) ?_
        · go_simp
          refine (hPx _ _ (HT.out.below hB) hda).mono ?_
          rintro e yp ⟨vp, rfl, hdx, hv⟩
          obtain ⟨A4, n4, c4, B4, m4, k4, dd4, lf4, ds4, rfl⟩ := dev_form hdx
          have hf := hf.below hv (World.block_lt_of_cell? _ _ hf.c0)
          have hh := hh.below hv hh.lt
          have hn := hn.below hv hn.lt
          have hs := hs.below hv hs.lt5
          have hd := hd.below hv (Nat.le_refl _)
          have hda := hda.below hv (Nat.le_refl _)
          have hB := hB.trans (hv.mono hB.size)
          clear hv
          refine hK.out _ _ _ (fun _ h => h) ⟨hs.c0, hs.c1, hs.c2, hs.c3, hs.c4, hn.c0, hn.c1, hn.c2⟩ ?_
          clear hK K
          try simp only [Act.put, List.setIfInBounds_toArray, List.set_cons_zero, List.set_cons_succ]
          refine Lex.tree_take (.tuple #[.agg #[.slice A4 n4 c4, .slice B4 m4 k4, .bool dd4, .int .i64 lf4, .int .i64 ds4], .int .i64 10]) hto4 (Lex.want_none rfl) (by intro Wx hSw; (try dsimp only at hSw); go_simp; (try (first | (with_reducible rfl) | assumption | rfl))) ?_
          simp only [Act.put, List.setIfInBounds_toArray, List.set_cons_zero, List.set_cons_succ]
          refine Lex.tree_take (.agg #[.slice A4 n4 c4, .slice B4 m4 k4, .bool dd4, .int .i64 lf4, .int .i64 ds4]) hto5 (Lex.want_none rfl) (by intro Wx hSw; (try dsimp only at hSw); go_simp; (try (first | (with_reducible rfl) | assumption | rfl))) ?_
          simp only [Act.put, List.setIfInBounds_toArray, List.set_cons_zero, List.set_cons_succ]
          refine Lex.tree_take (.int .i64 10) hto6 (Lex.want_none rfl) (by intro Wx hSw; (try dsimp only at hSw); go_simp; (try (first | (with_reducible rfl) | assumption | rfl))) ?_
          simp only [Act.put, List.setIfInBounds_toArray, List.set_cons_zero, List.set_cons_succ]
          refine Lex.tree_call hto7 (Lex.want_none rfl) (fun K hK => ?_) Lex.tree_no
          go_simp
          have hnw := (Below.refl yp.heap.size yp).alloc (Nat.le_refl _) (.cells #[.slice none 0 0, .slice none 0 0, .bool false, .int .i64 0, .int .i64 0] 39)
          have hx : Box5 (yp.alloc (.cells #[.slice none 0 0, .slice none 0 0, .bool false, .int .i64 0, .int .i64 0] 39)) yp.heap.size (.slice none 0 0) (.slice none 0 0) (.bool false) (.int .i64 0) (.int .i64 0) := Box5.new yp (.slice none 0 0) (.slice none 0 0) (.bool false) (.int .i64 0) (.int .i64 0) 39
          have l1 := hh.lt
          have l2 := hn.lt
          have l3 := hs.lt5
          have l4 : g3 < _ := World.block_lt_of_cell? _ _ hf.c0
          have wx := hB.size
          have hf := hf.below hnw (World.block_lt_of_cell? _ _ hf.c0)
          have hh := hh.below hnw hh.lt
          have hn := hn.below hnw hn.lt
          have hs := hs.below hnw hs.lt5
          have hd := hd.below hnw (Nat.le_refl _)
          have hdx := hdx.below hnw (Nat.le_refl _)
          have hB := hB.trans (hnw.mono hB.size)
          clear hnw
          generalize yp.alloc (.cells #[.slice none 0 0, .slice none 0 0, .bool false, .int .i64 0, .int .i64 0] 39) = zyp at hh hn hs hd hf hB hx hdx ⊢
          generalize yp.heap.size = gq at hx l1 l2 l3 l4 wx ⊢
          refine hK.out _ _ _ (fun _ h => h) ⟨hs.c0, hs.c1, hs.c2, hs.c3, hs.c4, hn.c0, hn.c1, hn.c2⟩ ?_
          clear hK K
          try simp only [Act.put, List.setIfInBounds_toArray, List.set_cons_zero, List.set_cons_succ]
          refine Lex.tree_call hto8 (Lex.want_none rfl) (fun K hK => ?_) Lex.tree_no
          have k0 := hx.c0
          have k1 := hx.c1
          have k2 := hx.c2
          have k3x := hx.c3
          have k4x := hx.c4
          have kf := hx.f
          go_simp
          clear k0 k1 k2 k3x k4x kf
          have hb := but5 zyp gq (.slice A4 n4 c4) (.slice B4 m4 k4) (.bool dd4) (.int .i64 lf4) (.int .i64 ds4)
          have hd := hd.but HN.out.1 hx.c0 hb
          have hdx := hdx.but HN.out.2 hx.c0 hb
          have hh := hh.but hb (by omega)
          have hn := hn.but hb (by omega)
          have hs := hs.but hb (by omega)
          have hf := box3_but hf hb (by omega)
          have hB := below_box5 hB wx (.slice A4 n4 c4) (.slice B4 m4 k4) (.bool dd4) (.int .i64 lf4) (.int .i64 ds4)
          have hx := hx.set (.slice A4 n4 c4) (.slice B4 m4 k4) (.bool dd4) (.int .i64 lf4) (.int .i64 ds4)
          clear hb
          generalize (((((zyp).setCell ⟨gq, 0, none⟩ (.slice A4 n4 c4)).setCell ⟨gq, 1, none⟩ (.slice B4 m4 k4)).setCell ⟨gq, 2, none⟩ (.bool dd4)).setCell ⟨gq, 3, none⟩ (.int .i64 lf4)).setCell ⟨gq, 4, none⟩ (.int .i64 ds4) = s9 at hh hn hs hd hdx hf hB hx ⊢
          refine hK.out _ _ _ (fun _ h => h) ⟨hs.c0, hs.c1, hs.c2, hs.c3, hs.c4, hn.c0, hn.c1, hn.c2⟩ ?_
          clear hK K
          try simp only [Act.put, List.setIfInBounds_toArray, List.set_cons_zero, List.set_cons_succ]
          refine Lex.tree_take (.int .i64 10) hto9 (Lex.want_none rfl) (by intro Wx hSw; (try dsimp only at hSw); go_simp; (try (first | (with_reducible rfl) | assumption | rfl))) ?_
          simp only [Act.put, List.setIfInBounds_toArray, List.set_cons_zero, List.set_cons_succ]
          refine Lex.tree_end ?_
          refine NoPanic.normal ?_
          have HM := Lib.hid (TornM.mk hh hf hs hd hn hx hdx hB l1 l2 l3 l4 wx)
          clear hh hf hs hd hn hx hdx hB l1 l2 l3 l4 wx
          (try clear hda)
          go_wp2
          go_meet
          case rel => exact ⟨gq, _, _, _, _, _, _, _, _, _, rfl, rfl, HM.out⟩
        refine Lex.tree_call hto7 (Lex.want_none rfl) (fun K hK => ?_) Lex.tree_no
        go_simp
        have hnw := (Below.refl ya.heap.size ya).alloc (Nat.le_refl _) (.cells #[.slice none 0 0, .slice none 0 0, .bool false, .int .i64 0, .int .i64 0] 39)
        have hx : Box5 (ya.alloc (.cells #[.slice none 0 0, .slice none 0 0, .bool false, .int .i64 0, .int .i64 0] 39)) ya.heap.size (.slice none 0 0) (.slice none 0 0) (.bool false) (.int .i64 0) (.int .i64 0) := Box5.new ya (.slice none 0 0) (.slice none 0 0) (.bool false) (.int .i64 0) (.int .i64 0) 39
        have l1 := hh.lt
        have l2 := hn.lt
        have l3 := hs.lt5
        have l4 : g3 < _ := World.block_lt_of_cell? _ _ hf.c0
        have wx := hB.size
        have hf := hf.below hnw (World.block_lt_of_cell? _ _ hf.c0)
        have hh := hh.below hnw hh.lt
        have hn := hn.below hnw hn.lt
        have hs := hs.below hnw hs.lt5
        have hd := hd.below hnw (Nat.le_refl _)
        have hda := hda.below hnw (Nat.le_refl _)
        have hB := hB.trans (hnw.mono hB.size)
        clear hnw
        generalize ya.alloc (.cells #[.slice none 0 0, .slice none 0 0, .bool false, .int .i64 0, .int .i64 0] 39) = zya at hh hn hs hd hf hB hx hda ⊢
        generalize ya.heap.size = gq at hx l1 l2 l3 l4 wx ⊢
        refine hK.out _ _ _ (fun _ h => h) ⟨hs.c0, hs.c1, hs.c2, hs.c3, hs.c4, hn.c0, hn.c1, hn.c2⟩ ?_
        clear hK K
        try simp only [Act.put, List.setIfInBounds_toArray, List.set_cons_zero, List.set_cons_succ]
        refine Lex.tree_call hto3 (Lex.want_none rfl) (fun K hK => ?_) Lex.tree_no
        go_simp
        refine (hPx _ _ (HT.out.below hB) hda).mono ?_
        rintro e yp ⟨vp, rfl, hdx, hv⟩
        obtain ⟨A4, n4, c4, B4, m4, k4, dd4, lf4, ds4, rfl⟩ := dev_form hdx
        have hf := hf.below hv (World.block_lt_of_cell? _ _ hf.c0)
        have hh := hh.below hv hh.lt
        have hn := hn.below hv hn.lt
        have hs := hs.below hv hs.lt5
        have hd := hd.below hv (Nat.le_refl _)
        have hx := hx.below hv hx.lt5
        have hda := hda.below hv (Nat.le_refl _)
        have hB := hB.trans (hv.mono hB.size)
        clear hv
        refine hK.out _ _ _ (fun _ h => h) ⟨hs.c0, hs.c1, hs.c2, hs.c3, hs.c4, hn.c0, hn.c1, hn.c2⟩ ?_
        clear hK K
        try simp only [Act.put, List.setIfInBounds_toArray, List.set_cons_zero, List.set_cons_succ]
        refine Lex.tree_take (.tuple #[.agg #[.slice A4 n4 c4, .slice B4 m4 k4, .bool dd4, .int .i64 lf4, .int .i64 ds4], .int .i64 10]) hto4 (Lex.want_none rfl) (by intro Wx hSw; (try dsimp only at hSw); go_simp; (try (first | (with_reducible rfl) | assumption | rfl))) ?_
        simp only [Act.put, List.setIfInBounds_toArray, List.set_cons_zero, List.set_cons_succ]
        refine Lex.tree_take (.agg #[.slice A4 n4 c4, .slice B4 m4 k4, .bool dd4, .int .i64 lf4, .int .i64 ds4]) hto5 (Lex.want_none rfl) (by intro Wx hSw; (try dsimp only at hSw); go_simp; (try (first | (with_reducible rfl) | assumption | rfl))) ?_
        simp only [Act.put, List.setIfInBounds_toArray, List.set_cons_zero, List.set_cons_succ]
        refine Lex.tree_take (.int .i64 10) hto6 (Lex.want_none rfl) (by intro Wx hSw; (try dsimp only at hSw); go_simp; (try (first | (with_reducible rfl) | assumption | rfl))) ?_
        simp only [Act.put, List.setIfInBounds_toArray, List.set_cons_zero, List.set_cons_succ]
        refine Lex.tree_call hto8 (Lex.want_none rfl) (fun K hK => ?_) Lex.tree_no
        have k0 := hx.c0
        have k1 := hx.c1
        have k2 := hx.c2
        have k3x := hx.c3
        have k4x := hx.c4
        have kf := hx.f
        go_simp
        clear k0 k1 k2 k3x k4x kf
        have hb := but5 yp gq (.slice A4 n4 c4) (.slice B4 m4 k4) (.bool dd4) (.int .i64 lf4) (.int .i64 ds4)
        have hd := hd.but HN.out.1 hx.c0 hb
        have hdx := hdx.but HN.out.2 hx.c0 hb
        have hh := hh.but hb (by omega)
        have hn := hn.but hb (by omega)
        have hs := hs.but hb (by omega)
        have hf := box3_but hf hb (by omega)
        have hB := below_box5 hB wx (.slice A4 n4 c4) (.slice B4 m4 k4) (.bool dd4) (.int .i64 lf4) (.int .i64 ds4)
        have hx := hx.set (.slice A4 n4 c4) (.slice B4 m4 k4) (.bool dd4) (.int .i64 lf4) (.int .i64 ds4)
        clear hb
        generalize (((((yp).setCell ⟨gq, 0, none⟩ (.slice A4 n4 c4)).setCell ⟨gq, 1, none⟩ (.slice B4 m4 k4)).setCell ⟨gq, 2, none⟩ (.bool dd4)).setCell ⟨gq, 3, none⟩ (.int .i64 lf4)).setCell ⟨gq, 4, none⟩ (.int .i64 ds4) = s9 at hh hn hs hd hdx hf hB hx ⊢
        refine hK.out _ _ _ (fun _ h => h) ⟨hs.c0, hs.c1, hs.c2, hs.c3, hs.c4, hn.c0, hn.c1, hn.c2⟩ ?_
        clear hK K
        try simp only [Act.put, List.setIfInBounds_toArray, List.set_cons_zero, List.set_cons_succ]
        refine Lex.tree_take (.int .i64 10) hto9 (Lex.want_none rfl) (by intro Wx hSw; (try dsimp only at hSw); go_simp; (try (first | (with_reducible rfl) | assumption | rfl))) ?_
        simp only [Act.put, List.setIfInBounds_toArray, List.set_cons_zero, List.set_cons_succ]
        refine Lex.tree_end ?_
        refine NoPanic.normal ?_
        have HM := Lib.hid (TornM.mk hh hf hs hd hn hx hdx hB l1 l2 l3 l4 wx)
        clear hh hf hs hd hn hx hdx hB l1 l2 l3 l4 wx
        (try clear hda)
        go_wp2
        go_meet
        case rel => exact ⟨gq, _, _, _, _, _, _, _, _, _, rfl, rfl, HM.out⟩
      refine Lex.tree_call hto7 (Lex.want_none rfl) (fun K hK => ?_) Lex.tree_no
      go_simp
      have hnw := (Below.refl wd.heap.size wd).alloc (Nat.le_refl _) (.cells #[.slice none 0 0, .slice none 0 0, .bool false, .int .i64 0, .int .i64 0] 39)
      have hx : Box5 (wd.alloc (.cells #[.slice none 0 0, .slice none 0 0, .bool false, .int .i64 0, .int .i64 0] 39)) wd.heap.size (.slice none 0 0) (.slice none 0 0) (.bool false) (.int .i64 0) (.int .i64 0) := Box5.new wd (.slice none 0 0) (.slice none 0 0) (.bool false) (.int .i64 0) (.int .i64 0) 39
      have l1 := hh.lt
      have l2 := hn.lt
      have l3 := hs.lt5
      have l4 : g3 < _ := World.block_lt_of_cell? _ _ hf.c0
      have wx := hB.size
      have hf := hf.below hnw (World.block_lt_of_cell? _ _ hf.c0)
      have hh := hh.below hnw hh.lt
      have hn := hn.below hnw hn.lt
      have hs := hs.below hnw hs.lt5
      have hd := hd.below hnw (Nat.le_refl _)
      have hB := hB.trans (hnw.mono hB.size)
      clear hnw
      generalize wd.alloc (.cells #[.slice none 0 0, .slice none 0 0, .bool false, .int .i64 0, .int .i64 0] 39) = zwd at hh hn hs hd hf hB hx ⊢
      generalize wd.heap.size = gq at hx l1 l2 l3 l4 wx ⊢
      refine hK.out _ _ _ (fun _ h => h) ⟨hs.c0, hs.c1, hs.c2, hs.c3, hs.c4, hn.c0, hn.c1, hn.c2⟩ ?_
      clear hK K
      try simp only [Act.put, List.setIfInBounds_toArray, List.set_cons_zero, List.set_cons_succ]
      refine Lex.tree_call hto1 (Lex.want_none rfl) (fun K hK => ?_) Lex.tree_no
      go_simp
      refine (hArm _ _ hd).mono ?_
      rintro e ya ⟨va, rfl, hda, hv⟩
      obtain ⟨A3, n3, c3, B3, m3, k3, dd3, lf3, ds3, rfl⟩ := dev_form hda
      have hf := hf.below hv (World.block_lt_of_cell? _ _ hf.c0)
      have hh := hh.below hv hh.lt
      have hn := hn.below hv hn.lt
      have hs := hs.below hv hs.lt5
      have hd := hd.below hv (Nat.le_refl _)
      have hx := hx.below hv hx.lt5
      have hB := hB.trans (hv.mono hB.size)
      clear hv
      refine hK.out _ _ _ (fun _ h => h) ⟨hs.c0, hs.c1, hs.c2, hs.c3, hs.c4, hn.c0, hn.c1, hn.c2⟩ ?_
      clear hK K
      try simp only [Act.put, List.setIfInBounds_toArray, List.set_cons_zero, List.set_cons_succ]
      refine Lex.tree_call hto3 (Lex.want_none rfl) (fun K hK => ?_) Lex.tree_no
      go_simp
      refine (hPx _ _ (HT.out.below hB) hda).mono ?_
      rintro e yp ⟨vp, rfl, hdx, hv⟩
      obtain ⟨A4, n4, c4, B4, m4, k4, dd4, lf4, ds4, rfl⟩ := dev_form hdx
      have hf := hf.below hv (World.block_lt_of_cell? _ _ hf.c0)
      have hh := hh.below hv hh.lt
      have hn := hn.below hv hn.lt
      have hs := hs.below hv hs.lt5
      have hd := hd.below hv (Nat.le_refl _)
      have hx := hx.below hv hx.lt5
      have hda := hda.below hv (Nat.le_refl _)
      have hB := hB.trans (hv.mono hB.size)
      clear hv
      refine hK.out _ _ _ (fun _ h => h) ⟨hs.c0, hs.c1, hs.c2, hs.c3, hs.c4, hn.c0, hn.c1, hn.c2⟩ ?_
      clear hK K
      try simp only [Act.put, List.setIfInBounds_toArray, List.set_cons_zero, List.set_cons_succ]
      refine Lex.tree_take (.tuple #[.agg #[.slice A4 n4 c4, .slice B4 m4 k4, .bool dd4, .int .i64 lf4, .int .i64 ds4], .int .i64 10]) hto4 (Lex.want_none rfl) (by intro Wx hSw; (try dsimp only at hSw); go_simp; (try (first | (with_reducible rfl) | assumption | rfl))) ?_
      simp only [Act.put, List.setIfInBounds_toArray, List.set_cons_zero, List.set_cons_succ]
      refine Lex.tree_take (.agg #[.slice A4 n4 c4, .slice B4 m4 k4, .bool dd4, .int .i64 lf4, .int .i64 ds4]) hto5 (Lex.want_none rfl) (by intro Wx hSw; (try dsimp only at hSw); go_simp; (try (first | (with_reducible rfl) | assumption | rfl))) ?_
      simp only [Act.put, List.setIfInBounds_toArray, List.set_cons_zero, List.set_cons_succ]
      refine Lex.tree_take (.int .i64 10) hto6 (Lex.want_none rfl) (by intro Wx hSw; (try dsimp only at hSw); go_simp; (try (first | (with_reducible rfl) | assumption | rfl))) ?_
      simp only [Act.put, List.setIfInBounds_toArray, List.set_cons_zero, List.set_cons_succ]
      refine Lex.tree_call hto8 (Lex.want_none rfl) (fun K hK => ?_) Lex.tree_no
      have k0 := hx.c0
      have k1 := hx.c1
      have k2 := hx.c2
      have k3x := hx.c3
      have k4x := hx.c4
      have kf := hx.f
      go_simp
      clear k0 k1 k2 k3x k4x kf
      have hb := but5 yp gq (.slice A4 n4 c4) (.slice B4 m4 k4) (.bool dd4) (.int .i64 lf4) (.int .i64 ds4)
      have hd := hd.but HN.out.1 hx.c0 hb
      have hdx := hdx.but HN.out.2 hx.c0 hb
      have hh := hh.but hb (by omega)
      have hn := hn.but hb (by omega)
      have hs := hs.but hb (by omega)
      have hf := box3_but hf hb (by omega)
      have hB := below_box5 hB wx (.slice A4 n4 c4) (.slice B4 m4 k4) (.bool dd4) (.int .i64 lf4) (.int .i64 ds4)
      have hx := hx.set (.slice A4 n4 c4) (.slice B4 m4 k4) (.bool dd4) (.int .i64 lf4) (.int .i64 ds4)
      clear hb
      generalize (((((yp).setCell ⟨gq, 0, none⟩ (.slice A4 n4 c4)).setCell ⟨gq, 1, none⟩ (.slice B4 m4 k4)).setCell ⟨gq, 2, none⟩ (.bool dd4)).setCell ⟨gq, 3, none⟩ (.int .i64 lf4)).setCell ⟨gq, 4, none⟩ (.int .i64 ds4) = s9 at hh hn hs hd hdx hf hB hx ⊢
      refine hK.out _ _ _ (fun _ h => h) ⟨hs.c0, hs.c1, hs.c2, hs.c3, hs.c4, hn.c0, hn.c1, hn.c2⟩ ?_
      clear hK K
      try simp only [Act.put, List.setIfInBounds_toArray, List.set_cons_zero, List.set_cons_succ]
      refine Lex.tree_take (.int .i64 10) hto9 (Lex.want_none rfl) (by intro Wx hSw; (try dsimp only at hSw); go_simp; (try (first | (with_reducible rfl) | assumption | rfl))) ?_
      simp only [Act.put, List.setIfInBounds_toArray, List.set_cons_zero, List.set_cons_succ]
      refine Lex.tree_end ?_
      refine NoPanic.normal ?_
      have HM := Lib.hid (TornM.mk hh hf hs hd hn hx hdx hB l1 l2 l3 l4 wx)
      clear hh hf hs hd hn hx hdx hB l1 l2 l3 l4 wx
      (try clear hda)
      go_wp2
      go_meet
      case rel => exact ⟨gq, _, _, _, _, _, _, _, _, _, rfl, rfl, HM.out⟩
    case rest =>
      obtain ⟨g10, A4, n4, c4, B4, m4, k4, dd4, lf4, ds4, rfl, rfl, hM⟩ := hcut
      clear hh hn hs hd hf hB
      obtain ⟨hh, hf, hs, hd, hn, hx, hdx, hB, o_hh_hx, o_hn_hx, o_hs_hx, o_hf_hx, w_hx⟩ := hM
      have o_x : True := trivial
      have hx_0 : (_ : World).cell? ⟨g10, 0, none⟩ = some (.slice A4 n4 c4) := hx.c0
      have hx_1 : (_ : World).cell? ⟨g10, 1, none⟩ = some (.slice B4 m4 k4) := hx.c1
      have hx_2 : (_ : World).cell? ⟨g10, 2, none⟩ = some (.bool dd4) := hx.c2
      have hx_3 : (_ : World).cell? ⟨g10, 3, none⟩ = some (.int .i64 lf4) := hx.c3
      have hx_4 : (_ : World).cell? ⟨g10, 4, none⟩ = some (.int .i64 ds4) := hx.c4
      have hx_f := hx.f
      have hf_0 : (_ : World).cell? ⟨g3, 0, none⟩ = some (.int .u64 f.stay) := hf.c0
      have hf_1 : (_ : World).cell? ⟨g3, 1, none⟩ = some (.int .i64 f.torn) := hf.c1
      have hf_2 : (_ : World).cell? ⟨g3, 2, none⟩ = some (.int .i64 f.bytes) := hf.c2
      go_wp2_with fail
      refine (hSt _ _ hdx).mono ?_
      rintro e wd1 ⟨v5, rfl, hdy, hv⟩
      clear hx_0 hx_1 hx_2 hx_3 hx_4 hx_f hf_0 hf_1 hf_2
      have hh := hh.below hv hh.lt
      have hn := hn.below hv hn.lt
      have hs := hs.below hv hs.lt5
      have hx := hx.below hv hx.lt5
      have hf := hf.below hv (World.block_lt_of_cell? _ _ hf.c0)
      have hd := hd.below hv (Nat.le_refl _)
      have hdx := hdx.below hv (Nat.le_refl _)
      have hB := hB.trans (hv.mono hB.size)
      clear hv
      obtain ⟨A5, n5, c5, B5, m5, k5, dd5, lf5, ds5, rfl⟩ := dev_form hdy
      clear hx hdx hf
      go_upto_region 13 with fail
      have hv := (Below.refl wd1.heap.size wd1).alloc (Nat.le_refl _) (.cells #[.slice A5 n5 c5, .slice B5 m5 k5, .bool dd5, .int .i64 lf5, .int .i64 ds5] 39)
      have hy : Box5 (wd1.alloc (.cells #[.slice A5 n5 c5, .slice B5 m5 k5, .bool dd5, .int .i64 lf5, .int .i64 ds5] 39)) wd1.heap.size (.slice A5 n5 c5) (.slice B5 m5 k5) (.bool dd5) (.int .i64 lf5) (.int .i64 ds5) := Box5.new wd1 (.slice A5 n5 c5) (.slice B5 m5 k5) (.bool dd5) (.int .i64 lf5) (.int .i64 ds5) 39
      have o_hh_hy : g2 < _ := hh.lt
      have o_hn_hy : g9 < _ := hn.lt
      have o_hs_hy : g5 < _ := hs.lt5
      have w_hy := hB.size
      have hh := hh.below hv hh.lt
      have hn := hn.below hv hn.lt
      have hs := hs.below hv hs.lt5
      have hd := hd.below hv (Nat.le_refl _)
      have hdy := hdy.below hv (Nat.le_refl _)
      have hB := hB.trans (hv.mono hB.size)
      clear hv
      generalize wd1.alloc (.cells #[.slice A5 n5 c5, .slice B5 m5 k5, .bool dd5, .int .i64 lf5, .int .i64 ds5] 39) = we1 at hh hn hs hy hd hdy hB ⊢
      generalize wd1.heap.size = g12 at hy w_hy o_hh_hy o_hn_hy o_hs_hy ⊢
      have hy_0 : (_ : World).cell? ⟨g12, 0, none⟩ = some (.slice A5 n5 c5) := hy.c0
      have hy_1 : (_ : World).cell? ⟨g12, 1, none⟩ = some (.slice B5 m5 k5) := hy.c1
      have hy_2 : (_ : World).cell? ⟨g12, 2, none⟩ = some (.bool dd5) := hy.c2
      have hy_3 : (_ : World).cell? ⟨g12, 3, none⟩ = some (.int .i64 lf5) := hy.c3
      have hy_4 : (_ : World).cell? ⟨g12, 4, none⟩ = some (.int .i64 ds5) := hy.c4
      have hy_f := hy.f
      have hh_0 : (_ : World).cell? ⟨g2, 0, none⟩ = some (.int .i64 op) := hh.c0
      have hh_1 : (_ : World).cell? ⟨g2, 1, none⟩ = some (.int .i64 ol) := hh.c1
      have hh_2 : (_ : World).cell? ⟨g2, 2, none⟩ = some (.int .i64 oe) := hh.c2
      have hh_f := hh.f
      have hn_0 : (_ : World).cell? ⟨g9, 0, none⟩ = some (.int .i64 op) := hn.c0
      have hn_1 : (_ : World).cell? ⟨g9, 1, none⟩ = some (.int .i64 ol) := hn.c1
      have hn_2 : (_ : World).cell? ⟨g9, 2, none⟩ = some (.int .i64 (oe + 1)) := hn.c2
      have hn_f := hn.f
      go_wp2_with fail
      refine (hBe _ _ hdy).mono ?_
      rintro e wf ⟨bt, rfl, hbt, hv⟩
      clear hy_0 hy_1 hy_2 hy_3 hy_4 hy_f hh_0 hh_1 hh_2 hh_f hn_0 hn_1 hn_2 hn_f
      have hh := hh.below hv hh.lt
      have hn := hn.below hv hn.lt
      have hs := hs.below hv hs.lt5
      have hy := hy.below hv hy.lt5
      have hd := hd.below hv (Nat.le_refl _)
      have hdy := hdy.below hv (Nat.le_refl _)
      have hB := hB.trans (hv.mono hB.size)
      clear hv
      cases bt
      rotate_left
      · clear hs hd hn hh hy hdy
        go_wp2_with fail
        refine (awake_any _ (HT.out.below hB)).mono ?_
        rintro e wg ⟨rfl, hv⟩
        have HB := Lib.hid (hB.trans (hv.mono hB.size))
        clear hv hB
        go_wp2
        go_ret
        exact ⟨rfl, HB.out⟩
      obtain ⟨r, hor, er⟩ := HOR.out (fun h => by cases hbt.2 h)
      clear hbt
      obtain ⟨rp, rl, re⟩ := r
      have hNy : ∀ W v, Tab W → IsDev W v Y → Calls Tryd.prog 22 #[v] W fun e w' => ∃ v', e = .returned (.tuple #[v', .agg #[.int .i64 rp, .int .i64 rl, .int .i64 re], .int .i64 0]) ∧ IsDev w' v' D6 ∧ Below W.heap.size W w' := fun W v ht hd => by
        have := hNy0 W v ht hd
        unfold NewPost at this
        rw [er] at this
        exact this
      clear er hNy0
      have hy_0 : (_ : World).cell? ⟨g12, 0, none⟩ = some (.slice A5 n5 c5) := hy.c0
      have hy_1 : (_ : World).cell? ⟨g12, 1, none⟩ = some (.slice B5 m5 k5) := hy.c1
      have hy_2 : (_ : World).cell? ⟨g12, 2, none⟩ = some (.bool dd5) := hy.c2
      have hy_3 : (_ : World).cell? ⟨g12, 3, none⟩ = some (.int .i64 lf5) := hy.c3
      have hy_4 : (_ : World).cell? ⟨g12, 4, none⟩ = some (.int .i64 ds5) := hy.c4
      have hy_f := hy.f
      go_wp2_with fail
      refine (hNy _ _ (HT.out.below hB) hdy).mono ?_
      rintro e wg ⟨v6, rfl, hd6, hv⟩
      clear hy_0 hy_1 hy_2 hy_3 hy_4 hy_f
      have hh := hh.below hv hh.lt
      have hn := hn.below hv hn.lt
      have hs := hs.below hv hs.lt5
      have hy := hy.below hv hy.lt5
      have hd := hd.below hv (Nat.le_refl _)
      have hdy := hdy.below hv (Nat.le_refl _)
      have hB := hB.trans (hv.mono hB.size)
      clear hv
      obtain ⟨A6, n6, c6, B6, m6, k6, dd6, lf6, ds6, rfl⟩ := dev_form hd6
      clear hd6 hdy hy
      have hv := (Below.refl wg.heap.size wg).alloc (Nat.le_refl _) (.cells #[.slice none 0 0, .slice none 0 0, .bool false, .int .i64 0, .int .i64 0] 39)
      have h13 : Box5 (wg.alloc (.cells #[.slice none 0 0, .slice none 0 0, .bool false, .int .i64 0, .int .i64 0] 39)) wg.heap.size (.slice none 0 0) (.slice none 0 0) (.bool false) (.int .i64 0) (.int .i64 0) := Box5.new wg (.slice none 0 0) (.slice none 0 0) (.bool false) (.int .i64 0) (.int .i64 0) 39
      have o_hh_h13 : g2 < _ := hh.lt
      have o_hn_h13 : g9 < _ := hn.lt
      have o_hs_h13 : g5 < _ := hs.lt5
      have w_h13 := hB.size
      have hh := hh.below hv hh.lt
      have hn := hn.below hv hn.lt
      have hs := hs.below hv hs.lt5
      have hd := hd.below hv (Nat.le_refl _)
      have hB := hB.trans (hv.mono hB.size)
      clear hv
      generalize hq_h13 : wg.alloc (.cells #[.slice none 0 0, .slice none 0 0, .bool false, .int .i64 0, .int .i64 0] 39) = wiz0 at hh hn hs h13 hd hB
      generalize hg_h13 : wg.heap.size = g13 at h13 w_h13 o_hh_h13 o_hn_h13 o_hs_h13
      have hv := (Below.refl wiz0.heap.size wiz0).alloc (Nat.le_refl _) (.cells #[.int .i64 0, .int .i64 0, .int .i64 0] 23)
      have h14 : BoxH (wiz0.alloc (.cells #[.int .i64 0, .int .i64 0, .int .i64 0] 23)) wiz0.heap.size noH := BoxH.new wiz0 noH 23
      have o_hh_h14 : g2 < _ := hh.lt
      have o_hn_h14 : g9 < _ := hn.lt
      have o_hs_h14 : g5 < _ := hs.lt5
      have o_h13_h14 : g13 < _ := h13.lt5
      have w_h14 := hB.size
      have hh := hh.below hv hh.lt
      have hn := hn.below hv hn.lt
      have hs := hs.below hv hs.lt5
      have h13 := h13.below hv h13.lt5
      have hd := hd.below hv (Nat.le_refl _)
      have hB := hB.trans (hv.mono hB.size)
      clear hv
      generalize hq_h14 : wiz0.alloc (.cells #[.int .i64 0, .int .i64 0, .int .i64 0] 23) = wiz1 at hh hn h14 hs h13 hd hB
      generalize hg_h14 : wiz0.heap.size = g14 at h14 w_h14 o_hh_h14 o_hn_h14 o_hs_h14 o_h13_h14
      go_upto_region 16 with (first
        | (refine wpList_store5 rfl 39 (.tmp 13) (.tmp 77) rfl g13 _ _ _ _ _ _ _ _ _ _ rfl rfl h13 size31 (by simp [Value.oneCell']) ?_
           intro wia hnw hb
           have hd := hd.but HN.out.1 h13.c0 hb
           have hh := hh.but hb (by omega)
           have hn := hn.but hb (by omega)
           have h14 := h14.but hb (by omega)
           have hs := hs.but hb (by omega)
           have h13 := hnw
           have hB := hB.trans (hb.below w_h13)
           clear hnw hb)
        | (refine wpList_store3 rfl 23 (.tmp 14) (.tmp 78) rfl g14 _ ⟨rp, rl, re⟩ rfl rfl h14 size3 ?_
           intro wib hnw hb
           have hd := dev_butH hd HN.out.1 h14 hb
           have hh := hh.but hb (by omega)
           have hn := hn.but hb (by omega)
           have hs := hs.but hb (by omega)
           have h13 := h13.but hb (by omega)
           have h14 := hnw
           have hB := hB.trans (hb.below w_h14)
           clear hnw hb))
      clear hq_h13 hg_h13 hq_h14 hg_h14
      clear h13
      have hs_0 : (_ : World).cell? ⟨g5, 0, none⟩ = some (.slice A2 n2 c2) := hs.c0
      have hs_1 : (_ : World).cell? ⟨g5, 1, none⟩ = some (.slice B2 m2 k2) := hs.c1
      have hs_2 : (_ : World).cell? ⟨g5, 2, none⟩ = some (.bool dd2) := hs.c2
      have hs_3 : (_ : World).cell? ⟨g5, 3, none⟩ = some (.int .i64 lf2) := hs.c3
      have hs_4 : (_ : World).cell? ⟨g5, 4, none⟩ = some (.int .i64 ds2) := hs.c4
      have hs_f := hs.f
      have hn_0 : (_ : World).cell? ⟨g9, 0, none⟩ = some (.int .i64 op) := hn.c0
      have hn_1 : (_ : World).cell? ⟨g9, 1, none⟩ = some (.int .i64 ol) := hn.c1
      have hn_2 : (_ : World).cell? ⟨g9, 2, none⟩ = some (.int .i64 (oe + 1)) := hn.c2
      have hn_f := hn.f
      go_wp2_with fail
      refine (hPz _ _ (HT.out.below hB) hd).mono ?_
      rintro e wj ⟨v7, rfl, hd7, hv⟩
      clear hs_0 hs_1 hs_2 hs_3 hs_4 hs_f hn_0 hn_1 hn_2 hn_f
      have hh := hh.below hv hh.lt
      have hn := hn.below hv hn.lt
      have h14 := h14.below hv h14.lt
      have hs := hs.below hv hs.lt5
      have hd := hd.below hv (Nat.le_refl _)
      have hB := hB.trans (hv.mono hB.size)
      clear hv
      obtain ⟨A7, n7, c7, B7, m7, k7, dd7, lf7, ds7, rfl⟩ := dev_form hd7
      clear hd hs
      go_upto_region 17 with fail
      have hv := (Below.refl wj.heap.size wj).alloc (Nat.le_refl _) (.cells #[.slice A7 n7 c7, .slice B7 m7 k7, .bool dd7, .int .i64 lf7, .int .i64 ds7] 39)
      have hz : Box5 (wj.alloc (.cells #[.slice A7 n7 c7, .slice B7 m7 k7, .bool dd7, .int .i64 lf7, .int .i64 ds7] 39)) wj.heap.size (.slice A7 n7 c7) (.slice B7 m7 k7) (.bool dd7) (.int .i64 lf7) (.int .i64 ds7) := Box5.new wj (.slice A7 n7 c7) (.slice B7 m7 k7) (.bool dd7) (.int .i64 lf7) (.int .i64 ds7) 39
      have o_hh_hz : g2 < _ := hh.lt
      have o_hn_hz : g9 < _ := hn.lt
      have o_h14_hz : g14 < _ := h14.lt
      have w_hz := hB.size
      have hh := hh.below hv hh.lt
      have hn := hn.below hv hn.lt
      have h14 := h14.below hv h14.lt
      have hd7 := hd7.below hv (Nat.le_refl _)
      have hB := hB.trans (hv.mono hB.size)
      clear hv
      generalize wj.alloc (.cells #[.slice A7 n7 c7, .slice B7 m7 k7, .bool dd7, .int .i64 lf7, .int .i64 ds7] 39) = wk at hh hn h14 hz hd7 hB ⊢
      generalize wj.heap.size = g16 at hz w_hz o_hh_hz o_hn_hz o_h14_hz ⊢
      have hz_0 : (_ : World).cell? ⟨g16, 0, none⟩ = some (.slice A7 n7 c7) := hz.c0
      have hz_1 : (_ : World).cell? ⟨g16, 1, none⟩ = some (.slice B7 m7 k7) := hz.c1
      have hz_2 : (_ : World).cell? ⟨g16, 2, none⟩ = some (.bool dd7) := hz.c2
      have hz_3 : (_ : World).cell? ⟨g16, 3, none⟩ = some (.int .i64 lf7) := hz.c3
      have hz_4 : (_ : World).cell? ⟨g16, 4, none⟩ = some (.int .i64 ds7) := hz.c4
      have hz_f := hz.f
      go_wp2_with fail
      refine (hNz _ _ (HT.out.below hB) hd7).mono ?_
      rintro e wl ⟨v8, rfl, hd8, hv⟩
      clear hz_0 hz_1 hz_2 hz_3 hz_4 hz_f
      have hh := hh.below hv hh.lt
      have hn := hn.below hv hn.lt
      have h14 := h14.below hv h14.lt
      have hz := hz.below hv hz.lt5
      have hd7 := hd7.below hv (Nat.le_refl _)
      have hB := hB.trans (hv.mono hB.size)
      clear hv
      obtain ⟨A8, n8, c8, B8, m8, k8, dd8, lf8, ds8, rfl⟩ := dev_form hd8
      clear hd8 hd7 hz
      have hv := (Below.refl wl.heap.size wl).alloc (Nat.le_refl _) (.cells #[.slice none 0 0, .slice none 0 0, .bool false, .int .i64 0, .int .i64 0] 39)
      have h18 : Box5 (wl.alloc (.cells #[.slice none 0 0, .slice none 0 0, .bool false, .int .i64 0, .int .i64 0] 39)) wl.heap.size (.slice none 0 0) (.slice none 0 0) (.bool false) (.int .i64 0) (.int .i64 0) := Box5.new wl (.slice none 0 0) (.slice none 0 0) (.bool false) (.int .i64 0) (.int .i64 0) 39
      have o_hh_h18 : g2 < _ := hh.lt
      have o_hn_h18 : g9 < _ := hn.lt
      have o_h14_h18 : g14 < _ := h14.lt
      have w_h18 := hB.size
      have hh := hh.below hv hh.lt
      have hn := hn.below hv hn.lt
      have h14 := h14.below hv h14.lt
      have hB := hB.trans (hv.mono hB.size)
      clear hv
      generalize hq_h18 : wl.alloc (.cells #[.slice none 0 0, .slice none 0 0, .bool false, .int .i64 0, .int .i64 0] 39) = wmz0 at hh hn h14 h18 hB
      generalize hg_h18 : wl.heap.size = g18 at h18 w_h18 o_hh_h18 o_hn_h18 o_h14_h18
      have hv := (Below.refl wmz0.heap.size wmz0).alloc (Nat.le_refl _) (.cells #[.int .i64 0, .int .i64 0, .int .i64 0] 23)
      have h19 : BoxH (wmz0.alloc (.cells #[.int .i64 0, .int .i64 0, .int .i64 0] 23)) wmz0.heap.size noH := BoxH.new wmz0 noH 23
      have o_hh_h19 : g2 < _ := hh.lt
      have o_hn_h19 : g9 < _ := hn.lt
      have o_h14_h19 : g14 < _ := h14.lt
      have o_h18_h19 : g18 < _ := h18.lt5
      have w_h19 := hB.size
      have hh := hh.below hv hh.lt
      have hn := hn.below hv hn.lt
      have h14 := h14.below hv h14.lt
      have h18 := h18.below hv h18.lt5
      have hB := hB.trans (hv.mono hB.size)
      clear hv
      generalize hq_h19 : wmz0.alloc (.cells #[.int .i64 0, .int .i64 0, .int .i64 0] 23) = wmz1 at hh hn h14 h19 h18 hB
      generalize hg_h19 : wmz0.heap.size = g19 at h19 w_h19 o_hh_h19 o_hn_h19 o_h14_h19 o_h18_h19
      go_upto_region 18 with (first
        | (refine wpList_store5 rfl 39 (.tmp 18) (.tmp 89) rfl g18 _ _ _ _ _ _ _ _ _ _ rfl rfl h18 size31 (by simp [Value.oneCell']) ?_
           intro wma hnw hb
           have hh := hh.but hb (by omega)
           have hn := hn.but hb (by omega)
           have h14 := h14.but hb (by omega)
           have h19 := h19.but hb (by omega)
           have h18 := hnw
           have hB := hB.trans (hb.below w_h18)
           clear hnw hb)
        | (refine wpList_store3 rfl 23 (.tmp 19) (.tmp 90) rfl g19 _ ⟨op, ol, oe + 1⟩ rfl rfl h19 size3 ?_
           intro wmb hnw hb
           have hh := hh.but hb (by omega)
           have hn := hn.but hb (by omega)
           have h14 := h14.but hb (by omega)
           have h18 := h18.but hb (by omega)
           have h19 := hnw
           have hB := hB.trans (hb.below w_h19)
           clear hnw hb))
      clear hq_h18 hg_h18 hq_h19 hg_h19
      clear h18
      go_wp2_with fail
      refine (awake_any _ (HT.out.below hB)).mono ?_
      rintro e wn ⟨rfl, hv⟩
      have hh := hh.below hv hh.lt
      have hn := hn.below hv hn.lt
      have h14 := h14.below hv h14.lt
      have h19 := h19.below hv h19.lt
      have hB := hB.trans (hv.mono hB.size)
      clear hv
      have HB := Lib.hid hB
      have en : (oe + 1 == oe) = false := beq_eq_false_iff_ne.2 (by omega)
      rcases hor with h | h
      · injection h with h0 h1 h2
        have h0 := h0.symm
        have h1 := h1.symm
        have h2 := h2.symm
        subst h0 h1 h2
        have hh_0 : (_ : World).cell? ⟨g2, 0, none⟩ = some (.int .i64 op) := hh.c0
        have hh_1 : (_ : World).cell? ⟨g2, 1, none⟩ = some (.int .i64 ol) := hh.c1
        have hh_2 : (_ : World).cell? ⟨g2, 2, none⟩ = some (.int .i64 oe) := hh.c2
        have hh_f := hh.f
        have hn_0 : (_ : World).cell? ⟨g9, 0, none⟩ = some (.int .i64 op) := hn.c0
        have hn_1 : (_ : World).cell? ⟨g9, 1, none⟩ = some (.int .i64 ol) := hn.c1
        have hn_2 : (_ : World).cell? ⟨g9, 2, none⟩ = some (.int .i64 (oe + 1)) := hn.c2
        have hn_f := hn.f
        have h14_0 : (_ : World).cell? ⟨g14, 0, none⟩ = some (.int .i64 op) := h14.c0
        have h14_1 : (_ : World).cell? ⟨g14, 1, none⟩ = some (.int .i64 ol) := h14.c1
        have h14_2 : (_ : World).cell? ⟨g14, 2, none⟩ = some (.int .i64 oe) := h14.c2
        have h14_f := h14.f
        have h19_0 : (_ : World).cell? ⟨g19, 0, none⟩ = some (.int .i64 op) := h19.c0
        have h19_1 : (_ : World).cell? ⟨g19, 1, none⟩ = some (.int .i64 ol) := h19.c1
        have h19_2 : (_ : World).cell? ⟨g19, 2, none⟩ = some (.int .i64 (oe + 1)) := h19.c2
        have h19_f := h19.f
        clear hh hn h14 h19 hB
        go_wp2
        go_ret
        exact ⟨rfl, HB.out⟩
      · injection h with h0 h1 h2
        have h0 := h0.symm
        have h1 := h1.symm
        have h2 := h2.symm
        subst h0 h1 h2
        have hh_0 : (_ : World).cell? ⟨g2, 0, none⟩ = some (.int .i64 op) := hh.c0
        have hh_1 : (_ : World).cell? ⟨g2, 1, none⟩ = some (.int .i64 ol) := hh.c1
        have hh_2 : (_ : World).cell? ⟨g2, 2, none⟩ = some (.int .i64 oe) := hh.c2
        have hh_f := hh.f
        have hn_0 : (_ : World).cell? ⟨g9, 0, none⟩ = some (.int .i64 op) := hn.c0
        have hn_1 : (_ : World).cell? ⟨g9, 1, none⟩ = some (.int .i64 ol) := hn.c1
        have hn_2 : (_ : World).cell? ⟨g9, 2, none⟩ = some (.int .i64 (oe + 1)) := hn.c2
        have hn_f := hn.f
        have h14_0 : (_ : World).cell? ⟨g14, 0, none⟩ = some (.int .i64 op) := h14.c0
        have h14_1 : (_ : World).cell? ⟨g14, 1, none⟩ = some (.int .i64 ol) := h14.c1
        have h14_2 : (_ : World).cell? ⟨g14, 2, none⟩ = some (.int .i64 (oe + 1)) := h14.c2
        have h14_f := h14.f
        have h19_0 : (_ : World).cell? ⟨g19, 0, none⟩ = some (.int .i64 op) := h19.c0
        have h19_1 : (_ : World).cell? ⟨g19, 1, none⟩ = some (.int .i64 ol) := h19.c1
        have h19_2 : (_ : World).cell? ⟨g19, 2, none⟩ = some (.int .i64 (oe + 1)) := h19.c2
        have h19_f := h19.f
        clear hh hn h14 h19 hB
        go_wp2
        go_ret
        exact ⟨rfl, HB.out⟩
end Go.Proofs.YtdbemkdfndjakaaDoor.Hd
