/- Heads: the document's examples, walked. -/
import Derived.Test.YtdbemkdfndjakaaDoorHdM
namespace Go.Proofs.YtdbemkdfndjakaaDoor.Hd
open Go.RowKit Tal Sla Fr
section
variable {w w' : World} {g g2 : Nat} {v : Value} {D : Dev} {h : H}
theorem dev_butH (hd : IsDev w v D) (hn : 1 ≤ D.n) (k : BoxH w g h) (hb : But g w w') : IsDev w' v D := by
  obtain ⟨b, B, hd⟩ := hd
  refine ⟨b, B, hd.but hb ?_ ?_⟩
  · rintro rfl
    obtain ⟨c, m, _, _, _, hc, _⟩ := hd
    have := (hc 0 hn).symm.trans k.c0
    cases this
  · intro a ha
    obtain ⟨c, m, _, _, _, _, hl, h0⟩ := hd
    rintro rfl
    rcases Nat.eq_zero_or_pos D.m with hm | hm
    · rw [(h0 hm).1] at ha
      cases ha
    · obtain ⟨bl, hB, _, hc⟩ := hl hm
      rw [hB] at ha
      injection ha with ha
      subst ha
      have := (hc 0 hm).2.symm.trans k.c1
      cases this
/-- A head is stored into its variable. -/
theorem wpList_store3 {P : Program} {ops : Array Oper} {rest : List Oper} {op : Oper} {a : Act} {w : World} {Q : Exit → Act → World → Prop} (hgd : op.guard = none) (ty : TypeId) (x y : Operand) (ho : op.op = .store ty x y)
    (g : Nat) (h u : H) (hx : a.eval x = .pointer (some ⟨g, 0, none⟩)) (hy : a.eval y = .agg #[.int .i64 u.p, .int .i64 u.l, .int .i64 u.e])
    (hb : BoxH w g h) (hi : (P.info? ty).map (·.size) = some 3)
    (hh : ∀ w', BoxH w' g u → But g w w' → wpList P ops Q rest (a.put op.dst undef) w') : wpList P ops Q (op :: rest) a w := by
  refine wpList_store_mid hgd ty x y ho g 0 #[.int .i64 u.p, .int .i64 u.l, .int .i64 u.e] hx hy ?_ hi (by simp [Value.oneCell']) (hh _ (hb.put u) (but3 w g u))
  intro j hj
  have hj' : j < 3 := hj
  refine ⟨?_, hb.f _⟩
  rw [Nat.zero_add]
  have e : j = 0 ∨ j = 1 ∨ j = 2 := by omega
  rcases e with rfl | rfl | rfl
  · rw [hb.c0]; rfl
  · rw [hb.c1]; rfl
  · rw [hb.c2]; rfl
theorem size3 : (Tryd.prog.info? 23).map (·.size) = some 3 := by kernel_rfl
theorem BoxH.epoch (k : BoxH w g h) (e : Int) : BoxH (w.setCell ⟨g, 2, none⟩ (.int .i64 e)) g ⟨h.p, h.l, e⟩ :=
  ⟨cell_set w g 2 0 _ _ (by decide) k.c0, cell_set w g 2 1 _ _ (by decide) k.c1, World.cell?_setCell_same w ⟨g, 2, none⟩ _ k.c2, fun i => by rw [World.frozen?_setCell]; exact k.f i⟩
end
set_option maxRecDepth 20000 in
set_option maxHeartbeats 6400000 in
theorem awake_any (w : World) (ht : Tab w) : Calls Tryd.prog 7 #[] w fun e w' => e = .returned (.bool true) ∧ Below w.heap.size w w' := by
  have HT := Lib.hid ht
  clear ht
  have hz : ∀ j, j < 14 → ((fun _ : Nat => nought) j).size = 256 := fun _ _ => nought_size
  have cal0 := fresh_calm 14
  have ok0 := cal0.ok (by decide) (by decide) hz
  obtain ⟨D1, e1, cal1⟩ := newest_calm cal0
  rw [best_none parse_nought parse_nought, if_pos (show noH.e = 0 from rfl)] at e1
  have ok1 := cal1.ok (by decide) (by decide) hz
  obtain ⟨D2, e2, cal2⟩ := put_calm cal1 one_right
  have ok2 := cal2.ok (by decide) (by decide) (putS_size hz)
  obtain ⟨D3, e3, cal3⟩ := put_calm cal2 two_right
  have ok3 := cal3.ok (by decide) (by decide) (putS_size (putS_size hz))
  obtain ⟨D4, e4, cal4⟩ := newest_calm cal3
  rw [show putS (putS (fun _ => nought) hOne) hTwo = sTwo from rfl, best_example, if_neg (show ¬ hTwo.e = 0 by decide)] at e4
  have e5 : putH D3 noH = (D3, 1) := if_neg (fun h => absurd h.p0 (by decide))
  have hNN : 1 ≤ D1.n ∧ 1 ≤ D2.n ∧ 1 ≤ D3.n := by rw [cal1.n, cal2.n, cal3.n]; decide
  have HN := Lib.hid hNN
  clear hNN
  have hN1 : ∀ W v, Tab W → IsDev W v (fresh 14) → Calls Tryd.prog 22 #[v] W fun e w' => ∃ v', e = .returned (.tuple #[v', .agg #[.int .i64 0, .int .i64 0, .int .i64 0], .int .i64 2]) ∧ IsDev w' v' D1 ∧ Below W.heap.size W w' := fun W v ht hd => by
    have := newest_any v (fresh 14) W ht hd ok0 (by decide) (by rw [cal0.n]; decide)
    unfold NewPost at this
    rw [e1] at this
    exact this
  have hU1 : ∀ W v, Tab W → IsDev W v D1 → Calls Tryd.prog 24 #[v, .agg #[.int .i64 8, .int .i64 4, .int .i64 1]] W fun e w' => ∃ v', e = .returned (.tuple #[v', .int .i64 0]) ∧ IsDev w' v' D2 ∧ Below W.heap.size W w' := fun W v ht hd => by
    have := headPut v D1 hOne W ht hd ok1 (by decide) (by rw [cal1.n]; decide)
    unfold DevErr at this
    rw [e2] at this
    exact this
  have hU2 : ∀ W v, Tab W → IsDev W v D2 → Calls Tryd.prog 24 #[v, .agg #[.int .i64 8, .int .i64 4, .int .i64 2]] W fun e w' => ∃ v', e = .returned (.tuple #[v', .int .i64 0]) ∧ IsDev w' v' D3 ∧ Below W.heap.size W w' := fun W v ht hd => by
    have := headPut v D2 hTwo W ht hd ok2 (by decide) (by rw [cal2.n]; decide)
    unfold DevErr at this
    rw [e3] at this
    exact this
  have hN2 : ∀ W v, Tab W → IsDev W v D3 → Calls Tryd.prog 22 #[v] W fun e w' => ∃ v', e = .returned (.tuple #[v', .agg #[.int .i64 8, .int .i64 4, .int .i64 2], .int .i64 0]) ∧ IsDev w' v' D4 ∧ Below W.heap.size W w' := fun W v ht hd => by
    have := newest_any v D3 W ht hd ok3 (by decide) (by rw [cal3.n]; decide)
    unfold NewPost at this
    rw [e4] at this
    exact this
  have hU3 : ∀ W v, Tab W → IsDev W v D3 → Calls Tryd.prog 24 #[v, .agg #[.int .i64 0, .int .i64 0, .int .i64 0]] W fun e w' => ∃ v', e = .returned (.tuple #[v', .int .i64 1]) ∧ IsDev w' v' D3 ∧ Below W.heap.size W w' := fun W v ht hd => by
    have := headPut v D3 noH W ht hd ok3 (by decide) (by rw [cal3.n]; decide)
    unfold DevErr at this
    rw [e5] at this
    exact this
  clear e1 e2 e3 e4 e5 cal0 cal1 cal2 cal3 cal4 ok0 ok1 ok2 ok3 hz
  obtain ⟨x, hx⟩ : ∃ x, headB hOne = x := ⟨_, rfl⟩
  obtain ⟨x2, hx2⟩ : ∃ x, headB hTwo = x := ⟨_, rfl⟩
  have hxs : x.size = 256 := hx ▸ headB_size hOne
  have hP : ∀ W, Tab W → Calls Tryd.prog 12 #[.agg #[.int .i64 8, .int .i64 4, .int .i64 1]] W fun e w' => e = .returned (.string x) ∧ Below W.heap.size W w' := fun W h => hx ▸ print_any hOne W h one_right
  have hP2 : ∀ W, Tab W → Calls Tryd.prog 12 #[.agg #[.int .i64 8, .int .i64 4, .int .i64 2]] W fun e w' => e = .returned (.string x2) ∧ Below W.heap.size W w' := fun W h => hx2 ▸ print_any hTwo W h two_right
  have hQ : ∀ W, Tab W → Calls Tryd.prog 9 #[.string x] W fun e w' => e = .returned (.tuple #[.agg #[.int .i64 8, .int .i64 4, .int .i64 1], .bool true]) ∧ Below W.heap.size W w' := fun W h => by
    have := parse_any x W h (by omega)
    unfold ParsePost at this
    rw [← hx, parse_own one_right] at this
    rw [← hx]
    exact this
  have hrr : ∀ (b : Bool) (f : H) (W : World), (b = true ↔ RightH f) → Calls Tryd.prog 8 #[.agg (cellsH f)] W fun e w' => e = .returned (.bool b) ∧ Below W.heap.size W w' := fun b f W h => (right_any f W).mono (by
    rintro e w' ⟨b', rfl, hb, hv⟩
    exact ⟨by rw [Bool.eq_iff_iff.2 (hb.trans h.symm)], hv⟩)
  have hR2 : ∀ W, Calls Tryd.prog 8 #[.agg #[.int .i64 8, .int .i64 4, .int .i64 2]] W fun e w' => e = .returned (.bool true) ∧ Below W.heap.size W w' := fun W => hrr true hTwo W ⟨fun _ => two_right, fun _ => rfl⟩
  have hR7 : ∀ W, Calls Tryd.prog 8 #[.agg #[.int .i64 7, .int .i64 4, .int .i64 1]] W fun e w' => e = .returned (.bool false) ∧ Below W.heap.size W w' := fun W => hrr false ⟨7, 4, 1⟩ W ⟨fun h => (by cases h), fun h => absurd h.p0 (by decide)⟩
  have hSz : ∀ W, Calls Tryd.prog 14 #[.agg #[.int .i64 8, .int .i64 4, .int .i64 2]] W fun e w' => e = .returned (.int .i64 14) ∧ Below W.heap.size W w' := fun W => by
    have := size_any hTwo W
    rw [show wrap64 (wrap64 (2 + hTwo.p) + hTwo.l) = 14 by show wrap64 (wrap64 (2 + 8) + 4) = 14; unfold wrap64; omega] at this
    exact this
  have hHm : ∀ W, Calls Tryd.prog 16 #[.int .i64 3] W fun e w' => e = .returned (.int .i64 5) ∧ w' = W := fun W => by
    have := home_any 3 W
    rw [show wrap64 (2 + 3) = 5 by unfold wrap64; omega] at this
    exact this
  have hLg : ∀ W, Calls Tryd.prog 18 #[.agg #[.int .i64 8, .int .i64 4, .int .i64 2], .int .i64 1] W fun e w' => e = .returned (.int .i64 11) ∧ Below W.heap.size W w' := fun W => by
    have := log_any hTwo 1 W
    rw [show wrap64 (wrap64 (2 + hTwo.p) + 1) = 11 by show wrap64 (wrap64 (2 + 8) + 1) = 11; unfold wrap64; omega] at this
    exact this
  have HX := Lib.hid (And.intro (hx2 ▸ head_eight hTwo : x2.data.toList.take 8 = _) (hx2 ▸ headB_size hTwo : x2.size = 256))
  clear hx hx2 hrr
  go_enter Tryd.func7, Tryd.ntmps7
  go_wp2_with fail
  have hB := Below.refl w.heap.size w
  have hv := (Below.refl w.heap.size w).alloc (Nat.le_refl _) (.cells #[.int .i64 8, .int .i64 4, .int .i64 1] 23)
  have hh : BoxH (w.alloc (.cells #[.int .i64 8, .int .i64 4, .int .i64 1] 23)) w.heap.size hOne := BoxH.new w hOne 23
  have w_hh := hB.size
  have hB := hB.trans (hv.mono hB.size)
  clear hv
  generalize w.alloc (.cells #[.int .i64 8, .int .i64 4, .int .i64 1] 23) = w1 at hh hB ⊢
  generalize hg_hh : w.heap.size = g1 at hh  ⊢
  have w_hh : w.heap.size ≤ g1 := by omega
  clear hg_hh
  refine (hP _ (HT.out.below hB)).mono ?_
  rintro e w2 ⟨rfl, hv⟩
  have hh := hh.below hv hh.lt
  have hB := hB.trans (hv.mono hB.size)
  clear hv
  go_wp2_with fail
  refine (hQ _ (HT.out.below hB)).mono ?_
  rintro e w3 ⟨rfl, hv⟩
  have hh := hh.below hv hh.lt
  have hB := hB.trans (hv.mono hB.size)
  clear hv
  have hh_0 : (_ : World).cell? ⟨g1, 0, none⟩ = some (.int .i64 8) := hh.c0
  have hh_1 : (_ : World).cell? ⟨g1, 1, none⟩ = some (.int .i64 4) := hh.c1
  have hh_2 : (_ : World).cell? ⟨g1, 2, none⟩ = some (.int .i64 1) := hh.c2
  have hh_f := hh.f
  go_upto_region 3 with fail
  clear hh_0 hh_1 hh_2 hh_f
  have hv := (Below.refl w3.heap.size w3).alloc (Nat.le_refl _) (.cells #[.int .i64 8, .int .i64 4, .int .i64 1] 23)
  have hx : BoxH (w3.alloc (.cells #[.int .i64 8, .int .i64 4, .int .i64 1] 23)) w3.heap.size hOne := BoxH.new w3 hOne 23
  have o_hh_hx := hh.lt
  have w_hx := hB.size
  have hh := hh.below hv hh.lt
  have hB := hB.trans (hv.mono hB.size)
  clear hv
  generalize w3.alloc (.cells #[.int .i64 8, .int .i64 4, .int .i64 1] 23) = w4 at hh hx hB ⊢
  generalize hg_hx : w3.heap.size = g2 at hx w_hx o_hh_hx ⊢
  clear hg_hx
  have hh_0 : (_ : World).cell? ⟨g1, 0, none⟩ = some (.int .i64 8) := hh.c0
  have hh_1 : (_ : World).cell? ⟨g1, 1, none⟩ = some (.int .i64 4) := hh.c1
  have hh_2 : (_ : World).cell? ⟨g1, 2, none⟩ = some (.int .i64 1) := hh.c2
  have hh_f := hh.f
  go_wp2_with fail
  refine (size_any hOne _).mono ?_
  rintro e w5 ⟨rfl, hv⟩
  clear hh_0 hh_1 hh_2 hh_f
  have hh := hh.below hv hh.lt
  have hx := hx.below hv hx.lt
  have hB := hB.trans (hv.mono hB.size)
  clear hv
  have hsz : (wrap64 (wrap64 (2 + hOne.p) + hOne.l)) = ((14 : Nat) : Int) := by show wrap64 (wrap64 (2 + 8) + 4) = 14; unfold wrap64; omega
  rw [hsz]
  clear hsz
  go_wp2_with fail
  refine (refNew_any 14 _ (by decide) (by decide)).mono ?_
  rintro e w6 ⟨v0, rfl, hd, hv⟩
  have hh := hh.below hv hh.lt
  have hx := hx.below hv hx.lt
  have hB := hB.trans (hv.mono hB.size)
  clear hv
  obtain ⟨A0, n0, c0, B0, m0, k0, dd0, lf0, ds0, rfl⟩ := dev_form hd
  go_upto_region 4 with fail
  have hv := (Below.refl w6.heap.size w6).alloc (Nat.le_refl _) (.cells #[.slice A0 n0 c0, .slice B0 m0 k0, .bool dd0, .int .i64 lf0, .int .i64 ds0] 39)
  have hs : Box5 (w6.alloc (.cells #[.slice A0 n0 c0, .slice B0 m0 k0, .bool dd0, .int .i64 lf0, .int .i64 ds0] 39)) w6.heap.size (.slice A0 n0 c0) (.slice B0 m0 k0) (.bool dd0) (.int .i64 lf0) (.int .i64 ds0) := Box5.new w6 (.slice A0 n0 c0) (.slice B0 m0 k0) (.bool dd0) (.int .i64 lf0) (.int .i64 ds0) 39
  have o_hh_hs := hh.lt
  have o_hx_hs := hx.lt
  have w_hs := hB.size
  have hh := hh.below hv hh.lt
  have hx := hx.below hv hx.lt
  have hd := hd.below hv (Nat.le_refl _)
  have hB := hB.trans (hv.mono hB.size)
  clear hv
  generalize w6.alloc (.cells #[.slice A0 n0 c0, .slice B0 m0 k0, .bool dd0, .int .i64 lf0, .int .i64 ds0] 39) = w7 at hh hx hs hd hB ⊢
  generalize w6.heap.size = g4 at hs w_hs o_hh_hs o_hx_hs ⊢
  have hs_0 : (_ : World).cell? ⟨g4, 0, none⟩ = some (.slice A0 n0 c0) := hs.c0
  have hs_1 : (_ : World).cell? ⟨g4, 1, none⟩ = some (.slice B0 m0 k0) := hs.c1
  have hs_2 : (_ : World).cell? ⟨g4, 2, none⟩ = some (.bool dd0) := hs.c2
  have hs_3 : (_ : World).cell? ⟨g4, 3, none⟩ = some (.int .i64 lf0) := hs.c3
  have hs_4 : (_ : World).cell? ⟨g4, 4, none⟩ = some (.int .i64 ds0) := hs.c4
  have hs_f := hs.f
  go_wp2_with fail
  refine (hN1 _ _ (HT.out.below hB) hd).mono ?_
  rintro e w8 ⟨v1, rfl, hd1, hv⟩
  clear hs_0 hs_1 hs_2 hs_3 hs_4 hs_f
  have hh := hh.below hv hh.lt
  have hx := hx.below hv hx.lt
  have hs := hs.below hv hs.lt5
  have hd := hd.below hv (Nat.le_refl _)
  have hB := hB.trans (hv.mono hB.size)
  clear hv
  clear hd
  obtain ⟨A1, n1, c1, B1, m1, k1, dd1, lf1, ds1, rfl⟩ := dev_form hd1
  have hv := (Below.refl w8.heap.size w8).alloc (Nat.le_refl _) (.cells #[.int .i64 0, .int .i64 0, .int .i64 0] 23)
  have h6 : BoxH (w8.alloc (.cells #[.int .i64 0, .int .i64 0, .int .i64 0] 23)) w8.heap.size noH := BoxH.new w8 noH 23
  have o_hh_h6 := hh.lt
  have o_hx_h6 := hx.lt
  have o_hs_h6 := hs.lt5
  have w_h6 := hB.size
  have hh := hh.below hv hh.lt
  have hx := hx.below hv hx.lt
  have hs := hs.below hv hs.lt5
  have hd1 := hd1.below hv (Nat.le_refl _)
  have hB := hB.trans (hv.mono hB.size)
  clear hv
  generalize hq_h6 : w8.alloc (.cells #[.int .i64 0, .int .i64 0, .int .i64 0] 23) = waz0 at hh hx h6 hs hd1 hB
  generalize hg_h6 : w8.heap.size = g6 at h6 w_h6 o_hh_h6 o_hx_h6 o_hs_h6
  go_upto_region 5 with (first
    | (refine wpList_store5 rfl 39 (.tmp 4) (.tmp 31) rfl g4 _ _ _ _ _ _ _ _ _ _ rfl rfl hs size31 (by simp [Value.oneCell']) ?_
       intro waa hn hb
       have hd1 := hd1.but HN.out.1 hs.c0 hb
       have hh := hh.but hb (by omega)
       have hx := hx.but hb (by omega)
       have h6 := h6.but hb (by omega)
       have hs := hn
       have hB := hB.trans (hb.below w_hs)
       clear hn hb)
    | (refine wpList_store3 rfl 23 (.tmp 6) (.tmp 32) rfl g6 _ noH rfl rfl h6 size3 ?_
       intro wab hn hb
       have hd1 := dev_butH hd1 HN.out.1 h6 hb
       have hh := hh.but hb (by omega)
       have hx := hx.but hb (by omega)
       have hs := hs.but hb (by omega)
       have h6 := hn
       have hB := hB.trans (hb.below w_h6)
       clear hn hb))
  clear hq_h6 hg_h6
  have hs_0 : (_ : World).cell? ⟨g4, 0, none⟩ = some (.slice A1 n1 c1) := hs.c0
  have hs_1 : (_ : World).cell? ⟨g4, 1, none⟩ = some (.slice B1 m1 k1) := hs.c1
  have hs_2 : (_ : World).cell? ⟨g4, 2, none⟩ = some (.bool dd1) := hs.c2
  have hs_3 : (_ : World).cell? ⟨g4, 3, none⟩ = some (.int .i64 lf1) := hs.c3
  have hs_4 : (_ : World).cell? ⟨g4, 4, none⟩ = some (.int .i64 ds1) := hs.c4
  have hs_f := hs.f
  have hh_0 : (_ : World).cell? ⟨g1, 0, none⟩ = some (.int .i64 8) := hh.c0
  have hh_1 : (_ : World).cell? ⟨g1, 1, none⟩ = some (.int .i64 4) := hh.c1
  have hh_2 : (_ : World).cell? ⟨g1, 2, none⟩ = some (.int .i64 1) := hh.c2
  have hh_f := hh.f
  go_wp2_with fail
  refine (hU1 _ _ (HT.out.below hB) hd1).mono ?_
  rintro e w9 ⟨v2, rfl, hd2, hv⟩
  clear hs_0 hs_1 hs_2 hs_3 hs_4 hs_f hh_0 hh_1 hh_2 hh_f
  have hh := hh.below hv hh.lt
  have hx := hx.below hv hx.lt
  have h6 := h6.below hv h6.lt
  have hs := hs.below hv hs.lt5
  have hd1 := hd1.below hv (Nat.le_refl _)
  have hB := hB.trans (hv.mono hB.size)
  clear hv
  obtain ⟨A2, n2, c2, B2, m2, k2, dd2, lf2, ds2, rfl⟩ := dev_form hd2
  clear hd1
  have hs_0 : (_ : World).cell? ⟨g4, 0, none⟩ = some (.slice A1 n1 c1) := hs.c0
  have hs_1 : (_ : World).cell? ⟨g4, 1, none⟩ = some (.slice B1 m1 k1) := hs.c1
  have hs_2 : (_ : World).cell? ⟨g4, 2, none⟩ = some (.bool dd1) := hs.c2
  have hs_3 : (_ : World).cell? ⟨g4, 3, none⟩ = some (.int .i64 lf1) := hs.c3
  have hs_4 : (_ : World).cell? ⟨g4, 4, none⟩ = some (.int .i64 ds1) := hs.c4
  have hs_f := hs.f
  clear hs_0 hs_1 hs_2 hs_3 hs_4 hs_f
  go_upto_region 6 with (first
    | (refine wpList_store5 rfl 39 (.tmp 4) (.tmp 38) rfl g4 _ _ _ _ _ _ _ _ _ _ rfl rfl hs size31 (by simp [Value.oneCell']) ?_
       intro wba hn hb
       have hd2 := hd2.but HN.out.2.1 hs.c0 hb
       have hh := hh.but hb (by omega)
       have hx := hx.but hb (by omega)
       have h6 := h6.but hb (by omega)
       have hs := hn
       have hB := hB.trans (hb.below w_hs)
       clear hn hb))
  have hh_0 : (_ : World).cell? ⟨g1, 0, none⟩ = some (.int .i64 8) := hh.c0
  have hh_1 : (_ : World).cell? ⟨g1, 1, none⟩ = some (.int .i64 4) := hh.c1
  have hh_2 : (_ : World).cell? ⟨g1, 2, none⟩ = some (.int .i64 1) := hh.c2
  have hh_f := hh.f
  go_upto_region 7 with fail
  clear hh_0 hh_1 hh_2 hh_f
  have hb := (But.refl g1 wba).setCell 2 (.int .i64 (2))
  have hd2 := dev_butH hd2 HN.out.2.1 hh hb
  have hh := hh.epoch (2)
  have hx := hx.but hb (by omega)
  have h6 := h6.but hb (by omega)
  have hs := hs.but hb (by omega)
  have hB := hB.setCell (p := ⟨g1, 2, none⟩) w_hh (.int .i64 (2))
  clear hb
  generalize wba.setCell ⟨g1, 2, none⟩ (.int .i64 (2)) = wc at hh hx h6 hs hd2 hB ⊢
  have hs_0 : (_ : World).cell? ⟨g4, 0, none⟩ = some (.slice A2 n2 c2) := hs.c0
  have hs_1 : (_ : World).cell? ⟨g4, 1, none⟩ = some (.slice B2 m2 k2) := hs.c1
  have hs_2 : (_ : World).cell? ⟨g4, 2, none⟩ = some (.bool dd2) := hs.c2
  have hs_3 : (_ : World).cell? ⟨g4, 3, none⟩ = some (.int .i64 lf2) := hs.c3
  have hs_4 : (_ : World).cell? ⟨g4, 4, none⟩ = some (.int .i64 ds2) := hs.c4
  have hs_f := hs.f
  have hh_0 : (_ : World).cell? ⟨g1, 0, none⟩ = some (.int .i64 8) := hh.c0
  have hh_1 : (_ : World).cell? ⟨g1, 1, none⟩ = some (.int .i64 4) := hh.c1
  have hh_2 : (_ : World).cell? ⟨g1, 2, none⟩ = some (.int .i64 2) := hh.c2
  have hh_f := hh.f
  go_wp2_with fail
  refine (hU2 _ _ (HT.out.below hB) hd2).mono ?_
  rintro e w10 ⟨v3, rfl, hd3, hv⟩
  clear hs_0 hs_1 hs_2 hs_3 hs_4 hs_f hh_0 hh_1 hh_2 hh_f
  have hh := hh.below hv hh.lt
  have hx := hx.below hv hx.lt
  have h6 := h6.below hv h6.lt
  have hs := hs.below hv hs.lt5
  have hd2 := hd2.below hv (Nat.le_refl _)
  have hB := hB.trans (hv.mono hB.size)
  clear hv
  obtain ⟨A3, n3, c3, B3, m3, k3, dd3, lf3, ds3, rfl⟩ := dev_form hd3
  clear hd2
  go_upto_region 8 with (first
    | (refine wpList_store5 rfl 39 (.tmp 4) (.tmp 45) rfl g4 _ _ _ _ _ _ _ _ _ _ rfl rfl hs size31 (by simp [Value.oneCell']) ?_
       intro wda hn hb
       have hd3 := hd3.but HN.out.2.2 hs.c0 hb
       have hh := hh.but hb (by omega)
       have hx := hx.but hb (by omega)
       have h6 := h6.but hb (by omega)
       have hs := hn
       have hB := hB.trans (hb.below w_hs)
       clear hn hb))
  have hs_0 : (_ : World).cell? ⟨g4, 0, none⟩ = some (.slice A3 n3 c3) := hs.c0
  have hs_1 : (_ : World).cell? ⟨g4, 1, none⟩ = some (.slice B3 m3 k3) := hs.c1
  have hs_2 : (_ : World).cell? ⟨g4, 2, none⟩ = some (.bool dd3) := hs.c2
  have hs_3 : (_ : World).cell? ⟨g4, 3, none⟩ = some (.int .i64 lf3) := hs.c3
  have hs_4 : (_ : World).cell? ⟨g4, 4, none⟩ = some (.int .i64 ds3) := hs.c4
  have hs_f := hs.f
  go_wp2_with fail
  refine (hN2 _ _ (HT.out.below hB) hd3).mono ?_
  rintro e w11 ⟨v4, rfl, hd4, hv⟩
  clear hs_0 hs_1 hs_2 hs_3 hs_4 hs_f
  have hh := hh.below hv hh.lt
  have hx := hx.below hv hx.lt
  have h6 := h6.below hv h6.lt
  have hs := hs.below hv hs.lt5
  have hd3 := hd3.below hv (Nat.le_refl _)
  have hB := hB.trans (hv.mono hB.size)
  clear hv
  obtain ⟨A4, n4, c4, B4, m4, k4, dd4, lf4, ds4, rfl⟩ := dev_form hd4
  clear hd4
  have hv := (Below.refl w11.heap.size w11).alloc (Nat.le_refl _) (.cells #[.slice none 0 0, .slice none 0 0, .bool false, .int .i64 0, .int .i64 0] 39)
  have h10 : Box5 (w11.alloc (.cells #[.slice none 0 0, .slice none 0 0, .bool false, .int .i64 0, .int .i64 0] 39)) w11.heap.size (.slice none 0 0) (.slice none 0 0) (.bool false) (.int .i64 0) (.int .i64 0) := Box5.new w11 (.slice none 0 0) (.slice none 0 0) (.bool false) (.int .i64 0) (.int .i64 0) 39
  have o_hh_h10 := hh.lt
  have o_hx_h10 := hx.lt
  have o_h6_h10 := h6.lt
  have o_hs_h10 := hs.lt5
  have w_h10 := hB.size
  have hh := hh.below hv hh.lt
  have hx := hx.below hv hx.lt
  have h6 := h6.below hv h6.lt
  have hs := hs.below hv hs.lt5
  have hd3 := hd3.below hv (Nat.le_refl _)
  have hB := hB.trans (hv.mono hB.size)
  clear hv
  generalize hq_h10 : w11.alloc (.cells #[.slice none 0 0, .slice none 0 0, .bool false, .int .i64 0, .int .i64 0] 39) = wez0 at hh hx h6 hs h10 hd3 hB
  generalize hg_h10 : w11.heap.size = g10 at h10 w_h10 o_hh_h10 o_hx_h10 o_h6_h10 o_hs_h10
  have hv := (Below.refl wez0.heap.size wez0).alloc (Nat.le_refl _) (.cells #[.int .i64 0, .int .i64 0, .int .i64 0] 23)
  have h11 : BoxH (wez0.alloc (.cells #[.int .i64 0, .int .i64 0, .int .i64 0] 23)) wez0.heap.size noH := BoxH.new wez0 noH 23
  have o_hh_h11 := hh.lt
  have o_hx_h11 := hx.lt
  have o_h6_h11 := h6.lt
  have o_hs_h11 := hs.lt5
  have o_h10_h11 := h10.lt5
  have w_h11 := hB.size
  have hh := hh.below hv hh.lt
  have hx := hx.below hv hx.lt
  have h6 := h6.below hv h6.lt
  have hs := hs.below hv hs.lt5
  have h10 := h10.below hv h10.lt5
  have hd3 := hd3.below hv (Nat.le_refl _)
  have hB := hB.trans (hv.mono hB.size)
  clear hv
  generalize hq_h11 : wez0.alloc (.cells #[.int .i64 0, .int .i64 0, .int .i64 0] 23) = wez1 at hh hx h6 h11 hs h10 hd3 hB
  generalize hg_h11 : wez0.heap.size = g11 at h11 w_h11 o_hh_h11 o_hx_h11 o_h6_h11 o_hs_h11 o_h10_h11
  go_upto_region 9 with (first
    | (refine wpList_store5 rfl 39 (.tmp 10) (.tmp 50) rfl g10 _ _ _ _ _ _ _ _ _ _ rfl rfl h10 size31 (by simp [Value.oneCell']) ?_
       intro wea hn hb
       have hd3 := hd3.but HN.out.2.2 h10.c0 hb
       have hh := hh.but hb (by omega)
       have hx := hx.but hb (by omega)
       have h6 := h6.but hb (by omega)
       have h11 := h11.but hb (by omega)
       have hs := hs.but hb (by omega)
       have h10 := hn
       have hB := hB.trans (hb.below w_h10)
       clear hn hb)
    | (refine wpList_store3 rfl 23 (.tmp 11) (.tmp 51) rfl g11 _ hTwo rfl rfl h11 size3 ?_
       intro web hn hb
       have hd3 := dev_butH hd3 HN.out.2.2 h11 hb
       have hh := hh.but hb (by omega)
       have hx := hx.but hb (by omega)
       have h6 := h6.but hb (by omega)
       have hs := hs.but hb (by omega)
       have h10 := h10.but hb (by omega)
       have h11 := hn
       have hB := hB.trans (hb.below w_h11)
       clear hn hb))
  clear hq_h10 hg_h10 hq_h11 hg_h11
  have hs_0 : (_ : World).cell? ⟨g4, 0, none⟩ = some (.slice A3 n3 c3) := hs.c0
  have hs_1 : (_ : World).cell? ⟨g4, 1, none⟩ = some (.slice B3 m3 k3) := hs.c1
  have hs_2 : (_ : World).cell? ⟨g4, 2, none⟩ = some (.bool dd3) := hs.c2
  have hs_3 : (_ : World).cell? ⟨g4, 3, none⟩ = some (.int .i64 lf3) := hs.c3
  have hs_4 : (_ : World).cell? ⟨g4, 4, none⟩ = some (.int .i64 ds3) := hs.c4
  have hs_f := hs.f
  go_wp2_with fail
  refine (hU3 _ _ (HT.out.below hB) hd3).mono ?_
  rintro e w12 ⟨v5, rfl, hd5, hv⟩
  clear hs_0 hs_1 hs_2 hs_3 hs_4 hs_f
  have hh := hh.below hv hh.lt
  have hx := hx.below hv hx.lt
  have h6 := h6.below hv h6.lt
  have h11 := h11.below hv h11.lt
  have hs := hs.below hv hs.lt5
  have h10 := h10.below hv h10.lt5
  have hd3 := hd3.below hv (Nat.le_refl _)
  have hB := hB.trans (hv.mono hB.size)
  clear hv
  obtain ⟨A5, n5, c5, B5, m5, k5, dd5, lf5, ds5, rfl⟩ := dev_form hd5
  clear hd5
  have hv := (Below.refl w12.heap.size w12).alloc (Nat.le_refl _) (.cells #[.slice none 0 0, .slice none 0 0, .bool false, .int .i64 0, .int .i64 0] 39)
  have h13 : Box5 (w12.alloc (.cells #[.slice none 0 0, .slice none 0 0, .bool false, .int .i64 0, .int .i64 0] 39)) w12.heap.size (.slice none 0 0) (.slice none 0 0) (.bool false) (.int .i64 0) (.int .i64 0) := Box5.new w12 (.slice none 0 0) (.slice none 0 0) (.bool false) (.int .i64 0) (.int .i64 0) 39
  have o_hh_h13 := hh.lt
  have o_hx_h13 := hx.lt
  have o_h6_h13 := h6.lt
  have o_h11_h13 := h11.lt
  have o_hs_h13 := hs.lt5
  have o_h10_h13 := h10.lt5
  have w_h13 := hB.size
  have hh := hh.below hv hh.lt
  have hx := hx.below hv hx.lt
  have h6 := h6.below hv h6.lt
  have h11 := h11.below hv h11.lt
  have hs := hs.below hv hs.lt5
  have h10 := h10.below hv h10.lt5
  have hd3 := hd3.below hv (Nat.le_refl _)
  have hB := hB.trans (hv.mono hB.size)
  clear hv
  generalize hq_h13 : w12.alloc (.cells #[.slice none 0 0, .slice none 0 0, .bool false, .int .i64 0, .int .i64 0] 39) = wfz0 at hh hx h6 h11 hs h10 h13 hd3 hB
  generalize hg_h13 : w12.heap.size = g13 at h13 w_h13 o_hh_h13 o_hx_h13 o_h6_h13 o_h11_h13 o_hs_h13 o_h10_h13
  go_upto_region 10 with (first
    | (refine wpList_store5 rfl 39 (.tmp 13) (.tmp 57) rfl g13 _ _ _ _ _ _ _ _ _ _ rfl rfl h13 size31 (by simp [Value.oneCell']) ?_
       intro wfa hn hb
       have hd3 := hd3.but HN.out.2.2 h13.c0 hb
       have hh := hh.but hb (by omega)
       have hx := hx.but hb (by omega)
       have h6 := h6.but hb (by omega)
       have h11 := h11.but hb (by omega)
       have hs := hs.but hb (by omega)
       have h10 := h10.but hb (by omega)
       have h13 := hn
       have hB := hB.trans (hb.below w_h13)
       clear hn hb))
  clear hq_h13 hg_h13
  clear h13
  clear h10
  clear hs
  clear hd3
  clear h6
  have hh_0 : (_ : World).cell? ⟨g1, 0, none⟩ = some (.int .i64 8) := hh.c0
  have hh_1 : (_ : World).cell? ⟨g1, 1, none⟩ = some (.int .i64 4) := hh.c1
  have hh_2 : (_ : World).cell? ⟨g1, 2, none⟩ = some (.int .i64 2) := hh.c2
  have hh_f := hh.f
  have hx_0 : (_ : World).cell? ⟨g2, 0, none⟩ = some (.int .i64 8) := hx.c0
  have hx_1 : (_ : World).cell? ⟨g2, 1, none⟩ = some (.int .i64 4) := hx.c1
  have hx_2 : (_ : World).cell? ⟨g2, 2, none⟩ = some (.int .i64 1) := hx.c2
  have hx_f := hx.f
  have h11_0 : (_ : World).cell? ⟨g11, 0, none⟩ = some (.int .i64 8) := h11.c0
  have h11_1 : (_ : World).cell? ⟨g11, 1, none⟩ = some (.int .i64 4) := h11.c1
  have h11_2 : (_ : World).cell? ⟨g11, 2, none⟩ = some (.int .i64 2) := h11.c2
  have h11_f := h11.f
  go_wp2_with fail
  clear hh_0 hh_1 hh_2 hh_f hx_0 hx_1 hx_2 hx_f h11_0 h11_1 h11_2 h11_f
  refine (hR2 _).mono ?_
  rintro e y0 ⟨rfl, hv⟩
  have hh := hh.below hv hh.lt
  have hx := hx.below hv hx.lt
  have h11 := h11.below hv h11.lt
  have hB := hB.trans (hv.mono hB.size)
  clear hv
  have hh_0 : (_ : World).cell? ⟨g1, 0, none⟩ = some (.int .i64 8) := hh.c0
  have hh_1 : (_ : World).cell? ⟨g1, 1, none⟩ = some (.int .i64 4) := hh.c1
  have hh_2 : (_ : World).cell? ⟨g1, 2, none⟩ = some (.int .i64 2) := hh.c2
  have hh_f := hh.f
  have hx_0 : (_ : World).cell? ⟨g2, 0, none⟩ = some (.int .i64 8) := hx.c0
  have hx_1 : (_ : World).cell? ⟨g2, 1, none⟩ = some (.int .i64 4) := hx.c1
  have hx_2 : (_ : World).cell? ⟨g2, 2, none⟩ = some (.int .i64 1) := hx.c2
  have hx_f := hx.f
  have h11_0 : (_ : World).cell? ⟨g11, 0, none⟩ = some (.int .i64 8) := h11.c0
  have h11_1 : (_ : World).cell? ⟨g11, 1, none⟩ = some (.int .i64 4) := h11.c1
  have h11_2 : (_ : World).cell? ⟨g11, 2, none⟩ = some (.int .i64 2) := h11.c2
  have h11_f := h11.f
  go_wp2_with fail
  clear hh_0 hh_1 hh_2 hh_f hx_0 hx_1 hx_2 hx_f h11_0 h11_1 h11_2 h11_f
  refine (hR7 _).mono ?_
  rintro e y1 ⟨rfl, hv⟩
  have hh := hh.below hv hh.lt
  have hx := hx.below hv hx.lt
  have h11 := h11.below hv h11.lt
  have hB := hB.trans (hv.mono hB.size)
  clear hv
  have hh_0 : (_ : World).cell? ⟨g1, 0, none⟩ = some (.int .i64 8) := hh.c0
  have hh_1 : (_ : World).cell? ⟨g1, 1, none⟩ = some (.int .i64 4) := hh.c1
  have hh_2 : (_ : World).cell? ⟨g1, 2, none⟩ = some (.int .i64 2) := hh.c2
  have hh_f := hh.f
  have hx_0 : (_ : World).cell? ⟨g2, 0, none⟩ = some (.int .i64 8) := hx.c0
  have hx_1 : (_ : World).cell? ⟨g2, 1, none⟩ = some (.int .i64 4) := hx.c1
  have hx_2 : (_ : World).cell? ⟨g2, 2, none⟩ = some (.int .i64 1) := hx.c2
  have hx_f := hx.f
  have h11_0 : (_ : World).cell? ⟨g11, 0, none⟩ = some (.int .i64 8) := h11.c0
  have h11_1 : (_ : World).cell? ⟨g11, 1, none⟩ = some (.int .i64 4) := h11.c1
  have h11_2 : (_ : World).cell? ⟨g11, 2, none⟩ = some (.int .i64 2) := h11.c2
  have h11_f := h11.f
  go_wp2_with fail
  clear hh_0 hh_1 hh_2 hh_f hx_0 hx_1 hx_2 hx_f h11_0 h11_1 h11_2 h11_f
  refine (hSz _).mono ?_
  rintro e y2 ⟨rfl, hv⟩
  have hh := hh.below hv hh.lt
  have hx := hx.below hv hx.lt
  have h11 := h11.below hv h11.lt
  have hB := hB.trans (hv.mono hB.size)
  clear hv
  have hh_0 : (_ : World).cell? ⟨g1, 0, none⟩ = some (.int .i64 8) := hh.c0
  have hh_1 : (_ : World).cell? ⟨g1, 1, none⟩ = some (.int .i64 4) := hh.c1
  have hh_2 : (_ : World).cell? ⟨g1, 2, none⟩ = some (.int .i64 2) := hh.c2
  have hh_f := hh.f
  have hx_0 : (_ : World).cell? ⟨g2, 0, none⟩ = some (.int .i64 8) := hx.c0
  have hx_1 : (_ : World).cell? ⟨g2, 1, none⟩ = some (.int .i64 4) := hx.c1
  have hx_2 : (_ : World).cell? ⟨g2, 2, none⟩ = some (.int .i64 1) := hx.c2
  have hx_f := hx.f
  have h11_0 : (_ : World).cell? ⟨g11, 0, none⟩ = some (.int .i64 8) := h11.c0
  have h11_1 : (_ : World).cell? ⟨g11, 1, none⟩ = some (.int .i64 4) := h11.c1
  have h11_2 : (_ : World).cell? ⟨g11, 2, none⟩ = some (.int .i64 2) := h11.c2
  have h11_f := h11.f
  go_wp2_with fail
  clear hh_0 hh_1 hh_2 hh_f hx_0 hx_1 hx_2 hx_f h11_0 h11_1 h11_2 h11_f
  refine (hHm _).mono ?_
  rintro e y3 ⟨rfl, rfl⟩
  have hh_0 : (_ : World).cell? ⟨g1, 0, none⟩ = some (.int .i64 8) := hh.c0
  have hh_1 : (_ : World).cell? ⟨g1, 1, none⟩ = some (.int .i64 4) := hh.c1
  have hh_2 : (_ : World).cell? ⟨g1, 2, none⟩ = some (.int .i64 2) := hh.c2
  have hh_f := hh.f
  have hx_0 : (_ : World).cell? ⟨g2, 0, none⟩ = some (.int .i64 8) := hx.c0
  have hx_1 : (_ : World).cell? ⟨g2, 1, none⟩ = some (.int .i64 4) := hx.c1
  have hx_2 : (_ : World).cell? ⟨g2, 2, none⟩ = some (.int .i64 1) := hx.c2
  have hx_f := hx.f
  have h11_0 : (_ : World).cell? ⟨g11, 0, none⟩ = some (.int .i64 8) := h11.c0
  have h11_1 : (_ : World).cell? ⟨g11, 1, none⟩ = some (.int .i64 4) := h11.c1
  have h11_2 : (_ : World).cell? ⟨g11, 2, none⟩ = some (.int .i64 2) := h11.c2
  have h11_f := h11.f
  go_wp2_with fail
  clear hh_0 hh_1 hh_2 hh_f hx_0 hx_1 hx_2 hx_f h11_0 h11_1 h11_2 h11_f
  refine (hLg _).mono ?_
  rintro e y4 ⟨rfl, hv⟩
  have hh := hh.below hv hh.lt
  have hx := hx.below hv hx.lt
  have h11 := h11.below hv h11.lt
  have hB := hB.trans (hv.mono hB.size)
  clear hv
  have hh_0 : (_ : World).cell? ⟨g1, 0, none⟩ = some (.int .i64 8) := hh.c0
  have hh_1 : (_ : World).cell? ⟨g1, 1, none⟩ = some (.int .i64 4) := hh.c1
  have hh_2 : (_ : World).cell? ⟨g1, 2, none⟩ = some (.int .i64 2) := hh.c2
  have hh_f := hh.f
  have hx_0 : (_ : World).cell? ⟨g2, 0, none⟩ = some (.int .i64 8) := hx.c0
  have hx_1 : (_ : World).cell? ⟨g2, 1, none⟩ = some (.int .i64 4) := hx.c1
  have hx_2 : (_ : World).cell? ⟨g2, 2, none⟩ = some (.int .i64 1) := hx.c2
  have hx_f := hx.f
  have h11_0 : (_ : World).cell? ⟨g11, 0, none⟩ = some (.int .i64 8) := h11.c0
  have h11_1 : (_ : World).cell? ⟨g11, 1, none⟩ = some (.int .i64 4) := h11.c1
  have h11_2 : (_ : World).cell? ⟨g11, 2, none⟩ = some (.int .i64 2) := h11.c2
  have h11_f := h11.f
  go_wp2_with fail
  clear hh_0 hh_1 hh_2 hh_f hx_0 hx_1 hx_2 hx_f h11_0 h11_1 h11_2 h11_f
  refine (hP2 _ (HT.out.below hB)).mono ?_
  rintro e y5 ⟨rfl, hv⟩
  have hh := hh.below hv hh.lt
  have hx := hx.below hv hx.lt
  have h11 := h11.below hv h11.lt
  have hB := hB.trans (hv.mono hB.size)
  clear hv
  have s1 : (8 : Int) ≤ (x2.size : Int) := by rw [HX.out.2]; decide
  have s3 : ((x2.extract 0 8).toList == [77, 79, 83, 65, 73, 67, 48, 49]) = true := by
    rw [Lib.extract_toList, List.drop_zero, HX.out.1]
    rfl
  have HB := Lib.hid hB
  have hh_0 : (_ : World).cell? ⟨g1, 0, none⟩ = some (.int .i64 8) := hh.c0
  have hh_1 : (_ : World).cell? ⟨g1, 1, none⟩ = some (.int .i64 4) := hh.c1
  have hh_2 : (_ : World).cell? ⟨g1, 2, none⟩ = some (.int .i64 2) := hh.c2
  have hh_f := hh.f
  have hx_0 : (_ : World).cell? ⟨g2, 0, none⟩ = some (.int .i64 8) := hx.c0
  have hx_1 : (_ : World).cell? ⟨g2, 1, none⟩ = some (.int .i64 4) := hx.c1
  have hx_2 : (_ : World).cell? ⟨g2, 2, none⟩ = some (.int .i64 1) := hx.c2
  have hx_f := hx.f
  have h11_0 : (_ : World).cell? ⟨g11, 0, none⟩ = some (.int .i64 8) := h11.c0
  have h11_1 : (_ : World).cell? ⟨g11, 1, none⟩ = some (.int .i64 4) := h11.c1
  have h11_2 : (_ : World).cell? ⟨g11, 2, none⟩ = some (.int .i64 2) := h11.c2
  have h11_f := h11.f
  clear hB hh hx h11
  go_wp2
  go_ret
  exact ⟨rfl, HB.out⟩
end Go.Proofs.YtdbemkdfndjakaaDoor.Hd
