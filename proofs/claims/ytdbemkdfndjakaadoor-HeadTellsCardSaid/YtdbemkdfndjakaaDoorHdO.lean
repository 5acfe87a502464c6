/- Heads' sectors are the document's: the law, walked. -/
import Derived.Test.YtdbemkdfndjakaaDoorHdN
import Derived.Test.YtdbemkdfndjakaaDoorXht
namespace Go.Proofs.YtdbemkdfndjakaaDoor.Hd
open Go.RowKit Tal Sla Fr Lex
set_option maxRecDepth 20000 in
set_option maxHeartbeats 12800000 in
theorem tells_any (h : H) (s : ByteArray) (n : Int) (w : World) (ht : Tab w) : Calls Tryd.prog 3 #[.agg (cellsH h), .string s, .int .i64 n] w fun e w' => e = .returned (.bool true) ∧ Below w.heap.size w w' := by
  have HT := Lib.hid ht
  clear ht
  have hB := (Below.refl w.heap.size w).alloc (Nat.le_refl _) (.cells (cellsH h) 23)
  have hh := BoxH.new w h 23
  obtain ⟨g1, hg1⟩ : ∃ g, w.heap.size = g := ⟨_, rfl⟩
  rw [hg1] at hh
  generalize hwa : w.alloc (.cells (cellsH h) 23) = wa at hB hh
  have hRt := fun W => right_any h W
  have hRf := fun W => refRight_any h W
  have hpf := fun (k : RightH h) W (ht : Tab W) => print_any h W ht k
  have hsf := fun (k : RightH h) W => refPrint_any h W k
  have hS1 := fun W => size_any h W
  have hS2 := fun W => refSize_any h W
  have hM1 := fun W => home_any n W
  have hM2 := fun W => refHome_any n W
  have hL1 := fun W => log_any h n W
  have hL2 := fun W => refLog_any h n W
  generalize wrap64 (wrap64 (2 + h.p) + h.l) = sz at hS1 hS2
  generalize wrap64 (2 + n) = hm at hM1 hM2
  generalize wrap64 (wrap64 (2 + h.p) + n) = lg at hL1 hL2
  generalize headB h = x at hpf hsf
  obtain ⟨hp, hl, he⟩ := h
  unfold cellsH at hwa hRt hRf hpf hsf hS1 hS2 hL1 hL2 ⊢
  simp only at hwa hRt hRf hpf hsf hS1 hS2 hL1 hL2 ⊢
  have HC := Lib.hid (And.intro hS1 (And.intro hS2 (And.intro hM1 (And.intro hM2 (And.intro hL1 hL2)))))
  clear hS1 hS2 hM1 hM2 hL1 hL2
  have q0 : wa.cell? ⟨g1, 0, none⟩ = some (.int .i64 hp) := hh.c0
  have q1 : wa.cell? ⟨g1, 1, none⟩ = some (.int .i64 hl) := hh.c1
  have q2 : wa.cell? ⟨g1, 2, none⟩ = some (.int .i64 he) := hh.c2
  go_enter Tryd.func3, Tryd.ntmps3
  by_cases hd : 300 < s.size
  · have i1 : (300 : Int) < (s.size : Int) := by omega
    go_wp2_with fail
    refine (awake_any _ (HT.out.below hB)).mono ?_
    rintro e w2 ⟨rfl, hv⟩
    have HB := Lib.hid (hB.trans (hv.mono hB.size))
    clear hv hB hh q0 q1 q2 hwa
    go_wp2
    go_ret
    exact ⟨rfl, HB.out⟩
  have i1 : ¬ (300 : Int) < (s.size : Int) := by omega
  have hqa := fun W (ht : Tab W) => parse_any s W ht (by omega)
  have hqb := fun W => refParse_any s W (by omega)
  unfold ParsePost at hqa hqb
  generalize (parseH s).getD noH = pr at hqa hqb
  generalize (parseH s).isSome = po at hqa hqb
  obtain ⟨pp, pl, pe⟩ := pr
  unfold cellsH at hqa hqb
  simp only at hqa hqb
  have HQ := Lib.hid (And.intro hqa hqb)
  clear hqa hqb hd
  go_wp2_with fail
  clear hwa hg1 q0 q1 q2
  refine (hRt _).mono ?_
  rintro e w2 ⟨is, rfl, hi, hv⟩
  have hh := hh.below hv hh.lt
  have hB := hB.trans (hv.mono hB.size)
  clear hv hRt
  have hRq : ∀ b, is = b → ∀ W, Calls Tryd.prog 11 #[.agg #[.int .i64 hp, .int .i64 hl, .int .i64 he]] W fun e w' => e = .returned (.bool b) ∧ Below W.heap.size W w' := fun b hb W => (hRf W).mono (by
    rintro e w' ⟨b', rfl, hb', hv⟩
    refine ⟨?_, hv⟩
    rw [show b' = b by rw [← hb]; exact Bool.eq_iff_iff.2 (hb'.trans hi.symm)])
  have HP0 : Hid (is = true → _) := Lib.hid (fun e => And.intro (hpf (hi.1 e)) (hsf (hi.1 e)))
  clear hRf hpf hsf hi
  cases is
  · have HP : Hid True := Lib.hid trivial
    have HR := Lib.hid (hRq false rfl)
    go_wp2_with fail
    refine (HQ.out.1 _ (HT.out.below hB)).mono ?_
    rintro e w3 ⟨rfl, hv⟩
    have hh := hh.below hv hh.lt
    have hB := hB.trans (hv.mono hB.size)
    clear hv
    go_upto_region 5 with fail
    have hv := (Below.refl w3.heap.size w3).alloc (Nat.le_refl _) (.cells #[.int .i64 pp, .int .i64 pl, .int .i64 pe] 23)
    have ha : BoxH (w3.alloc (.cells #[.int .i64 pp, .int .i64 pl, .int .i64 pe] 23)) w3.heap.size ⟨pp, pl, pe⟩ := BoxH.new w3 ⟨pp, pl, pe⟩ 23
    have o_hh_ha := hh.lt
    have w_ha := hB.size
    have hh := hh.below hv hh.lt
    have hB := hB.trans (hv.mono hB.size)
    clear hv
    generalize w3.alloc (.cells #[.int .i64 pp, .int .i64 pl, .int .i64 pe] 23) = w4 at hh ha hB ⊢
    generalize hg_ha : w3.heap.size = g2 at ha w_ha o_hh_ha ⊢
    clear hg_ha
    go_wp2_with fail
    refine (HQ.out.2 _).mono ?_
    rintro e w5 ⟨rfl, hv⟩
    have hh := hh.below hv hh.lt
    have ha := ha.below hv ha.lt
    have hB := hB.trans (hv.mono hB.size)
    clear hv
    go_upto_region 6 with fail
    have hv := (Below.refl w5.heap.size w5).alloc (Nat.le_refl _) (.cells #[.int .i64 pp, .int .i64 pl, .int .i64 pe] 23)
    have hb2 : BoxH (w5.alloc (.cells #[.int .i64 pp, .int .i64 pl, .int .i64 pe] 23)) w5.heap.size ⟨pp, pl, pe⟩ := BoxH.new w5 ⟨pp, pl, pe⟩ 23
    have o_hh_hb2 := hh.lt
    have o_ha_hb2 := ha.lt
    have w_hb2 := hB.size
    have hh := hh.below hv hh.lt
    have ha := ha.below hv ha.lt
    have hB := hB.trans (hv.mono hB.size)
    clear hv
    generalize w5.alloc (.cells #[.int .i64 pp, .int .i64 pl, .int .i64 pe] 23) = w6 at hh ha hb2 hB ⊢
    generalize hg_hb2 : w5.heap.size = g3 at hb2 w_hb2 o_hh_hb2 o_ha_hb2 ⊢
    clear hg_hb2
    have hdr := (Below.refl w6.heap.size w6).drew
    have hh := hh.below hdr hh.lt
    have ha := ha.below hdr ha.lt
    have hb2 := hb2.below hdr hb2.lt
    have hB := hB.trans (hdr.mono hB.size)
    clear hdr
    refine Lex.region_lex (ops := htops) (calls := htcalls) htord (fun W => W.cell? ⟨g1, 0, none⟩ = some (.int .i64 hp) ∧ W.cell? ⟨g1, 1, none⟩ = some (.int .i64 hl) ∧ W.cell? ⟨g1, 2, none⟩ = some (.int .i64 he) ∧ W.cell? ⟨g2, 0, none⟩ = some (.int .i64 pp) ∧ W.cell? ⟨g2, 1, none⟩ = some (.int .i64 pl) ∧ W.cell? ⟨g2, 2, none⟩ = some (.int .i64 pe) ∧ W.cell? ⟨g3, 0, none⟩ = some (.int .i64 pp) ∧ W.cell? ⟨g3, 1, none⟩ = some (.int .i64 pl) ∧ W.cell? ⟨g3, 2, none⟩ = some (.int .i64 pe)) (by kernel_rfl) (by kernel_rfl) htsel (by kernel_rfl) (by kernel_rfl) htlex (⟨hh.c0, hh.c1, hh.c2, ha.c0, ha.c1, ha.c2, hb2.c0, hb2.c1, hb2.c2⟩) ?_
    unfold htord
    refine Lex.step_call ht0 rfl (Lex.want_none rfl) (fun K hK => ?_)
    go_simp
    refine (awake_any _ (HT.out.below hB)).mono ?_
    rintro e y1 ⟨rfl, hv⟩
    have hh := hh.below hv hh.lt
    have ha := ha.below hv ha.lt
    have hb2 := hb2.below hv hb2.lt
    have hB := hB.trans (hv.mono hB.size)
    clear hv
    refine hK.out _ _ _ (fun _ h => h) ⟨hh.c0, hh.c1, hh.c2, ha.c0, ha.c1, ha.c2, hb2.c0, hb2.c1, hb2.c2⟩ ?_
    clear hK K
    try simp only [Act.put, List.setIfInBounds_toArray, List.set_cons_zero, List.set_cons_succ]
    refine Lex.step_take (.bool true) ht1 rfl (Lex.want_none rfl) (by intro Wx hSw; (try dsimp only at hSw); go_simp; (try (first | (with_reducible rfl) | assumption | rfl))) ?_
    simp only [Act.put, List.setIfInBounds_toArray, List.set_cons_zero, List.set_cons_succ]
    refine Lex.step_take (.bool false) ht2 rfl (Lex.want_some rfl ht1 rfl (b' := true) rfl rfl) (by intro Wx hSw; (try dsimp only at hSw); go_simp; (try (first | (with_reducible rfl) | assumption | rfl))) ?_
    simp only [Act.put, List.setIfInBounds_toArray, List.set_cons_zero, List.set_cons_succ]
    refine Lex.step_take (.agg #[.int .i64 hp, .int .i64 hl, .int .i64 he]) ht3 rfl (Lex.want_some rfl ht1 rfl (b' := true) rfl rfl) (by intro Wx hSw; (try dsimp only at hSw); go_simp; (try (first | (with_reducible rfl) | assumption | rfl))) ?_
    simp only [Act.put, List.setIfInBounds_toArray, List.set_cons_zero, List.set_cons_succ]
    refine Lex.step_call ht4 rfl (Lex.want_some rfl ht1 rfl (b' := true) rfl rfl) (fun K hK => ?_)
    go_simp
    refine (HR.out _).mono ?_
    rintro e y2 ⟨rfl, hv⟩
    have hh := hh.below hv hh.lt
    have ha := ha.below hv ha.lt
    have hb2 := hb2.below hv hb2.lt
    have hB := hB.trans (hv.mono hB.size)
    clear hv
    refine hK.out _ _ _ (fun _ h => h) ⟨hh.c0, hh.c1, hh.c2, ha.c0, ha.c1, ha.c2, hb2.c0, hb2.c1, hb2.c2⟩ ?_
    clear hK K
    try simp only [Act.put, List.setIfInBounds_toArray, List.set_cons_zero, List.set_cons_succ]
    refine Lex.step_take (.bool true) ht5 rfl (Lex.want_some rfl ht1 rfl (b' := true) rfl rfl) (by intro Wx hSw; (try dsimp only at hSw); go_simp; (try (first | (with_reducible rfl) | assumption | rfl))) ?_
    simp only [Act.put, List.setIfInBounds_toArray, List.set_cons_zero, List.set_cons_succ]
    refine Lex.step_take (.bool true) ht6 rfl (Lex.want_none rfl) (by intro Wx hSw; (try dsimp only at hSw); go_simp; (try (first | (with_reducible rfl) | assumption | rfl))) ?_
    simp only [Act.put, List.setIfInBounds_toArray, List.set_cons_zero, List.set_cons_succ]
    refine Lex.step_take (.bool true) ht7 rfl (Lex.want_none rfl) (by intro Wx hSw; (try dsimp only at hSw); go_simp; (try (first | (with_reducible rfl) | assumption | rfl))) ?_
    simp only [Act.put, List.setIfInBounds_toArray, List.set_cons_zero, List.set_cons_succ]
    refine Lex.step_take (.bool false) ht8 rfl (Lex.want_some rfl ht7 rfl (b' := true) rfl rfl) (by intro Wx hSw; (try dsimp only at hSw); go_simp; (try (first | (with_reducible rfl) | assumption | rfl))) ?_
    simp only [Act.put, List.setIfInBounds_toArray, List.set_cons_zero, List.set_cons_succ]
    refine Lex.step_take (.bool true) ht9 rfl (Lex.want_some rfl ht7 rfl (b' := true) rfl rfl) (by intro Wx hSw; (try dsimp only at hSw); go_simp; (try (first | (with_reducible rfl) | assumption | rfl))) ?_
    simp only [Act.put, List.setIfInBounds_toArray, List.set_cons_zero, List.set_cons_succ]
    refine Lex.step_take (.bool true) ht10 rfl (Lex.want_some rfl ht7 rfl (b' := true) rfl rfl) (by intro Wx hSw; (try dsimp only at hSw); go_simp; (try (first | (with_reducible rfl) | assumption | rfl))) ?_
    simp only [Act.put, List.setIfInBounds_toArray, List.set_cons_zero, List.set_cons_succ]
    refine Lex.step_skip ht11 (Lex.want_some rfl ht10 rfl (b' := true) rfl rfl) ?_
    simp only [Act.put, List.setIfInBounds_toArray, List.set_cons_zero, List.set_cons_succ]
    refine Lex.step_skip ht13 (Lex.want_some rfl ht10 rfl (b' := true) rfl rfl) ?_
    simp only [Act.put, List.setIfInBounds_toArray, List.set_cons_zero, List.set_cons_succ]
    refine Lex.step_skip ht12 (Lex.want_some rfl ht10 rfl (b' := true) rfl rfl) ?_
    simp only [Act.put, List.setIfInBounds_toArray, List.set_cons_zero, List.set_cons_succ]
    refine Lex.step_skip ht14 (Lex.want_some rfl ht10 rfl (b' := true) rfl rfl) ?_
    simp only [Act.put, List.setIfInBounds_toArray, List.set_cons_zero, List.set_cons_succ]
    refine Lex.step_skip ht15 (Lex.want_some rfl ht10 rfl (b' := true) rfl rfl) ?_
    simp only [Act.put, List.setIfInBounds_toArray, List.set_cons_zero, List.set_cons_succ]
    refine Lex.step_take (.bool true) ht16 rfl (Lex.want_some rfl ht7 rfl (b' := true) rfl rfl) (by intro Wx hSw; (try dsimp only at hSw); go_simp; (try (first | (with_reducible rfl) | assumption | rfl))) ?_
    simp only [Act.put, List.setIfInBounds_toArray, List.set_cons_zero, List.set_cons_succ]
    refine Lex.step_take (.bool true) ht17 rfl (Lex.want_none rfl) (by intro Wx hSw; (try dsimp only at hSw); go_simp; (try (first | (with_reducible rfl) | assumption | rfl))) ?_
    simp only [Act.put, List.setIfInBounds_toArray, List.set_cons_zero, List.set_cons_succ]
    refine Lex.step_take (.bool true) ht18 rfl (Lex.want_none rfl) (by intro Wx hSw; (try dsimp only at hSw); go_simp; (try (first | (with_reducible rfl) | assumption | rfl))) ?_
    simp only [Act.put, List.setIfInBounds_toArray, List.set_cons_zero, List.set_cons_succ]
    refine Lex.step_take (.agg #[.int .i64 pp, .int .i64 pl, .int .i64 pe]) ht19 rfl (Lex.want_some rfl ht18 rfl (b' := true) rfl rfl) (by intro Wx hSw; (try dsimp only at hSw); go_simp; (try (first | (with_reducible rfl) | assumption | rfl))) ?_
    simp only [Act.put, List.setIfInBounds_toArray, List.set_cons_zero, List.set_cons_succ]
    refine Lex.step_take (.agg #[.int .i64 pp, .int .i64 pl, .int .i64 pe]) ht20 rfl (Lex.want_some rfl ht18 rfl (b' := true) rfl rfl) (by intro Wx hSw; (try dsimp only at hSw); go_simp; (try (first | (with_reducible rfl) | assumption | rfl))) ?_
    simp only [Act.put, List.setIfInBounds_toArray, List.set_cons_zero, List.set_cons_succ]
    refine Lex.step_take (.bool true) ht21 rfl (Lex.want_some rfl ht18 rfl (b' := true) rfl rfl) (by intro Wx hSw; (try dsimp only at hSw); go_simp; (try (first | (with_reducible rfl) | assumption | rfl))) ?_
    simp only [Act.put, List.setIfInBounds_toArray, List.set_cons_zero, List.set_cons_succ]
    refine Lex.step_take (.bool true) ht22 rfl (Lex.want_none rfl) (by intro Wx hSw; (try dsimp only at hSw); go_simp; (try (first | (with_reducible rfl) | assumption | rfl))) ?_
    simp only [Act.put, List.setIfInBounds_toArray, List.set_cons_zero, List.set_cons_succ]
    refine Lex.step_take (.bool true) ht23 rfl (Lex.want_none rfl) (by intro Wx hSw; (try dsimp only at hSw); go_simp; (try (first | (with_reducible rfl) | assumption | rfl))) ?_
    simp only [Act.put, List.setIfInBounds_toArray, List.set_cons_zero, List.set_cons_succ]
    refine Lex.step_take (.bool po) ht24 rfl (Lex.want_some rfl ht23 rfl (b' := true) rfl rfl) (by intro Wx hSw; (try dsimp only at hSw); go_simp; (try (first | (with_reducible rfl) | assumption | rfl))) ?_
    simp only [Act.put, List.setIfInBounds_toArray, List.set_cons_zero, List.set_cons_succ]
    refine Lex.step_take (.bool po) ht25 rfl (Lex.want_some rfl ht23 rfl (b' := true) rfl rfl) (by intro Wx hSw; (try dsimp only at hSw); go_simp; (try (first | (with_reducible rfl) | assumption | rfl))) ?_
    simp only [Act.put, List.setIfInBounds_toArray, List.set_cons_zero, List.set_cons_succ]
    refine Lex.step_take (.bool true) ht26 rfl (Lex.want_some rfl ht23 rfl (b' := true) rfl rfl) (by intro Wx hSw; (try dsimp only at hSw); go_simp; (try (first | (with_reducible rfl) | assumption | rfl))) ?_
    simp only [Act.put, List.setIfInBounds_toArray, List.set_cons_zero, List.set_cons_succ]
    refine Lex.step_take (.bool true) ht27 rfl (Lex.want_none rfl) (by intro Wx hSw; (try dsimp only at hSw); go_simp; (try (first | (with_reducible rfl) | assumption | rfl))) ?_
    simp only [Act.put, List.setIfInBounds_toArray, List.set_cons_zero, List.set_cons_succ]
    refine Lex.step_take (.bool true) ht28 rfl (Lex.want_none rfl) (by intro Wx hSw; (try dsimp only at hSw); go_simp; (try (first | (with_reducible rfl) | assumption | rfl))) ?_
    simp only [Act.put, List.setIfInBounds_toArray, List.set_cons_zero, List.set_cons_succ]
    refine Lex.step_take (.agg #[.int .i64 hp, .int .i64 hl, .int .i64 he]) ht29 rfl (Lex.want_some rfl ht28 rfl (b' := true) rfl rfl) (by intro Wx hSw; (try dsimp only at hSw); go_simp; (try (first | (with_reducible rfl) | assumption | rfl))) ?_
    simp only [Act.put, List.setIfInBounds_toArray, List.set_cons_zero, List.set_cons_succ]
    refine Lex.step_take (.agg #[.int .i64 hp, .int .i64 hl, .int .i64 he]) ht31 rfl (Lex.want_some rfl ht28 rfl (b' := true) rfl rfl) (by intro Wx hSw; (try dsimp only at hSw); go_simp; (try (first | (with_reducible rfl) | assumption | rfl))) ?_
    simp only [Act.put, List.setIfInBounds_toArray, List.set_cons_zero, List.set_cons_succ]
    refine Lex.step_call ht30 rfl (Lex.want_some rfl ht28 rfl (b' := true) rfl rfl) (fun K hK => ?_)
    go_simp
    refine (HC.out.1 _).mono ?_
    rintro e y5 ⟨rfl, hv⟩
    have hh := hh.below hv hh.lt
    have ha := ha.below hv ha.lt
    have hb2 := hb2.below hv hb2.lt
    have hB := hB.trans (hv.mono hB.size)
    clear hv
    refine hK.out _ _ _ (fun _ h => h) ⟨hh.c0, hh.c1, hh.c2, ha.c0, ha.c1, ha.c2, hb2.c0, hb2.c1, hb2.c2⟩ ?_
    clear hK K
    try simp only [Act.put, List.setIfInBounds_toArray, List.set_cons_zero, List.set_cons_succ]
    refine Lex.step_call ht32 rfl (Lex.want_some rfl ht28 rfl (b' := true) rfl rfl) (fun K hK => ?_)
    go_simp
    refine (HC.out.2.1 _).mono ?_
    rintro e y6 ⟨rfl, hv⟩
    have hh := hh.below hv hh.lt
    have ha := ha.below hv ha.lt
    have hb2 := hb2.below hv hb2.lt
    have hB := hB.trans (hv.mono hB.size)
    clear hv
    refine hK.out _ _ _ (fun _ h => h) ⟨hh.c0, hh.c1, hh.c2, ha.c0, ha.c1, ha.c2, hb2.c0, hb2.c1, hb2.c2⟩ ?_
    clear hK K
    try simp only [Act.put, List.setIfInBounds_toArray, List.set_cons_zero, List.set_cons_succ]
    refine Lex.step_take (.bool true) ht33 rfl (Lex.want_some rfl ht28 rfl (b' := true) rfl rfl) (by intro Wx hSw; (try dsimp only at hSw); go_simp; (try (first | (with_reducible rfl) | assumption | rfl))) ?_
    simp only [Act.put, List.setIfInBounds_toArray, List.set_cons_zero, List.set_cons_succ]
    refine Lex.step_take (.bool true) ht34 rfl (Lex.want_none rfl) (by intro Wx hSw; (try dsimp only at hSw); go_simp; (try (first | (with_reducible rfl) | assumption | rfl))) ?_
    simp only [Act.put, List.setIfInBounds_toArray, List.set_cons_zero, List.set_cons_succ]
    refine Lex.step_take (.bool true) ht35 rfl (Lex.want_none rfl) (by intro Wx hSw; (try dsimp only at hSw); go_simp; (try (first | (with_reducible rfl) | assumption | rfl))) ?_
    simp only [Act.put, List.setIfInBounds_toArray, List.set_cons_zero, List.set_cons_succ]
    refine Lex.step_take (.int .i64 n) ht36 rfl (Lex.want_some rfl ht35 rfl (b' := true) rfl rfl) (by intro Wx hSw; (try dsimp only at hSw); go_simp; (try (first | (with_reducible rfl) | assumption | rfl))) ?_
    simp only [Act.put, List.setIfInBounds_toArray, List.set_cons_zero, List.set_cons_succ]
    refine Lex.step_take (.int .i64 n) ht38 rfl (Lex.want_some rfl ht35 rfl (b' := true) rfl rfl) (by intro Wx hSw; (try dsimp only at hSw); go_simp; (try (first | (with_reducible rfl) | assumption | rfl))) ?_
    simp only [Act.put, List.setIfInBounds_toArray, List.set_cons_zero, List.set_cons_succ]
    refine Lex.step_call ht37 rfl (Lex.want_some rfl ht35 rfl (b' := true) rfl rfl) (fun K hK => ?_)
    go_simp
    refine (HC.out.2.2.1 _).mono ?_
    rintro e y7 ⟨rfl, rfl⟩
    refine hK.out _ _ _ (fun _ h => h) ⟨hh.c0, hh.c1, hh.c2, ha.c0, ha.c1, ha.c2, hb2.c0, hb2.c1, hb2.c2⟩ ?_
    clear hK K
    try simp only [Act.put, List.setIfInBounds_toArray, List.set_cons_zero, List.set_cons_succ]
    refine Lex.step_call ht39 rfl (Lex.want_some rfl ht35 rfl (b' := true) rfl rfl) (fun K hK => ?_)
    go_simp
    refine (HC.out.2.2.2.1 _).mono ?_
    rintro e y8 ⟨rfl, rfl⟩
    refine hK.out _ _ _ (fun _ h => h) ⟨hh.c0, hh.c1, hh.c2, ha.c0, ha.c1, ha.c2, hb2.c0, hb2.c1, hb2.c2⟩ ?_
    clear hK K
    try simp only [Act.put, List.setIfInBounds_toArray, List.set_cons_zero, List.set_cons_succ]
    refine Lex.step_take (.bool true) ht40 rfl (Lex.want_some rfl ht35 rfl (b' := true) rfl rfl) (by intro Wx hSw; (try dsimp only at hSw); go_simp; (try (first | (with_reducible rfl) | assumption | rfl))) ?_
    simp only [Act.put, List.setIfInBounds_toArray, List.set_cons_zero, List.set_cons_succ]
    refine Lex.step_take (.bool true) ht41 rfl (Lex.want_none rfl) (by intro Wx hSw; (try dsimp only at hSw); go_simp; (try (first | (with_reducible rfl) | assumption | rfl))) ?_
    simp only [Act.put, List.setIfInBounds_toArray, List.set_cons_zero, List.set_cons_succ]
    refine Lex.step_take (.bool true) ht42 rfl (Lex.want_none rfl) (by intro Wx hSw; (try dsimp only at hSw); go_simp; (try (first | (with_reducible rfl) | assumption | rfl))) ?_
    simp only [Act.put, List.setIfInBounds_toArray, List.set_cons_zero, List.set_cons_succ]
    refine Lex.step_take (.agg #[.int .i64 hp, .int .i64 hl, .int .i64 he]) ht43 rfl (Lex.want_some rfl ht42 rfl (b' := true) rfl rfl) (by intro Wx hSw; (try dsimp only at hSw); go_simp; (try (first | (with_reducible rfl) | assumption | rfl))) ?_
    simp only [Act.put, List.setIfInBounds_toArray, List.set_cons_zero, List.set_cons_succ]
    refine Lex.step_take (.int .i64 n) ht44 rfl (Lex.want_some rfl ht42 rfl (b' := true) rfl rfl) (by intro Wx hSw; (try dsimp only at hSw); go_simp; (try (first | (with_reducible rfl) | assumption | rfl))) ?_
    simp only [Act.put, List.setIfInBounds_toArray, List.set_cons_zero, List.set_cons_succ]
    refine Lex.step_take (.agg #[.int .i64 hp, .int .i64 hl, .int .i64 he]) ht46 rfl (Lex.want_some rfl ht42 rfl (b' := true) rfl rfl) (by intro Wx hSw; (try dsimp only at hSw); go_simp; (try (first | (with_reducible rfl) | assumption | rfl))) ?_
    simp only [Act.put, List.setIfInBounds_toArray, List.set_cons_zero, List.set_cons_succ]
    refine Lex.step_take (.int .i64 n) ht47 rfl (Lex.want_some rfl ht42 rfl (b' := true) rfl rfl) (by intro Wx hSw; (try dsimp only at hSw); go_simp; (try (first | (with_reducible rfl) | assumption | rfl))) ?_
    simp only [Act.put, List.setIfInBounds_toArray, List.set_cons_zero, List.set_cons_succ]
    refine Lex.step_call ht45 rfl (Lex.want_some rfl ht42 rfl (b' := true) rfl rfl) (fun K hK => ?_)
    go_simp
    refine (HC.out.2.2.2.2.1 _).mono ?_
    rintro e y9 ⟨rfl, hv⟩
    have hh := hh.below hv hh.lt
    have ha := ha.below hv ha.lt
    have hb2 := hb2.below hv hb2.lt
    have hB := hB.trans (hv.mono hB.size)
    clear hv
    refine hK.out _ _ _ (fun _ h => h) ⟨hh.c0, hh.c1, hh.c2, ha.c0, ha.c1, ha.c2, hb2.c0, hb2.c1, hb2.c2⟩ ?_
    clear hK K
    try simp only [Act.put, List.setIfInBounds_toArray, List.set_cons_zero, List.set_cons_succ]
    refine Lex.step_call ht48 rfl (Lex.want_some rfl ht42 rfl (b' := true) rfl rfl) (fun K hK => ?_)
    go_simp
    refine (HC.out.2.2.2.2.2 _).mono ?_
    rintro e y10 ⟨rfl, hv⟩
    have hh := hh.below hv hh.lt
    have ha := ha.below hv ha.lt
    have hb2 := hb2.below hv hb2.lt
    have hB := hB.trans (hv.mono hB.size)
    clear hv
    refine hK.out _ _ _ (fun _ h => h) ⟨hh.c0, hh.c1, hh.c2, ha.c0, ha.c1, ha.c2, hb2.c0, hb2.c1, hb2.c2⟩ ?_
    clear hK K
    try simp only [Act.put, List.setIfInBounds_toArray, List.set_cons_zero, List.set_cons_succ]
    refine Lex.step_take (.bool true) ht49 rfl (Lex.want_some rfl ht42 rfl (b' := true) rfl rfl) (by intro Wx hSw; (try dsimp only at hSw); go_simp; (try (first | (with_reducible rfl) | assumption | rfl))) ?_
    simp only [Act.put, List.setIfInBounds_toArray, List.set_cons_zero, List.set_cons_succ]
    refine Lex.step_take (.bool true) ht50 rfl (Lex.want_none rfl) (by intro Wx hSw; (try dsimp only at hSw); go_simp; (try (first | (with_reducible rfl) | assumption | rfl))) ?_
    simp only [Act.put, List.setIfInBounds_toArray, List.set_cons_zero, List.set_cons_succ]
    refine Lex.step_take (.bool true) ht51 rfl (Lex.want_none rfl) (by intro Wx hSw; (try dsimp only at hSw); go_simp; (try (first | (with_reducible rfl) | assumption | rfl))) ?_
    simp only [Act.put, List.setIfInBounds_toArray, List.set_cons_zero, List.set_cons_succ]
    refine NoPanic.normal ?_
    have HB := Lib.hid hB
    clear hB hh ha hb2
    go_wp2
    go_ret
    exact ⟨rfl, HB.out⟩
  · have HP := Lib.hid (HP0.out rfl)
    have HR := Lib.hid (hRq true rfl)
    go_wp2_with fail
    refine (HQ.out.1 _ (HT.out.below hB)).mono ?_
    rintro e w3 ⟨rfl, hv⟩
    have hh := hh.below hv hh.lt
    have hB := hB.trans (hv.mono hB.size)
    clear hv
    go_upto_region 5 with fail
    have hv := (Below.refl w3.heap.size w3).alloc (Nat.le_refl _) (.cells #[.int .i64 pp, .int .i64 pl, .int .i64 pe] 23)
    have ha : BoxH (w3.alloc (.cells #[.int .i64 pp, .int .i64 pl, .int .i64 pe] 23)) w3.heap.size ⟨pp, pl, pe⟩ := BoxH.new w3 ⟨pp, pl, pe⟩ 23
    have o_hh_ha := hh.lt
    have w_ha := hB.size
    have hh := hh.below hv hh.lt
    have hB := hB.trans (hv.mono hB.size)
    clear hv
    generalize w3.alloc (.cells #[.int .i64 pp, .int .i64 pl, .int .i64 pe] 23) = w4 at hh ha hB ⊢
    generalize hg_ha : w3.heap.size = g2 at ha w_ha o_hh_ha ⊢
    clear hg_ha
    go_wp2_with fail
    refine (HQ.out.2 _).mono ?_
    rintro e w5 ⟨rfl, hv⟩
    have hh := hh.below hv hh.lt
    have ha := ha.below hv ha.lt
    have hB := hB.trans (hv.mono hB.size)
    clear hv
    go_upto_region 6 with fail
    have hv := (Below.refl w5.heap.size w5).alloc (Nat.le_refl _) (.cells #[.int .i64 pp, .int .i64 pl, .int .i64 pe] 23)
    have hb2 : BoxH (w5.alloc (.cells #[.int .i64 pp, .int .i64 pl, .int .i64 pe] 23)) w5.heap.size ⟨pp, pl, pe⟩ := BoxH.new w5 ⟨pp, pl, pe⟩ 23
    have o_hh_hb2 := hh.lt
    have o_ha_hb2 := ha.lt
    have w_hb2 := hB.size
    have hh := hh.below hv hh.lt
    have ha := ha.below hv ha.lt
    have hB := hB.trans (hv.mono hB.size)
    clear hv
    generalize w5.alloc (.cells #[.int .i64 pp, .int .i64 pl, .int .i64 pe] 23) = w6 at hh ha hb2 hB ⊢
    generalize hg_hb2 : w5.heap.size = g3 at hb2 w_hb2 o_hh_hb2 o_ha_hb2 ⊢
    clear hg_hb2
    have hdr := (Below.refl w6.heap.size w6).drew
    have hh := hh.below hdr hh.lt
    have ha := ha.below hdr ha.lt
    have hb2 := hb2.below hdr hb2.lt
    have hB := hB.trans (hdr.mono hB.size)
    clear hdr
    refine Lex.region_lex (ops := htops) (calls := htcalls) htord (fun W => W.cell? ⟨g1, 0, none⟩ = some (.int .i64 hp) ∧ W.cell? ⟨g1, 1, none⟩ = some (.int .i64 hl) ∧ W.cell? ⟨g1, 2, none⟩ = some (.int .i64 he) ∧ W.cell? ⟨g2, 0, none⟩ = some (.int .i64 pp) ∧ W.cell? ⟨g2, 1, none⟩ = some (.int .i64 pl) ∧ W.cell? ⟨g2, 2, none⟩ = some (.int .i64 pe) ∧ W.cell? ⟨g3, 0, none⟩ = some (.int .i64 pp) ∧ W.cell? ⟨g3, 1, none⟩ = some (.int .i64 pl) ∧ W.cell? ⟨g3, 2, none⟩ = some (.int .i64 pe)) (by kernel_rfl) (by kernel_rfl) htsel (by kernel_rfl) (by kernel_rfl) htlex (⟨hh.c0, hh.c1, hh.c2, ha.c0, ha.c1, ha.c2, hb2.c0, hb2.c1, hb2.c2⟩) ?_
    unfold htord
    refine Lex.step_call ht0 rfl (Lex.want_none rfl) (fun K hK => ?_)
    go_simp
    refine (awake_any _ (HT.out.below hB)).mono ?_
    rintro e y1 ⟨rfl, hv⟩
    have hh := hh.below hv hh.lt
    have ha := ha.below hv ha.lt
    have hb2 := hb2.below hv hb2.lt
    have hB := hB.trans (hv.mono hB.size)
    clear hv
    refine hK.out _ _ _ (fun _ h => h) ⟨hh.c0, hh.c1, hh.c2, ha.c0, ha.c1, ha.c2, hb2.c0, hb2.c1, hb2.c2⟩ ?_
    clear hK K
    try simp only [Act.put, List.setIfInBounds_toArray, List.set_cons_zero, List.set_cons_succ]
    refine Lex.step_take (.bool true) ht1 rfl (Lex.want_none rfl) (by intro Wx hSw; (try dsimp only at hSw); go_simp; (try (first | (with_reducible rfl) | assumption | rfl))) ?_
    simp only [Act.put, List.setIfInBounds_toArray, List.set_cons_zero, List.set_cons_succ]
    refine Lex.step_take (.bool true) ht2 rfl (Lex.want_some rfl ht1 rfl (b' := true) rfl rfl) (by intro Wx hSw; (try dsimp only at hSw); go_simp; (try (first | (with_reducible rfl) | assumption | rfl))) ?_
    simp only [Act.put, List.setIfInBounds_toArray, List.set_cons_zero, List.set_cons_succ]
    refine Lex.step_take (.agg #[.int .i64 hp, .int .i64 hl, .int .i64 he]) ht3 rfl (Lex.want_some rfl ht1 rfl (b' := true) rfl rfl) (by intro Wx hSw; (try dsimp only at hSw); go_simp; (try (first | (with_reducible rfl) | assumption | rfl))) ?_
    simp only [Act.put, List.setIfInBounds_toArray, List.set_cons_zero, List.set_cons_succ]
    refine Lex.step_call ht4 rfl (Lex.want_some rfl ht1 rfl (b' := true) rfl rfl) (fun K hK => ?_)
    go_simp
    refine (HR.out _).mono ?_
    rintro e y2 ⟨rfl, hv⟩
    have hh := hh.below hv hh.lt
    have ha := ha.below hv ha.lt
    have hb2 := hb2.below hv hb2.lt
    have hB := hB.trans (hv.mono hB.size)
    clear hv
    refine hK.out _ _ _ (fun _ h => h) ⟨hh.c0, hh.c1, hh.c2, ha.c0, ha.c1, ha.c2, hb2.c0, hb2.c1, hb2.c2⟩ ?_
    clear hK K
    try simp only [Act.put, List.setIfInBounds_toArray, List.set_cons_zero, List.set_cons_succ]
    refine Lex.step_take (.bool true) ht5 rfl (Lex.want_some rfl ht1 rfl (b' := true) rfl rfl) (by intro Wx hSw; (try dsimp only at hSw); go_simp; (try (first | (with_reducible rfl) | assumption | rfl))) ?_
    simp only [Act.put, List.setIfInBounds_toArray, List.set_cons_zero, List.set_cons_succ]
    refine Lex.step_take (.bool true) ht6 rfl (Lex.want_none rfl) (by intro Wx hSw; (try dsimp only at hSw); go_simp; (try (first | (with_reducible rfl) | assumption | rfl))) ?_
    simp only [Act.put, List.setIfInBounds_toArray, List.set_cons_zero, List.set_cons_succ]
    refine Lex.step_take (.bool true) ht7 rfl (Lex.want_none rfl) (by intro Wx hSw; (try dsimp only at hSw); go_simp; (try (first | (with_reducible rfl) | assumption | rfl))) ?_
    simp only [Act.put, List.setIfInBounds_toArray, List.set_cons_zero, List.set_cons_succ]
    refine Lex.step_take (.bool true) ht8 rfl (Lex.want_some rfl ht7 rfl (b' := true) rfl rfl) (by intro Wx hSw; (try dsimp only at hSw); go_simp; (try (first | (with_reducible rfl) | assumption | rfl))) ?_
    simp only [Act.put, List.setIfInBounds_toArray, List.set_cons_zero, List.set_cons_succ]
    refine Lex.step_take (.bool false) ht9 rfl (Lex.want_some rfl ht7 rfl (b' := true) rfl rfl) (by intro Wx hSw; (try dsimp only at hSw); go_simp; (try (first | (with_reducible rfl) | assumption | rfl))) ?_
    simp only [Act.put, List.setIfInBounds_toArray, List.set_cons_zero, List.set_cons_succ]
    refine Lex.step_take (.bool false) ht10 rfl (Lex.want_some rfl ht7 rfl (b' := true) rfl rfl) (by intro Wx hSw; (try dsimp only at hSw); go_simp; (try (first | (with_reducible rfl) | assumption | rfl))) ?_
    simp only [Act.put, List.setIfInBounds_toArray, List.set_cons_zero, List.set_cons_succ]
    refine Lex.step_take (.agg #[.int .i64 hp, .int .i64 hl, .int .i64 he]) ht11 rfl (Lex.want_some rfl ht10 rfl (b' := false) rfl rfl) (by intro Wx hSw; (try dsimp only at hSw); go_simp; (try (first | (with_reducible rfl) | assumption | rfl))) ?_
    simp only [Act.put, List.setIfInBounds_toArray, List.set_cons_zero, List.set_cons_succ]
    refine Lex.step_take (.agg #[.int .i64 hp, .int .i64 hl, .int .i64 he]) ht13 rfl (Lex.want_some rfl ht10 rfl (b' := false) rfl rfl) (by intro Wx hSw; (try dsimp only at hSw); go_simp; (try (first | (with_reducible rfl) | assumption | rfl))) ?_
    simp only [Act.put, List.setIfInBounds_toArray, List.set_cons_zero, List.set_cons_succ]
    refine Lex.step_call ht12 rfl (Lex.want_some rfl ht10 rfl (b' := false) rfl rfl) (fun K hK => ?_)
    go_simp
    refine (HP.out.1 _ (HT.out.below hB)).mono ?_
    rintro e y3 ⟨rfl, hv⟩
    have hh := hh.below hv hh.lt
    have ha := ha.below hv ha.lt
    have hb2 := hb2.below hv hb2.lt
    have hB := hB.trans (hv.mono hB.size)
    clear hv
    refine hK.out _ _ _ (fun _ h => h) ⟨hh.c0, hh.c1, hh.c2, ha.c0, ha.c1, ha.c2, hb2.c0, hb2.c1, hb2.c2⟩ ?_
    clear hK K
    try simp only [Act.put, List.setIfInBounds_toArray, List.set_cons_zero, List.set_cons_succ]
    refine Lex.step_call ht14 rfl (Lex.want_some rfl ht10 rfl (b' := false) rfl rfl) (fun K hK => ?_)
    go_simp
    refine (HP.out.2 _).mono ?_
    rintro e y4 ⟨rfl, hv⟩
    have hh := hh.below hv hh.lt
    have ha := ha.below hv ha.lt
    have hb2 := hb2.below hv hb2.lt
    have hB := hB.trans (hv.mono hB.size)
    clear hv
    refine hK.out _ _ _ (fun _ h => h) ⟨hh.c0, hh.c1, hh.c2, ha.c0, ha.c1, ha.c2, hb2.c0, hb2.c1, hb2.c2⟩ ?_
    clear hK K
    try simp only [Act.put, List.setIfInBounds_toArray, List.set_cons_zero, List.set_cons_succ]
    refine Lex.step_take (.bool true) ht15 rfl (Lex.want_some rfl ht10 rfl (b' := false) rfl rfl) (by intro Wx hSw; (try dsimp only at hSw); go_simp; (try (first | (with_reducible rfl) | assumption | rfl))) ?_
    simp only [Act.put, List.setIfInBounds_toArray, List.set_cons_zero, List.set_cons_succ]
    refine Lex.step_take (.bool true) ht16 rfl (Lex.want_some rfl ht7 rfl (b' := true) rfl rfl) (by intro Wx hSw; (try dsimp only at hSw); go_simp; (try (first | (with_reducible rfl) | assumption | rfl))) ?_
    simp only [Act.put, List.setIfInBounds_toArray, List.set_cons_zero, List.set_cons_succ]
    refine Lex.step_take (.bool true) ht17 rfl (Lex.want_none rfl) (by intro Wx hSw; (try dsimp only at hSw); go_simp; (try (first | (with_reducible rfl) | assumption | rfl))) ?_
    simp only [Act.put, List.setIfInBounds_toArray, List.set_cons_zero, List.set_cons_succ]
    refine Lex.step_take (.bool true) ht18 rfl (Lex.want_none rfl) (by intro Wx hSw; (try dsimp only at hSw); go_simp; (try (first | (with_reducible rfl) | assumption | rfl))) ?_
    simp only [Act.put, List.setIfInBounds_toArray, List.set_cons_zero, List.set_cons_succ]
    refine Lex.step_take (.agg #[.int .i64 pp, .int .i64 pl, .int .i64 pe]) ht19 rfl (Lex.want_some rfl ht18 rfl (b' := true) rfl rfl) (by intro Wx hSw; (try dsimp only at hSw); go_simp; (try (first | (with_reducible rfl) | assumption | rfl))) ?_
    simp only [Act.put, List.setIfInBounds_toArray, List.set_cons_zero, List.set_cons_succ]
    refine Lex.step_take (.agg #[.int .i64 pp, .int .i64 pl, .int .i64 pe]) ht20 rfl (Lex.want_some rfl ht18 rfl (b' := true) rfl rfl) (by intro Wx hSw; (try dsimp only at hSw); go_simp; (try (first | (with_reducible rfl) | assumption | rfl))) ?_
    simp only [Act.put, List.setIfInBounds_toArray, List.set_cons_zero, List.set_cons_succ]
    refine Lex.step_take (.bool true) ht21 rfl (Lex.want_some rfl ht18 rfl (b' := true) rfl rfl) (by intro Wx hSw; (try dsimp only at hSw); go_simp; (try (first | (with_reducible rfl) | assumption | rfl))) ?_
    simp only [Act.put, List.setIfInBounds_toArray, List.set_cons_zero, List.set_cons_succ]
    refine Lex.step_take (.bool true) ht22 rfl (Lex.want_none rfl) (by intro Wx hSw; (try dsimp only at hSw); go_simp; (try (first | (with_reducible rfl) | assumption | rfl))) ?_
    simp only [Act.put, List.setIfInBounds_toArray, List.set_cons_zero, List.set_cons_succ]
    refine Lex.step_take (.bool true) ht23 rfl (Lex.want_none rfl) (by intro Wx hSw; (try dsimp only at hSw); go_simp; (try (first | (with_reducible rfl) | assumption | rfl))) ?_
    simp only [Act.put, List.setIfInBounds_toArray, List.set_cons_zero, List.set_cons_succ]
    refine Lex.step_take (.bool po) ht24 rfl (Lex.want_some rfl ht23 rfl (b' := true) rfl rfl) (by intro Wx hSw; (try dsimp only at hSw); go_simp; (try (first | (with_reducible rfl) | assumption | rfl))) ?_
    simp only [Act.put, List.setIfInBounds_toArray, List.set_cons_zero, List.set_cons_succ]
    refine Lex.step_take (.bool po) ht25 rfl (Lex.want_some rfl ht23 rfl (b' := true) rfl rfl) (by intro Wx hSw; (try dsimp only at hSw); go_simp; (try (first | (with_reducible rfl) | assumption | rfl))) ?_
    simp only [Act.put, List.setIfInBounds_toArray, List.set_cons_zero, List.set_cons_succ]
    refine Lex.step_take (.bool true) ht26 rfl (Lex.want_some rfl ht23 rfl (b' := true) rfl rfl) (by intro Wx hSw; (try dsimp only at hSw); go_simp; (try (first | (with_reducible rfl) | assumption | rfl))) ?_
    simp only [Act.put, List.setIfInBounds_toArray, List.set_cons_zero, List.set_cons_succ]
    refine Lex.step_take (.bool true) ht27 rfl (Lex.want_none rfl) (by intro Wx hSw; (try dsimp only at hSw); go_simp; (try (first | (with_reducible rfl) | assumption | rfl))) ?_
    simp only [Act.put, List.setIfInBounds_toArray, List.set_cons_zero, List.set_cons_succ]
    refine Lex.step_take (.bool true) ht28 rfl (Lex.want_none rfl) (by intro Wx hSw; (try dsimp only at hSw); go_simp; (try (first | (with_reducible rfl) | assumption | rfl))) ?_
    simp only [Act.put, List.setIfInBounds_toArray, List.set_cons_zero, List.set_cons_succ]
    refine Lex.step_take (.agg #[.int .i64 hp, .int .i64 hl, .int .i64 he]) ht29 rfl (Lex.want_some rfl ht28 rfl (b' := true) rfl rfl) (by intro Wx hSw; (try dsimp only at hSw); go_simp; (try (first | (with_reducible rfl) | assumption | rfl))) ?_
    simp only [Act.put, List.setIfInBounds_toArray, List.set_cons_zero, List.set_cons_succ]
    refine Lex.step_take (.agg #[.int .i64 hp, .int .i64 hl, .int .i64 he]) ht31 rfl (Lex.want_some rfl ht28 rfl (b' := true) rfl rfl) (by intro Wx hSw; (try dsimp only at hSw); go_simp; (try (first | (with_reducible rfl) | assumption | rfl))) ?_
    simp only [Act.put, List.setIfInBounds_toArray, List.set_cons_zero, List.set_cons_succ]
    refine Lex.step_call ht30 rfl (Lex.want_some rfl ht28 rfl (b' := true) rfl rfl) (fun K hK => ?_)
    go_simp
    refine (HC.out.1 _).mono ?_
    rintro e y5 ⟨rfl, hv⟩
    have hh := hh.below hv hh.lt
    have ha := ha.below hv ha.lt
    have hb2 := hb2.below hv hb2.lt
    have hB := hB.trans (hv.mono hB.size)
    clear hv
    refine hK.out _ _ _ (fun _ h => h) ⟨hh.c0, hh.c1, hh.c2, ha.c0, ha.c1, ha.c2, hb2.c0, hb2.c1, hb2.c2⟩ ?_
    clear hK K
    try simp only [Act.put, List.setIfInBounds_toArray, List.set_cons_zero, List.set_cons_succ]
    refine Lex.step_call ht32 rfl (Lex.want_some rfl ht28 rfl (b' := true) rfl rfl) (fun K hK => ?_)
    go_simp
    refine (HC.out.2.1 _).mono ?_
    rintro e y6 ⟨rfl, hv⟩
    have hh := hh.below hv hh.lt
    have ha := ha.below hv ha.lt
    have hb2 := hb2.below hv hb2.lt
    have hB := hB.trans (hv.mono hB.size)
    clear hv
    refine hK.out _ _ _ (fun _ h => h) ⟨hh.c0, hh.c1, hh.c2, ha.c0, ha.c1, ha.c2, hb2.c0, hb2.c1, hb2.c2⟩ ?_
    clear hK K
    try simp only [Act.put, List.setIfInBounds_toArray, List.set_cons_zero, List.set_cons_succ]
    refine Lex.step_take (.bool true) ht33 rfl (Lex.want_some rfl ht28 rfl (b' := true) rfl rfl) (by intro Wx hSw; (try dsimp only at hSw); go_simp; (try (first | (with_reducible rfl) | assumption | rfl))) ?_
    simp only [Act.put, List.setIfInBounds_toArray, List.set_cons_zero, List.set_cons_succ]
    refine Lex.step_take (.bool true) ht34 rfl (Lex.want_none rfl) (by intro Wx hSw; (try dsimp only at hSw); go_simp; (try (first | (with_reducible rfl) | assumption | rfl))) ?_
    simp only [Act.put, List.setIfInBounds_toArray, List.set_cons_zero, List.set_cons_succ]
    refine Lex.step_take (.bool true) ht35 rfl (Lex.want_none rfl) (by intro Wx hSw; (try dsimp only at hSw); go_simp; (try (first | (with_reducible rfl) | assumption | rfl))) ?_
    simp only [Act.put, List.setIfInBounds_toArray, List.set_cons_zero, List.set_cons_succ]
    refine Lex.step_take (.int .i64 n) ht36 rfl (Lex.want_some rfl ht35 rfl (b' := true) rfl rfl) (by intro Wx hSw; (try dsimp only at hSw); go_simp; (try (first | (with_reducible rfl) | assumption | rfl))) ?_
    simp only [Act.put, List.setIfInBounds_toArray, List.set_cons_zero, List.set_cons_succ]
    refine Lex.step_take (.int .i64 n) ht38 rfl (Lex.want_some rfl ht35 rfl (b' := true) rfl rfl) (by intro Wx hSw; (try dsimp only at hSw); go_simp; (try (first | (with_reducible rfl) | assumption | rfl))) ?_
    simp only [Act.put, List.setIfInBounds_toArray, List.set_cons_zero, List.set_cons_succ]
    refine Lex.step_call ht37 rfl (Lex.want_some rfl ht35 rfl (b' := true) rfl rfl) (fun K hK => ?_)
    go_simp
    refine (HC.out.2.2.1 _).mono ?_
    rintro e y7 ⟨rfl, rfl⟩
    refine hK.out _ _ _ (fun _ h => h) ⟨hh.c0, hh.c1, hh.c2, ha.c0, ha.c1, ha.c2, hb2.c0, hb2.c1, hb2.c2⟩ ?_
    clear hK K
    try simp only [Act.put, List.setIfInBounds_toArray, List.set_cons_zero, List.set_cons_succ]
    refine Lex.step_call ht39 rfl (Lex.want_some rfl ht35 rfl (b' := true) rfl rfl) (fun K hK => ?_)
    go_simp
    refine (HC.out.2.2.2.1 _).mono ?_
    rintro e y8 ⟨rfl, rfl⟩
    refine hK.out _ _ _ (fun _ h => h) ⟨hh.c0, hh.c1, hh.c2, ha.c0, ha.c1, ha.c2, hb2.c0, hb2.c1, hb2.c2⟩ ?_
    clear hK K
    try simp only [Act.put, List.setIfInBounds_toArray, List.set_cons_zero, List.set_cons_succ]
    refine Lex.step_take (.bool true) ht40 rfl (Lex.want_some rfl ht35 rfl (b' := true) rfl rfl) (by intro Wx hSw; (try dsimp only at hSw); go_simp; (try (first | (with_reducible rfl) | assumption | rfl))) ?_
    simp only [Act.put, List.setIfInBounds_toArray, List.set_cons_zero, List.set_cons_succ]
    refine Lex.step_take (.bool true) ht41 rfl (Lex.want_none rfl) (by intro Wx hSw; (try dsimp only at hSw); go_simp; (try (first | (with_reducible rfl) | assumption | rfl))) ?_
    simp only [Act.put, List.setIfInBounds_toArray, List.set_cons_zero, List.set_cons_succ]
    refine Lex.step_take (.bool true) ht42 rfl (Lex.want_none rfl) (by intro Wx hSw; (try dsimp only at hSw); go_simp; (try (first | (with_reducible rfl) | assumption | rfl))) ?_
    simp only [Act.put, List.setIfInBounds_toArray, List.set_cons_zero, List.set_cons_succ]
    refine Lex.step_take (.agg #[.int .i64 hp, .int .i64 hl, .int .i64 he]) ht43 rfl (Lex.want_some rfl ht42 rfl (b' := true) rfl rfl) (by intro Wx hSw; (try dsimp only at hSw); go_simp; (try (first | (with_reducible rfl) | assumption | rfl))) ?_
    simp only [Act.put, List.setIfInBounds_toArray, List.set_cons_zero, List.set_cons_succ]
    refine Lex.step_take (.int .i64 n) ht44 rfl (Lex.want_some rfl ht42 rfl (b' := true) rfl rfl) (by intro Wx hSw; (try dsimp only at hSw); go_simp; (try (first | (with_reducible rfl) | assumption | rfl))) ?_
    simp only [Act.put, List.setIfInBounds_toArray, List.set_cons_zero, List.set_cons_succ]
    refine Lex.step_take (.agg #[.int .i64 hp, .int .i64 hl, .int .i64 he]) ht46 rfl (Lex.want_some rfl ht42 rfl (b' := true) rfl rfl) (by intro Wx hSw; (try dsimp only at hSw); go_simp; (try (first | (with_reducible rfl) | assumption | rfl))) ?_
    simp only [Act.put, List.setIfInBounds_toArray, List.set_cons_zero, List.set_cons_succ]
    refine Lex.step_take (.int .i64 n) ht47 rfl (Lex.want_some rfl ht42 rfl (b' := true) rfl rfl) (by intro Wx hSw; (try dsimp only at hSw); go_simp; (try (first | (with_reducible rfl) | assumption | rfl))) ?_
    simp only [Act.put, List.setIfInBounds_toArray, List.set_cons_zero, List.set_cons_succ]
    refine Lex.step_call ht45 rfl (Lex.want_some rfl ht42 rfl (b' := true) rfl rfl) (fun K hK => ?_)
    go_simp
    refine (HC.out.2.2.2.2.1 _).mono ?_
    rintro e y9 ⟨rfl, hv⟩
    have hh := hh.below hv hh.lt
    have ha := ha.below hv ha.lt
    have hb2 := hb2.below hv hb2.lt
    have hB := hB.trans (hv.mono hB.size)
    clear hv
    refine hK.out _ _ _ (fun _ h => h) ⟨hh.c0, hh.c1, hh.c2, ha.c0, ha.c1, ha.c2, hb2.c0, hb2.c1, hb2.c2⟩ ?_
    clear hK K
    try simp only [Act.put, List.setIfInBounds_toArray, List.set_cons_zero, List.set_cons_succ]
    refine Lex.step_call ht48 rfl (Lex.want_some rfl ht42 rfl (b' := true) rfl rfl) (fun K hK => ?_)
    go_simp
    refine (HC.out.2.2.2.2.2 _).mono ?_
    rintro e y10 ⟨rfl, hv⟩
    have hh := hh.below hv hh.lt
    have ha := ha.below hv ha.lt
    have hb2 := hb2.below hv hb2.lt
    have hB := hB.trans (hv.mono hB.size)
    clear hv
    refine hK.out _ _ _ (fun _ h => h) ⟨hh.c0, hh.c1, hh.c2, ha.c0, ha.c1, ha.c2, hb2.c0, hb2.c1, hb2.c2⟩ ?_
    clear hK K
    try simp only [Act.put, List.setIfInBounds_toArray, List.set_cons_zero, List.set_cons_succ]
    refine Lex.step_take (.bool true) ht49 rfl (Lex.want_some rfl ht42 rfl (b' := true) rfl rfl) (by intro Wx hSw; (try dsimp only at hSw); go_simp; (try (first | (with_reducible rfl) | assumption | rfl))) ?_
    simp only [Act.put, List.setIfInBounds_toArray, List.set_cons_zero, List.set_cons_succ]
    refine Lex.step_take (.bool true) ht50 rfl (Lex.want_none rfl) (by intro Wx hSw; (try dsimp only at hSw); go_simp; (try (first | (with_reducible rfl) | assumption | rfl))) ?_
    simp only [Act.put, List.setIfInBounds_toArray, List.set_cons_zero, List.set_cons_succ]
    refine Lex.step_take (.bool true) ht51 rfl (Lex.want_none rfl) (by intro Wx hSw; (try dsimp only at hSw); go_simp; (try (first | (with_reducible rfl) | assumption | rfl))) ?_
    simp only [Act.put, List.setIfInBounds_toArray, List.set_cons_zero, List.set_cons_succ]
    refine NoPanic.normal ?_
    have HB := Lib.hid hB
    clear hB hh ha hb2
    go_wp2
    go_ret
    exact ⟨rfl, HB.out⟩
end Go.Proofs.YtdbemkdfndjakaaDoor.Hd
