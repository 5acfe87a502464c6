/- Frames' sectors are the document's: the law, walked. -/
import Derived.Test.YtiacdpfodhggmaaDoorFrD
import Derived.Test.YtiacdpfodhggmaaDoorFrQ
import Derived.Test.YtiacdpfodhggmaaDoorXfb
namespace Go.Proofs.YtiacdpfodhggmaaDoor.Fr
open Go.RowKit Tal Lf Lex
set_option maxRecDepth 20000 in
set_option maxHeartbeats 6400000 in
theorem tells_any (f : F) (s : ByteArray) (w : World) (ht : Tab w) : Calls Tryd.prog 5 #[.agg (cellsF f), .string s] w fun e w' => e = .returned (.bool true) ∧ Below w.heap.size w w' := by
  have HT := Lib.hid ht
  clear ht
  have hB := (Below.refl w.heap.size w).alloc (Nat.le_refl _) (.cells (cellsF f) 36)
  have hf := BoxF.new w f 36
  obtain ⟨gf, hgf⟩ : ∃ g, w.heap.size = g := ⟨_, rfl⟩
  rw [hgf] at hf
  generalize hwa : w.alloc (.cells (cellsF f) 36) = wa at hB hf
  have hrf := fun W => right_any f W
  have hqf := fun W => refRight_any f W
  have hpf := fun (h : RightF f) W (ht : Tab W) => print_any f W ht h
  have hsf := fun (h : RightF f) W => refPrint_any f W h
  obtain ⟨fe, fi, fc, fp, fd⟩ := f
  unfold cellsF at hwa hrf hqf hpf hsf ⊢
  simp only at hwa hrf hqf hpf hsf ⊢
  have f0 := hf.c0
  have f1 := hf.c1
  have f2 := hf.c2
  have f3 := hf.c3
  have f4 := hf.c4
  simp only at f0 f1 f2 f3 f4
  go_enter Tryd.func5, Tryd.ntmps5
  by_cases hd : 300 < fd.size
  · have i1 : (300 : Int) < (fd.size : Int) := by omega
    go_wp2_with fail
    refine (awake_any _ (HT.out.below hB)).mono ?_
    rintro e w2 ⟨rfl, hv⟩
    have HB := Lib.hid (hB.trans (hv.mono hB.size))
    clear hv hB hf f0 f1 f2 f3 f4 hwa
    go_wp2
    go_ret
    exact ⟨rfl, HB.out⟩
  have i1 : ¬ (300 : Int) < (fd.size : Int) := by omega
  by_cases hs : 300 < s.size
  · have i2 : (300 : Int) < (s.size : Int) := by omega
    go_wp2_with fail
    refine (awake_any _ (HT.out.below hB)).mono ?_
    rintro e w2 ⟨rfl, hv⟩
    have HB := Lib.hid (hB.trans (hv.mono hB.size))
    clear hv hB hf f0 f1 f2 f3 f4 hwa
    go_wp2
    go_ret
    exact ⟨rfl, HB.out⟩
  have i2 : ¬ (300 : Int) < (s.size : Int) := by omega
  have hqs := fun W (ht : Tab W) => parse_any s W ht (by omega)
  have hss := fun W => refParse_any s W (by omega)
  generalize (parseF s).isSome = po at hqs hss
  generalize (parseF s).getD noF = pf at hqs hss
  obtain ⟨pe, pi, pc, pp, pd⟩ := pf
  unfold cellsF at hqs hss
  simp only at hqs hss
  go_wp2_with fail
  clear hwa hgf f0 f1 f2 f3 f4
  refine (hrf _).mono ?_
  rintro e w1 ⟨is, rfl, hb, hv⟩
  have hf := hf.below hv hf.lt
  have hB := hB.trans (hv.mono hB.size)
  clear hv
  go_wp2_with fail
  refine (hqs _ (HT.out.below hB)).mono ?_
  rintro e w2 ⟨rfl, hv⟩
  have hf := hf.below hv hf.lt
  have hB := hB.trans (hv.mono hB.size)
  clear hv
  go_upto_region 5 with fail
  have hn : Below w2.heap.size w2 (w2.alloc (.cells #[.int .i64 pe, .int .i64 pi, .bool pc, .int .i64 pp, .string pd] 36)) := (Below.refl w2.heap.size w2).alloc (Nat.le_refl _) _
  have ha : BoxF (w2.alloc (.cells #[.int .i64 pe, .int .i64 pi, .bool pc, .int .i64 pp, .string pd] 36)) w2.heap.size ⟨pe, pi, pc, pp, pd⟩ := BoxF.new w2 ⟨pe, pi, pc, pp, pd⟩ 36
  have hf := hf.below hn hf.lt
  have hB := hB.trans (hn.mono hB.size)
  clear hn
  generalize w2.alloc (.cells #[.int .i64 pe, .int .i64 pi, .bool pc, .int .i64 pp, .string pd] 36) = w3 at hf ha hB ⊢
  generalize w2.heap.size = ga at ha ⊢
  go_wp2_with fail
  refine (hss _).mono ?_
  rintro e w4 ⟨rfl, hv⟩
  have hf := hf.below hv hf.lt
  have ha := ha.below hv ha.lt
  have hB := hB.trans (hv.mono hB.size)
  clear hv
  go_wp2_with fail
  have hn : Below w4.heap.size w4 (w4.alloc (.cells #[.int .i64 pe, .int .i64 pi, .bool pc, .int .i64 pp, .string pd] 36)) := (Below.refl w4.heap.size w4).alloc (Nat.le_refl _) _
  have hb5 : BoxF (w4.alloc (.cells #[.int .i64 pe, .int .i64 pi, .bool pc, .int .i64 pp, .string pd] 36)) w4.heap.size ⟨pe, pi, pc, pp, pd⟩ := BoxF.new w4 ⟨pe, pi, pc, pp, pd⟩ 36
  have hf := hf.below hn hf.lt
  have ha := ha.below hn ha.lt
  have hB := hB.trans (hn.mono hB.size)
  clear hn
  generalize w4.alloc (.cells #[.int .i64 pe, .int .i64 pi, .bool pc, .int .i64 pp, .string pd] 36) = w5 at hf ha hb5 hB ⊢
  generalize w4.heap.size = gb at hb5 ⊢
  have f0 := hf.c0
  have f1 := hf.c1
  have f2 := hf.c2
  have f3 := hf.c3
  have f4 := hf.c4
  have a0 := ha.c0
  have a1 := ha.c1
  have a2 := ha.c2
  have a3 := ha.c3
  have a4 := ha.c4
  have b0 := hb5.c0
  have b1 := hb5.c1
  have b2 := hb5.c2
  have b3 := hb5.c3
  have b4 := hb5.c4
  simp only at f0 f1 f2 f3 f4 a0 a1 a2 a3 a4 b0 b1 b2 b3 b4
  have HR := Lib.hid (fun W => (hqf W).mono (fun e w' h => (by
    obtain ⟨b2, rfl, hb2, hv⟩ := h
    exact ⟨by rw [Bool.eq_iff_iff.2 (hb2.trans hb.symm)], hv⟩ : e = .returned (.bool is) ∧ Below W.heap.size W w')))
  have hkd : (pd.toList == pd.toList) = true := beq_self_eq_true _
  clear hf ha hb5 hqf hqs hss hrf
  cases is
  · clear hb hpf hsf
    have hdr := (Below.refl w5.heap.size w5).drew
    refine Lex.region_lex (ops := fbops) (calls := fbcalls) fbord (fun W => W.cell? ⟨gf, 0, none⟩ = some (.int .i64 fe) ∧ W.cell? ⟨gf, 1, none⟩ = some (.int .i64 fi) ∧ W.cell? ⟨gf, 2, none⟩ = some (.bool fc) ∧ W.cell? ⟨gf, 3, none⟩ = some (.int .i64 fp) ∧ W.cell? ⟨gf, 4, none⟩ = some (.string fd) ∧ W.cell? ⟨ga, 0, none⟩ = some (.int .i64 pe) ∧ W.cell? ⟨ga, 1, none⟩ = some (.int .i64 pi) ∧ W.cell? ⟨ga, 2, none⟩ = some (.bool pc) ∧ W.cell? ⟨ga, 3, none⟩ = some (.int .i64 pp) ∧ W.cell? ⟨ga, 4, none⟩ = some (.string pd) ∧ W.cell? ⟨gb, 0, none⟩ = some (.int .i64 pe) ∧ W.cell? ⟨gb, 1, none⟩ = some (.int .i64 pi) ∧ W.cell? ⟨gb, 2, none⟩ = some (.bool pc) ∧ W.cell? ⟨gb, 3, none⟩ = some (.int .i64 pp) ∧ W.cell? ⟨gb, 4, none⟩ = some (.string pd)) (by kernel_rfl) (by kernel_rfl) fbsel (by kernel_rfl) (by kernel_rfl) fblex (⟨cell_belowF hdr f0, cell_belowF hdr f1, cell_belowF hdr f2, cell_belowF hdr f3, cell_belowF hdr f4, cell_belowF hdr a0, cell_belowF hdr a1, cell_belowF hdr a2, cell_belowF hdr a3, cell_belowF hdr a4, cell_belowF hdr b0, cell_belowF hdr b1, cell_belowF hdr b2, cell_belowF hdr b3, cell_belowF hdr b4⟩) ?_
    unfold fbord
    have f0 := cell_belowF hdr f0
    have f1 := cell_belowF hdr f1
    have f2 := cell_belowF hdr f2
    have f3 := cell_belowF hdr f3
    have f4 := cell_belowF hdr f4
    have a0 := cell_belowF hdr a0
    have a1 := cell_belowF hdr a1
    have a2 := cell_belowF hdr a2
    have a3 := cell_belowF hdr a3
    have a4 := cell_belowF hdr a4
    have b0 := cell_belowF hdr b0
    have b1 := cell_belowF hdr b1
    have b2 := cell_belowF hdr b2
    have b3 := cell_belowF hdr b3
    have b4 := cell_belowF hdr b4
    have hB := hB.trans (hdr.mono hB.size)
    clear hdr
    refine Lex.step_call fb0 rfl (Lex.want_none rfl) (fun K hK => ?_)
    go_simp
    refine (awake_any _ (HT.out.below hB)).mono ?_
    rintro e y1 ⟨rfl, hv⟩
    have f0 := cell_belowF hv f0
    have f1 := cell_belowF hv f1
    have f2 := cell_belowF hv f2
    have f3 := cell_belowF hv f3
    have f4 := cell_belowF hv f4
    have a0 := cell_belowF hv a0
    have a1 := cell_belowF hv a1
    have a2 := cell_belowF hv a2
    have a3 := cell_belowF hv a3
    have a4 := cell_belowF hv a4
    have b0 := cell_belowF hv b0
    have b1 := cell_belowF hv b1
    have b2 := cell_belowF hv b2
    have b3 := cell_belowF hv b3
    have b4 := cell_belowF hv b4
    have hB := hB.trans (hv.mono hB.size)
    clear hv
    refine hK.out _ _ _ (fun _ h => h) ⟨f0, f1, f2, f3, f4, a0, a1, a2, a3, a4, b0, b1, b2, b3, b4⟩ ?_
    clear hK K
    try simp only [Act.put, List.setIfInBounds_toArray, List.set_cons_zero, List.set_cons_succ]
    refine Lex.step_take (.bool true) fb1 rfl (Lex.want_none rfl) (by intro Wx hSw; (try dsimp only at hSw); go_simp; (try (first | (with_reducible rfl) | assumption | rfl))) ?_
    simp only [Act.put, List.setIfInBounds_toArray, List.set_cons_zero, List.set_cons_succ]
    refine Lex.step_take (.bool false) fb2 rfl (Lex.want_some rfl fb1 rfl (b' := true) rfl rfl) (by intro Wx hSw; (try dsimp only at hSw); go_simp; (try (first | (with_reducible rfl) | assumption | rfl))) ?_
    simp only [Act.put, List.setIfInBounds_toArray, List.set_cons_zero, List.set_cons_succ]
    refine Lex.step_take (.agg #[.int .i64 fe, .int .i64 fi, .bool fc, .int .i64 fp, .string fd]) fb3 rfl (Lex.want_some rfl fb1 rfl (b' := true) rfl rfl) (by intro Wx hSw; (try dsimp only at hSw); go_simp; (try (first | (with_reducible rfl) | assumption | rfl))) ?_
    simp only [Act.put, List.setIfInBounds_toArray, List.set_cons_zero, List.set_cons_succ]
    refine Lex.step_call fb4 rfl (Lex.want_some rfl fb1 rfl (b' := true) rfl rfl) (fun K hK => ?_)
    go_simp
    refine (HR.out _).mono ?_
    rintro e y2 ⟨rfl, hv⟩
    have f0 := cell_belowF hv f0
    have f1 := cell_belowF hv f1
    have f2 := cell_belowF hv f2
    have f3 := cell_belowF hv f3
    have f4 := cell_belowF hv f4
    have a0 := cell_belowF hv a0
    have a1 := cell_belowF hv a1
    have a2 := cell_belowF hv a2
    have a3 := cell_belowF hv a3
    have a4 := cell_belowF hv a4
    have b0 := cell_belowF hv b0
    have b1 := cell_belowF hv b1
    have b2 := cell_belowF hv b2
    have b3 := cell_belowF hv b3
    have b4 := cell_belowF hv b4
    have hB := hB.trans (hv.mono hB.size)
    clear hv
    refine hK.out _ _ _ (fun _ h => h) ⟨f0, f1, f2, f3, f4, a0, a1, a2, a3, a4, b0, b1, b2, b3, b4⟩ ?_
    clear hK K
    try simp only [Act.put, List.setIfInBounds_toArray, List.set_cons_zero, List.set_cons_succ]
    refine Lex.step_take (.bool true) fb5 rfl (Lex.want_some rfl fb1 rfl (b' := true) rfl rfl) (by intro Wx hSw; (try dsimp only at hSw); go_simp; (try (first | (with_reducible rfl) | assumption | rfl))) ?_
    simp only [Act.put, List.setIfInBounds_toArray, List.set_cons_zero, List.set_cons_succ]
    refine Lex.step_take (.bool true) fb6 rfl (Lex.want_none rfl) (by intro Wx hSw; (try dsimp only at hSw); go_simp; (try (first | (with_reducible rfl) | assumption | rfl))) ?_
    simp only [Act.put, List.setIfInBounds_toArray, List.set_cons_zero, List.set_cons_succ]
    refine Lex.step_take (.bool true) fb7 rfl (Lex.want_none rfl) (by intro Wx hSw; (try dsimp only at hSw); go_simp; (try (first | (with_reducible rfl) | assumption | rfl))) ?_
    simp only [Act.put, List.setIfInBounds_toArray, List.set_cons_zero, List.set_cons_succ]
    refine Lex.step_take (.bool false) fb8 rfl (Lex.want_some rfl fb7 rfl (b' := true) rfl rfl) (by intro Wx hSw; (try dsimp only at hSw); go_simp; (try (first | (with_reducible rfl) | assumption | rfl))) ?_
    simp only [Act.put, List.setIfInBounds_toArray, List.set_cons_zero, List.set_cons_succ]
    refine Lex.step_take (.bool true) fb9 rfl (Lex.want_some rfl fb7 rfl (b' := true) rfl rfl) (by intro Wx hSw; (try dsimp only at hSw); go_simp; (try (first | (with_reducible rfl) | assumption | rfl))) ?_
    simp only [Act.put, List.setIfInBounds_toArray, List.set_cons_zero, List.set_cons_succ]
    refine Lex.step_take (.bool true) fb10 rfl (Lex.want_some rfl fb7 rfl (b' := true) rfl rfl) (by intro Wx hSw; (try dsimp only at hSw); go_simp; (try (first | (with_reducible rfl) | assumption | rfl))) ?_
    simp only [Act.put, List.setIfInBounds_toArray, List.set_cons_zero, List.set_cons_succ]
    refine Lex.step_skip fb11 (Lex.want_some rfl fb10 rfl (b' := true) rfl rfl) ?_
    simp only [Act.put, List.setIfInBounds_toArray, List.set_cons_zero, List.set_cons_succ]
    refine Lex.step_skip fb13 (Lex.want_some rfl fb10 rfl (b' := true) rfl rfl) ?_
    simp only [Act.put, List.setIfInBounds_toArray, List.set_cons_zero, List.set_cons_succ]
    refine Lex.step_skip fb12 (Lex.want_some rfl fb10 rfl (b' := true) rfl rfl) ?_
    simp only [Act.put, List.setIfInBounds_toArray, List.set_cons_zero, List.set_cons_succ]
    refine Lex.step_skip fb14 (Lex.want_some rfl fb10 rfl (b' := true) rfl rfl) ?_
    simp only [Act.put, List.setIfInBounds_toArray, List.set_cons_zero, List.set_cons_succ]
    refine Lex.step_skip fb15 (Lex.want_some rfl fb10 rfl (b' := true) rfl rfl) ?_
    simp only [Act.put, List.setIfInBounds_toArray, List.set_cons_zero, List.set_cons_succ]
    refine Lex.step_take (.bool true) fb16 rfl (Lex.want_some rfl fb7 rfl (b' := true) rfl rfl) (by intro Wx hSw; (try dsimp only at hSw); go_simp; (try (first | (with_reducible rfl) | assumption | rfl))) ?_
    simp only [Act.put, List.setIfInBounds_toArray, List.set_cons_zero, List.set_cons_succ]
    refine Lex.step_take (.bool true) fb17 rfl (Lex.want_none rfl) (by intro Wx hSw; (try dsimp only at hSw); go_simp; (try (first | (with_reducible rfl) | assumption | rfl))) ?_
    simp only [Act.put, List.setIfInBounds_toArray, List.set_cons_zero, List.set_cons_succ]
    refine Lex.step_take (.bool true) fb18 rfl (Lex.want_none rfl) (by intro Wx hSw; (try dsimp only at hSw); go_simp; (try (first | (with_reducible rfl) | assumption | rfl))) ?_
    simp only [Act.put, List.setIfInBounds_toArray, List.set_cons_zero, List.set_cons_succ]
    refine Lex.step_take (.agg #[.int .i64 pe, .int .i64 pi, .bool pc, .int .i64 pp, .string pd]) fb19 rfl (Lex.want_some rfl fb18 rfl (b' := true) rfl rfl) (by intro Wx hSw; (try dsimp only at hSw); go_simp; (try (first | (with_reducible rfl) | assumption | rfl))) ?_
    simp only [Act.put, List.setIfInBounds_toArray, List.set_cons_zero, List.set_cons_succ]
    refine Lex.step_take (.agg #[.int .i64 pe, .int .i64 pi, .bool pc, .int .i64 pp, .string pd]) fb20 rfl (Lex.want_some rfl fb18 rfl (b' := true) rfl rfl) (by intro Wx hSw; (try dsimp only at hSw); go_simp; (try (first | (with_reducible rfl) | assumption | rfl))) ?_
    simp only [Act.put, List.setIfInBounds_toArray, List.set_cons_zero, List.set_cons_succ]
    refine Lex.step_take (.bool true) fb21 rfl (Lex.want_some rfl fb18 rfl (b' := true) rfl rfl) (by intro Wx hSw; (try dsimp only at hSw); go_simp; (try (first | (with_reducible rfl) | assumption | rfl))) ?_
    simp only [Act.put, List.setIfInBounds_toArray, List.set_cons_zero, List.set_cons_succ]
    refine Lex.step_take (.bool true) fb22 rfl (Lex.want_none rfl) (by intro Wx hSw; (try dsimp only at hSw); go_simp; (try (first | (with_reducible rfl) | assumption | rfl))) ?_
    simp only [Act.put, List.setIfInBounds_toArray, List.set_cons_zero, List.set_cons_succ]
    refine Lex.step_take (.bool true) fb23 rfl (Lex.want_none rfl) (by intro Wx hSw; (try dsimp only at hSw); go_simp; (try (first | (with_reducible rfl) | assumption | rfl))) ?_
    simp only [Act.put, List.setIfInBounds_toArray, List.set_cons_zero, List.set_cons_succ]
    refine Lex.step_take (.bool po) fb24 rfl (Lex.want_some rfl fb23 rfl (b' := true) rfl rfl) (by intro Wx hSw; (try dsimp only at hSw); go_simp; (try (first | (with_reducible rfl) | assumption | rfl))) ?_
    simp only [Act.put, List.setIfInBounds_toArray, List.set_cons_zero, List.set_cons_succ]
    refine Lex.step_take (.bool po) fb25 rfl (Lex.want_some rfl fb23 rfl (b' := true) rfl rfl) (by intro Wx hSw; (try dsimp only at hSw); go_simp; (try (first | (with_reducible rfl) | assumption | rfl))) ?_
    simp only [Act.put, List.setIfInBounds_toArray, List.set_cons_zero, List.set_cons_succ]
    refine Lex.step_take (.bool true) fb26 rfl (Lex.want_some rfl fb23 rfl (b' := true) rfl rfl) (by intro Wx hSw; (try dsimp only at hSw); go_simp; (try (first | (with_reducible rfl) | assumption | rfl))) ?_
    simp only [Act.put, List.setIfInBounds_toArray, List.set_cons_zero, List.set_cons_succ]
    refine Lex.step_take (.bool true) fb27 rfl (Lex.want_none rfl) (by intro Wx hSw; (try dsimp only at hSw); go_simp; (try (first | (with_reducible rfl) | assumption | rfl))) ?_
    simp only [Act.put, List.setIfInBounds_toArray, List.set_cons_zero, List.set_cons_succ]
    refine Lex.step_take (.bool true) fb28 rfl (Lex.want_none rfl) (by intro Wx hSw; (try dsimp only at hSw); go_simp; (try (first | (with_reducible rfl) | assumption | rfl))) ?_
    simp only [Act.put, List.setIfInBounds_toArray, List.set_cons_zero, List.set_cons_succ]
    refine NoPanic.normal ?_
    have HB := Lib.hid hB
    clear hB f0 f1 f2 f3 f4 a0 a1 a2 a3 a4 b0 b1 b2 b3 b4
    go_wp2
    go_ret
    exact ⟨rfl, HB.out⟩
  · have hpf := hpf (hb.1 rfl)
    have hsf := hsf (hb.1 rfl)
    generalize frameB ⟨fe, fi, fc, fp, fd⟩ = x at hpf hsf
    have hkx : (x.toList == x.toList) = true := beq_self_eq_true _
    have HP := Lib.hid (And.intro hpf hsf)
    clear hpf hsf hb
    have hdr := (Below.refl w5.heap.size w5).drew
    refine Lex.region_lex (ops := fbops) (calls := fbcalls) fbord (fun W => W.cell? ⟨gf, 0, none⟩ = some (.int .i64 fe) ∧ W.cell? ⟨gf, 1, none⟩ = some (.int .i64 fi) ∧ W.cell? ⟨gf, 2, none⟩ = some (.bool fc) ∧ W.cell? ⟨gf, 3, none⟩ = some (.int .i64 fp) ∧ W.cell? ⟨gf, 4, none⟩ = some (.string fd) ∧ W.cell? ⟨ga, 0, none⟩ = some (.int .i64 pe) ∧ W.cell? ⟨ga, 1, none⟩ = some (.int .i64 pi) ∧ W.cell? ⟨ga, 2, none⟩ = some (.bool pc) ∧ W.cell? ⟨ga, 3, none⟩ = some (.int .i64 pp) ∧ W.cell? ⟨ga, 4, none⟩ = some (.string pd) ∧ W.cell? ⟨gb, 0, none⟩ = some (.int .i64 pe) ∧ W.cell? ⟨gb, 1, none⟩ = some (.int .i64 pi) ∧ W.cell? ⟨gb, 2, none⟩ = some (.bool pc) ∧ W.cell? ⟨gb, 3, none⟩ = some (.int .i64 pp) ∧ W.cell? ⟨gb, 4, none⟩ = some (.string pd)) (by kernel_rfl) (by kernel_rfl) fbsel (by kernel_rfl) (by kernel_rfl) fblex (⟨cell_belowF hdr f0, cell_belowF hdr f1, cell_belowF hdr f2, cell_belowF hdr f3, cell_belowF hdr f4, cell_belowF hdr a0, cell_belowF hdr a1, cell_belowF hdr a2, cell_belowF hdr a3, cell_belowF hdr a4, cell_belowF hdr b0, cell_belowF hdr b1, cell_belowF hdr b2, cell_belowF hdr b3, cell_belowF hdr b4⟩) ?_
    unfold fbord
    have f0 := cell_belowF hdr f0
    have f1 := cell_belowF hdr f1
    have f2 := cell_belowF hdr f2
    have f3 := cell_belowF hdr f3
    have f4 := cell_belowF hdr f4
    have a0 := cell_belowF hdr a0
    have a1 := cell_belowF hdr a1
    have a2 := cell_belowF hdr a2
    have a3 := cell_belowF hdr a3
    have a4 := cell_belowF hdr a4
    have b0 := cell_belowF hdr b0
    have b1 := cell_belowF hdr b1
    have b2 := cell_belowF hdr b2
    have b3 := cell_belowF hdr b3
    have b4 := cell_belowF hdr b4
    have hB := hB.trans (hdr.mono hB.size)
    clear hdr
    refine Lex.step_call fb0 rfl (Lex.want_none rfl) (fun K hK => ?_)
    go_simp
    refine (awake_any _ (HT.out.below hB)).mono ?_
    rintro e y1 ⟨rfl, hv⟩
    have f0 := cell_belowF hv f0
    have f1 := cell_belowF hv f1
    have f2 := cell_belowF hv f2
    have f3 := cell_belowF hv f3
    have f4 := cell_belowF hv f4
    have a0 := cell_belowF hv a0
    have a1 := cell_belowF hv a1
    have a2 := cell_belowF hv a2
    have a3 := cell_belowF hv a3
    have a4 := cell_belowF hv a4
    have b0 := cell_belowF hv b0
    have b1 := cell_belowF hv b1
    have b2 := cell_belowF hv b2
    have b3 := cell_belowF hv b3
    have b4 := cell_belowF hv b4
    have hB := hB.trans (hv.mono hB.size)
    clear hv
    refine hK.out _ _ _ (fun _ h => h) ⟨f0, f1, f2, f3, f4, a0, a1, a2, a3, a4, b0, b1, b2, b3, b4⟩ ?_
    clear hK K
    try simp only [Act.put, List.setIfInBounds_toArray, List.set_cons_zero, List.set_cons_succ]
    refine Lex.step_take (.bool true) fb1 rfl (Lex.want_none rfl) (by intro Wx hSw; (try dsimp only at hSw); go_simp; (try (first | (with_reducible rfl) | assumption | rfl))) ?_
    simp only [Act.put, List.setIfInBounds_toArray, List.set_cons_zero, List.set_cons_succ]
    refine Lex.step_take (.bool true) fb2 rfl (Lex.want_some rfl fb1 rfl (b' := true) rfl rfl) (by intro Wx hSw; (try dsimp only at hSw); go_simp; (try (first | (with_reducible rfl) | assumption | rfl))) ?_
    simp only [Act.put, List.setIfInBounds_toArray, List.set_cons_zero, List.set_cons_succ]
    refine Lex.step_take (.agg #[.int .i64 fe, .int .i64 fi, .bool fc, .int .i64 fp, .string fd]) fb3 rfl (Lex.want_some rfl fb1 rfl (b' := true) rfl rfl) (by intro Wx hSw; (try dsimp only at hSw); go_simp; (try (first | (with_reducible rfl) | assumption | rfl))) ?_
    simp only [Act.put, List.setIfInBounds_toArray, List.set_cons_zero, List.set_cons_succ]
    refine Lex.step_call fb4 rfl (Lex.want_some rfl fb1 rfl (b' := true) rfl rfl) (fun K hK => ?_)
    go_simp
    refine (HR.out _).mono ?_
    rintro e y2 ⟨rfl, hv⟩
    have f0 := cell_belowF hv f0
    have f1 := cell_belowF hv f1
    have f2 := cell_belowF hv f2
    have f3 := cell_belowF hv f3
    have f4 := cell_belowF hv f4
    have a0 := cell_belowF hv a0
    have a1 := cell_belowF hv a1
    have a2 := cell_belowF hv a2
    have a3 := cell_belowF hv a3
    have a4 := cell_belowF hv a4
    have b0 := cell_belowF hv b0
    have b1 := cell_belowF hv b1
    have b2 := cell_belowF hv b2
    have b3 := cell_belowF hv b3
    have b4 := cell_belowF hv b4
    have hB := hB.trans (hv.mono hB.size)
    clear hv
    refine hK.out _ _ _ (fun _ h => h) ⟨f0, f1, f2, f3, f4, a0, a1, a2, a3, a4, b0, b1, b2, b3, b4⟩ ?_
    clear hK K
    try simp only [Act.put, List.setIfInBounds_toArray, List.set_cons_zero, List.set_cons_succ]
    refine Lex.step_take (.bool true) fb5 rfl (Lex.want_some rfl fb1 rfl (b' := true) rfl rfl) (by intro Wx hSw; (try dsimp only at hSw); go_simp; (try (first | (with_reducible rfl) | assumption | rfl))) ?_
    simp only [Act.put, List.setIfInBounds_toArray, List.set_cons_zero, List.set_cons_succ]
    refine Lex.step_take (.bool true) fb6 rfl (Lex.want_none rfl) (by intro Wx hSw; (try dsimp only at hSw); go_simp; (try (first | (with_reducible rfl) | assumption | rfl))) ?_
    simp only [Act.put, List.setIfInBounds_toArray, List.set_cons_zero, List.set_cons_succ]
    refine Lex.step_take (.bool true) fb7 rfl (Lex.want_none rfl) (by intro Wx hSw; (try dsimp only at hSw); go_simp; (try (first | (with_reducible rfl) | assumption | rfl))) ?_
    simp only [Act.put, List.setIfInBounds_toArray, List.set_cons_zero, List.set_cons_succ]
    refine Lex.step_take (.bool true) fb8 rfl (Lex.want_some rfl fb7 rfl (b' := true) rfl rfl) (by intro Wx hSw; (try dsimp only at hSw); go_simp; (try (first | (with_reducible rfl) | assumption | rfl))) ?_
    simp only [Act.put, List.setIfInBounds_toArray, List.set_cons_zero, List.set_cons_succ]
    refine Lex.step_take (.bool false) fb9 rfl (Lex.want_some rfl fb7 rfl (b' := true) rfl rfl) (by intro Wx hSw; (try dsimp only at hSw); go_simp; (try (first | (with_reducible rfl) | assumption | rfl))) ?_
    simp only [Act.put, List.setIfInBounds_toArray, List.set_cons_zero, List.set_cons_succ]
    refine Lex.step_take (.bool false) fb10 rfl (Lex.want_some rfl fb7 rfl (b' := true) rfl rfl) (by intro Wx hSw; (try dsimp only at hSw); go_simp; (try (first | (with_reducible rfl) | assumption | rfl))) ?_
    simp only [Act.put, List.setIfInBounds_toArray, List.set_cons_zero, List.set_cons_succ]
    refine Lex.step_take (.agg #[.int .i64 fe, .int .i64 fi, .bool fc, .int .i64 fp, .string fd]) fb11 rfl (Lex.want_some rfl fb10 rfl (b' := false) rfl rfl) (by intro Wx hSw; (try dsimp only at hSw); go_simp; (try (first | (with_reducible rfl) | assumption | rfl))) ?_
    simp only [Act.put, List.setIfInBounds_toArray, List.set_cons_zero, List.set_cons_succ]
    refine Lex.step_take (.agg #[.int .i64 fe, .int .i64 fi, .bool fc, .int .i64 fp, .string fd]) fb13 rfl (Lex.want_some rfl fb10 rfl (b' := false) rfl rfl) (by intro Wx hSw; (try dsimp only at hSw); go_simp; (try (first | (with_reducible rfl) | assumption | rfl))) ?_
    simp only [Act.put, List.setIfInBounds_toArray, List.set_cons_zero, List.set_cons_succ]
    refine Lex.step_call fb12 rfl (Lex.want_some rfl fb10 rfl (b' := false) rfl rfl) (fun K hK => ?_)
    go_simp
    refine (HP.out.1 _ (HT.out.below hB)).mono ?_
    rintro e y3 ⟨rfl, hv⟩
    have f0 := cell_belowF hv f0
    have f1 := cell_belowF hv f1
    have f2 := cell_belowF hv f2
    have f3 := cell_belowF hv f3
    have f4 := cell_belowF hv f4
    have a0 := cell_belowF hv a0
    have a1 := cell_belowF hv a1
    have a2 := cell_belowF hv a2
    have a3 := cell_belowF hv a3
    have a4 := cell_belowF hv a4
    have b0 := cell_belowF hv b0
    have b1 := cell_belowF hv b1
    have b2 := cell_belowF hv b2
    have b3 := cell_belowF hv b3
    have b4 := cell_belowF hv b4
    have hB := hB.trans (hv.mono hB.size)
    clear hv
    refine hK.out _ _ _ (fun _ h => h) ⟨f0, f1, f2, f3, f4, a0, a1, a2, a3, a4, b0, b1, b2, b3, b4⟩ ?_
    clear hK K
    try simp only [Act.put, List.setIfInBounds_toArray, List.set_cons_zero, List.set_cons_succ]
    refine Lex.step_call fb14 rfl (Lex.want_some rfl fb10 rfl (b' := false) rfl rfl) (fun K hK => ?_)
    go_simp
    refine (HP.out.2 _).mono ?_
    rintro e y4 ⟨rfl, hv⟩
    have f0 := cell_belowF hv f0
    have f1 := cell_belowF hv f1
    have f2 := cell_belowF hv f2
    have f3 := cell_belowF hv f3
    have f4 := cell_belowF hv f4
    have a0 := cell_belowF hv a0
    have a1 := cell_belowF hv a1
    have a2 := cell_belowF hv a2
    have a3 := cell_belowF hv a3
    have a4 := cell_belowF hv a4
    have b0 := cell_belowF hv b0
    have b1 := cell_belowF hv b1
    have b2 := cell_belowF hv b2
    have b3 := cell_belowF hv b3
    have b4 := cell_belowF hv b4
    have hB := hB.trans (hv.mono hB.size)
    clear hv
    refine hK.out _ _ _ (fun _ h => h) ⟨f0, f1, f2, f3, f4, a0, a1, a2, a3, a4, b0, b1, b2, b3, b4⟩ ?_
    clear hK K
    try simp only [Act.put, List.setIfInBounds_toArray, List.set_cons_zero, List.set_cons_succ]
    refine Lex.step_take (.bool true) fb15 rfl (Lex.want_some rfl fb10 rfl (b' := false) rfl rfl) (by intro Wx hSw; (try dsimp only at hSw); go_simp; (try (first | (with_reducible rfl) | assumption | rfl))) ?_
    simp only [Act.put, List.setIfInBounds_toArray, List.set_cons_zero, List.set_cons_succ]
    refine Lex.step_take (.bool true) fb16 rfl (Lex.want_some rfl fb7 rfl (b' := true) rfl rfl) (by intro Wx hSw; (try dsimp only at hSw); go_simp; (try (first | (with_reducible rfl) | assumption | rfl))) ?_
    simp only [Act.put, List.setIfInBounds_toArray, List.set_cons_zero, List.set_cons_succ]
    refine Lex.step_take (.bool true) fb17 rfl (Lex.want_none rfl) (by intro Wx hSw; (try dsimp only at hSw); go_simp; (try (first | (with_reducible rfl) | assumption | rfl))) ?_
    simp only [Act.put, List.setIfInBounds_toArray, List.set_cons_zero, List.set_cons_succ]
    refine Lex.step_take (.bool true) fb18 rfl (Lex.want_none rfl) (by intro Wx hSw; (try dsimp only at hSw); go_simp; (try (first | (with_reducible rfl) | assumption | rfl))) ?_
    simp only [Act.put, List.setIfInBounds_toArray, List.set_cons_zero, List.set_cons_succ]
    refine Lex.step_take (.agg #[.int .i64 pe, .int .i64 pi, .bool pc, .int .i64 pp, .string pd]) fb19 rfl (Lex.want_some rfl fb18 rfl (b' := true) rfl rfl) (by intro Wx hSw; (try dsimp only at hSw); go_simp; (try (first | (with_reducible rfl) | assumption | rfl))) ?_
    simp only [Act.put, List.setIfInBounds_toArray, List.set_cons_zero, List.set_cons_succ]
    refine Lex.step_take (.agg #[.int .i64 pe, .int .i64 pi, .bool pc, .int .i64 pp, .string pd]) fb20 rfl (Lex.want_some rfl fb18 rfl (b' := true) rfl rfl) (by intro Wx hSw; (try dsimp only at hSw); go_simp; (try (first | (with_reducible rfl) | assumption | rfl))) ?_
    simp only [Act.put, List.setIfInBounds_toArray, List.set_cons_zero, List.set_cons_succ]
    refine Lex.step_take (.bool true) fb21 rfl (Lex.want_some rfl fb18 rfl (b' := true) rfl rfl) (by intro Wx hSw; (try dsimp only at hSw); go_simp; (try (first | (with_reducible rfl) | assumption | rfl))) ?_
    simp only [Act.put, List.setIfInBounds_toArray, List.set_cons_zero, List.set_cons_succ]
    refine Lex.step_take (.bool true) fb22 rfl (Lex.want_none rfl) (by intro Wx hSw; (try dsimp only at hSw); go_simp; (try (first | (with_reducible rfl) | assumption | rfl))) ?_
    simp only [Act.put, List.setIfInBounds_toArray, List.set_cons_zero, List.set_cons_succ]
    refine Lex.step_take (.bool true) fb23 rfl (Lex.want_none rfl) (by intro Wx hSw; (try dsimp only at hSw); go_simp; (try (first | (with_reducible rfl) | assumption | rfl))) ?_
    simp only [Act.put, List.setIfInBounds_toArray, List.set_cons_zero, List.set_cons_succ]
    refine Lex.step_take (.bool po) fb24 rfl (Lex.want_some rfl fb23 rfl (b' := true) rfl rfl) (by intro Wx hSw; (try dsimp only at hSw); go_simp; (try (first | (with_reducible rfl) | assumption | rfl))) ?_
    simp only [Act.put, List.setIfInBounds_toArray, List.set_cons_zero, List.set_cons_succ]
    refine Lex.step_take (.bool po) fb25 rfl (Lex.want_some rfl fb23 rfl (b' := true) rfl rfl) (by intro Wx hSw; (try dsimp only at hSw); go_simp; (try (first | (with_reducible rfl) | assumption | rfl))) ?_
    simp only [Act.put, List.setIfInBounds_toArray, List.set_cons_zero, List.set_cons_succ]
    refine Lex.step_take (.bool true) fb26 rfl (Lex.want_some rfl fb23 rfl (b' := true) rfl rfl) (by intro Wx hSw; (try dsimp only at hSw); go_simp; (try (first | (with_reducible rfl) | assumption | rfl))) ?_
    simp only [Act.put, List.setIfInBounds_toArray, List.set_cons_zero, List.set_cons_succ]
    refine Lex.step_take (.bool true) fb27 rfl (Lex.want_none rfl) (by intro Wx hSw; (try dsimp only at hSw); go_simp; (try (first | (with_reducible rfl) | assumption | rfl))) ?_
    simp only [Act.put, List.setIfInBounds_toArray, List.set_cons_zero, List.set_cons_succ]
    refine Lex.step_take (.bool true) fb28 rfl (Lex.want_none rfl) (by intro Wx hSw; (try dsimp only at hSw); go_simp; (try (first | (with_reducible rfl) | assumption | rfl))) ?_
    simp only [Act.put, List.setIfInBounds_toArray, List.set_cons_zero, List.set_cons_succ]
    refine NoPanic.normal ?_
    have HB := Lib.hid hB
    clear hB f0 f1 f2 f3 f4 a0 a1 a2 a3 a4 b0 b1 b2 b3 b4
    go_wp2
    go_ret
    exact ⟨rfl, HB.out⟩
end Go.Proofs.YtiacdpfodhggmaaDoor.Fr
