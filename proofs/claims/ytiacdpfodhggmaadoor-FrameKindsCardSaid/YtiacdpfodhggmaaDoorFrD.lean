/- Unlike frames have unlike sectors: the law, walked. -/
import Derived.Test.YtiacdpfodhggmaaDoorFrC
import Derived.Test.YtiacdpfodhggmaaDoorXfa
namespace Go.Proofs.YtiacdpfodhggmaaDoor.Fr
open Go.RowKit Tal Lf Lex
set_option maxRecDepth 20000 in
set_option maxHeartbeats 6400000 in
theorem apart_any (f g : F) (w : World) (ht : Tab w) : Calls Tryd.prog 7 #[.agg (cellsF f), .agg (cellsF g)] w fun e w' => e = .returned (.bool true) ∧ Below w.heap.size w w' := by
  have HT := Lib.hid ht
  clear ht
  have hB := (Below.refl w.heap.size w).alloc (Nat.le_refl _) (.cells (cellsF f) 36)
  have hf := BoxF.new w f 36
  have hz : (w.alloc (.cells (cellsF f) 36)).heap.size = w.heap.size + 1 := by simp
  obtain ⟨gf, hgf⟩ : ∃ g, w.heap.size = g := ⟨_, rfl⟩
  rw [hgf] at hf hz
  generalize hwa : w.alloc (.cells (cellsF f) 36) = wa at hB hf hz
  have hn := (Below.refl wa.heap.size wa).alloc (Nat.le_refl _) (.cells (cellsF g) 36)
  have hg := BoxF.new wa g 36
  have hf := hf.below hn hf.lt
  have hB := hB.trans (hn.mono hB.size)
  rw [hz] at hg
  obtain ⟨gg, hgg⟩ : ∃ g, gf + 1 = g := ⟨_, rfl⟩
  rw [hgg] at hg hz
  generalize hwb : wa.alloc (.cells (cellsF g) 36) = wb at hB hf hg
  clear hn
  have hrf := fun W => right_any f W
  have hrg := fun W => right_any g W
  have hpf := fun (h : RightF f) W (ht : Tab W) => print_any f W ht h
  have hpg := fun (h : RightF g) W (ht : Tab W) => print_any g W ht h
  have hij : RightF f → RightF g → f ≠ g → frameB f ≠ frameB g := fun h1 h2 h3 e => h3 (frame_inj h1 h2 e)
  obtain ⟨fe, fi, fc, fp, fd⟩ := f
  obtain ⟨ge, gi, gc, gp, gd⟩ := g
  unfold cellsF at hwa hwb hrf hrg hpf hpg ⊢
  simp only at hwa hwb hrf hrg hpf hpg ⊢
  have f0 := hf.c0
  have g0 := hg.c0
  have f1 := hf.c1
  have g1 := hg.c1
  have f2 := hf.c2
  have g2 := hg.c2
  have f3 := hf.c3
  have g3 := hg.c3
  have f4 := hf.c4
  have g4 := hg.c4
  simp only at f0 g0 f1 g1 f2 g2 f3 g3 f4 g4
  go_enter Tryd.func7, Tryd.ntmps7
  go_wp2_with fail
  clear hwa hwb hgf hgg hz
  refine (hrf _).mono ?_
  rintro e w1 ⟨b, rfl, hb, hv⟩
  have hf := hf.below hv hf.lt
  have hg := hg.below hv hg.lt
  have hB := hB.trans (hv.mono hB.size)
  clear hv f0 g0 f1 g1 f2 g2 f3 g3 f4 g4
  cases b
  · go_wp2_with fail
    refine (awake_any _ (HT.out.below hB)).mono ?_
    rintro e w2 ⟨rfl, hv⟩
    have HB := Lib.hid (hB.trans (hv.mono hB.size))
    clear hv hB hf hg
    go_wp2
    go_ret
    exact ⟨rfl, HB.out⟩
  have h1 := hb.1 rfl
  clear hb
  have f0 := hf.c0
  have g0 := hg.c0
  have f1 := hf.c1
  have g1 := hg.c1
  have f2 := hf.c2
  have g2 := hg.c2
  have f3 := hf.c3
  have g3 := hg.c3
  have f4 := hf.c4
  have g4 := hg.c4
  simp only at f0 g0 f1 g1 f2 g2 f3 g3 f4 g4
  go_wp2_with fail
  refine (hrg _).mono ?_
  rintro e w2 ⟨b, rfl, hb, hv⟩
  have hf := hf.below hv hf.lt
  have hg := hg.below hv hg.lt
  have hB := hB.trans (hv.mono hB.size)
  clear hv f0 g0 f1 g1 f2 g2 f3 g3 f4 g4
  cases b
  · go_wp2_with fail
    refine (awake_any _ (HT.out.below hB)).mono ?_
    rintro e w3 ⟨rfl, hv⟩
    have HB := Lib.hid (hB.trans (hv.mono hB.size))
    clear hv hB hf hg
    go_wp2
    go_ret
    exact ⟨rfl, HB.out⟩
  have h2 := hb.1 rfl
  clear hb
  have f0 := hf.c0
  have g0 := hg.c0
  have f1 := hf.c1
  have g1 := hg.c1
  have f2 := hf.c2
  have g2 := hg.c2
  have f3 := hf.c3
  have g3 := hg.c3
  have f4 := hf.c4
  have g4 := hg.c4
  simp only at f0 g0 f1 g1 f2 g2 f3 g3 f4 g4
  go_wp2_with fail
  have hpf := hpf h1
  have hpg := hpg h2
  have hij := hij h1 h2
  generalize hx : frameB ⟨fe, fi, fc, fp, fd⟩ = x at hpf hij
  generalize hy : frameB ⟨ge, gi, gc, gp, gd⟩ = y at hpg hij
  clear hrf hrg h1 h2 hf hg
  by_cases hk : fe = ge
  case neg =>
    have hsn := str_ne (hij (fun e => hk (congrArg F.e e)))
    have HP := Lib.hid (And.intro hpf hpg)
    have HK := Lib.hid hij
    clear hpf hpg hij hx hy
    have hdr := (Below.refl w2.heap.size w2).drew
    refine Lex.region_lex (ops := faops) (calls := facalls) faord (fun W => W.cell? ⟨gf, 0, none⟩ = some (.int .i64 fe) ∧ W.cell? ⟨gf, 1, none⟩ = some (.int .i64 fi) ∧ W.cell? ⟨gf, 2, none⟩ = some (.bool fc) ∧ W.cell? ⟨gf, 3, none⟩ = some (.int .i64 fp) ∧ W.cell? ⟨gf, 4, none⟩ = some (.string fd) ∧ W.cell? ⟨gg, 0, none⟩ = some (.int .i64 ge) ∧ W.cell? ⟨gg, 1, none⟩ = some (.int .i64 gi) ∧ W.cell? ⟨gg, 2, none⟩ = some (.bool gc) ∧ W.cell? ⟨gg, 3, none⟩ = some (.int .i64 gp) ∧ W.cell? ⟨gg, 4, none⟩ = some (.string gd)) (by kernel_rfl) (by kernel_rfl) fasel (by kernel_rfl) (by kernel_rfl) falex (⟨cell_belowF hdr f0, cell_belowF hdr f1, cell_belowF hdr f2, cell_belowF hdr f3, cell_belowF hdr f4, cell_belowF hdr g0, cell_belowF hdr g1, cell_belowF hdr g2, cell_belowF hdr g3, cell_belowF hdr g4⟩) ?_
    unfold faord
    have f0 := cell_belowF hdr f0
    have f1 := cell_belowF hdr f1
    have f2 := cell_belowF hdr f2
    have f3 := cell_belowF hdr f3
    have f4 := cell_belowF hdr f4
    have g0 := cell_belowF hdr g0
    have g1 := cell_belowF hdr g1
    have g2 := cell_belowF hdr g2
    have g3 := cell_belowF hdr g3
    have g4 := cell_belowF hdr g4
    have hB := hB.trans (hdr.mono hB.size)
    clear hdr
    refine Lex.step_call fa0 rfl (Lex.want_none rfl) (fun K hK => ?_)
    go_simp
    refine (awake_any _ (HT.out.below hB)).mono ?_
    rintro e y1 ⟨rfl, hv⟩
    have f0 := cell_belowF hv f0
    have f1 := cell_belowF hv f1
    have f2 := cell_belowF hv f2
    have f3 := cell_belowF hv f3
    have f4 := cell_belowF hv f4
    have g0 := cell_belowF hv g0
    have g1 := cell_belowF hv g1
    have g2 := cell_belowF hv g2
    have g3 := cell_belowF hv g3
    have g4 := cell_belowF hv g4
    have hB := hB.trans (hv.mono hB.size)
    clear hv
    refine hK.out _ _ _ (fun _ h => h) ⟨f0, f1, f2, f3, f4, g0, g1, g2, g3, g4⟩ ?_
    clear hK K
    try simp only [Act.put, List.setIfInBounds_toArray, List.set_cons_zero, List.set_cons_succ]
    refine Lex.step_take (.bool true) fa1 rfl (Lex.want_none rfl) (by intro Wx hSw; (try dsimp only at hSw); go_simp; (try (first | (with_reducible rfl) | assumption | rfl))) ?_
    simp only [Act.put, List.setIfInBounds_toArray, List.set_cons_zero, List.set_cons_succ]
    refine Lex.step_take (.agg #[.int .i64 fe, .int .i64 fi, .bool fc, .int .i64 fp, .string fd]) fa2 rfl (Lex.want_some rfl fa1 rfl (b' := true) rfl rfl) (by intro Wx hSw; (try dsimp only at hSw); go_simp; (try (first | (with_reducible rfl) | assumption | rfl))) ?_
    simp only [Act.put, List.setIfInBounds_toArray, List.set_cons_zero, List.set_cons_succ]
    refine Lex.step_take (.agg #[.int .i64 ge, .int .i64 gi, .bool gc, .int .i64 gp, .string gd]) fa4 rfl (Lex.want_some rfl fa1 rfl (b' := true) rfl rfl) (by intro Wx hSw; (try dsimp only at hSw); go_simp; (try (first | (with_reducible rfl) | assumption | rfl))) ?_
    simp only [Act.put, List.setIfInBounds_toArray, List.set_cons_zero, List.set_cons_succ]
    refine Lex.step_take (.agg #[.int .i64 fe, .int .i64 fi, .bool fc, .int .i64 fp, .string fd]) fa7 rfl (Lex.want_some rfl fa1 rfl (b' := true) rfl rfl) (by intro Wx hSw; (try dsimp only at hSw); go_simp; (try (first | (with_reducible rfl) | assumption | rfl))) ?_
    simp only [Act.put, List.setIfInBounds_toArray, List.set_cons_zero, List.set_cons_succ]
    refine Lex.step_take (.agg #[.int .i64 ge, .int .i64 gi, .bool gc, .int .i64 gp, .string gd]) fa8 rfl (Lex.want_some rfl fa1 rfl (b' := true) rfl rfl) (by intro Wx hSw; (try dsimp only at hSw); go_simp; (try (first | (with_reducible rfl) | assumption | rfl))) ?_
    simp only [Act.put, List.setIfInBounds_toArray, List.set_cons_zero, List.set_cons_succ]
    refine Lex.step_take (.bool false) fa9 rfl (Lex.want_some rfl fa1 rfl (b' := true) rfl rfl) (by intro Wx hSw; (try dsimp only at hSw); go_simp; (try (first | (with_reducible rfl) | assumption | rfl))) ?_
    simp only [Act.put, List.setIfInBounds_toArray, List.set_cons_zero, List.set_cons_succ]
    refine Lex.step_call fa3 rfl (Lex.want_some rfl fa1 rfl (b' := true) rfl rfl) (fun K hK => ?_)
    go_simp
    refine (HP.out.1 _ (HT.out.below hB)).mono ?_
    rintro e y2 ⟨rfl, hv⟩
    have f0 := cell_belowF hv f0
    have f1 := cell_belowF hv f1
    have f2 := cell_belowF hv f2
    have f3 := cell_belowF hv f3
    have f4 := cell_belowF hv f4
    have g0 := cell_belowF hv g0
    have g1 := cell_belowF hv g1
    have g2 := cell_belowF hv g2
    have g3 := cell_belowF hv g3
    have g4 := cell_belowF hv g4
    have hB := hB.trans (hv.mono hB.size)
    clear hv
    refine hK.out _ _ _ (fun _ h => h) ⟨f0, f1, f2, f3, f4, g0, g1, g2, g3, g4⟩ ?_
    clear hK K
    try simp only [Act.put, List.setIfInBounds_toArray, List.set_cons_zero, List.set_cons_succ]
    refine Lex.step_call fa5 rfl (Lex.want_some rfl fa1 rfl (b' := true) rfl rfl) (fun K hK => ?_)
    go_simp
    refine (HP.out.2 _ (HT.out.below hB)).mono ?_
    rintro e y3 ⟨rfl, hv⟩
    have f0 := cell_belowF hv f0
    have f1 := cell_belowF hv f1
    have f2 := cell_belowF hv f2
    have f3 := cell_belowF hv f3
    have f4 := cell_belowF hv f4
    have g0 := cell_belowF hv g0
    have g1 := cell_belowF hv g1
    have g2 := cell_belowF hv g2
    have g3 := cell_belowF hv g3
    have g4 := cell_belowF hv g4
    have hB := hB.trans (hv.mono hB.size)
    clear hv
    refine hK.out _ _ _ (fun _ h => h) ⟨f0, f1, f2, f3, f4, g0, g1, g2, g3, g4⟩ ?_
    clear hK K
    try simp only [Act.put, List.setIfInBounds_toArray, List.set_cons_zero, List.set_cons_succ]
    refine Lex.step_take (.bool false) fa6 rfl (Lex.want_some rfl fa1 rfl (b' := true) rfl rfl) (by intro Wx hSw; (try dsimp only at hSw); go_simp; (try (first | (with_reducible rfl) | assumption | rfl))) ?_
    simp only [Act.put, List.setIfInBounds_toArray, List.set_cons_zero, List.set_cons_succ]
    refine Lex.step_take (.bool true) fa10 rfl (Lex.want_some rfl fa1 rfl (b' := true) rfl rfl) (by intro Wx hSw; (try dsimp only at hSw); go_simp; (try (first | (with_reducible rfl) | assumption | rfl))) ?_
    simp only [Act.put, List.setIfInBounds_toArray, List.set_cons_zero, List.set_cons_succ]
    refine Lex.step_take (.bool true) fa11 rfl (Lex.want_none rfl) (by intro Wx hSw; (try dsimp only at hSw); go_simp; (try (first | (with_reducible rfl) | assumption | rfl))) ?_
    simp only [Act.put, List.setIfInBounds_toArray, List.set_cons_zero, List.set_cons_succ]
    refine Lex.step_take (.bool true) fa12 rfl (Lex.want_none rfl) (by intro Wx hSw; (try dsimp only at hSw); go_simp; (try (first | (with_reducible rfl) | assumption | rfl))) ?_
    simp only [Act.put, List.setIfInBounds_toArray, List.set_cons_zero, List.set_cons_succ]
    refine NoPanic.normal ?_
    have HB := Lib.hid hB
    clear hB f0 f1 f2 f3 f4 g0 g1 g2 g3 g4
    go_wp2
    go_ret
    exact ⟨rfl, HB.out⟩
  case pos =>
    subst hk
    by_cases hk : fi = gi
    case neg =>
      have hsn := str_ne (hij (fun e => hk (congrArg F.i e)))
      have HP := Lib.hid (And.intro hpf hpg)
      have HK := Lib.hid hij
      clear hpf hpg hij hx hy
      have hdr := (Below.refl w2.heap.size w2).drew
      refine Lex.region_lex (ops := faops) (calls := facalls) faord (fun W => W.cell? ⟨gf, 0, none⟩ = some (.int .i64 fe) ∧ W.cell? ⟨gf, 1, none⟩ = some (.int .i64 fi) ∧ W.cell? ⟨gf, 2, none⟩ = some (.bool fc) ∧ W.cell? ⟨gf, 3, none⟩ = some (.int .i64 fp) ∧ W.cell? ⟨gf, 4, none⟩ = some (.string fd) ∧ W.cell? ⟨gg, 0, none⟩ = some (.int .i64 fe) ∧ W.cell? ⟨gg, 1, none⟩ = some (.int .i64 gi) ∧ W.cell? ⟨gg, 2, none⟩ = some (.bool gc) ∧ W.cell? ⟨gg, 3, none⟩ = some (.int .i64 gp) ∧ W.cell? ⟨gg, 4, none⟩ = some (.string gd)) (by kernel_rfl) (by kernel_rfl) fasel (by kernel_rfl) (by kernel_rfl) falex (⟨cell_belowF hdr f0, cell_belowF hdr f1, cell_belowF hdr f2, cell_belowF hdr f3, cell_belowF hdr f4, cell_belowF hdr g0, cell_belowF hdr g1, cell_belowF hdr g2, cell_belowF hdr g3, cell_belowF hdr g4⟩) ?_
      unfold faord
      have f0 := cell_belowF hdr f0
      have f1 := cell_belowF hdr f1
      have f2 := cell_belowF hdr f2
      have f3 := cell_belowF hdr f3
      have f4 := cell_belowF hdr f4
      have g0 := cell_belowF hdr g0
      have g1 := cell_belowF hdr g1
      have g2 := cell_belowF hdr g2
      have g3 := cell_belowF hdr g3
      have g4 := cell_belowF hdr g4
      have hB := hB.trans (hdr.mono hB.size)
      clear hdr
      refine Lex.step_call fa0 rfl (Lex.want_none rfl) (fun K hK => ?_)
      go_simp
      refine (awake_any _ (HT.out.below hB)).mono ?_
      rintro e y1 ⟨rfl, hv⟩
      have f0 := cell_belowF hv f0
      have f1 := cell_belowF hv f1
      have f2 := cell_belowF hv f2
      have f3 := cell_belowF hv f3
      have f4 := cell_belowF hv f4
      have g0 := cell_belowF hv g0
      have g1 := cell_belowF hv g1
      have g2 := cell_belowF hv g2
      have g3 := cell_belowF hv g3
      have g4 := cell_belowF hv g4
      have hB := hB.trans (hv.mono hB.size)
      clear hv
      refine hK.out _ _ _ (fun _ h => h) ⟨f0, f1, f2, f3, f4, g0, g1, g2, g3, g4⟩ ?_
      clear hK K
      try simp only [Act.put, List.setIfInBounds_toArray, List.set_cons_zero, List.set_cons_succ]
      refine Lex.step_take (.bool true) fa1 rfl (Lex.want_none rfl) (by intro Wx hSw; (try dsimp only at hSw); go_simp; (try (first | (with_reducible rfl) | assumption | rfl))) ?_
      simp only [Act.put, List.setIfInBounds_toArray, List.set_cons_zero, List.set_cons_succ]
      refine Lex.step_take (.agg #[.int .i64 fe, .int .i64 fi, .bool fc, .int .i64 fp, .string fd]) fa2 rfl (Lex.want_some rfl fa1 rfl (b' := true) rfl rfl) (by intro Wx hSw; (try dsimp only at hSw); go_simp; (try (first | (with_reducible rfl) | assumption | rfl))) ?_
      simp only [Act.put, List.setIfInBounds_toArray, List.set_cons_zero, List.set_cons_succ]
      refine Lex.step_take (.agg #[.int .i64 fe, .int .i64 gi, .bool gc, .int .i64 gp, .string gd]) fa4 rfl (Lex.want_some rfl fa1 rfl (b' := true) rfl rfl) (by intro Wx hSw; (try dsimp only at hSw); go_simp; (try (first | (with_reducible rfl) | assumption | rfl))) ?_
      simp only [Act.put, List.setIfInBounds_toArray, List.set_cons_zero, List.set_cons_succ]
      refine Lex.step_take (.agg #[.int .i64 fe, .int .i64 fi, .bool fc, .int .i64 fp, .string fd]) fa7 rfl (Lex.want_some rfl fa1 rfl (b' := true) rfl rfl) (by intro Wx hSw; (try dsimp only at hSw); go_simp; (try (first | (with_reducible rfl) | assumption | rfl))) ?_
      simp only [Act.put, List.setIfInBounds_toArray, List.set_cons_zero, List.set_cons_succ]
      refine Lex.step_take (.agg #[.int .i64 fe, .int .i64 gi, .bool gc, .int .i64 gp, .string gd]) fa8 rfl (Lex.want_some rfl fa1 rfl (b' := true) rfl rfl) (by intro Wx hSw; (try dsimp only at hSw); go_simp; (try (first | (with_reducible rfl) | assumption | rfl))) ?_
      simp only [Act.put, List.setIfInBounds_toArray, List.set_cons_zero, List.set_cons_succ]
      refine Lex.step_take (.bool false) fa9 rfl (Lex.want_some rfl fa1 rfl (b' := true) rfl rfl) (by intro Wx hSw; (try dsimp only at hSw); go_simp; (try (first | (with_reducible rfl) | assumption | rfl))) ?_
      simp only [Act.put, List.setIfInBounds_toArray, List.set_cons_zero, List.set_cons_succ]
      refine Lex.step_call fa3 rfl (Lex.want_some rfl fa1 rfl (b' := true) rfl rfl) (fun K hK => ?_)
      go_simp
      refine (HP.out.1 _ (HT.out.below hB)).mono ?_
      rintro e y2 ⟨rfl, hv⟩
      have f0 := cell_belowF hv f0
      have f1 := cell_belowF hv f1
      have f2 := cell_belowF hv f2
      have f3 := cell_belowF hv f3
      have f4 := cell_belowF hv f4
      have g0 := cell_belowF hv g0
      have g1 := cell_belowF hv g1
      have g2 := cell_belowF hv g2
      have g3 := cell_belowF hv g3
      have g4 := cell_belowF hv g4
      have hB := hB.trans (hv.mono hB.size)
      clear hv
      refine hK.out _ _ _ (fun _ h => h) ⟨f0, f1, f2, f3, f4, g0, g1, g2, g3, g4⟩ ?_
      clear hK K
      try simp only [Act.put, List.setIfInBounds_toArray, List.set_cons_zero, List.set_cons_succ]
      refine Lex.step_call fa5 rfl (Lex.want_some rfl fa1 rfl (b' := true) rfl rfl) (fun K hK => ?_)
      go_simp
      refine (HP.out.2 _ (HT.out.below hB)).mono ?_
      rintro e y3 ⟨rfl, hv⟩
      have f0 := cell_belowF hv f0
      have f1 := cell_belowF hv f1
      have f2 := cell_belowF hv f2
      have f3 := cell_belowF hv f3
      have f4 := cell_belowF hv f4
      have g0 := cell_belowF hv g0
      have g1 := cell_belowF hv g1
      have g2 := cell_belowF hv g2
      have g3 := cell_belowF hv g3
      have g4 := cell_belowF hv g4
      have hB := hB.trans (hv.mono hB.size)
      clear hv
      refine hK.out _ _ _ (fun _ h => h) ⟨f0, f1, f2, f3, f4, g0, g1, g2, g3, g4⟩ ?_
      clear hK K
      try simp only [Act.put, List.setIfInBounds_toArray, List.set_cons_zero, List.set_cons_succ]
      refine Lex.step_take (.bool false) fa6 rfl (Lex.want_some rfl fa1 rfl (b' := true) rfl rfl) (by intro Wx hSw; (try dsimp only at hSw); go_simp; (try (first | (with_reducible rfl) | assumption | rfl))) ?_
      simp only [Act.put, List.setIfInBounds_toArray, List.set_cons_zero, List.set_cons_succ]
      refine Lex.step_take (.bool true) fa10 rfl (Lex.want_some rfl fa1 rfl (b' := true) rfl rfl) (by intro Wx hSw; (try dsimp only at hSw); go_simp; (try (first | (with_reducible rfl) | assumption | rfl))) ?_
      simp only [Act.put, List.setIfInBounds_toArray, List.set_cons_zero, List.set_cons_succ]
      refine Lex.step_take (.bool true) fa11 rfl (Lex.want_none rfl) (by intro Wx hSw; (try dsimp only at hSw); go_simp; (try (first | (with_reducible rfl) | assumption | rfl))) ?_
      simp only [Act.put, List.setIfInBounds_toArray, List.set_cons_zero, List.set_cons_succ]
      refine Lex.step_take (.bool true) fa12 rfl (Lex.want_none rfl) (by intro Wx hSw; (try dsimp only at hSw); go_simp; (try (first | (with_reducible rfl) | assumption | rfl))) ?_
      simp only [Act.put, List.setIfInBounds_toArray, List.set_cons_zero, List.set_cons_succ]
      refine NoPanic.normal ?_
      have HB := Lib.hid hB
      clear hB f0 f1 f2 f3 f4 g0 g1 g2 g3 g4
      go_wp2
      go_ret
      exact ⟨rfl, HB.out⟩
    case pos =>
      subst hk
      by_cases hk : fc = gc
      case neg =>
        have hsn := str_ne (hij (fun e => hk (congrArg F.c e)))
        have HP := Lib.hid (And.intro hpf hpg)
        have HK := Lib.hid hij
        clear hpf hpg hij hx hy
        have hdr := (Below.refl w2.heap.size w2).drew
        refine Lex.region_lex (ops := faops) (calls := facalls) faord (fun W => W.cell? ⟨gf, 0, none⟩ = some (.int .i64 fe) ∧ W.cell? ⟨gf, 1, none⟩ = some (.int .i64 fi) ∧ W.cell? ⟨gf, 2, none⟩ = some (.bool fc) ∧ W.cell? ⟨gf, 3, none⟩ = some (.int .i64 fp) ∧ W.cell? ⟨gf, 4, none⟩ = some (.string fd) ∧ W.cell? ⟨gg, 0, none⟩ = some (.int .i64 fe) ∧ W.cell? ⟨gg, 1, none⟩ = some (.int .i64 fi) ∧ W.cell? ⟨gg, 2, none⟩ = some (.bool gc) ∧ W.cell? ⟨gg, 3, none⟩ = some (.int .i64 gp) ∧ W.cell? ⟨gg, 4, none⟩ = some (.string gd)) (by kernel_rfl) (by kernel_rfl) fasel (by kernel_rfl) (by kernel_rfl) falex (⟨cell_belowF hdr f0, cell_belowF hdr f1, cell_belowF hdr f2, cell_belowF hdr f3, cell_belowF hdr f4, cell_belowF hdr g0, cell_belowF hdr g1, cell_belowF hdr g2, cell_belowF hdr g3, cell_belowF hdr g4⟩) ?_
        unfold faord
        have f0 := cell_belowF hdr f0
        have f1 := cell_belowF hdr f1
        have f2 := cell_belowF hdr f2
        have f3 := cell_belowF hdr f3
        have f4 := cell_belowF hdr f4
        have g0 := cell_belowF hdr g0
        have g1 := cell_belowF hdr g1
        have g2 := cell_belowF hdr g2
        have g3 := cell_belowF hdr g3
        have g4 := cell_belowF hdr g4
        have hB := hB.trans (hdr.mono hB.size)
        clear hdr
        refine Lex.step_call fa0 rfl (Lex.want_none rfl) (fun K hK => ?_)
        go_simp
        refine (awake_any _ (HT.out.below hB)).mono ?_
        rintro e y1 ⟨rfl, hv⟩
        have f0 := cell_belowF hv f0
        have f1 := cell_belowF hv f1
        have f2 := cell_belowF hv f2
        have f3 := cell_belowF hv f3
        have f4 := cell_belowF hv f4
        have g0 := cell_belowF hv g0
        have g1 := cell_belowF hv g1
        have g2 := cell_belowF hv g2
        have g3 := cell_belowF hv g3
        have g4 := cell_belowF hv g4
        have hB := hB.trans (hv.mono hB.size)
        clear hv
        refine hK.out _ _ _ (fun _ h => h) ⟨f0, f1, f2, f3, f4, g0, g1, g2, g3, g4⟩ ?_
        clear hK K
        try simp only [Act.put, List.setIfInBounds_toArray, List.set_cons_zero, List.set_cons_succ]
        refine Lex.step_take (.bool true) fa1 rfl (Lex.want_none rfl) (by intro Wx hSw; (try dsimp only at hSw); go_simp; (try (first | (with_reducible rfl) | assumption | rfl))) ?_
        simp only [Act.put, List.setIfInBounds_toArray, List.set_cons_zero, List.set_cons_succ]
        refine Lex.step_take (.agg #[.int .i64 fe, .int .i64 fi, .bool fc, .int .i64 fp, .string fd]) fa2 rfl (Lex.want_some rfl fa1 rfl (b' := true) rfl rfl) (by intro Wx hSw; (try dsimp only at hSw); go_simp; (try (first | (with_reducible rfl) | assumption | rfl))) ?_
        simp only [Act.put, List.setIfInBounds_toArray, List.set_cons_zero, List.set_cons_succ]
        refine Lex.step_take (.agg #[.int .i64 fe, .int .i64 fi, .bool gc, .int .i64 gp, .string gd]) fa4 rfl (Lex.want_some rfl fa1 rfl (b' := true) rfl rfl) (by intro Wx hSw; (try dsimp only at hSw); go_simp; (try (first | (with_reducible rfl) | assumption | rfl))) ?_
        simp only [Act.put, List.setIfInBounds_toArray, List.set_cons_zero, List.set_cons_succ]
        refine Lex.step_take (.agg #[.int .i64 fe, .int .i64 fi, .bool fc, .int .i64 fp, .string fd]) fa7 rfl (Lex.want_some rfl fa1 rfl (b' := true) rfl rfl) (by intro Wx hSw; (try dsimp only at hSw); go_simp; (try (first | (with_reducible rfl) | assumption | rfl))) ?_
        simp only [Act.put, List.setIfInBounds_toArray, List.set_cons_zero, List.set_cons_succ]
        refine Lex.step_take (.agg #[.int .i64 fe, .int .i64 fi, .bool gc, .int .i64 gp, .string gd]) fa8 rfl (Lex.want_some rfl fa1 rfl (b' := true) rfl rfl) (by intro Wx hSw; (try dsimp only at hSw); go_simp; (try (first | (with_reducible rfl) | assumption | rfl))) ?_
        simp only [Act.put, List.setIfInBounds_toArray, List.set_cons_zero, List.set_cons_succ]
        refine Lex.step_take (.bool false) fa9 rfl (Lex.want_some rfl fa1 rfl (b' := true) rfl rfl) (by intro Wx hSw; (try dsimp only at hSw); go_simp; (try (first | (with_reducible rfl) | assumption | rfl))) ?_
        simp only [Act.put, List.setIfInBounds_toArray, List.set_cons_zero, List.set_cons_succ]
        refine Lex.step_call fa3 rfl (Lex.want_some rfl fa1 rfl (b' := true) rfl rfl) (fun K hK => ?_)
        go_simp
        refine (HP.out.1 _ (HT.out.below hB)).mono ?_
        rintro e y2 ⟨rfl, hv⟩
        have f0 := cell_belowF hv f0
        have f1 := cell_belowF hv f1
        have f2 := cell_belowF hv f2
        have f3 := cell_belowF hv f3
        have f4 := cell_belowF hv f4
        have g0 := cell_belowF hv g0
        have g1 := cell_belowF hv g1
        have g2 := cell_belowF hv g2
        have g3 := cell_belowF hv g3
        have g4 := cell_belowF hv g4
        have hB := hB.trans (hv.mono hB.size)
        clear hv
        refine hK.out _ _ _ (fun _ h => h) ⟨f0, f1, f2, f3, f4, g0, g1, g2, g3, g4⟩ ?_
        clear hK K
        try simp only [Act.put, List.setIfInBounds_toArray, List.set_cons_zero, List.set_cons_succ]
        refine Lex.step_call fa5 rfl (Lex.want_some rfl fa1 rfl (b' := true) rfl rfl) (fun K hK => ?_)
        go_simp
        refine (HP.out.2 _ (HT.out.below hB)).mono ?_
        rintro e y3 ⟨rfl, hv⟩
        have f0 := cell_belowF hv f0
        have f1 := cell_belowF hv f1
        have f2 := cell_belowF hv f2
        have f3 := cell_belowF hv f3
        have f4 := cell_belowF hv f4
        have g0 := cell_belowF hv g0
        have g1 := cell_belowF hv g1
        have g2 := cell_belowF hv g2
        have g3 := cell_belowF hv g3
        have g4 := cell_belowF hv g4
        have hB := hB.trans (hv.mono hB.size)
        clear hv
        refine hK.out _ _ _ (fun _ h => h) ⟨f0, f1, f2, f3, f4, g0, g1, g2, g3, g4⟩ ?_
        clear hK K
        try simp only [Act.put, List.setIfInBounds_toArray, List.set_cons_zero, List.set_cons_succ]
        refine Lex.step_take (.bool false) fa6 rfl (Lex.want_some rfl fa1 rfl (b' := true) rfl rfl) (by intro Wx hSw; (try dsimp only at hSw); go_simp; (try (first | (with_reducible rfl) | assumption | rfl))) ?_
        simp only [Act.put, List.setIfInBounds_toArray, List.set_cons_zero, List.set_cons_succ]
        refine Lex.step_take (.bool true) fa10 rfl (Lex.want_some rfl fa1 rfl (b' := true) rfl rfl) (by intro Wx hSw; (try dsimp only at hSw); go_simp; (try (first | (with_reducible rfl) | assumption | rfl))) ?_
        simp only [Act.put, List.setIfInBounds_toArray, List.set_cons_zero, List.set_cons_succ]
        refine Lex.step_take (.bool true) fa11 rfl (Lex.want_none rfl) (by intro Wx hSw; (try dsimp only at hSw); go_simp; (try (first | (with_reducible rfl) | assumption | rfl))) ?_
        simp only [Act.put, List.setIfInBounds_toArray, List.set_cons_zero, List.set_cons_succ]
        refine Lex.step_take (.bool true) fa12 rfl (Lex.want_none rfl) (by intro Wx hSw; (try dsimp only at hSw); go_simp; (try (first | (with_reducible rfl) | assumption | rfl))) ?_
        simp only [Act.put, List.setIfInBounds_toArray, List.set_cons_zero, List.set_cons_succ]
        refine NoPanic.normal ?_
        have HB := Lib.hid hB
        clear hB f0 f1 f2 f3 f4 g0 g1 g2 g3 g4
        go_wp2
        go_ret
        exact ⟨rfl, HB.out⟩
      case pos =>
        subst hk
        by_cases hk : fp = gp
        case neg =>
          have hsn := str_ne (hij (fun e => hk (congrArg F.p e)))
          have HP := Lib.hid (And.intro hpf hpg)
          have HK := Lib.hid hij
          clear hpf hpg hij hx hy
          have hdr := (Below.refl w2.heap.size w2).drew
          refine Lex.region_lex (ops := faops) (calls := facalls) faord (fun W => W.cell? ⟨gf, 0, none⟩ = some (.int .i64 fe) ∧ W.cell? ⟨gf, 1, none⟩ = some (.int .i64 fi) ∧ W.cell? ⟨gf, 2, none⟩ = some (.bool fc) ∧ W.cell? ⟨gf, 3, none⟩ = some (.int .i64 fp) ∧ W.cell? ⟨gf, 4, none⟩ = some (.string fd) ∧ W.cell? ⟨gg, 0, none⟩ = some (.int .i64 fe) ∧ W.cell? ⟨gg, 1, none⟩ = some (.int .i64 fi) ∧ W.cell? ⟨gg, 2, none⟩ = some (.bool fc) ∧ W.cell? ⟨gg, 3, none⟩ = some (.int .i64 gp) ∧ W.cell? ⟨gg, 4, none⟩ = some (.string gd)) (by kernel_rfl) (by kernel_rfl) fasel (by kernel_rfl) (by kernel_rfl) falex (⟨cell_belowF hdr f0, cell_belowF hdr f1, cell_belowF hdr f2, cell_belowF hdr f3, cell_belowF hdr f4, cell_belowF hdr g0, cell_belowF hdr g1, cell_belowF hdr g2, cell_belowF hdr g3, cell_belowF hdr g4⟩) ?_
          unfold faord
          have f0 := cell_belowF hdr f0
          have f1 := cell_belowF hdr f1
          have f2 := cell_belowF hdr f2
          have f3 := cell_belowF hdr f3
          have f4 := cell_belowF hdr f4
          have g0 := cell_belowF hdr g0
          have g1 := cell_belowF hdr g1
          have g2 := cell_belowF hdr g2
          have g3 := cell_belowF hdr g3
          have g4 := cell_belowF hdr g4
          have hB := hB.trans (hdr.mono hB.size)
          clear hdr
          refine Lex.step_call fa0 rfl (Lex.want_none rfl) (fun K hK => ?_)
          go_simp
          refine (awake_any _ (HT.out.below hB)).mono ?_
          rintro e y1 ⟨rfl, hv⟩
          have f0 := cell_belowF hv f0
          have f1 := cell_belowF hv f1
          have f2 := cell_belowF hv f2
          have f3 := cell_belowF hv f3
          have f4 := cell_belowF hv f4
          have g0 := cell_belowF hv g0
          have g1 := cell_belowF hv g1
          have g2 := cell_belowF hv g2
          have g3 := cell_belowF hv g3
          have g4 := cell_belowF hv g4
          have hB := hB.trans (hv.mono hB.size)
          clear hv
          refine hK.out _ _ _ (fun _ h => h) ⟨f0, f1, f2, f3, f4, g0, g1, g2, g3, g4⟩ ?_
          clear hK K
          try simp only [Act.put, List.setIfInBounds_toArray, List.set_cons_zero, List.set_cons_succ]
          refine Lex.step_take (.bool true) fa1 rfl (Lex.want_none rfl) (by intro Wx hSw; (try dsimp only at hSw); go_simp; (try (first | (with_reducible rfl) | assumption | rfl))) ?_
          simp only [Act.put, List.setIfInBounds_toArray, List.set_cons_zero, List.set_cons_succ]
          refine Lex.step_take (.agg #[.int .i64 fe, .int .i64 fi, .bool fc, .int .i64 fp, .string fd]) fa2 rfl (Lex.want_some rfl fa1 rfl (b' := true) rfl rfl) (by intro Wx hSw; (try dsimp only at hSw); go_simp; (try (first | (with_reducible rfl) | assumption | rfl))) ?_
          simp only [Act.put, List.setIfInBounds_toArray, List.set_cons_zero, List.set_cons_succ]
          refine Lex.step_take (.agg #[.int .i64 fe, .int .i64 fi, .bool fc, .int .i64 gp, .string gd]) fa4 rfl (Lex.want_some rfl fa1 rfl (b' := true) rfl rfl) (by intro Wx hSw; (try dsimp only at hSw); go_simp; (try (first | (with_reducible rfl) | assumption | rfl))) ?_
          simp only [Act.put, List.setIfInBounds_toArray, List.set_cons_zero, List.set_cons_succ]
          refine Lex.step_take (.agg #[.int .i64 fe, .int .i64 fi, .bool fc, .int .i64 fp, .string fd]) fa7 rfl (Lex.want_some rfl fa1 rfl (b' := true) rfl rfl) (by intro Wx hSw; (try dsimp only at hSw); go_simp; (try (first | (with_reducible rfl) | assumption | rfl))) ?_
          simp only [Act.put, List.setIfInBounds_toArray, List.set_cons_zero, List.set_cons_succ]
          refine Lex.step_take (.agg #[.int .i64 fe, .int .i64 fi, .bool fc, .int .i64 gp, .string gd]) fa8 rfl (Lex.want_some rfl fa1 rfl (b' := true) rfl rfl) (by intro Wx hSw; (try dsimp only at hSw); go_simp; (try (first | (with_reducible rfl) | assumption | rfl))) ?_
          simp only [Act.put, List.setIfInBounds_toArray, List.set_cons_zero, List.set_cons_succ]
          refine Lex.step_take (.bool false) fa9 rfl (Lex.want_some rfl fa1 rfl (b' := true) rfl rfl) (by intro Wx hSw; (try dsimp only at hSw); go_simp; (try (first | (with_reducible rfl) | assumption | rfl))) ?_
          simp only [Act.put, List.setIfInBounds_toArray, List.set_cons_zero, List.set_cons_succ]
          refine Lex.step_call fa3 rfl (Lex.want_some rfl fa1 rfl (b' := true) rfl rfl) (fun K hK => ?_)
          go_simp
          refine (HP.out.1 _ (HT.out.below hB)).mono ?_
          rintro e y2 ⟨rfl, hv⟩
          have f0 := cell_belowF hv f0
          have f1 := cell_belowF hv f1
          have f2 := cell_belowF hv f2
          have f3 := cell_belowF hv f3
          have f4 := cell_belowF hv f4
          have g0 := cell_belowF hv g0
          have g1 := cell_belowF hv g1
          have g2 := cell_belowF hv g2
          have g3 := cell_belowF hv g3
          have g4 := cell_belowF hv g4
          have hB := hB.trans (hv.mono hB.size)
          clear hv
          refine hK.out _ _ _ (fun _ h => h) ⟨f0, f1, f2, f3, f4, g0, g1, g2, g3, g4⟩ ?_
          clear hK K
          try simp only [Act.put, List.setIfInBounds_toArray, List.set_cons_zero, List.set_cons_succ]
          refine Lex.step_call fa5 rfl (Lex.want_some rfl fa1 rfl (b' := true) rfl rfl) (fun K hK => ?_)
          go_simp
          refine (HP.out.2 _ (HT.out.below hB)).mono ?_
          rintro e y3 ⟨rfl, hv⟩
          have f0 := cell_belowF hv f0
          have f1 := cell_belowF hv f1
          have f2 := cell_belowF hv f2
          have f3 := cell_belowF hv f3
          have f4 := cell_belowF hv f4
          have g0 := cell_belowF hv g0
          have g1 := cell_belowF hv g1
          have g2 := cell_belowF hv g2
          have g3 := cell_belowF hv g3
          have g4 := cell_belowF hv g4
          have hB := hB.trans (hv.mono hB.size)
          clear hv
          refine hK.out _ _ _ (fun _ h => h) ⟨f0, f1, f2, f3, f4, g0, g1, g2, g3, g4⟩ ?_
          clear hK K
          try simp only [Act.put, List.setIfInBounds_toArray, List.set_cons_zero, List.set_cons_succ]
          refine Lex.step_take (.bool false) fa6 rfl (Lex.want_some rfl fa1 rfl (b' := true) rfl rfl) (by intro Wx hSw; (try dsimp only at hSw); go_simp; (try (first | (with_reducible rfl) | assumption | rfl))) ?_
          simp only [Act.put, List.setIfInBounds_toArray, List.set_cons_zero, List.set_cons_succ]
          refine Lex.step_take (.bool true) fa10 rfl (Lex.want_some rfl fa1 rfl (b' := true) rfl rfl) (by intro Wx hSw; (try dsimp only at hSw); go_simp; (try (first | (with_reducible rfl) | assumption | rfl))) ?_
          simp only [Act.put, List.setIfInBounds_toArray, List.set_cons_zero, List.set_cons_succ]
          refine Lex.step_take (.bool true) fa11 rfl (Lex.want_none rfl) (by intro Wx hSw; (try dsimp only at hSw); go_simp; (try (first | (with_reducible rfl) | assumption | rfl))) ?_
          simp only [Act.put, List.setIfInBounds_toArray, List.set_cons_zero, List.set_cons_succ]
          refine Lex.step_take (.bool true) fa12 rfl (Lex.want_none rfl) (by intro Wx hSw; (try dsimp only at hSw); go_simp; (try (first | (with_reducible rfl) | assumption | rfl))) ?_
          simp only [Act.put, List.setIfInBounds_toArray, List.set_cons_zero, List.set_cons_succ]
          refine NoPanic.normal ?_
          have HB := Lib.hid hB
          clear hB f0 f1 f2 f3 f4 g0 g1 g2 g3 g4
          go_wp2
          go_ret
          exact ⟨rfl, HB.out⟩
        case pos =>
          subst hk
          by_cases hk : fd = gd
          case neg =>
            have hsn := str_ne (hij (fun e => hk (congrArg F.d e)))
            have HP := Lib.hid (And.intro hpf hpg)
            have HK := Lib.hid hij
            clear hpf hpg hij hx hy
            have hkd := str_ne hk
            have hdr := (Below.refl w2.heap.size w2).drew
            refine Lex.region_lex (ops := faops) (calls := facalls) faord (fun W => W.cell? ⟨gf, 0, none⟩ = some (.int .i64 fe) ∧ W.cell? ⟨gf, 1, none⟩ = some (.int .i64 fi) ∧ W.cell? ⟨gf, 2, none⟩ = some (.bool fc) ∧ W.cell? ⟨gf, 3, none⟩ = some (.int .i64 fp) ∧ W.cell? ⟨gf, 4, none⟩ = some (.string fd) ∧ W.cell? ⟨gg, 0, none⟩ = some (.int .i64 fe) ∧ W.cell? ⟨gg, 1, none⟩ = some (.int .i64 fi) ∧ W.cell? ⟨gg, 2, none⟩ = some (.bool fc) ∧ W.cell? ⟨gg, 3, none⟩ = some (.int .i64 fp) ∧ W.cell? ⟨gg, 4, none⟩ = some (.string gd)) (by kernel_rfl) (by kernel_rfl) fasel (by kernel_rfl) (by kernel_rfl) falex (⟨cell_belowF hdr f0, cell_belowF hdr f1, cell_belowF hdr f2, cell_belowF hdr f3, cell_belowF hdr f4, cell_belowF hdr g0, cell_belowF hdr g1, cell_belowF hdr g2, cell_belowF hdr g3, cell_belowF hdr g4⟩) ?_
            unfold faord
            have f0 := cell_belowF hdr f0
            have f1 := cell_belowF hdr f1
            have f2 := cell_belowF hdr f2
            have f3 := cell_belowF hdr f3
            have f4 := cell_belowF hdr f4
            have g0 := cell_belowF hdr g0
            have g1 := cell_belowF hdr g1
            have g2 := cell_belowF hdr g2
            have g3 := cell_belowF hdr g3
            have g4 := cell_belowF hdr g4
            have hB := hB.trans (hdr.mono hB.size)
            clear hdr
            refine Lex.step_call fa0 rfl (Lex.want_none rfl) (fun K hK => ?_)
            go_simp
            refine (awake_any _ (HT.out.below hB)).mono ?_
            rintro e y1 ⟨rfl, hv⟩
            have f0 := cell_belowF hv f0
            have f1 := cell_belowF hv f1
            have f2 := cell_belowF hv f2
            have f3 := cell_belowF hv f3
            have f4 := cell_belowF hv f4
            have g0 := cell_belowF hv g0
            have g1 := cell_belowF hv g1
            have g2 := cell_belowF hv g2
            have g3 := cell_belowF hv g3
            have g4 := cell_belowF hv g4
            have hB := hB.trans (hv.mono hB.size)
            clear hv
            refine hK.out _ _ _ (fun _ h => h) ⟨f0, f1, f2, f3, f4, g0, g1, g2, g3, g4⟩ ?_
            clear hK K
            try simp only [Act.put, List.setIfInBounds_toArray, List.set_cons_zero, List.set_cons_succ]
            refine Lex.step_take (.bool true) fa1 rfl (Lex.want_none rfl) (by intro Wx hSw; (try dsimp only at hSw); go_simp; (try (first | (with_reducible rfl) | assumption | rfl))) ?_
            simp only [Act.put, List.setIfInBounds_toArray, List.set_cons_zero, List.set_cons_succ]
            refine Lex.step_take (.agg #[.int .i64 fe, .int .i64 fi, .bool fc, .int .i64 fp, .string fd]) fa2 rfl (Lex.want_some rfl fa1 rfl (b' := true) rfl rfl) (by intro Wx hSw; (try dsimp only at hSw); go_simp; (try (first | (with_reducible rfl) | assumption | rfl))) ?_
            simp only [Act.put, List.setIfInBounds_toArray, List.set_cons_zero, List.set_cons_succ]
            refine Lex.step_take (.agg #[.int .i64 fe, .int .i64 fi, .bool fc, .int .i64 fp, .string gd]) fa4 rfl (Lex.want_some rfl fa1 rfl (b' := true) rfl rfl) (by intro Wx hSw; (try dsimp only at hSw); go_simp; (try (first | (with_reducible rfl) | assumption | rfl))) ?_
            simp only [Act.put, List.setIfInBounds_toArray, List.set_cons_zero, List.set_cons_succ]
            refine Lex.step_take (.agg #[.int .i64 fe, .int .i64 fi, .bool fc, .int .i64 fp, .string fd]) fa7 rfl (Lex.want_some rfl fa1 rfl (b' := true) rfl rfl) (by intro Wx hSw; (try dsimp only at hSw); go_simp; (try (first | (with_reducible rfl) | assumption | rfl))) ?_
            simp only [Act.put, List.setIfInBounds_toArray, List.set_cons_zero, List.set_cons_succ]
            refine Lex.step_take (.agg #[.int .i64 fe, .int .i64 fi, .bool fc, .int .i64 fp, .string gd]) fa8 rfl (Lex.want_some rfl fa1 rfl (b' := true) rfl rfl) (by intro Wx hSw; (try dsimp only at hSw); go_simp; (try (first | (with_reducible rfl) | assumption | rfl))) ?_
            simp only [Act.put, List.setIfInBounds_toArray, List.set_cons_zero, List.set_cons_succ]
            refine Lex.step_take (.bool false) fa9 rfl (Lex.want_some rfl fa1 rfl (b' := true) rfl rfl) (by intro Wx hSw; (try dsimp only at hSw); go_simp; (try (first | (with_reducible rfl) | assumption | rfl))) ?_
            simp only [Act.put, List.setIfInBounds_toArray, List.set_cons_zero, List.set_cons_succ]
            refine Lex.step_call fa3 rfl (Lex.want_some rfl fa1 rfl (b' := true) rfl rfl) (fun K hK => ?_)
            go_simp
            refine (HP.out.1 _ (HT.out.below hB)).mono ?_
            rintro e y2 ⟨rfl, hv⟩
            have f0 := cell_belowF hv f0
            have f1 := cell_belowF hv f1
            have f2 := cell_belowF hv f2
            have f3 := cell_belowF hv f3
            have f4 := cell_belowF hv f4
            have g0 := cell_belowF hv g0
            have g1 := cell_belowF hv g1
            have g2 := cell_belowF hv g2
            have g3 := cell_belowF hv g3
            have g4 := cell_belowF hv g4
            have hB := hB.trans (hv.mono hB.size)
            clear hv
            refine hK.out _ _ _ (fun _ h => h) ⟨f0, f1, f2, f3, f4, g0, g1, g2, g3, g4⟩ ?_
            clear hK K
            try simp only [Act.put, List.setIfInBounds_toArray, List.set_cons_zero, List.set_cons_succ]
            refine Lex.step_call fa5 rfl (Lex.want_some rfl fa1 rfl (b' := true) rfl rfl) (fun K hK => ?_)
            go_simp
            refine (HP.out.2 _ (HT.out.below hB)).mono ?_
            rintro e y3 ⟨rfl, hv⟩
            have f0 := cell_belowF hv f0
            have f1 := cell_belowF hv f1
            have f2 := cell_belowF hv f2
            have f3 := cell_belowF hv f3
            have f4 := cell_belowF hv f4
            have g0 := cell_belowF hv g0
            have g1 := cell_belowF hv g1
            have g2 := cell_belowF hv g2
            have g3 := cell_belowF hv g3
            have g4 := cell_belowF hv g4
            have hB := hB.trans (hv.mono hB.size)
            clear hv
            refine hK.out _ _ _ (fun _ h => h) ⟨f0, f1, f2, f3, f4, g0, g1, g2, g3, g4⟩ ?_
            clear hK K
            try simp only [Act.put, List.setIfInBounds_toArray, List.set_cons_zero, List.set_cons_succ]
            refine Lex.step_take (.bool false) fa6 rfl (Lex.want_some rfl fa1 rfl (b' := true) rfl rfl) (by intro Wx hSw; (try dsimp only at hSw); go_simp; (try (first | (with_reducible rfl) | assumption | rfl))) ?_
            simp only [Act.put, List.setIfInBounds_toArray, List.set_cons_zero, List.set_cons_succ]
            refine Lex.step_take (.bool true) fa10 rfl (Lex.want_some rfl fa1 rfl (b' := true) rfl rfl) (by intro Wx hSw; (try dsimp only at hSw); go_simp; (try (first | (with_reducible rfl) | assumption | rfl))) ?_
            simp only [Act.put, List.setIfInBounds_toArray, List.set_cons_zero, List.set_cons_succ]
            refine Lex.step_take (.bool true) fa11 rfl (Lex.want_none rfl) (by intro Wx hSw; (try dsimp only at hSw); go_simp; (try (first | (with_reducible rfl) | assumption | rfl))) ?_
            simp only [Act.put, List.setIfInBounds_toArray, List.set_cons_zero, List.set_cons_succ]
            refine Lex.step_take (.bool true) fa12 rfl (Lex.want_none rfl) (by intro Wx hSw; (try dsimp only at hSw); go_simp; (try (first | (with_reducible rfl) | assumption | rfl))) ?_
            simp only [Act.put, List.setIfInBounds_toArray, List.set_cons_zero, List.set_cons_succ]
            refine NoPanic.normal ?_
            have HB := Lib.hid hB
            clear hB f0 f1 f2 f3 f4 g0 g1 g2 g3 g4
            go_wp2
            go_ret
            exact ⟨rfl, HB.out⟩
          case pos =>
            subst hk
            obtain rfl : x = y := hx.symm.trans hy
            have hsn : (x.toList == x.toList) = true := beq_self_eq_true _
            have hkd : (fd.toList == fd.toList) = true := beq_self_eq_true _
            have HP := Lib.hid (And.intro hpf hpg)
            clear hpf hpg hij hx hy
            have hdr := (Below.refl w2.heap.size w2).drew
            refine Lex.region_lex (ops := faops) (calls := facalls) faord (fun W => W.cell? ⟨gf, 0, none⟩ = some (.int .i64 fe) ∧ W.cell? ⟨gf, 1, none⟩ = some (.int .i64 fi) ∧ W.cell? ⟨gf, 2, none⟩ = some (.bool fc) ∧ W.cell? ⟨gf, 3, none⟩ = some (.int .i64 fp) ∧ W.cell? ⟨gf, 4, none⟩ = some (.string fd) ∧ W.cell? ⟨gg, 0, none⟩ = some (.int .i64 fe) ∧ W.cell? ⟨gg, 1, none⟩ = some (.int .i64 fi) ∧ W.cell? ⟨gg, 2, none⟩ = some (.bool fc) ∧ W.cell? ⟨gg, 3, none⟩ = some (.int .i64 fp) ∧ W.cell? ⟨gg, 4, none⟩ = some (.string fd)) (by kernel_rfl) (by kernel_rfl) fasel (by kernel_rfl) (by kernel_rfl) falex (⟨cell_belowF hdr f0, cell_belowF hdr f1, cell_belowF hdr f2, cell_belowF hdr f3, cell_belowF hdr f4, cell_belowF hdr g0, cell_belowF hdr g1, cell_belowF hdr g2, cell_belowF hdr g3, cell_belowF hdr g4⟩) ?_
            unfold faord
            have f0 := cell_belowF hdr f0
            have f1 := cell_belowF hdr f1
            have f2 := cell_belowF hdr f2
            have f3 := cell_belowF hdr f3
            have f4 := cell_belowF hdr f4
            have g0 := cell_belowF hdr g0
            have g1 := cell_belowF hdr g1
            have g2 := cell_belowF hdr g2
            have g3 := cell_belowF hdr g3
            have g4 := cell_belowF hdr g4
            have hB := hB.trans (hdr.mono hB.size)
            clear hdr
            refine Lex.step_call fa0 rfl (Lex.want_none rfl) (fun K hK => ?_)
            go_simp
            refine (awake_any _ (HT.out.below hB)).mono ?_
            rintro e y1 ⟨rfl, hv⟩
            have f0 := cell_belowF hv f0
            have f1 := cell_belowF hv f1
            have f2 := cell_belowF hv f2
            have f3 := cell_belowF hv f3
            have f4 := cell_belowF hv f4
            have g0 := cell_belowF hv g0
            have g1 := cell_belowF hv g1
            have g2 := cell_belowF hv g2
            have g3 := cell_belowF hv g3
            have g4 := cell_belowF hv g4
            have hB := hB.trans (hv.mono hB.size)
            clear hv
            refine hK.out _ _ _ (fun _ h => h) ⟨f0, f1, f2, f3, f4, g0, g1, g2, g3, g4⟩ ?_
            clear hK K
            try simp only [Act.put, List.setIfInBounds_toArray, List.set_cons_zero, List.set_cons_succ]
            refine Lex.step_take (.bool true) fa1 rfl (Lex.want_none rfl) (by intro Wx hSw; (try dsimp only at hSw); go_simp; (try (first | (with_reducible rfl) | assumption | rfl))) ?_
            simp only [Act.put, List.setIfInBounds_toArray, List.set_cons_zero, List.set_cons_succ]
            refine Lex.step_take (.agg #[.int .i64 fe, .int .i64 fi, .bool fc, .int .i64 fp, .string fd]) fa2 rfl (Lex.want_some rfl fa1 rfl (b' := true) rfl rfl) (by intro Wx hSw; (try dsimp only at hSw); go_simp; (try (first | (with_reducible rfl) | assumption | rfl))) ?_
            simp only [Act.put, List.setIfInBounds_toArray, List.set_cons_zero, List.set_cons_succ]
            refine Lex.step_take (.agg #[.int .i64 fe, .int .i64 fi, .bool fc, .int .i64 fp, .string fd]) fa4 rfl (Lex.want_some rfl fa1 rfl (b' := true) rfl rfl) (by intro Wx hSw; (try dsimp only at hSw); go_simp; (try (first | (with_reducible rfl) | assumption | rfl))) ?_
            simp only [Act.put, List.setIfInBounds_toArray, List.set_cons_zero, List.set_cons_succ]
            refine Lex.step_take (.agg #[.int .i64 fe, .int .i64 fi, .bool fc, .int .i64 fp, .string fd]) fa7 rfl (Lex.want_some rfl fa1 rfl (b' := true) rfl rfl) (by intro Wx hSw; (try dsimp only at hSw); go_simp; (try (first | (with_reducible rfl) | assumption | rfl))) ?_
            simp only [Act.put, List.setIfInBounds_toArray, List.set_cons_zero, List.set_cons_succ]
            refine Lex.step_take (.agg #[.int .i64 fe, .int .i64 fi, .bool fc, .int .i64 fp, .string fd]) fa8 rfl (Lex.want_some rfl fa1 rfl (b' := true) rfl rfl) (by intro Wx hSw; (try dsimp only at hSw); go_simp; (try (first | (with_reducible rfl) | assumption | rfl))) ?_
            simp only [Act.put, List.setIfInBounds_toArray, List.set_cons_zero, List.set_cons_succ]
            refine Lex.step_take (.bool true) fa9 rfl (Lex.want_some rfl fa1 rfl (b' := true) rfl rfl) (by intro Wx hSw; (try dsimp only at hSw); go_simp; (try (first | (with_reducible rfl) | assumption | rfl))) ?_
            simp only [Act.put, List.setIfInBounds_toArray, List.set_cons_zero, List.set_cons_succ]
            refine Lex.step_call fa3 rfl (Lex.want_some rfl fa1 rfl (b' := true) rfl rfl) (fun K hK => ?_)
            go_simp
            refine (HP.out.1 _ (HT.out.below hB)).mono ?_
            rintro e y2 ⟨rfl, hv⟩
            have f0 := cell_belowF hv f0
            have f1 := cell_belowF hv f1
            have f2 := cell_belowF hv f2
            have f3 := cell_belowF hv f3
            have f4 := cell_belowF hv f4
            have g0 := cell_belowF hv g0
            have g1 := cell_belowF hv g1
            have g2 := cell_belowF hv g2
            have g3 := cell_belowF hv g3
            have g4 := cell_belowF hv g4
            have hB := hB.trans (hv.mono hB.size)
            clear hv
            refine hK.out _ _ _ (fun _ h => h) ⟨f0, f1, f2, f3, f4, g0, g1, g2, g3, g4⟩ ?_
            clear hK K
            try simp only [Act.put, List.setIfInBounds_toArray, List.set_cons_zero, List.set_cons_succ]
            refine Lex.step_call fa5 rfl (Lex.want_some rfl fa1 rfl (b' := true) rfl rfl) (fun K hK => ?_)
            go_simp
            refine (HP.out.2 _ (HT.out.below hB)).mono ?_
            rintro e y3 ⟨rfl, hv⟩
            have f0 := cell_belowF hv f0
            have f1 := cell_belowF hv f1
            have f2 := cell_belowF hv f2
            have f3 := cell_belowF hv f3
            have f4 := cell_belowF hv f4
            have g0 := cell_belowF hv g0
            have g1 := cell_belowF hv g1
            have g2 := cell_belowF hv g2
            have g3 := cell_belowF hv g3
            have g4 := cell_belowF hv g4
            have hB := hB.trans (hv.mono hB.size)
            clear hv
            refine hK.out _ _ _ (fun _ h => h) ⟨f0, f1, f2, f3, f4, g0, g1, g2, g3, g4⟩ ?_
            clear hK K
            try simp only [Act.put, List.setIfInBounds_toArray, List.set_cons_zero, List.set_cons_succ]
            refine Lex.step_take (.bool true) fa6 rfl (Lex.want_some rfl fa1 rfl (b' := true) rfl rfl) (by intro Wx hSw; (try dsimp only at hSw); go_simp; (try (first | (with_reducible rfl) | assumption | rfl))) ?_
            simp only [Act.put, List.setIfInBounds_toArray, List.set_cons_zero, List.set_cons_succ]
            refine Lex.step_take (.bool true) fa10 rfl (Lex.want_some rfl fa1 rfl (b' := true) rfl rfl) (by intro Wx hSw; (try dsimp only at hSw); go_simp; (try (first | (with_reducible rfl) | assumption | rfl))) ?_
            simp only [Act.put, List.setIfInBounds_toArray, List.set_cons_zero, List.set_cons_succ]
            refine Lex.step_take (.bool true) fa11 rfl (Lex.want_none rfl) (by intro Wx hSw; (try dsimp only at hSw); go_simp; (try (first | (with_reducible rfl) | assumption | rfl))) ?_
            simp only [Act.put, List.setIfInBounds_toArray, List.set_cons_zero, List.set_cons_succ]
            refine Lex.step_take (.bool true) fa12 rfl (Lex.want_none rfl) (by intro Wx hSw; (try dsimp only at hSw); go_simp; (try (first | (with_reducible rfl) | assumption | rfl))) ?_
            simp only [Act.put, List.setIfInBounds_toArray, List.set_cons_zero, List.set_cons_succ]
            refine NoPanic.normal ?_
            have HB := Lib.hid hB
            clear hB f0 f1 f2 f3 f4 g0 g1 g2 g3 g4
            go_wp2
            go_ret
            exact ⟨rfl, HB.out⟩
end Go.Proofs.YtiacdpfodhggmaaDoor.Fr
