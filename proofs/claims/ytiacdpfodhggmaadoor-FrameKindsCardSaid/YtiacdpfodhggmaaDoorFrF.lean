/- A commit's frame is no page's: the law, walked. -/
import Derived.Test.YtiacdpfodhggmaaDoorFrE
import Derived.Test.YtiacdpfodhggmaaDoorXfc
import Derived.Test.YtiacdpfodhggmaaDoorLeB
namespace Go.Proofs.YtiacdpfodhggmaaDoor.Fr
open Go.RowKit Tal Lf Lex
section
variable {w : World} {g : Nat} {f : F}
theorem BoxF.other (h : BoxF w g f) {b i : Nat} (v : Value) (hne : b ≠ g) : BoxF (w.setCell ⟨b, i, none⟩ v) g f :=
  have hc : ∀ j, (w.setCell ⟨b, i, none⟩ v).cell? ⟨g, j, none⟩ = w.cell? ⟨g, j, none⟩ := fun j => World.cell?_setCell_other w _ _ _ (fun e => hne (by injection e))
  ⟨(hc 0).trans h.c0, (hc 1).trans h.c1, (hc 2).trans h.c2, (hc 3).trans h.c3, (hc 4).trans h.c4, fun j => by rw [World.frozen?_setCell]; exact h.f j⟩
theorem BoxF.setC (h : BoxF w g f) (b : Bool) : BoxF (w.setCell ⟨g, 2, none⟩ (.bool b)) g ⟨f.e, f.i, b, f.p, f.d⟩ :=
  have hc : ∀ j, j ≠ 2 → (w.setCell ⟨g, 2, none⟩ (.bool b)).cell? ⟨g, j, none⟩ = w.cell? ⟨g, j, none⟩ := fun j hj => World.cell?_setCell_other w _ _ _ (fun e => hj (by injection e with _ e2; exact e2.symm))
  ⟨(hc 0 (by decide)).trans h.c0, (hc 1 (by decide)).trans h.c1, World.cell?_setCell_same w _ _ h.c2, (hc 3 (by decide)).trans h.c3, (hc 4 (by decide)).trans h.c4, fun j => by rw [World.frozen?_setCell]; exact h.f j⟩
theorem BoxF.setD (h : BoxF w g f) (d : ByteArray) : BoxF (w.setCell ⟨g, 4, none⟩ (.string d)) g ⟨f.e, f.i, f.c, f.p, d⟩ :=
  have hc : ∀ j, j ≠ 4 → (w.setCell ⟨g, 4, none⟩ (.string d)).cell? ⟨g, j, none⟩ = w.cell? ⟨g, j, none⟩ := fun j hj => World.cell?_setCell_other w _ _ _ (fun e => hj (by injection e with _ e2; exact e2.symm))
  ⟨(hc 0 (by decide)).trans h.c0, (hc 1 (by decide)).trans h.c1, (hc 2 (by decide)).trans h.c2, (hc 3 (by decide)).trans h.c3, World.cell?_setCell_same w _ _ h.c4, fun j => by rw [World.frozen?_setCell]; exact h.f j⟩
end
set_option maxRecDepth 20000 in
set_option maxHeartbeats 6400000 in
theorem kinds_any (f : F) (s : ByteArray) (w : World) (ht : Tab w) : Calls Tryd.prog 8 #[.agg (cellsF f), .string s] w fun e w' => e = .returned (.bool true) ∧ Below w.heap.size w w' := by
  obtain ⟨i0, hi, hz0, hz1, hz2⟩ := info_partsF infoU8F
  have HT := Lib.hid ht
  clear ht
  have hB := (Below.refl w.heap.size w).alloc (Nat.le_refl _) (.cells (cellsF f) 36)
  have hf := BoxF.new w f 36
  obtain ⟨gf, hgf⟩ : ∃ g, w.heap.size = g := ⟨_, rfl⟩
  rw [hgf] at hf
  generalize hwa : w.alloc (.cells (cellsF f) 36) = wa at hB hf
  have hrf := fun W => right_any f W
  have hpf := fun (h : RightF f) W (ht : Tab W) => print_any f W ht h
  obtain ⟨fe, fi, fc, fp, fd⟩ := f
  unfold cellsF at hwa hrf hpf ⊢
  simp only at hwa hrf hpf ⊢
  have f0 := hf.c0
  have f1 := hf.c1
  have f2 := hf.c2
  have f3 := hf.c3
  have f4 := hf.c4
  simp only at f0 f1 f2 f3 f4
  go_enter Tryd.func8, Tryd.ntmps8
  go_wp2_with fail
  clear hwa f0 f1 f2 f3 f4
  refine (hrf _).mono ?_
  rintro e w1 ⟨is, rfl, hb, hv⟩
  have hf := hf.below hv hf.lt
  have hB := hB.trans (hv.mono hB.size)
  have hgfw : w.heap.size ≤ gf := Nat.le_of_eq hgf
  clear hv hrf hgf
  cases is
  · go_wp2_with fail
    refine (awake_any _ (HT.out.below hB)).mono ?_
    rintro e w2 ⟨rfl, hv⟩
    have HB := Lib.hid (hB.trans (hv.mono hB.size))
    clear hv hB hf
    go_wp2
    go_ret
    exact ⟨rfl, HB.out⟩
  have hr := hb.1 rfl
  clear hb
  by_cases hs : 300 < s.size
  · have i2 : (300 : Int) < (s.size : Int) := by omega
    go_wp2_with fail
    refine (awake_any _ (HT.out.below hB)).mono ?_
    rintro e w2 ⟨rfl, hv⟩
    have HB := Lib.hid (hB.trans (hv.mono hB.size))
    clear hv hB hf
    go_wp2
    go_ret
    exact ⟨rfl, HB.out⟩
  have i2 : ¬ (300 : Int) < (s.size : Int) := by omega
  have hqs := fun W (ht : Tab W) => parse_any s W ht (by omega)
  have hpf := hpf hr
  have f0 := hf.c0
  have f1 := hf.c1
  have f2 := hf.c2
  have f3 := hf.c3
  have f4 := hf.c4
  simp only at f0 f1 f2 f3 f4
  go_upto_region 4 with fail
  clear f0 f1 f2 f3 f4
  have hn : Below w1.heap.size w1 (w1.alloc (.cells #[.int .i64 fe, .int .i64 fi, .bool fc, .int .i64 fp, .string fd] 36)) := (Below.refl w1.heap.size w1).alloc (Nat.le_refl _) _
  have hg : BoxF (w1.alloc (.cells #[.int .i64 fe, .int .i64 fi, .bool fc, .int .i64 fp, .string fd] 36)) w1.heap.size ⟨fe, fi, fc, fp, fd⟩ := BoxF.new w1 ⟨fe, fi, fc, fp, fd⟩ 36
  have hgl := hf.lt
  have hwg := hB.size
  have hf := hf.below hn hf.lt
  have hB := hB.trans (hn.mono hB.size)
  clear hn
  generalize w1.alloc (.cells #[.int .i64 fe, .int .i64 fi, .bool fc, .int .i64 fp, .string fd] 36) = w3 at hf hg hB ⊢
  generalize w1.heap.size = gg at hg hgl hwg ⊢
  have f2 := hf.c2
  have g2 := hg.c2
  have g4 := hg.c4
  have k2 := hg.f 2
  have k4 := hg.f 4
  simp only at f2 g2 g4
  cases fc
  · have hf := (hf.other (b := gg) (i := 2) (.bool true) (by omega)).other (b := gg) (i := 4) (.string ⟨#[]⟩) (by omega)
    have hg := (hg.setC true).setD ⟨#[]⟩
    have hB := (hB.setCell (p := ⟨gg, 2, none⟩) hwg (.bool true)).setCell (p := ⟨gg, 4, none⟩) hwg (.string ⟨#[]⟩)
    go_upto_region 8 with fail
    clear f2 g2 g4 k2 k4
    generalize (w3.setCell ⟨gg, 2, none⟩ (.bool true)).setCell ⟨gg, 4, none⟩ (.string ⟨#[]⟩) = w4 at hf hg hB ⊢
    have hr2 : RightF ⟨fe, fi, true, fp, ⟨#[]⟩⟩ := ⟨hr.e0, hr.e1, hr.i0, hr.i1, hr.p0, hr.p1, fun _ => rfl, fun h => (by cases h)⟩
    have hpg := fun W (ht : Tab W) => print_any ⟨fe, fi, true, fp, ⟨#[]⟩⟩ W ht hr2
    have hrg : ∀ W, Calls Tryd.prog 14 #[.agg (cellsF ⟨fe, fi, true, fp, ⟨#[]⟩⟩)] W fun e w' => e = .returned (.bool true) ∧ Below W.heap.size W w' := fun W => (right_any ⟨fe, fi, true, fp, ⟨#[]⟩⟩ W).mono (by
      rintro e w' ⟨b', rfl, hb, hv⟩
      exact ⟨by rw [hb.2 hr2], hv⟩)
    have hne : frameB ⟨fe, fi, false, fp, fd⟩ ≠ frameB ⟨fe, fi, true, fp, ⟨#[]⟩⟩ := fun e => by have := congrArg F.c (frame_inj hr hr2 e); cases this
    have hsn := str_ne hne
    generalize frameB ⟨fe, fi, false, fp, fd⟩ = x at hpf hsn
    generalize frameB ⟨fe, fi, true, fp, ⟨#[]⟩⟩ = y at hpg hsn
    unfold cellsF at hpg hrg
    have HP := Lib.hid (And.intro hrg (And.intro hpf hpg))
    clear hpf hpg hrg hne
    cases hp : parseF s with
    | none =>
      rw [hp] at hqs
      clear hp
      generalize hpf : noF = pf at hqs
      obtain ⟨pe, pi, pc, pp, pd⟩ := pf
      clear hpf
      have hqs : ∀ W, Tab W → Calls Tryd.prog 15 #[.string s] W fun e w' => e = .returned (.tuple #[.agg #[.int .i64 pe, .int .i64 pi, .bool pc, .int .i64 pp, .string pd], .bool false]) ∧ Below W.heap.size W w' := hqs
      go_wp2_with fail
      refine (hqs _ (HT.out.below hB)).mono ?_
      rintro e w6 ⟨rfl, hv⟩
      have hf := hf.below hv hf.lt
      have hg := hg.below hv hg.lt
      have hB := hB.trans (hv.mono hB.size)
      clear hv hqs
      go_wp2_with fail
      have hn : Below w6.heap.size w6 (w6.alloc (.cells #[.int .i64 pe, .int .i64 pi, .bool pc, .int .i64 pp, .string pd] 36)) := (Below.refl w6.heap.size w6).alloc (Nat.le_refl _) _
      have hx : BoxF (w6.alloc (.cells #[.int .i64 pe, .int .i64 pi, .bool pc, .int .i64 pp, .string pd] 36)) w6.heap.size ⟨pe, pi, pc, pp, pd⟩ := BoxF.new w6 ⟨pe, pi, pc, pp, pd⟩ 36
      have hf := hf.below hn hf.lt
      have hg := hg.below hn hg.lt
      have hB := hB.trans (hn.mono hB.size)
      clear hn
      generalize w6.alloc (.cells #[.int .i64 pe, .int .i64 pi, .bool pc, .int .i64 pp, .string pd] 36) = w7 at hf hg hx hB ⊢
      generalize w6.heap.size = gx at hx ⊢
      have f0 := hf.c0
      have f1 := hf.c1
      have f2 := hf.c2
      have f3 := hf.c3
      have f4 := hf.c4
      have g0 := hg.c0
      have g1 := hg.c1
      have g2 := hg.c2
      have g3 := hg.c3
      have g4 := hg.c4
      have x0 := hx.c0
      have x1 := hx.c1
      have x2 := hx.c2
      have x3 := hx.c3
      have x4 := hx.c4
      simp only at f0 f1 f2 f3 f4 g0 g1 g2 g3 g4 x0 x1 x2 x3 x4
      clear hf hg hx
      have hdr := (Below.refl w7.heap.size w7).drew
      refine Lex.region_lex (ops := fkops) (calls := fkcalls) fkord (fun W => W.cell? ⟨gf, 0, none⟩ = some (.int .i64 fe) ∧ W.cell? ⟨gf, 1, none⟩ = some (.int .i64 fi) ∧ W.cell? ⟨gf, 2, none⟩ = some (.bool false) ∧ W.cell? ⟨gf, 3, none⟩ = some (.int .i64 fp) ∧ W.cell? ⟨gf, 4, none⟩ = some (.string fd) ∧ W.cell? ⟨gg, 0, none⟩ = some (.int .i64 fe) ∧ W.cell? ⟨gg, 1, none⟩ = some (.int .i64 fi) ∧ W.cell? ⟨gg, 2, none⟩ = some (.bool true) ∧ W.cell? ⟨gg, 3, none⟩ = some (.int .i64 fp) ∧ W.cell? ⟨gg, 4, none⟩ = some (.string ⟨#[]⟩) ∧ W.cell? ⟨gx, 0, none⟩ = some (.int .i64 pe) ∧ W.cell? ⟨gx, 1, none⟩ = some (.int .i64 pi) ∧ W.cell? ⟨gx, 2, none⟩ = some (.bool pc) ∧ W.cell? ⟨gx, 3, none⟩ = some (.int .i64 pp) ∧ W.cell? ⟨gx, 4, none⟩ = some (.string pd)) (by kernel_rfl) (by kernel_rfl) fksel (by kernel_rfl) (by kernel_rfl) fklex (⟨cell_belowF hdr f0, cell_belowF hdr f1, cell_belowF hdr f2, cell_belowF hdr f3, cell_belowF hdr f4, cell_belowF hdr g0, cell_belowF hdr g1, cell_belowF hdr g2, cell_belowF hdr g3, cell_belowF hdr g4, cell_belowF hdr x0, cell_belowF hdr x1, cell_belowF hdr x2, cell_belowF hdr x3, cell_belowF hdr x4⟩) ?_
      unfold fkord
      have f0 := cell_belowF hdr f0
      have f1 := cell_belowF hdr f1
      have f2 := cell_belowF hdr f2
      have f3 := cell_belowF hdr f3
      have f4 := cell_belowF hdr f4
      have g0 := cell_belowF hdr g0
      have g1 := cell_belowF hdr g1
      have g2 := cell_belowF hdr g2
      have g3 := cell_belowF hdr g3
      have g4 := cell_belowF hdr g4
      have x0 := cell_belowF hdr x0
      have x1 := cell_belowF hdr x1
      have x2 := cell_belowF hdr x2
      have x3 := cell_belowF hdr x3
      have x4 := cell_belowF hdr x4
      have hB := hB.trans (hdr.mono hB.size)
      clear hdr
      refine Lex.step_call fk0 rfl (Lex.want_none rfl) (fun K hK => ?_)
      go_simp
      refine (awake_any _ (HT.out.below hB)).mono ?_
      rintro e y1 ⟨rfl, hv⟩
      have f0 := cell_belowF hv f0
      have f1 := cell_belowF hv f1
      have f2 := cell_belowF hv f2
      have f3 := cell_belowF hv f3
      have f4 := cell_belowF hv f4
      have g0 := cell_belowF hv g0
      have g1 := cell_belowF hv g1
      have g2 := cell_belowF hv g2
      have g3 := cell_belowF hv g3
      have g4 := cell_belowF hv g4
      have x0 := cell_belowF hv x0
      have x1 := cell_belowF hv x1
      have x2 := cell_belowF hv x2
      have x3 := cell_belowF hv x3
      have x4 := cell_belowF hv x4
      have hB := hB.trans (hv.mono hB.size)
      clear hv
      refine hK.out _ _ _ (fun _ h => h) ⟨f0, f1, f2, f3, f4, g0, g1, g2, g3, g4, x0, x1, x2, x3, x4⟩ ?_
      clear hK K
      try simp only [Act.put, List.setIfInBounds_toArray, List.set_cons_zero, List.set_cons_succ]
      refine Lex.step_take (.bool true) fk1 rfl (Lex.want_none rfl) (by intro Wx hSw; (try dsimp only at hSw); go_simp; (try (first | (with_reducible rfl) | assumption | rfl))) ?_
      simp only [Act.put, List.setIfInBounds_toArray, List.set_cons_zero, List.set_cons_succ]
      refine Lex.step_take (.agg #[.int .i64 fe, .int .i64 fi, .bool true, .int .i64 fp, .string ⟨#[]⟩]) fk2 rfl (Lex.want_some rfl fk1 rfl (b' := true) rfl rfl) (by intro Wx hSw; (try dsimp only at hSw); go_simp; (try (first | (with_reducible rfl) | assumption | rfl))) ?_
      simp only [Act.put, List.setIfInBounds_toArray, List.set_cons_zero, List.set_cons_succ]
      refine Lex.step_call fk3 rfl (Lex.want_some rfl fk1 rfl (b' := true) rfl rfl) (fun K hK => ?_)
      go_simp
      refine (HP.out.1 _).mono ?_
      rintro e y2 ⟨rfl, hv⟩
      have f0 := cell_belowF hv f0
      have f1 := cell_belowF hv f1
      have f2 := cell_belowF hv f2
      have f3 := cell_belowF hv f3
      have f4 := cell_belowF hv f4
      have g0 := cell_belowF hv g0
      have g1 := cell_belowF hv g1
      have g2 := cell_belowF hv g2
      have g3 := cell_belowF hv g3
      have g4 := cell_belowF hv g4
      have x0 := cell_belowF hv x0
      have x1 := cell_belowF hv x1
      have x2 := cell_belowF hv x2
      have x3 := cell_belowF hv x3
      have x4 := cell_belowF hv x4
      have hB := hB.trans (hv.mono hB.size)
      clear hv
      refine hK.out _ _ _ (fun _ h => h) ⟨f0, f1, f2, f3, f4, g0, g1, g2, g3, g4, x0, x1, x2, x3, x4⟩ ?_
      clear hK K
      try simp only [Act.put, List.setIfInBounds_toArray, List.set_cons_zero, List.set_cons_succ]
      refine Lex.step_take (.bool true) fk4 rfl (Lex.want_none rfl) (by intro Wx hSw; (try dsimp only at hSw); go_simp; (try (first | (with_reducible rfl) | assumption | rfl))) ?_
      simp only [Act.put, List.setIfInBounds_toArray, List.set_cons_zero, List.set_cons_succ]
      refine Lex.step_take (.bool true) fk5 rfl (Lex.want_none rfl) (by intro Wx hSw; (try dsimp only at hSw); go_simp; (try (first | (with_reducible rfl) | assumption | rfl))) ?_
      simp only [Act.put, List.setIfInBounds_toArray, List.set_cons_zero, List.set_cons_succ]
      refine Lex.step_take (.agg #[.int .i64 fe, .int .i64 fi, .bool false, .int .i64 fp, .string fd]) fk6 rfl (Lex.want_some rfl fk5 rfl (b' := true) rfl rfl) (by intro Wx hSw; (try dsimp only at hSw); go_simp; (try (first | (with_reducible rfl) | assumption | rfl))) ?_
      simp only [Act.put, List.setIfInBounds_toArray, List.set_cons_zero, List.set_cons_succ]
      refine Lex.step_take (.agg #[.int .i64 fe, .int .i64 fi, .bool true, .int .i64 fp, .string ⟨#[]⟩]) fk8 rfl (Lex.want_some rfl fk5 rfl (b' := true) rfl rfl) (by intro Wx hSw; (try dsimp only at hSw); go_simp; (try (first | (with_reducible rfl) | assumption | rfl))) ?_
      simp only [Act.put, List.setIfInBounds_toArray, List.set_cons_zero, List.set_cons_succ]
      refine Lex.step_call fk7 rfl (Lex.want_some rfl fk5 rfl (b' := true) rfl rfl) (fun K hK => ?_)
      go_simp
      refine (HP.out.2.1 _ (HT.out.below hB)).mono ?_
      rintro e y3 ⟨rfl, hv⟩
      have f0 := cell_belowF hv f0
      have f1 := cell_belowF hv f1
      have f2 := cell_belowF hv f2
      have f3 := cell_belowF hv f3
      have f4 := cell_belowF hv f4
      have g0 := cell_belowF hv g0
      have g1 := cell_belowF hv g1
      have g2 := cell_belowF hv g2
      have g3 := cell_belowF hv g3
      have g4 := cell_belowF hv g4
      have x0 := cell_belowF hv x0
      have x1 := cell_belowF hv x1
      have x2 := cell_belowF hv x2
      have x3 := cell_belowF hv x3
      have x4 := cell_belowF hv x4
      have hB := hB.trans (hv.mono hB.size)
      clear hv
      refine hK.out _ _ _ (fun _ h => h) ⟨f0, f1, f2, f3, f4, g0, g1, g2, g3, g4, x0, x1, x2, x3, x4⟩ ?_
      clear hK K
      try simp only [Act.put, List.setIfInBounds_toArray, List.set_cons_zero, List.set_cons_succ]
      refine Lex.step_call fk9 rfl (Lex.want_some rfl fk5 rfl (b' := true) rfl rfl) (fun K hK => ?_)
      go_simp
      refine (HP.out.2.2 _ (HT.out.below hB)).mono ?_
      rintro e y4 ⟨rfl, hv⟩
      have f0 := cell_belowF hv f0
      have f1 := cell_belowF hv f1
      have f2 := cell_belowF hv f2
      have f3 := cell_belowF hv f3
      have f4 := cell_belowF hv f4
      have g0 := cell_belowF hv g0
      have g1 := cell_belowF hv g1
      have g2 := cell_belowF hv g2
      have g3 := cell_belowF hv g3
      have g4 := cell_belowF hv g4
      have x0 := cell_belowF hv x0
      have x1 := cell_belowF hv x1
      have x2 := cell_belowF hv x2
      have x3 := cell_belowF hv x3
      have x4 := cell_belowF hv x4
      have hB := hB.trans (hv.mono hB.size)
      clear hv
      refine hK.out _ _ _ (fun _ h => h) ⟨f0, f1, f2, f3, f4, g0, g1, g2, g3, g4, x0, x1, x2, x3, x4⟩ ?_
      clear hK K
      try simp only [Act.put, List.setIfInBounds_toArray, List.set_cons_zero, List.set_cons_succ]
      refine Lex.step_take (.bool true) fk10 rfl (Lex.want_some rfl fk5 rfl (b' := true) rfl rfl) (by intro Wx hSw; (try dsimp only at hSw); go_simp; (try (first | (with_reducible rfl) | assumption | rfl))) ?_
      simp only [Act.put, List.setIfInBounds_toArray, List.set_cons_zero, List.set_cons_succ]
      refine Lex.step_take (.bool true) fk11 rfl (Lex.want_none rfl) (by intro Wx hSw; (try dsimp only at hSw); go_simp; (try (first | (with_reducible rfl) | assumption | rfl))) ?_
      simp only [Act.put, List.setIfInBounds_toArray, List.set_cons_zero, List.set_cons_succ]
      refine Lex.step_take (.bool true) fk12 rfl (Lex.want_none rfl) (by intro Wx hSw; (try dsimp only at hSw); go_simp; (try (first | (with_reducible rfl) | assumption | rfl))) ?_
      simp only [Act.put, List.setIfInBounds_toArray, List.set_cons_zero, List.set_cons_succ]
      refine Lex.step_take (.bool false) fk13 rfl (Lex.want_some rfl fk12 rfl (b' := true) rfl rfl) (by intro Wx hSw; (try dsimp only at hSw); go_simp; (try (first | (with_reducible rfl) | assumption | rfl))) ?_
      simp only [Act.put, List.setIfInBounds_toArray, List.set_cons_zero, List.set_cons_succ]
      refine Lex.step_take (.bool true) fk14 rfl (Lex.want_some rfl fk12 rfl (b' := true) rfl rfl) (by intro Wx hSw; (try dsimp only at hSw); go_simp; (try (first | (with_reducible rfl) | assumption | rfl))) ?_
      simp only [Act.put, List.setIfInBounds_toArray, List.set_cons_zero, List.set_cons_succ]
      refine Lex.step_take (.bool true) fk15 rfl (Lex.want_some rfl fk12 rfl (b' := true) rfl rfl) (by intro Wx hSw; (try dsimp only at hSw); go_simp; (try (first | (with_reducible rfl) | assumption | rfl))) ?_
      simp only [Act.put, List.setIfInBounds_toArray, List.set_cons_zero, List.set_cons_succ]
      refine Lex.step_skip fk16 (Lex.want_some rfl fk15 rfl (b' := true) rfl rfl) ?_
      simp only [Act.put, List.setIfInBounds_toArray, List.set_cons_zero, List.set_cons_succ]
      refine Lex.step_skip fk17 (Lex.want_some rfl fk15 rfl (b' := true) rfl rfl) ?_
      simp only [Act.put, List.setIfInBounds_toArray, List.set_cons_zero, List.set_cons_succ]
      refine Lex.step_skip fk18 (Lex.want_some rfl fk15 rfl (b' := true) rfl rfl) ?_
      simp only [Act.put, List.setIfInBounds_toArray, List.set_cons_zero, List.set_cons_succ]
      refine Lex.step_skip fk19 (Lex.want_some rfl fk15 rfl (b' := true) rfl rfl) ?_
      simp only [Act.put, List.setIfInBounds_toArray, List.set_cons_zero, List.set_cons_succ]
      refine Lex.step_skip fk20 (Lex.want_undef rfl fk19 rfl rfl) ?_
      simp only [Act.put, List.setIfInBounds_toArray, List.set_cons_zero, List.set_cons_succ]
      refine Lex.step_skip fk21 (Lex.want_undef rfl fk19 rfl rfl) ?_
      simp only [Act.put, List.setIfInBounds_toArray, List.set_cons_zero, List.set_cons_succ]
      refine Lex.step_skip fk22 (Lex.want_some rfl fk15 rfl (b' := true) rfl rfl) ?_
      simp only [Act.put, List.setIfInBounds_toArray, List.set_cons_zero, List.set_cons_succ]
      refine Lex.step_skip fk23 (Lex.want_some rfl fk15 rfl (b' := true) rfl rfl) ?_
      simp only [Act.put, List.setIfInBounds_toArray, List.set_cons_zero, List.set_cons_succ]
      refine Lex.step_skip fk24 (Lex.want_undef rfl fk23 rfl rfl) ?_
      simp only [Act.put, List.setIfInBounds_toArray, List.set_cons_zero, List.set_cons_succ]
      refine Lex.step_skip fk26 (Lex.want_undef rfl fk23 rfl rfl) ?_
      simp only [Act.put, List.setIfInBounds_toArray, List.set_cons_zero, List.set_cons_succ]
      refine Lex.step_skip fk25 (Lex.want_undef rfl fk23 rfl rfl) ?_
      simp only [Act.put, List.setIfInBounds_toArray, List.set_cons_zero, List.set_cons_succ]
      refine Lex.step_skip fk27 (Lex.want_undef rfl fk23 rfl rfl) ?_
      simp only [Act.put, List.setIfInBounds_toArray, List.set_cons_zero, List.set_cons_succ]
      refine Lex.step_skip fk28 (Lex.want_some rfl fk15 rfl (b' := true) rfl rfl) ?_
      simp only [Act.put, List.setIfInBounds_toArray, List.set_cons_zero, List.set_cons_succ]
      refine Lex.step_take (.bool true) fk29 rfl (Lex.want_some rfl fk12 rfl (b' := true) rfl rfl) (by intro Wx hSw; (try dsimp only at hSw); go_simp; (try (first | (with_reducible rfl) | assumption | rfl))) ?_
      simp only [Act.put, List.setIfInBounds_toArray, List.set_cons_zero, List.set_cons_succ]
      refine Lex.step_take (.bool true) fk30 rfl (Lex.want_none rfl) (by intro Wx hSw; (try dsimp only at hSw); go_simp; (try (first | (with_reducible rfl) | assumption | rfl))) ?_
      simp only [Act.put, List.setIfInBounds_toArray, List.set_cons_zero, List.set_cons_succ]
      refine Lex.step_take (.bool true) fk31 rfl (Lex.want_none rfl) (by intro Wx hSw; (try dsimp only at hSw); go_simp; (try (first | (with_reducible rfl) | assumption | rfl))) ?_
      simp only [Act.put, List.setIfInBounds_toArray, List.set_cons_zero, List.set_cons_succ]
      refine NoPanic.normal ?_
      have HB := Lib.hid hB
      clear hB f0 f1 f2 f3 f4 g0 g1 g2 g3 g4 x0 x1 x2 x3 x4
      go_wp2
      go_ret
      exact ⟨rfl, HB.out⟩
    | some pf =>
      rw [hp] at hqs
      obtain ⟨q1, q2⟩ := parse_iff.1 hp
      have hss : s.size = 256 := by rw [q2]; exact frameB_size q1.small
      have hqr : ∀ W, Calls Tryd.prog 14 #[.agg (cellsF pf)] W fun e w' => e = .returned (.bool true) ∧ Below W.heap.size W w' := fun W => (right_any pf W).mono (by
        rintro e w' ⟨b', rfl, hb, hv⟩
        exact ⟨by rw [hb.2 q1], hv⟩)
      have hqp := fun W (ht : Tab W) => print_any pf W ht q1
      rw [← q2] at hqp
      clear hp q1 q2
      obtain ⟨pe, pi, pc, pp, pd⟩ := pf
      have hqs : ∀ W, Tab W → Calls Tryd.prog 15 #[.string s] W fun e w' => e = .returned (.tuple #[.agg #[.int .i64 pe, .int .i64 pi, .bool pc, .int .i64 pp, .string pd], .bool true]) ∧ Below W.heap.size W w' := hqs
      unfold cellsF at hqr hqp
      simp only at hqr hqp
      have HQ := Lib.hid (And.intro hqr hqp)
      clear hqr hqp
      have s1 : (s.size : Int) = 256 := by rw [hss]; rfl
      have s2 : ((s.size : Int) == 256) = true := by rw [hss]; rfl
      have s3 : (s.toList == s.toList) = true := beq_self_eq_true _
      go_wp2_with fail
      refine (hqs _ (HT.out.below hB)).mono ?_
      rintro e w6 ⟨rfl, hv⟩
      have hf := hf.below hv hf.lt
      have hg := hg.below hv hg.lt
      have hB := hB.trans (hv.mono hB.size)
      clear hv hqs
      go_wp2_with fail
      have hn : Below w6.heap.size w6 (w6.alloc (.cells #[.int .i64 pe, .int .i64 pi, .bool pc, .int .i64 pp, .string pd] 36)) := (Below.refl w6.heap.size w6).alloc (Nat.le_refl _) _
      have hx : BoxF (w6.alloc (.cells #[.int .i64 pe, .int .i64 pi, .bool pc, .int .i64 pp, .string pd] 36)) w6.heap.size ⟨pe, pi, pc, pp, pd⟩ := BoxF.new w6 ⟨pe, pi, pc, pp, pd⟩ 36
      have hf := hf.below hn hf.lt
      have hg := hg.below hn hg.lt
      have hB := hB.trans (hn.mono hB.size)
      clear hn
      generalize w6.alloc (.cells #[.int .i64 pe, .int .i64 pi, .bool pc, .int .i64 pp, .string pd] 36) = w7 at hf hg hx hB ⊢
      generalize w6.heap.size = gx at hx ⊢
      have f0 := hf.c0
      have f1 := hf.c1
      have f2 := hf.c2
      have f3 := hf.c3
      have f4 := hf.c4
      have g0 := hg.c0
      have g1 := hg.c1
      have g2 := hg.c2
      have g3 := hg.c3
      have g4 := hg.c4
      have x0 := hx.c0
      have x1 := hx.c1
      have x2 := hx.c2
      have x3 := hx.c3
      have x4 := hx.c4
      simp only at f0 f1 f2 f3 f4 g0 g1 g2 g3 g4 x0 x1 x2 x3 x4
      clear hf hg hx
      have hdr := (Below.refl w7.heap.size w7).drew
      refine Lex.region_lex (ops := fkops) (calls := fkcalls) fkord (fun W => W.cell? ⟨gf, 0, none⟩ = some (.int .i64 fe) ∧ W.cell? ⟨gf, 1, none⟩ = some (.int .i64 fi) ∧ W.cell? ⟨gf, 2, none⟩ = some (.bool false) ∧ W.cell? ⟨gf, 3, none⟩ = some (.int .i64 fp) ∧ W.cell? ⟨gf, 4, none⟩ = some (.string fd) ∧ W.cell? ⟨gg, 0, none⟩ = some (.int .i64 fe) ∧ W.cell? ⟨gg, 1, none⟩ = some (.int .i64 fi) ∧ W.cell? ⟨gg, 2, none⟩ = some (.bool true) ∧ W.cell? ⟨gg, 3, none⟩ = some (.int .i64 fp) ∧ W.cell? ⟨gg, 4, none⟩ = some (.string ⟨#[]⟩) ∧ W.cell? ⟨gx, 0, none⟩ = some (.int .i64 pe) ∧ W.cell? ⟨gx, 1, none⟩ = some (.int .i64 pi) ∧ W.cell? ⟨gx, 2, none⟩ = some (.bool pc) ∧ W.cell? ⟨gx, 3, none⟩ = some (.int .i64 pp) ∧ W.cell? ⟨gx, 4, none⟩ = some (.string pd)) (by kernel_rfl) (by kernel_rfl) fksel (by kernel_rfl) (by kernel_rfl) fklex (⟨cell_belowF hdr f0, cell_belowF hdr f1, cell_belowF hdr f2, cell_belowF hdr f3, cell_belowF hdr f4, cell_belowF hdr g0, cell_belowF hdr g1, cell_belowF hdr g2, cell_belowF hdr g3, cell_belowF hdr g4, cell_belowF hdr x0, cell_belowF hdr x1, cell_belowF hdr x2, cell_belowF hdr x3, cell_belowF hdr x4⟩) ?_
      unfold fkord
      have f0 := cell_belowF hdr f0
      have f1 := cell_belowF hdr f1
      have f2 := cell_belowF hdr f2
      have f3 := cell_belowF hdr f3
      have f4 := cell_belowF hdr f4
      have g0 := cell_belowF hdr g0
      have g1 := cell_belowF hdr g1
      have g2 := cell_belowF hdr g2
      have g3 := cell_belowF hdr g3
      have g4 := cell_belowF hdr g4
      have x0 := cell_belowF hdr x0
      have x1 := cell_belowF hdr x1
      have x2 := cell_belowF hdr x2
      have x3 := cell_belowF hdr x3
      have x4 := cell_belowF hdr x4
      have hB := hB.trans (hdr.mono hB.size)
      clear hdr
      refine Lex.step_call fk0 rfl (Lex.want_none rfl) (fun K hK => ?_)
      go_simp
      refine (awake_any _ (HT.out.below hB)).mono ?_
      rintro e y1 ⟨rfl, hv⟩
      have f0 := cell_belowF hv f0
      have f1 := cell_belowF hv f1
      have f2 := cell_belowF hv f2
      have f3 := cell_belowF hv f3
      have f4 := cell_belowF hv f4
      have g0 := cell_belowF hv g0
      have g1 := cell_belowF hv g1
      have g2 := cell_belowF hv g2
      have g3 := cell_belowF hv g3
      have g4 := cell_belowF hv g4
      have x0 := cell_belowF hv x0
      have x1 := cell_belowF hv x1
      have x2 := cell_belowF hv x2
      have x3 := cell_belowF hv x3
      have x4 := cell_belowF hv x4
      have hB := hB.trans (hv.mono hB.size)
      clear hv
      refine hK.out _ _ _ (fun _ h => h) ⟨f0, f1, f2, f3, f4, g0, g1, g2, g3, g4, x0, x1, x2, x3, x4⟩ ?_
      clear hK K
      try simp only [Act.put, List.setIfInBounds_toArray, List.set_cons_zero, List.set_cons_succ]
      refine Lex.step_take (.bool true) fk1 rfl (Lex.want_none rfl) (by intro Wx hSw; (try dsimp only at hSw); go_simp; (try (first | (with_reducible rfl) | assumption | rfl))) ?_
      simp only [Act.put, List.setIfInBounds_toArray, List.set_cons_zero, List.set_cons_succ]
      refine Lex.step_take (.agg #[.int .i64 fe, .int .i64 fi, .bool true, .int .i64 fp, .string ⟨#[]⟩]) fk2 rfl (Lex.want_some rfl fk1 rfl (b' := true) rfl rfl) (by intro Wx hSw; (try dsimp only at hSw); go_simp; (try (first | (with_reducible rfl) | assumption | rfl))) ?_
      simp only [Act.put, List.setIfInBounds_toArray, List.set_cons_zero, List.set_cons_succ]
      refine Lex.step_call fk3 rfl (Lex.want_some rfl fk1 rfl (b' := true) rfl rfl) (fun K hK => ?_)
      go_simp
      refine (HP.out.1 _).mono ?_
      rintro e y2 ⟨rfl, hv⟩
      have f0 := cell_belowF hv f0
      have f1 := cell_belowF hv f1
      have f2 := cell_belowF hv f2
      have f3 := cell_belowF hv f3
      have f4 := cell_belowF hv f4
      have g0 := cell_belowF hv g0
      have g1 := cell_belowF hv g1
      have g2 := cell_belowF hv g2
      have g3 := cell_belowF hv g3
      have g4 := cell_belowF hv g4
      have x0 := cell_belowF hv x0
      have x1 := cell_belowF hv x1
      have x2 := cell_belowF hv x2
      have x3 := cell_belowF hv x3
      have x4 := cell_belowF hv x4
      have hB := hB.trans (hv.mono hB.size)
      clear hv
      refine hK.out _ _ _ (fun _ h => h) ⟨f0, f1, f2, f3, f4, g0, g1, g2, g3, g4, x0, x1, x2, x3, x4⟩ ?_
      clear hK K
      try simp only [Act.put, List.setIfInBounds_toArray, List.set_cons_zero, List.set_cons_succ]
      refine Lex.step_take (.bool true) fk4 rfl (Lex.want_none rfl) (by intro Wx hSw; (try dsimp only at hSw); go_simp; (try (first | (with_reducible rfl) | assumption | rfl))) ?_
      simp only [Act.put, List.setIfInBounds_toArray, List.set_cons_zero, List.set_cons_succ]
      refine Lex.step_take (.bool true) fk5 rfl (Lex.want_none rfl) (by intro Wx hSw; (try dsimp only at hSw); go_simp; (try (first | (with_reducible rfl) | assumption | rfl))) ?_
      simp only [Act.put, List.setIfInBounds_toArray, List.set_cons_zero, List.set_cons_succ]
      refine Lex.step_take (.agg #[.int .i64 fe, .int .i64 fi, .bool false, .int .i64 fp, .string fd]) fk6 rfl (Lex.want_some rfl fk5 rfl (b' := true) rfl rfl) (by intro Wx hSw; (try dsimp only at hSw); go_simp; (try (first | (with_reducible rfl) | assumption | rfl))) ?_
      simp only [Act.put, List.setIfInBounds_toArray, List.set_cons_zero, List.set_cons_succ]
      refine Lex.step_take (.agg #[.int .i64 fe, .int .i64 fi, .bool true, .int .i64 fp, .string ⟨#[]⟩]) fk8 rfl (Lex.want_some rfl fk5 rfl (b' := true) rfl rfl) (by intro Wx hSw; (try dsimp only at hSw); go_simp; (try (first | (with_reducible rfl) | assumption | rfl))) ?_
      simp only [Act.put, List.setIfInBounds_toArray, List.set_cons_zero, List.set_cons_succ]
      refine Lex.step_call fk7 rfl (Lex.want_some rfl fk5 rfl (b' := true) rfl rfl) (fun K hK => ?_)
      go_simp
      refine (HP.out.2.1 _ (HT.out.below hB)).mono ?_
      rintro e y3 ⟨rfl, hv⟩
      have f0 := cell_belowF hv f0
      have f1 := cell_belowF hv f1
      have f2 := cell_belowF hv f2
      have f3 := cell_belowF hv f3
      have f4 := cell_belowF hv f4
      have g0 := cell_belowF hv g0
      have g1 := cell_belowF hv g1
      have g2 := cell_belowF hv g2
      have g3 := cell_belowF hv g3
      have g4 := cell_belowF hv g4
      have x0 := cell_belowF hv x0
      have x1 := cell_belowF hv x1
      have x2 := cell_belowF hv x2
      have x3 := cell_belowF hv x3
      have x4 := cell_belowF hv x4
      have hB := hB.trans (hv.mono hB.size)
      clear hv
      refine hK.out _ _ _ (fun _ h => h) ⟨f0, f1, f2, f3, f4, g0, g1, g2, g3, g4, x0, x1, x2, x3, x4⟩ ?_
      clear hK K
      try simp only [Act.put, List.setIfInBounds_toArray, List.set_cons_zero, List.set_cons_succ]
      refine Lex.step_call fk9 rfl (Lex.want_some rfl fk5 rfl (b' := true) rfl rfl) (fun K hK => ?_)
      go_simp
      refine (HP.out.2.2 _ (HT.out.below hB)).mono ?_
      rintro e y4 ⟨rfl, hv⟩
      have f0 := cell_belowF hv f0
      have f1 := cell_belowF hv f1
      have f2 := cell_belowF hv f2
      have f3 := cell_belowF hv f3
      have f4 := cell_belowF hv f4
      have g0 := cell_belowF hv g0
      have g1 := cell_belowF hv g1
      have g2 := cell_belowF hv g2
      have g3 := cell_belowF hv g3
      have g4 := cell_belowF hv g4
      have x0 := cell_belowF hv x0
      have x1 := cell_belowF hv x1
      have x2 := cell_belowF hv x2
      have x3 := cell_belowF hv x3
      have x4 := cell_belowF hv x4
      have hB := hB.trans (hv.mono hB.size)
      clear hv
      refine hK.out _ _ _ (fun _ h => h) ⟨f0, f1, f2, f3, f4, g0, g1, g2, g3, g4, x0, x1, x2, x3, x4⟩ ?_
      clear hK K
      try simp only [Act.put, List.setIfInBounds_toArray, List.set_cons_zero, List.set_cons_succ]
      refine Lex.step_take (.bool true) fk10 rfl (Lex.want_some rfl fk5 rfl (b' := true) rfl rfl) (by intro Wx hSw; (try dsimp only at hSw); go_simp; (try (first | (with_reducible rfl) | assumption | rfl))) ?_
      simp only [Act.put, List.setIfInBounds_toArray, List.set_cons_zero, List.set_cons_succ]
      refine Lex.step_take (.bool true) fk11 rfl (Lex.want_none rfl) (by intro Wx hSw; (try dsimp only at hSw); go_simp; (try (first | (with_reducible rfl) | assumption | rfl))) ?_
      simp only [Act.put, List.setIfInBounds_toArray, List.set_cons_zero, List.set_cons_succ]
      refine Lex.step_take (.bool true) fk12 rfl (Lex.want_none rfl) (by intro Wx hSw; (try dsimp only at hSw); go_simp; (try (first | (with_reducible rfl) | assumption | rfl))) ?_
      simp only [Act.put, List.setIfInBounds_toArray, List.set_cons_zero, List.set_cons_succ]
      refine Lex.step_take (.bool true) fk13 rfl (Lex.want_some rfl fk12 rfl (b' := true) rfl rfl) (by intro Wx hSw; (try dsimp only at hSw); go_simp; (try (first | (with_reducible rfl) | assumption | rfl))) ?_
      simp only [Act.put, List.setIfInBounds_toArray, List.set_cons_zero, List.set_cons_succ]
      refine Lex.step_take (.bool false) fk14 rfl (Lex.want_some rfl fk12 rfl (b' := true) rfl rfl) (by intro Wx hSw; (try dsimp only at hSw); go_simp; (try (first | (with_reducible rfl) | assumption | rfl))) ?_
      simp only [Act.put, List.setIfInBounds_toArray, List.set_cons_zero, List.set_cons_succ]
      refine Lex.step_take (.bool false) fk15 rfl (Lex.want_some rfl fk12 rfl (b' := true) rfl rfl) (by intro Wx hSw; (try dsimp only at hSw); go_simp; (try (first | (with_reducible rfl) | assumption | rfl))) ?_
      simp only [Act.put, List.setIfInBounds_toArray, List.set_cons_zero, List.set_cons_succ]
      refine Lex.step_take (.string s) fk16 rfl (Lex.want_some rfl fk15 rfl (b' := false) rfl rfl) (by intro Wx hSw; (try dsimp only at hSw); go_simp; (try (first | (with_reducible rfl) | assumption | rfl))) ?_
      simp only [Act.put, List.setIfInBounds_toArray, List.set_cons_zero, List.set_cons_succ]
      refine Lex.step_take (.int .i64 256) fk17 rfl (Lex.want_some rfl fk15 rfl (b' := false) rfl rfl) (by intro Wx hSw; (try dsimp only at hSw); go_simp; (try (first | (with_reducible rfl) | assumption | rfl))) ?_
      simp only [Act.put, List.setIfInBounds_toArray, List.set_cons_zero, List.set_cons_succ]
      refine Lex.step_take (.bool true) fk18 rfl (Lex.want_some rfl fk15 rfl (b' := false) rfl rfl) (by intro Wx hSw; (try dsimp only at hSw); go_simp; (try (first | (with_reducible rfl) | assumption | rfl))) ?_
      simp only [Act.put, List.setIfInBounds_toArray, List.set_cons_zero, List.set_cons_succ]
      refine Lex.step_take (.bool true) fk19 rfl (Lex.want_some rfl fk15 rfl (b' := false) rfl rfl) (by intro Wx hSw; (try dsimp only at hSw); go_simp; (try (first | (with_reducible rfl) | assumption | rfl))) ?_
      simp only [Act.put, List.setIfInBounds_toArray, List.set_cons_zero, List.set_cons_succ]
      refine Lex.step_take (.agg #[.int .i64 pe, .int .i64 pi, .bool pc, .int .i64 pp, .string pd]) fk20 rfl (Lex.want_some rfl fk19 rfl (b' := true) rfl rfl) (by intro Wx hSw; (try dsimp only at hSw); go_simp; (try (first | (with_reducible rfl) | assumption | rfl))) ?_
      simp only [Act.put, List.setIfInBounds_toArray, List.set_cons_zero, List.set_cons_succ]
      refine Lex.step_call fk21 rfl (Lex.want_some rfl fk19 rfl (b' := true) rfl rfl) (fun K hK => ?_)
      go_simp
      refine (HQ.out.1 _).mono ?_
      rintro e y5 ⟨rfl, hv⟩
      have f0 := cell_belowF hv f0
      have f1 := cell_belowF hv f1
      have f2 := cell_belowF hv f2
      have f3 := cell_belowF hv f3
      have f4 := cell_belowF hv f4
      have g0 := cell_belowF hv g0
      have g1 := cell_belowF hv g1
      have g2 := cell_belowF hv g2
      have g3 := cell_belowF hv g3
      have g4 := cell_belowF hv g4
      have x0 := cell_belowF hv x0
      have x1 := cell_belowF hv x1
      have x2 := cell_belowF hv x2
      have x3 := cell_belowF hv x3
      have x4 := cell_belowF hv x4
      have hB := hB.trans (hv.mono hB.size)
      clear hv
      refine hK.out _ _ _ (fun _ h => h) ⟨f0, f1, f2, f3, f4, g0, g1, g2, g3, g4, x0, x1, x2, x3, x4⟩ ?_
      clear hK K
      try simp only [Act.put, List.setIfInBounds_toArray, List.set_cons_zero, List.set_cons_succ]
      refine Lex.step_take (.bool true) fk22 rfl (Lex.want_some rfl fk15 rfl (b' := false) rfl rfl) (by intro Wx hSw; (try dsimp only at hSw); go_simp; (try (first | (with_reducible rfl) | assumption | rfl))) ?_
      simp only [Act.put, List.setIfInBounds_toArray, List.set_cons_zero, List.set_cons_succ]
      refine Lex.step_take (.bool true) fk23 rfl (Lex.want_some rfl fk15 rfl (b' := false) rfl rfl) (by intro Wx hSw; (try dsimp only at hSw); go_simp; (try (first | (with_reducible rfl) | assumption | rfl))) ?_
      simp only [Act.put, List.setIfInBounds_toArray, List.set_cons_zero, List.set_cons_succ]
      refine Lex.step_take (.agg #[.int .i64 pe, .int .i64 pi, .bool pc, .int .i64 pp, .string pd]) fk24 rfl (Lex.want_some rfl fk23 rfl (b' := true) rfl rfl) (by intro Wx hSw; (try dsimp only at hSw); go_simp; (try (first | (with_reducible rfl) | assumption | rfl))) ?_
      simp only [Act.put, List.setIfInBounds_toArray, List.set_cons_zero, List.set_cons_succ]
      refine Lex.step_take (.string s) fk26 rfl (Lex.want_some rfl fk23 rfl (b' := true) rfl rfl) (by intro Wx hSw; (try dsimp only at hSw); go_simp; (try (first | (with_reducible rfl) | assumption | rfl))) ?_
      simp only [Act.put, List.setIfInBounds_toArray, List.set_cons_zero, List.set_cons_succ]
      refine Lex.step_call fk25 rfl (Lex.want_some rfl fk23 rfl (b' := true) rfl rfl) (fun K hK => ?_)
      go_simp
      refine (HQ.out.2 _ (HT.out.below hB)).mono ?_
      rintro e y6 ⟨rfl, hv⟩
      have f0 := cell_belowF hv f0
      have f1 := cell_belowF hv f1
      have f2 := cell_belowF hv f2
      have f3 := cell_belowF hv f3
      have f4 := cell_belowF hv f4
      have g0 := cell_belowF hv g0
      have g1 := cell_belowF hv g1
      have g2 := cell_belowF hv g2
      have g3 := cell_belowF hv g3
      have g4 := cell_belowF hv g4
      have x0 := cell_belowF hv x0
      have x1 := cell_belowF hv x1
      have x2 := cell_belowF hv x2
      have x3 := cell_belowF hv x3
      have x4 := cell_belowF hv x4
      have hB := hB.trans (hv.mono hB.size)
      clear hv
      refine hK.out _ _ _ (fun _ h => h) ⟨f0, f1, f2, f3, f4, g0, g1, g2, g3, g4, x0, x1, x2, x3, x4⟩ ?_
      clear hK K
      try simp only [Act.put, List.setIfInBounds_toArray, List.set_cons_zero, List.set_cons_succ]
      refine Lex.step_take (.bool true) fk27 rfl (Lex.want_some rfl fk23 rfl (b' := true) rfl rfl) (by intro Wx hSw; (try dsimp only at hSw); go_simp; (try (first | (with_reducible rfl) | assumption | rfl))) ?_
      simp only [Act.put, List.setIfInBounds_toArray, List.set_cons_zero, List.set_cons_succ]
      refine Lex.step_take (.bool true) fk28 rfl (Lex.want_some rfl fk15 rfl (b' := false) rfl rfl) (by intro Wx hSw; (try dsimp only at hSw); go_simp; (try (first | (with_reducible rfl) | assumption | rfl))) ?_
      simp only [Act.put, List.setIfInBounds_toArray, List.set_cons_zero, List.set_cons_succ]
      refine Lex.step_take (.bool true) fk29 rfl (Lex.want_some rfl fk12 rfl (b' := true) rfl rfl) (by intro Wx hSw; (try dsimp only at hSw); go_simp; (try (first | (with_reducible rfl) | assumption | rfl))) ?_
      simp only [Act.put, List.setIfInBounds_toArray, List.set_cons_zero, List.set_cons_succ]
      refine Lex.step_take (.bool true) fk30 rfl (Lex.want_none rfl) (by intro Wx hSw; (try dsimp only at hSw); go_simp; (try (first | (with_reducible rfl) | assumption | rfl))) ?_
      simp only [Act.put, List.setIfInBounds_toArray, List.set_cons_zero, List.set_cons_succ]
      refine Lex.step_take (.bool true) fk31 rfl (Lex.want_none rfl) (by intro Wx hSw; (try dsimp only at hSw); go_simp; (try (first | (with_reducible rfl) | assumption | rfl))) ?_
      simp only [Act.put, List.setIfInBounds_toArray, List.set_cons_zero, List.set_cons_succ]
      refine NoPanic.normal ?_
      have HB := Lib.hid hB
      clear hB f0 f1 f2 f3 f4 g0 g1 g2 g3 g4 x0 x1 x2 x3 x4
      go_wp2
      go_ret
      exact ⟨rfl, HB.out⟩
  · have hf := (hf.other (b := gg) (i := 2) (.bool false) (by omega)).other (b := gg) (i := 4) (.string ⟨#[]⟩) (by omega)
    have hg := (hg.setC false).setD ⟨#[]⟩
    have hB := (hB.setCell (p := ⟨gg, 2, none⟩) hwg (.bool false)).setCell (p := ⟨gg, 4, none⟩) hwg (.string ⟨#[]⟩)
    go_upto_region 7 with fail
    clear f2 g2 g4 k2 k4
    generalize (w3.setCell ⟨gg, 2, none⟩ (.bool false)).setCell ⟨gg, 4, none⟩ (.string ⟨#[]⟩) = w4 at hf hg hB ⊢
    go_upto_region 8 with
      (at_make
       go_must (refine wpList_make_full _ rfl _ _ 26 rfl (w4.heap.size) 5 i0 _ 1 Tryd.underlying26 hi hz0 hz1 _ _ _ _ 200 rfl rfl rfl rfl (by rw [hz2]; decide) (by unfold maxLen; decide) (by simp) ?_)
       intro w5 hown hgrow
       obtain ⟨hv, hcv⟩ := noughts_new 200 hown hgrow
       have hf := hf.below hv hf.lt
       have hg := hg.below hv hg.lt
       have hB := hB.trans (hv.mono hB.size)
       clear hown hgrow hv
       have hzs := zeros_size 200
       generalize zeros 200 = gd at hcv hzs
       have hf9 := hf.other (b := gg) (i := 4) (.string gd) (by omega)
       have hg9 := hg.setD gd
       have hB9 := hB.setCell (p := ⟨gg, 4, none⟩) hwg (.string gd)
       have g4 := hg.c4
       have k4 := hg.f 4
       simp only at g4)
    clear hcv g4 k4 hf hg hB
    generalize w5.setCell ⟨gg, 4, none⟩ (.string gd) = w4b at hf9 hg9 hB9 ⊢
    have hf := hf9
    have hg := hg9
    have hB := hB9
    have hr2 : RightF ⟨fe, fi, false, fp, gd⟩ := ⟨hr.e0, hr.e1, hr.i0, hr.i1, hr.p0, hr.p1, fun h => (by cases h), fun _ => hzs⟩
    clear hf9 hg9 hB9
    have hpg := fun W (ht : Tab W) => print_any ⟨fe, fi, false, fp, gd⟩ W ht hr2
    have hrg : ∀ W, Calls Tryd.prog 14 #[.agg (cellsF ⟨fe, fi, false, fp, gd⟩)] W fun e w' => e = .returned (.bool true) ∧ Below W.heap.size W w' := fun W => (right_any ⟨fe, fi, false, fp, gd⟩ W).mono (by
      rintro e w' ⟨b', rfl, hb, hv⟩
      exact ⟨by rw [hb.2 hr2], hv⟩)
    have hne : frameB ⟨fe, fi, true, fp, fd⟩ ≠ frameB ⟨fe, fi, false, fp, gd⟩ := fun e => by have := congrArg F.c (frame_inj hr hr2 e); cases this
    have hsn := str_ne hne
    generalize frameB ⟨fe, fi, true, fp, fd⟩ = x at hpf hsn
    generalize frameB ⟨fe, fi, false, fp, gd⟩ = y at hpg hsn
    unfold cellsF at hpg hrg
    have HP := Lib.hid (And.intro hrg (And.intro hpf hpg))
    clear hpf hpg hrg hne
    cases hp : parseF s with
    | none =>
      rw [hp] at hqs
      clear hp
      generalize hpf : noF = pf at hqs
      obtain ⟨pe, pi, pc, pp, pd⟩ := pf
      clear hpf
      have hqs : ∀ W, Tab W → Calls Tryd.prog 15 #[.string s] W fun e w' => e = .returned (.tuple #[.agg #[.int .i64 pe, .int .i64 pi, .bool pc, .int .i64 pp, .string pd], .bool false]) ∧ Below W.heap.size W w' := hqs
      go_wp2_with fail
      refine (hqs _ (HT.out.below hB)).mono ?_
      rintro e w6 ⟨rfl, hv⟩
      have hf := hf.below hv hf.lt
      have hg := hg.below hv hg.lt
      have hB := hB.trans (hv.mono hB.size)
      clear hv hqs
      go_wp2_with fail
      have hn : Below w6.heap.size w6 (w6.alloc (.cells #[.int .i64 pe, .int .i64 pi, .bool pc, .int .i64 pp, .string pd] 36)) := (Below.refl w6.heap.size w6).alloc (Nat.le_refl _) _
      have hx : BoxF (w6.alloc (.cells #[.int .i64 pe, .int .i64 pi, .bool pc, .int .i64 pp, .string pd] 36)) w6.heap.size ⟨pe, pi, pc, pp, pd⟩ := BoxF.new w6 ⟨pe, pi, pc, pp, pd⟩ 36
      have hf := hf.below hn hf.lt
      have hg := hg.below hn hg.lt
      have hB := hB.trans (hn.mono hB.size)
      clear hn
      generalize w6.alloc (.cells #[.int .i64 pe, .int .i64 pi, .bool pc, .int .i64 pp, .string pd] 36) = w7 at hf hg hx hB ⊢
      generalize w6.heap.size = gx at hx ⊢
      have f0 := hf.c0
      have f1 := hf.c1
      have f2 := hf.c2
      have f3 := hf.c3
      have f4 := hf.c4
      have g0 := hg.c0
      have g1 := hg.c1
      have g2 := hg.c2
      have g3 := hg.c3
      have g4 := hg.c4
      have x0 := hx.c0
      have x1 := hx.c1
      have x2 := hx.c2
      have x3 := hx.c3
      have x4 := hx.c4
      simp only at f0 f1 f2 f3 f4 g0 g1 g2 g3 g4 x0 x1 x2 x3 x4
      clear hf hg hx
      have hdr := (Below.refl w7.heap.size w7).drew
      refine Lex.region_lex (ops := fkops) (calls := fkcalls) fkord (fun W => W.cell? ⟨gf, 0, none⟩ = some (.int .i64 fe) ∧ W.cell? ⟨gf, 1, none⟩ = some (.int .i64 fi) ∧ W.cell? ⟨gf, 2, none⟩ = some (.bool true) ∧ W.cell? ⟨gf, 3, none⟩ = some (.int .i64 fp) ∧ W.cell? ⟨gf, 4, none⟩ = some (.string fd) ∧ W.cell? ⟨gg, 0, none⟩ = some (.int .i64 fe) ∧ W.cell? ⟨gg, 1, none⟩ = some (.int .i64 fi) ∧ W.cell? ⟨gg, 2, none⟩ = some (.bool false) ∧ W.cell? ⟨gg, 3, none⟩ = some (.int .i64 fp) ∧ W.cell? ⟨gg, 4, none⟩ = some (.string gd) ∧ W.cell? ⟨gx, 0, none⟩ = some (.int .i64 pe) ∧ W.cell? ⟨gx, 1, none⟩ = some (.int .i64 pi) ∧ W.cell? ⟨gx, 2, none⟩ = some (.bool pc) ∧ W.cell? ⟨gx, 3, none⟩ = some (.int .i64 pp) ∧ W.cell? ⟨gx, 4, none⟩ = some (.string pd)) (by kernel_rfl) (by kernel_rfl) fksel (by kernel_rfl) (by kernel_rfl) fklex (⟨cell_belowF hdr f0, cell_belowF hdr f1, cell_belowF hdr f2, cell_belowF hdr f3, cell_belowF hdr f4, cell_belowF hdr g0, cell_belowF hdr g1, cell_belowF hdr g2, cell_belowF hdr g3, cell_belowF hdr g4, cell_belowF hdr x0, cell_belowF hdr x1, cell_belowF hdr x2, cell_belowF hdr x3, cell_belowF hdr x4⟩) ?_
      unfold fkord
      have f0 := cell_belowF hdr f0
      have f1 := cell_belowF hdr f1
      have f2 := cell_belowF hdr f2
      have f3 := cell_belowF hdr f3
      have f4 := cell_belowF hdr f4
      have g0 := cell_belowF hdr g0
      have g1 := cell_belowF hdr g1
      have g2 := cell_belowF hdr g2
      have g3 := cell_belowF hdr g3
      have g4 := cell_belowF hdr g4
      have x0 := cell_belowF hdr x0
      have x1 := cell_belowF hdr x1
      have x2 := cell_belowF hdr x2
      have x3 := cell_belowF hdr x3
      have x4 := cell_belowF hdr x4
      have hB := hB.trans (hdr.mono hB.size)
      clear hdr
      refine Lex.step_call fk0 rfl (Lex.want_none rfl) (fun K hK => ?_)
      go_simp
      refine (awake_any _ (HT.out.below hB)).mono ?_
      rintro e y1 ⟨rfl, hv⟩
      have f0 := cell_belowF hv f0
      have f1 := cell_belowF hv f1
      have f2 := cell_belowF hv f2
      have f3 := cell_belowF hv f3
      have f4 := cell_belowF hv f4
      have g0 := cell_belowF hv g0
      have g1 := cell_belowF hv g1
      have g2 := cell_belowF hv g2
      have g3 := cell_belowF hv g3
      have g4 := cell_belowF hv g4
      have x0 := cell_belowF hv x0
      have x1 := cell_belowF hv x1
      have x2 := cell_belowF hv x2
      have x3 := cell_belowF hv x3
      have x4 := cell_belowF hv x4
      have hB := hB.trans (hv.mono hB.size)
      clear hv
      refine hK.out _ _ _ (fun _ h => h) ⟨f0, f1, f2, f3, f4, g0, g1, g2, g3, g4, x0, x1, x2, x3, x4⟩ ?_
      clear hK K
      try simp only [Act.put, List.setIfInBounds_toArray, List.set_cons_zero, List.set_cons_succ]
      refine Lex.step_take (.bool true) fk1 rfl (Lex.want_none rfl) (by intro Wx hSw; (try dsimp only at hSw); go_simp; (try (first | (with_reducible rfl) | assumption | rfl))) ?_
      simp only [Act.put, List.setIfInBounds_toArray, List.set_cons_zero, List.set_cons_succ]
      refine Lex.step_take (.agg #[.int .i64 fe, .int .i64 fi, .bool false, .int .i64 fp, .string gd]) fk2 rfl (Lex.want_some rfl fk1 rfl (b' := true) rfl rfl) (by intro Wx hSw; (try dsimp only at hSw); go_simp; (try (first | (with_reducible rfl) | assumption | rfl))) ?_
      simp only [Act.put, List.setIfInBounds_toArray, List.set_cons_zero, List.set_cons_succ]
      refine Lex.step_call fk3 rfl (Lex.want_some rfl fk1 rfl (b' := true) rfl rfl) (fun K hK => ?_)
      go_simp
      refine (HP.out.1 _).mono ?_
      rintro e y2 ⟨rfl, hv⟩
      have f0 := cell_belowF hv f0
      have f1 := cell_belowF hv f1
      have f2 := cell_belowF hv f2
      have f3 := cell_belowF hv f3
      have f4 := cell_belowF hv f4
      have g0 := cell_belowF hv g0
      have g1 := cell_belowF hv g1
      have g2 := cell_belowF hv g2
      have g3 := cell_belowF hv g3
      have g4 := cell_belowF hv g4
      have x0 := cell_belowF hv x0
      have x1 := cell_belowF hv x1
      have x2 := cell_belowF hv x2
      have x3 := cell_belowF hv x3
      have x4 := cell_belowF hv x4
      have hB := hB.trans (hv.mono hB.size)
      clear hv
      refine hK.out _ _ _ (fun _ h => h) ⟨f0, f1, f2, f3, f4, g0, g1, g2, g3, g4, x0, x1, x2, x3, x4⟩ ?_
      clear hK K
      try simp only [Act.put, List.setIfInBounds_toArray, List.set_cons_zero, List.set_cons_succ]
      refine Lex.step_take (.bool true) fk4 rfl (Lex.want_none rfl) (by intro Wx hSw; (try dsimp only at hSw); go_simp; (try (first | (with_reducible rfl) | assumption | rfl))) ?_
      simp only [Act.put, List.setIfInBounds_toArray, List.set_cons_zero, List.set_cons_succ]
      refine Lex.step_take (.bool true) fk5 rfl (Lex.want_none rfl) (by intro Wx hSw; (try dsimp only at hSw); go_simp; (try (first | (with_reducible rfl) | assumption | rfl))) ?_
      simp only [Act.put, List.setIfInBounds_toArray, List.set_cons_zero, List.set_cons_succ]
      refine Lex.step_take (.agg #[.int .i64 fe, .int .i64 fi, .bool true, .int .i64 fp, .string fd]) fk6 rfl (Lex.want_some rfl fk5 rfl (b' := true) rfl rfl) (by intro Wx hSw; (try dsimp only at hSw); go_simp; (try (first | (with_reducible rfl) | assumption | rfl))) ?_
      simp only [Act.put, List.setIfInBounds_toArray, List.set_cons_zero, List.set_cons_succ]
      refine Lex.step_take (.agg #[.int .i64 fe, .int .i64 fi, .bool false, .int .i64 fp, .string gd]) fk8 rfl (Lex.want_some rfl fk5 rfl (b' := true) rfl rfl) (by intro Wx hSw; (try dsimp only at hSw); go_simp; (try (first | (with_reducible rfl) | assumption | rfl))) ?_
      simp only [Act.put, List.setIfInBounds_toArray, List.set_cons_zero, List.set_cons_succ]
      refine Lex.step_call fk7 rfl (Lex.want_some rfl fk5 rfl (b' := true) rfl rfl) (fun K hK => ?_)
      go_simp
      refine (HP.out.2.1 _ (HT.out.below hB)).mono ?_
      rintro e y3 ⟨rfl, hv⟩
      have f0 := cell_belowF hv f0
      have f1 := cell_belowF hv f1
      have f2 := cell_belowF hv f2
      have f3 := cell_belowF hv f3
      have f4 := cell_belowF hv f4
      have g0 := cell_belowF hv g0
      have g1 := cell_belowF hv g1
      have g2 := cell_belowF hv g2
      have g3 := cell_belowF hv g3
      have g4 := cell_belowF hv g4
      have x0 := cell_belowF hv x0
      have x1 := cell_belowF hv x1
      have x2 := cell_belowF hv x2
      have x3 := cell_belowF hv x3
      have x4 := cell_belowF hv x4
      have hB := hB.trans (hv.mono hB.size)
      clear hv
      refine hK.out _ _ _ (fun _ h => h) ⟨f0, f1, f2, f3, f4, g0, g1, g2, g3, g4, x0, x1, x2, x3, x4⟩ ?_
      clear hK K
      try simp only [Act.put, List.setIfInBounds_toArray, List.set_cons_zero, List.set_cons_succ]
      refine Lex.step_call fk9 rfl (Lex.want_some rfl fk5 rfl (b' := true) rfl rfl) (fun K hK => ?_)
      go_simp
      refine (HP.out.2.2 _ (HT.out.below hB)).mono ?_
      rintro e y4 ⟨rfl, hv⟩
      have f0 := cell_belowF hv f0
      have f1 := cell_belowF hv f1
      have f2 := cell_belowF hv f2
      have f3 := cell_belowF hv f3
      have f4 := cell_belowF hv f4
      have g0 := cell_belowF hv g0
      have g1 := cell_belowF hv g1
      have g2 := cell_belowF hv g2
      have g3 := cell_belowF hv g3
      have g4 := cell_belowF hv g4
      have x0 := cell_belowF hv x0
      have x1 := cell_belowF hv x1
      have x2 := cell_belowF hv x2
      have x3 := cell_belowF hv x3
      have x4 := cell_belowF hv x4
      have hB := hB.trans (hv.mono hB.size)
      clear hv
      refine hK.out _ _ _ (fun _ h => h) ⟨f0, f1, f2, f3, f4, g0, g1, g2, g3, g4, x0, x1, x2, x3, x4⟩ ?_
      clear hK K
      try simp only [Act.put, List.setIfInBounds_toArray, List.set_cons_zero, List.set_cons_succ]
      refine Lex.step_take (.bool true) fk10 rfl (Lex.want_some rfl fk5 rfl (b' := true) rfl rfl) (by intro Wx hSw; (try dsimp only at hSw); go_simp; (try (first | (with_reducible rfl) | assumption | rfl))) ?_
      simp only [Act.put, List.setIfInBounds_toArray, List.set_cons_zero, List.set_cons_succ]
      refine Lex.step_take (.bool true) fk11 rfl (Lex.want_none rfl) (by intro Wx hSw; (try dsimp only at hSw); go_simp; (try (first | (with_reducible rfl) | assumption | rfl))) ?_
      simp only [Act.put, List.setIfInBounds_toArray, List.set_cons_zero, List.set_cons_succ]
      refine Lex.step_take (.bool true) fk12 rfl (Lex.want_none rfl) (by intro Wx hSw; (try dsimp only at hSw); go_simp; (try (first | (with_reducible rfl) | assumption | rfl))) ?_
      simp only [Act.put, List.setIfInBounds_toArray, List.set_cons_zero, List.set_cons_succ]
      refine Lex.step_take (.bool false) fk13 rfl (Lex.want_some rfl fk12 rfl (b' := true) rfl rfl) (by intro Wx hSw; (try dsimp only at hSw); go_simp; (try (first | (with_reducible rfl) | assumption | rfl))) ?_
      simp only [Act.put, List.setIfInBounds_toArray, List.set_cons_zero, List.set_cons_succ]
      refine Lex.step_take (.bool true) fk14 rfl (Lex.want_some rfl fk12 rfl (b' := true) rfl rfl) (by intro Wx hSw; (try dsimp only at hSw); go_simp; (try (first | (with_reducible rfl) | assumption | rfl))) ?_
      simp only [Act.put, List.setIfInBounds_toArray, List.set_cons_zero, List.set_cons_succ]
      refine Lex.step_take (.bool true) fk15 rfl (Lex.want_some rfl fk12 rfl (b' := true) rfl rfl) (by intro Wx hSw; (try dsimp only at hSw); go_simp; (try (first | (with_reducible rfl) | assumption | rfl))) ?_
      simp only [Act.put, List.setIfInBounds_toArray, List.set_cons_zero, List.set_cons_succ]
      refine Lex.step_skip fk16 (Lex.want_some rfl fk15 rfl (b' := true) rfl rfl) ?_
      simp only [Act.put, List.setIfInBounds_toArray, List.set_cons_zero, List.set_cons_succ]
      refine Lex.step_skip fk17 (Lex.want_some rfl fk15 rfl (b' := true) rfl rfl) ?_
      simp only [Act.put, List.setIfInBounds_toArray, List.set_cons_zero, List.set_cons_succ]
      refine Lex.step_skip fk18 (Lex.want_some rfl fk15 rfl (b' := true) rfl rfl) ?_
      simp only [Act.put, List.setIfInBounds_toArray, List.set_cons_zero, List.set_cons_succ]
      refine Lex.step_skip fk19 (Lex.want_some rfl fk15 rfl (b' := true) rfl rfl) ?_
      simp only [Act.put, List.setIfInBounds_toArray, List.set_cons_zero, List.set_cons_succ]
      refine Lex.step_skip fk20 (Lex.want_undef rfl fk19 rfl rfl) ?_
      simp only [Act.put, List.setIfInBounds_toArray, List.set_cons_zero, List.set_cons_succ]
      refine Lex.step_skip fk21 (Lex.want_undef rfl fk19 rfl rfl) ?_
      simp only [Act.put, List.setIfInBounds_toArray, List.set_cons_zero, List.set_cons_succ]
      refine Lex.step_skip fk22 (Lex.want_some rfl fk15 rfl (b' := true) rfl rfl) ?_
      simp only [Act.put, List.setIfInBounds_toArray, List.set_cons_zero, List.set_cons_succ]
      refine Lex.step_skip fk23 (Lex.want_some rfl fk15 rfl (b' := true) rfl rfl) ?_
      simp only [Act.put, List.setIfInBounds_toArray, List.set_cons_zero, List.set_cons_succ]
      refine Lex.step_skip fk24 (Lex.want_undef rfl fk23 rfl rfl) ?_
      simp only [Act.put, List.setIfInBounds_toArray, List.set_cons_zero, List.set_cons_succ]
      refine Lex.step_skip fk26 (Lex.want_undef rfl fk23 rfl rfl) ?_
      simp only [Act.put, List.setIfInBounds_toArray, List.set_cons_zero, List.set_cons_succ]
      refine Lex.step_skip fk25 (Lex.want_undef rfl fk23 rfl rfl) ?_
      simp only [Act.put, List.setIfInBounds_toArray, List.set_cons_zero, List.set_cons_succ]
      refine Lex.step_skip fk27 (Lex.want_undef rfl fk23 rfl rfl) ?_
      simp only [Act.put, List.setIfInBounds_toArray, List.set_cons_zero, List.set_cons_succ]
      refine Lex.step_skip fk28 (Lex.want_some rfl fk15 rfl (b' := true) rfl rfl) ?_
      simp only [Act.put, List.setIfInBounds_toArray, List.set_cons_zero, List.set_cons_succ]
      refine Lex.step_take (.bool true) fk29 rfl (Lex.want_some rfl fk12 rfl (b' := true) rfl rfl) (by intro Wx hSw; (try dsimp only at hSw); go_simp; (try (first | (with_reducible rfl) | assumption | rfl))) ?_
      simp only [Act.put, List.setIfInBounds_toArray, List.set_cons_zero, List.set_cons_succ]
      refine Lex.step_take (.bool true) fk30 rfl (Lex.want_none rfl) (by intro Wx hSw; (try dsimp only at hSw); go_simp; (try (first | (with_reducible rfl) | assumption | rfl))) ?_
      simp only [Act.put, List.setIfInBounds_toArray, List.set_cons_zero, List.set_cons_succ]
      refine Lex.step_take (.bool true) fk31 rfl (Lex.want_none rfl) (by intro Wx hSw; (try dsimp only at hSw); go_simp; (try (first | (with_reducible rfl) | assumption | rfl))) ?_
      simp only [Act.put, List.setIfInBounds_toArray, List.set_cons_zero, List.set_cons_succ]
      refine NoPanic.normal ?_
      have HB := Lib.hid hB
      clear hB f0 f1 f2 f3 f4 g0 g1 g2 g3 g4 x0 x1 x2 x3 x4
      go_wp2
      go_ret
      exact ⟨rfl, HB.out⟩
    | some pf =>
      rw [hp] at hqs
      obtain ⟨q1, q2⟩ := parse_iff.1 hp
      have hss : s.size = 256 := by rw [q2]; exact frameB_size q1.small
      have hqr : ∀ W, Calls Tryd.prog 14 #[.agg (cellsF pf)] W fun e w' => e = .returned (.bool true) ∧ Below W.heap.size W w' := fun W => (right_any pf W).mono (by
        rintro e w' ⟨b', rfl, hb, hv⟩
        exact ⟨by rw [hb.2 q1], hv⟩)
      have hqp := fun W (ht : Tab W) => print_any pf W ht q1
      rw [← q2] at hqp
      clear hp q1 q2
      obtain ⟨pe, pi, pc, pp, pd⟩ := pf
      have hqs : ∀ W, Tab W → Calls Tryd.prog 15 #[.string s] W fun e w' => e = .returned (.tuple #[.agg #[.int .i64 pe, .int .i64 pi, .bool pc, .int .i64 pp, .string pd], .bool true]) ∧ Below W.heap.size W w' := hqs
      unfold cellsF at hqr hqp
      simp only at hqr hqp
      have HQ := Lib.hid (And.intro hqr hqp)
      clear hqr hqp
      have s1 : (s.size : Int) = 256 := by rw [hss]; rfl
      have s2 : ((s.size : Int) == 256) = true := by rw [hss]; rfl
      have s3 : (s.toList == s.toList) = true := beq_self_eq_true _
      go_wp2_with fail
      refine (hqs _ (HT.out.below hB)).mono ?_
      rintro e w6 ⟨rfl, hv⟩
      have hf := hf.below hv hf.lt
      have hg := hg.below hv hg.lt
      have hB := hB.trans (hv.mono hB.size)
      clear hv hqs
      go_wp2_with fail
      have hn : Below w6.heap.size w6 (w6.alloc (.cells #[.int .i64 pe, .int .i64 pi, .bool pc, .int .i64 pp, .string pd] 36)) := (Below.refl w6.heap.size w6).alloc (Nat.le_refl _) _
      have hx : BoxF (w6.alloc (.cells #[.int .i64 pe, .int .i64 pi, .bool pc, .int .i64 pp, .string pd] 36)) w6.heap.size ⟨pe, pi, pc, pp, pd⟩ := BoxF.new w6 ⟨pe, pi, pc, pp, pd⟩ 36
      have hf := hf.below hn hf.lt
      have hg := hg.below hn hg.lt
      have hB := hB.trans (hn.mono hB.size)
      clear hn
      generalize w6.alloc (.cells #[.int .i64 pe, .int .i64 pi, .bool pc, .int .i64 pp, .string pd] 36) = w7 at hf hg hx hB ⊢
      generalize w6.heap.size = gx at hx ⊢
      have f0 := hf.c0
      have f1 := hf.c1
      have f2 := hf.c2
      have f3 := hf.c3
      have f4 := hf.c4
      have g0 := hg.c0
      have g1 := hg.c1
      have g2 := hg.c2
      have g3 := hg.c3
      have g4 := hg.c4
      have x0 := hx.c0
      have x1 := hx.c1
      have x2 := hx.c2
      have x3 := hx.c3
      have x4 := hx.c4
      simp only at f0 f1 f2 f3 f4 g0 g1 g2 g3 g4 x0 x1 x2 x3 x4
      clear hf hg hx
      have hdr := (Below.refl w7.heap.size w7).drew
      refine Lex.region_lex (ops := fkops) (calls := fkcalls) fkord (fun W => W.cell? ⟨gf, 0, none⟩ = some (.int .i64 fe) ∧ W.cell? ⟨gf, 1, none⟩ = some (.int .i64 fi) ∧ W.cell? ⟨gf, 2, none⟩ = some (.bool true) ∧ W.cell? ⟨gf, 3, none⟩ = some (.int .i64 fp) ∧ W.cell? ⟨gf, 4, none⟩ = some (.string fd) ∧ W.cell? ⟨gg, 0, none⟩ = some (.int .i64 fe) ∧ W.cell? ⟨gg, 1, none⟩ = some (.int .i64 fi) ∧ W.cell? ⟨gg, 2, none⟩ = some (.bool false) ∧ W.cell? ⟨gg, 3, none⟩ = some (.int .i64 fp) ∧ W.cell? ⟨gg, 4, none⟩ = some (.string gd) ∧ W.cell? ⟨gx, 0, none⟩ = some (.int .i64 pe) ∧ W.cell? ⟨gx, 1, none⟩ = some (.int .i64 pi) ∧ W.cell? ⟨gx, 2, none⟩ = some (.bool pc) ∧ W.cell? ⟨gx, 3, none⟩ = some (.int .i64 pp) ∧ W.cell? ⟨gx, 4, none⟩ = some (.string pd)) (by kernel_rfl) (by kernel_rfl) fksel (by kernel_rfl) (by kernel_rfl) fklex (⟨cell_belowF hdr f0, cell_belowF hdr f1, cell_belowF hdr f2, cell_belowF hdr f3, cell_belowF hdr f4, cell_belowF hdr g0, cell_belowF hdr g1, cell_belowF hdr g2, cell_belowF hdr g3, cell_belowF hdr g4, cell_belowF hdr x0, cell_belowF hdr x1, cell_belowF hdr x2, cell_belowF hdr x3, cell_belowF hdr x4⟩) ?_
      unfold fkord
      have f0 := cell_belowF hdr f0
      have f1 := cell_belowF hdr f1
      have f2 := cell_belowF hdr f2
      have f3 := cell_belowF hdr f3
      have f4 := cell_belowF hdr f4
      have g0 := cell_belowF hdr g0
      have g1 := cell_belowF hdr g1
      have g2 := cell_belowF hdr g2
      have g3 := cell_belowF hdr g3
      have g4 := cell_belowF hdr g4
      have x0 := cell_belowF hdr x0
      have x1 := cell_belowF hdr x1
      have x2 := cell_belowF hdr x2
      have x3 := cell_belowF hdr x3
      have x4 := cell_belowF hdr x4
      have hB := hB.trans (hdr.mono hB.size)
      clear hdr
      refine Lex.step_call fk0 rfl (Lex.want_none rfl) (fun K hK => ?_)
      go_simp
      refine (awake_any _ (HT.out.below hB)).mono ?_
      rintro e y1 ⟨rfl, hv⟩
      have f0 := cell_belowF hv f0
      have f1 := cell_belowF hv f1
      have f2 := cell_belowF hv f2
      have f3 := cell_belowF hv f3
      have f4 := cell_belowF hv f4
      have g0 := cell_belowF hv g0
      have g1 := cell_belowF hv g1
      have g2 := cell_belowF hv g2
      have g3 := cell_belowF hv g3
      have g4 := cell_belowF hv g4
      have x0 := cell_belowF hv x0
      have x1 := cell_belowF hv x1
      have x2 := cell_belowF hv x2
      have x3 := cell_belowF hv x3
      have x4 := cell_belowF hv x4
      have hB := hB.trans (hv.mono hB.size)
      clear hv
      refine hK.out _ _ _ (fun _ h => h) ⟨f0, f1, f2, f3, f4, g0, g1, g2, g3, g4, x0, x1, x2, x3, x4⟩ ?_
      clear hK K
      try simp only [Act.put, List.setIfInBounds_toArray, List.set_cons_zero, List.set_cons_succ]
      refine Lex.step_take (.bool true) fk1 rfl (Lex.want_none rfl) (by intro Wx hSw; (try dsimp only at hSw); go_simp; (try (first | (with_reducible rfl) | assumption | rfl))) ?_
      simp only [Act.put, List.setIfInBounds_toArray, List.set_cons_zero, List.set_cons_succ]
      refine Lex.step_take (.agg #[.int .i64 fe, .int .i64 fi, .bool false, .int .i64 fp, .string gd]) fk2 rfl (Lex.want_some rfl fk1 rfl (b' := true) rfl rfl) (by intro Wx hSw; (try dsimp only at hSw); go_simp; (try (first | (with_reducible rfl) | assumption | rfl))) ?_
      simp only [Act.put, List.setIfInBounds_toArray, List.set_cons_zero, List.set_cons_succ]
      refine Lex.step_call fk3 rfl (Lex.want_some rfl fk1 rfl (b' := true) rfl rfl) (fun K hK => ?_)
      go_simp
      refine (HP.out.1 _).mono ?_
      rintro e y2 ⟨rfl, hv⟩
      have f0 := cell_belowF hv f0
      have f1 := cell_belowF hv f1
      have f2 := cell_belowF hv f2
      have f3 := cell_belowF hv f3
      have f4 := cell_belowF hv f4
      have g0 := cell_belowF hv g0
      have g1 := cell_belowF hv g1
      have g2 := cell_belowF hv g2
      have g3 := cell_belowF hv g3
      have g4 := cell_belowF hv g4
      have x0 := cell_belowF hv x0
      have x1 := cell_belowF hv x1
      have x2 := cell_belowF hv x2
      have x3 := cell_belowF hv x3
      have x4 := cell_belowF hv x4
      have hB := hB.trans (hv.mono hB.size)
      clear hv
      refine hK.out _ _ _ (fun _ h => h) ⟨f0, f1, f2, f3, f4, g0, g1, g2, g3, g4, x0, x1, x2, x3, x4⟩ ?_
      clear hK K
      try simp only [Act.put, List.setIfInBounds_toArray, List.set_cons_zero, List.set_cons_succ]
      refine Lex.step_take (.bool true) fk4 rfl (Lex.want_none rfl) (by intro Wx hSw; (try dsimp only at hSw); go_simp; (try (first | (with_reducible rfl) | assumption | rfl))) ?_
      simp only [Act.put, List.setIfInBounds_toArray, List.set_cons_zero, List.set_cons_succ]
      refine Lex.step_take (.bool true) fk5 rfl (Lex.want_none rfl) (by intro Wx hSw; (try dsimp only at hSw); go_simp; (try (first | (with_reducible rfl) | assumption | rfl))) ?_
      simp only [Act.put, List.setIfInBounds_toArray, List.set_cons_zero, List.set_cons_succ]
      refine Lex.step_take (.agg #[.int .i64 fe, .int .i64 fi, .bool true, .int .i64 fp, .string fd]) fk6 rfl (Lex.want_some rfl fk5 rfl (b' := true) rfl rfl) (by intro Wx hSw; (try dsimp only at hSw); go_simp; (try (first | (with_reducible rfl) | assumption | rfl))) ?_
      simp only [Act.put, List.setIfInBounds_toArray, List.set_cons_zero, List.set_cons_succ]
      refine Lex.step_take (.agg #[.int .i64 fe, .int .i64 fi, .bool false, .int .i64 fp, .string gd]) fk8 rfl (Lex.want_some rfl fk5 rfl (b' := true) rfl rfl) (by intro Wx hSw; (try dsimp only at hSw); go_simp; (try (first | (with_reducible rfl) | assumption | rfl))) ?_
      simp only [Act.put, List.setIfInBounds_toArray, List.set_cons_zero, List.set_cons_succ]
      refine Lex.step_call fk7 rfl (Lex.want_some rfl fk5 rfl (b' := true) rfl rfl) (fun K hK => ?_)
      go_simp
      refine (HP.out.2.1 _ (HT.out.below hB)).mono ?_
      rintro e y3 ⟨rfl, hv⟩
      have f0 := cell_belowF hv f0
      have f1 := cell_belowF hv f1
      have f2 := cell_belowF hv f2
      have f3 := cell_belowF hv f3
      have f4 := cell_belowF hv f4
      have g0 := cell_belowF hv g0
      have g1 := cell_belowF hv g1
      have g2 := cell_belowF hv g2
      have g3 := cell_belowF hv g3
      have g4 := cell_belowF hv g4
      have x0 := cell_belowF hv x0
      have x1 := cell_belowF hv x1
      have x2 := cell_belowF hv x2
      have x3 := cell_belowF hv x3
      have x4 := cell_belowF hv x4
      have hB := hB.trans (hv.mono hB.size)
      clear hv
      refine hK.out _ _ _ (fun _ h => h) ⟨f0, f1, f2, f3, f4, g0, g1, g2, g3, g4, x0, x1, x2, x3, x4⟩ ?_
      clear hK K
      try simp only [Act.put, List.setIfInBounds_toArray, List.set_cons_zero, List.set_cons_succ]
      refine Lex.step_call fk9 rfl (Lex.want_some rfl fk5 rfl (b' := true) rfl rfl) (fun K hK => ?_)
      go_simp
      refine (HP.out.2.2 _ (HT.out.below hB)).mono ?_
      rintro e y4 ⟨rfl, hv⟩
      have f0 := cell_belowF hv f0
      have f1 := cell_belowF hv f1
      have f2 := cell_belowF hv f2
      have f3 := cell_belowF hv f3
      have f4 := cell_belowF hv f4
      have g0 := cell_belowF hv g0
      have g1 := cell_belowF hv g1
      have g2 := cell_belowF hv g2
      have g3 := cell_belowF hv g3
      have g4 := cell_belowF hv g4
      have x0 := cell_belowF hv x0
      have x1 := cell_belowF hv x1
      have x2 := cell_belowF hv x2
      have x3 := cell_belowF hv x3
      have x4 := cell_belowF hv x4
      have hB := hB.trans (hv.mono hB.size)
      clear hv
      refine hK.out _ _ _ (fun _ h => h) ⟨f0, f1, f2, f3, f4, g0, g1, g2, g3, g4, x0, x1, x2, x3, x4⟩ ?_
      clear hK K
      try simp only [Act.put, List.setIfInBounds_toArray, List.set_cons_zero, List.set_cons_succ]
      refine Lex.step_take (.bool true) fk10 rfl (Lex.want_some rfl fk5 rfl (b' := true) rfl rfl) (by intro Wx hSw; (try dsimp only at hSw); go_simp; (try (first | (with_reducible rfl) | assumption | rfl))) ?_
      simp only [Act.put, List.setIfInBounds_toArray, List.set_cons_zero, List.set_cons_succ]
      refine Lex.step_take (.bool true) fk11 rfl (Lex.want_none rfl) (by intro Wx hSw; (try dsimp only at hSw); go_simp; (try (first | (with_reducible rfl) | assumption | rfl))) ?_
      simp only [Act.put, List.setIfInBounds_toArray, List.set_cons_zero, List.set_cons_succ]
      refine Lex.step_take (.bool true) fk12 rfl (Lex.want_none rfl) (by intro Wx hSw; (try dsimp only at hSw); go_simp; (try (first | (with_reducible rfl) | assumption | rfl))) ?_
      simp only [Act.put, List.setIfInBounds_toArray, List.set_cons_zero, List.set_cons_succ]
      refine Lex.step_take (.bool true) fk13 rfl (Lex.want_some rfl fk12 rfl (b' := true) rfl rfl) (by intro Wx hSw; (try dsimp only at hSw); go_simp; (try (first | (with_reducible rfl) | assumption | rfl))) ?_
      simp only [Act.put, List.setIfInBounds_toArray, List.set_cons_zero, List.set_cons_succ]
      refine Lex.step_take (.bool false) fk14 rfl (Lex.want_some rfl fk12 rfl (b' := true) rfl rfl) (by intro Wx hSw; (try dsimp only at hSw); go_simp; (try (first | (with_reducible rfl) | assumption | rfl))) ?_
      simp only [Act.put, List.setIfInBounds_toArray, List.set_cons_zero, List.set_cons_succ]
      refine Lex.step_take (.bool false) fk15 rfl (Lex.want_some rfl fk12 rfl (b' := true) rfl rfl) (by intro Wx hSw; (try dsimp only at hSw); go_simp; (try (first | (with_reducible rfl) | assumption | rfl))) ?_
      simp only [Act.put, List.setIfInBounds_toArray, List.set_cons_zero, List.set_cons_succ]
      refine Lex.step_take (.string s) fk16 rfl (Lex.want_some rfl fk15 rfl (b' := false) rfl rfl) (by intro Wx hSw; (try dsimp only at hSw); go_simp; (try (first | (with_reducible rfl) | assumption | rfl))) ?_
      simp only [Act.put, List.setIfInBounds_toArray, List.set_cons_zero, List.set_cons_succ]
      refine Lex.step_take (.int .i64 256) fk17 rfl (Lex.want_some rfl fk15 rfl (b' := false) rfl rfl) (by intro Wx hSw; (try dsimp only at hSw); go_simp; (try (first | (with_reducible rfl) | assumption | rfl))) ?_
      simp only [Act.put, List.setIfInBounds_toArray, List.set_cons_zero, List.set_cons_succ]
      refine Lex.step_take (.bool true) fk18 rfl (Lex.want_some rfl fk15 rfl (b' := false) rfl rfl) (by intro Wx hSw; (try dsimp only at hSw); go_simp; (try (first | (with_reducible rfl) | assumption | rfl))) ?_
      simp only [Act.put, List.setIfInBounds_toArray, List.set_cons_zero, List.set_cons_succ]
      refine Lex.step_take (.bool true) fk19 rfl (Lex.want_some rfl fk15 rfl (b' := false) rfl rfl) (by intro Wx hSw; (try dsimp only at hSw); go_simp; (try (first | (with_reducible rfl) | assumption | rfl))) ?_
      simp only [Act.put, List.setIfInBounds_toArray, List.set_cons_zero, List.set_cons_succ]
      refine Lex.step_take (.agg #[.int .i64 pe, .int .i64 pi, .bool pc, .int .i64 pp, .string pd]) fk20 rfl (Lex.want_some rfl fk19 rfl (b' := true) rfl rfl) (by intro Wx hSw; (try dsimp only at hSw); go_simp; (try (first | (with_reducible rfl) | assumption | rfl))) ?_
      simp only [Act.put, List.setIfInBounds_toArray, List.set_cons_zero, List.set_cons_succ]
      refine Lex.step_call fk21 rfl (Lex.want_some rfl fk19 rfl (b' := true) rfl rfl) (fun K hK => ?_)
      go_simp
      refine (HQ.out.1 _).mono ?_
      rintro e y5 ⟨rfl, hv⟩
      have f0 := cell_belowF hv f0
      have f1 := cell_belowF hv f1
      have f2 := cell_belowF hv f2
      have f3 := cell_belowF hv f3
      have f4 := cell_belowF hv f4
      have g0 := cell_belowF hv g0
      have g1 := cell_belowF hv g1
      have g2 := cell_belowF hv g2
      have g3 := cell_belowF hv g3
      have g4 := cell_belowF hv g4
      have x0 := cell_belowF hv x0
      have x1 := cell_belowF hv x1
      have x2 := cell_belowF hv x2
      have x3 := cell_belowF hv x3
      have x4 := cell_belowF hv x4
      have hB := hB.trans (hv.mono hB.size)
      clear hv
      refine hK.out _ _ _ (fun _ h => h) ⟨f0, f1, f2, f3, f4, g0, g1, g2, g3, g4, x0, x1, x2, x3, x4⟩ ?_
      clear hK K
      try simp only [Act.put, List.setIfInBounds_toArray, List.set_cons_zero, List.set_cons_succ]
      refine Lex.step_take (.bool true) fk22 rfl (Lex.want_some rfl fk15 rfl (b' := false) rfl rfl) (by intro Wx hSw; (try dsimp only at hSw); go_simp; (try (first | (with_reducible rfl) | assumption | rfl))) ?_
      simp only [Act.put, List.setIfInBounds_toArray, List.set_cons_zero, List.set_cons_succ]
      refine Lex.step_take (.bool true) fk23 rfl (Lex.want_some rfl fk15 rfl (b' := false) rfl rfl) (by intro Wx hSw; (try dsimp only at hSw); go_simp; (try (first | (with_reducible rfl) | assumption | rfl))) ?_
      simp only [Act.put, List.setIfInBounds_toArray, List.set_cons_zero, List.set_cons_succ]
      refine Lex.step_take (.agg #[.int .i64 pe, .int .i64 pi, .bool pc, .int .i64 pp, .string pd]) fk24 rfl (Lex.want_some rfl fk23 rfl (b' := true) rfl rfl) (by intro Wx hSw; (try dsimp only at hSw); go_simp; (try (first | (with_reducible rfl) | assumption | rfl))) ?_
      simp only [Act.put, List.setIfInBounds_toArray, List.set_cons_zero, List.set_cons_succ]
      refine Lex.step_take (.string s) fk26 rfl (Lex.want_some rfl fk23 rfl (b' := true) rfl rfl) (by intro Wx hSw; (try dsimp only at hSw); go_simp; (try (first | (with_reducible rfl) | assumption | rfl))) ?_
      simp only [Act.put, List.setIfInBounds_toArray, List.set_cons_zero, List.set_cons_succ]
      refine Lex.step_call fk25 rfl (Lex.want_some rfl fk23 rfl (b' := true) rfl rfl) (fun K hK => ?_)
      go_simp
      refine (HQ.out.2 _ (HT.out.below hB)).mono ?_
      rintro e y6 ⟨rfl, hv⟩
      have f0 := cell_belowF hv f0
      have f1 := cell_belowF hv f1
      have f2 := cell_belowF hv f2
      have f3 := cell_belowF hv f3
      have f4 := cell_belowF hv f4
      have g0 := cell_belowF hv g0
      have g1 := cell_belowF hv g1
      have g2 := cell_belowF hv g2
      have g3 := cell_belowF hv g3
      have g4 := cell_belowF hv g4
      have x0 := cell_belowF hv x0
      have x1 := cell_belowF hv x1
      have x2 := cell_belowF hv x2
      have x3 := cell_belowF hv x3
      have x4 := cell_belowF hv x4
      have hB := hB.trans (hv.mono hB.size)
      clear hv
      refine hK.out _ _ _ (fun _ h => h) ⟨f0, f1, f2, f3, f4, g0, g1, g2, g3, g4, x0, x1, x2, x3, x4⟩ ?_
      clear hK K
      try simp only [Act.put, List.setIfInBounds_toArray, List.set_cons_zero, List.set_cons_succ]
      refine Lex.step_take (.bool true) fk27 rfl (Lex.want_some rfl fk23 rfl (b' := true) rfl rfl) (by intro Wx hSw; (try dsimp only at hSw); go_simp; (try (first | (with_reducible rfl) | assumption | rfl))) ?_
      simp only [Act.put, List.setIfInBounds_toArray, List.set_cons_zero, List.set_cons_succ]
      refine Lex.step_take (.bool true) fk28 rfl (Lex.want_some rfl fk15 rfl (b' := false) rfl rfl) (by intro Wx hSw; (try dsimp only at hSw); go_simp; (try (first | (with_reducible rfl) | assumption | rfl))) ?_
      simp only [Act.put, List.setIfInBounds_toArray, List.set_cons_zero, List.set_cons_succ]
      refine Lex.step_take (.bool true) fk29 rfl (Lex.want_some rfl fk12 rfl (b' := true) rfl rfl) (by intro Wx hSw; (try dsimp only at hSw); go_simp; (try (first | (with_reducible rfl) | assumption | rfl))) ?_
      simp only [Act.put, List.setIfInBounds_toArray, List.set_cons_zero, List.set_cons_succ]
      refine Lex.step_take (.bool true) fk30 rfl (Lex.want_none rfl) (by intro Wx hSw; (try dsimp only at hSw); go_simp; (try (first | (with_reducible rfl) | assumption | rfl))) ?_
      simp only [Act.put, List.setIfInBounds_toArray, List.set_cons_zero, List.set_cons_succ]
      refine Lex.step_take (.bool true) fk31 rfl (Lex.want_none rfl) (by intro Wx hSw; (try dsimp only at hSw); go_simp; (try (first | (with_reducible rfl) | assumption | rfl))) ?_
      simp only [Act.put, List.setIfInBounds_toArray, List.set_cons_zero, List.set_cons_succ]
      refine NoPanic.normal ?_
      have HB := Lib.hid hB
      clear hB f0 f1 f2 f3 f4 g0 g1 g2 g3 g4 x0 x1 x2 x3 x4
      go_wp2
      go_ret
      exact ⟨rfl, HB.out⟩
end Go.Proofs.YtiacdpfodhggmaaDoor.Fr
