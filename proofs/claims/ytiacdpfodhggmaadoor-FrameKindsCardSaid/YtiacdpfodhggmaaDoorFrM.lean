/- Frames: the program's Print at 4d08357, walked. -/
import Derived.Test.YtiacdpfodhggmaaDoorFrL
import Derived.Test.YtiacdpfodhggmaaDoorXfp
namespace Go.Proofs.YtiacdpfodhggmaaDoor.Fr
open Go.RowKit Tal Lf Lex
set_option maxRecDepth 20000 in
set_option maxHeartbeats 3200000 in
theorem print_any (f : F) (w : World) (ht : Tab w) (h : RightF f) :
    Calls Tryd.prog 18 #[.agg (cellsF f)] w fun e w' => e = .returned (.string (frameB f)) ∧ Below w.heap.size w w' := by
  have HT := Lib.hid ht
  clear ht
  have hB := (Below.refl w.heap.size w).alloc (Nat.le_refl _) (.cells (cellsF f) 36)
  have hf := BoxF.new w f 36
  obtain ⟨g, hg⟩ : ∃ g, w.heap.size = g := ⟨_, rfl⟩
  rw [hg] at hf
  generalize hwa : w.alloc (.cells (cellsF f) 36) = wa at hB hf
  obtain ⟨fe, fi, fc, fp, fd⟩ := f
  have q0 := h.e0
  have q1 := h.e1
  have q2 := h.i0
  have q3 := h.i1
  have q4 := h.p0
  have q5 := h.p1
  have hds := h.small
  clear h
  simp only at q0 q1 q2 q3 q4 q5 hds
  obtain ⟨en, rfl⟩ : ∃ n : Nat, fe = n := ⟨fe.toNat, by omega⟩
  obtain ⟨ix, rfl⟩ : ∃ n : Nat, fi = n := ⟨fi.toNat, by omega⟩
  obtain ⟨pn, rfl⟩ : ∃ n : Nat, fp = n := ⟨fp.toNat, by omega⟩
  obtain ⟨sx, hsx⟩ : ∃ x, frameB ⟨en, ix, fc, pn, fd⟩ = x := ⟨_, rfl⟩
  rw [hsx]
  have r0 := fun W => hasRoom_any en W (by omega) (by omega)
  have r1 := fun W => hasRoom_any ix W (by omega) (by omega)
  have r2 := fun W => hasRoom_any pn W (by omega) (by omega)
  have hM := fun W => markOf_any fc W
  have hE := fun W => fprinted_any en W (by omega)
  have hI := fun W => fprinted_any ix W (by omega)
  have hP := fun W => fprinted_any pn W (by omega)
  have hS := fun W (ht : Tab W) => sealed_any (hdF ⟨en, ix, fc, pn, fd⟩ ++ fd) 256 W ht (by decide) (by rw [ByteArray.size_append, hdF_size]; omega)
  rw [show sealed (hdF ⟨en, ix, fc, pn, fd⟩ ++ fd) (256 : Int).toNat = sx from hsx, show hdF ⟨en, ix, fc, pn, fd⟩ = markB fc ++ prt en ++ prt ix ++ prt pn from by unfold hdF; simp only [Int.toNat_natCast]; rfl] at hS
  have z0 : (markB fc).size = 4 := rfl
  have z1 : (markB fc ++ prt en).size = 8 := by rw [ByteArray.size_append, prt_size, z0]
  have z2 : (markB fc ++ prt en ++ prt ix).size = 12 := by rw [ByteArray.size_append, prt_size, z1]
  have z3 : (markB fc ++ prt en ++ prt ix ++ prt pn).size = 16 := by rw [ByteArray.size_append, prt_size, z2]
  have z5 := prt_size en
  have z6 := prt_size ix
  have z7 := prt_size pn
  have z8 : 16 + fd.size ≤ 9223372036854775807 := by omega
  generalize markB fc = mk at hM hS z0 z1 z2 z3
  generalize prt en = pe at hE hS z1 z2 z3 z5
  generalize prt ix = pi at hI hS z2 z3 z6
  generalize prt pn = pp at hP hS z3 z7
  have HS := Lib.hid hS
  clear hS hsx
  unfold cellsF at hwa ⊢
  simp only at hwa ⊢
  have f0 := hf.c0
  have f1 := hf.c1
  have f2 := hf.c2
  have f3 := hf.c3
  have f4 := hf.c4
  simp only at f0 f1 f2 f3 f4
  clear hf
  go_enter Tryd.func18, Tryd.ntmps18
  go_wp2_with fail
  clear hwa hg
  refine (r0 _).mono ?_
  rintro e w2 ⟨rfl, rfl⟩
  go_wp2_with fail
  refine (r1 _).mono ?_
  rintro e w3 ⟨rfl, rfl⟩
  go_wp2_with fail
  refine (r2 _).mono ?_
  rintro e w4 ⟨rfl, rfl⟩
  clear r0 r1 r2
  go_upto_region 3 with fail
  have hdr := (Below.refl w4.heap.size w4).drew
  refine Lex.region_lex (ops := fpops) (calls := fpcalls) fpord (fun W => W.cell? ⟨g, 0, none⟩ = some (.int .i64 (en : Int)) ∧ W.cell? ⟨g, 1, none⟩ = some (.int .i64 (ix : Int)) ∧ W.cell? ⟨g, 2, none⟩ = some (.bool fc) ∧ W.cell? ⟨g, 3, none⟩ = some (.int .i64 (pn : Int)) ∧ W.cell? ⟨g, 4, none⟩ = some (.string fd)) (by kernel_rfl) (by kernel_rfl) fpsel (by kernel_rfl) (by kernel_rfl) fplex (⟨cell_belowF hdr f0, cell_belowF hdr f1, cell_belowF hdr f2, cell_belowF hdr f3, cell_belowF hdr f4⟩) ?_
  unfold fpord
  have f0 := cell_belowF hdr f0
  have f1 := cell_belowF hdr f1
  have f2 := cell_belowF hdr f2
  have f3 := cell_belowF hdr f3
  have f4 := cell_belowF hdr f4
  have hB := hB.trans (hdr.mono hB.size)
  clear hdr
  refine Lex.step_take (.pointer (some ⟨g, 2, none⟩)) fp0 rfl (Lex.want_none rfl) (by intro Wx hSw; (try dsimp only at hSw); go_simp; (try (first | (with_reducible rfl) | assumption | rfl))) ?_
  simp only [Act.put, List.setIfInBounds_toArray, List.set_cons_zero, List.set_cons_succ]
  refine Lex.step_take (.bool fc) fp1 rfl (Lex.want_none rfl) (by intro Wx hSw; (try dsimp only at hSw); go_simp; (try (first | (with_reducible rfl) | assumption | rfl))) ?_
  simp only [Act.put, List.setIfInBounds_toArray, List.set_cons_zero, List.set_cons_succ]
  refine Lex.step_take (.pointer (some ⟨g, 0, none⟩)) fp3 rfl (Lex.want_none rfl) (by intro Wx hSw; (try dsimp only at hSw); go_simp; (try (first | (with_reducible rfl) | assumption | rfl))) ?_
  simp only [Act.put, List.setIfInBounds_toArray, List.set_cons_zero, List.set_cons_succ]
  refine Lex.step_take (.int .i64 (en : Int)) fp4 rfl (Lex.want_none rfl) (by intro Wx hSw; (try dsimp only at hSw); go_simp; (try (first | (with_reducible rfl) | assumption | rfl))) ?_
  simp only [Act.put, List.setIfInBounds_toArray, List.set_cons_zero, List.set_cons_succ]
  refine Lex.step_take (.pointer (some ⟨g, 1, none⟩)) fp7 rfl (Lex.want_none rfl) (by intro Wx hSw; (try dsimp only at hSw); go_simp; (try (first | (with_reducible rfl) | assumption | rfl))) ?_
  simp only [Act.put, List.setIfInBounds_toArray, List.set_cons_zero, List.set_cons_succ]
  refine Lex.step_take (.int .i64 (ix : Int)) fp8 rfl (Lex.want_none rfl) (by intro Wx hSw; (try dsimp only at hSw); go_simp; (try (first | (with_reducible rfl) | assumption | rfl))) ?_
  simp only [Act.put, List.setIfInBounds_toArray, List.set_cons_zero, List.set_cons_succ]
  refine Lex.step_take (.pointer (some ⟨g, 3, none⟩)) fp11 rfl (Lex.want_none rfl) (by intro Wx hSw; (try dsimp only at hSw); go_simp; (try (first | (with_reducible rfl) | assumption | rfl))) ?_
  simp only [Act.put, List.setIfInBounds_toArray, List.set_cons_zero, List.set_cons_succ]
  refine Lex.step_take (.int .i64 (pn : Int)) fp12 rfl (Lex.want_none rfl) (by intro Wx hSw; (try dsimp only at hSw); go_simp; (try (first | (with_reducible rfl) | assumption | rfl))) ?_
  simp only [Act.put, List.setIfInBounds_toArray, List.set_cons_zero, List.set_cons_succ]
  refine Lex.step_take (.pointer (some ⟨g, 4, none⟩)) fp15 rfl (Lex.want_none rfl) (by intro Wx hSw; (try dsimp only at hSw); go_simp; (try (first | (with_reducible rfl) | assumption | rfl))) ?_
  simp only [Act.put, List.setIfInBounds_toArray, List.set_cons_zero, List.set_cons_succ]
  refine Lex.step_take (.string fd) fp16 rfl (Lex.want_none rfl) (by intro Wx hSw; (try dsimp only at hSw); go_simp; (try (first | (with_reducible rfl) | assumption | rfl))) ?_
  simp only [Act.put, List.setIfInBounds_toArray, List.set_cons_zero, List.set_cons_succ]
  refine Lex.step_call fp2 rfl (Lex.want_none rfl) (fun K hK => ?_)
  go_simp
  refine (hM _).mono ?_
  rintro e y1 ⟨rfl, rfl⟩
  refine hK.out _ _ _ (fun _ h => h) ⟨f0, f1, f2, f3, f4⟩ ?_
  clear hK K
  try simp only [Act.put, List.setIfInBounds_toArray, List.set_cons_zero, List.set_cons_succ]
  refine Lex.step_call fp5 rfl (Lex.want_none rfl) (fun K hK => ?_)
  go_simp
  refine (hE _).mono ?_
  rintro e y2 ⟨rfl, hv⟩
  have f0 := cell_belowF hv f0
  have f1 := cell_belowF hv f1
  have f2 := cell_belowF hv f2
  have f3 := cell_belowF hv f3
  have f4 := cell_belowF hv f4
  have hB := hB.trans (hv.mono hB.size)
  clear hv
  refine hK.out _ _ _ (fun _ h => h) ⟨f0, f1, f2, f3, f4⟩ ?_
  clear hK K
  try simp only [Act.put, List.setIfInBounds_toArray, List.set_cons_zero, List.set_cons_succ]
  refine Lex.step_take (.string (mk ++ pe)) fp6 rfl (Lex.want_none rfl) (by intro Wx hSw; (try dsimp only at hSw); go_simp; (try (first | (with_reducible rfl) | assumption | rfl))) ?_
  simp only [Act.put, List.setIfInBounds_toArray, List.set_cons_zero, List.set_cons_succ]
  refine Lex.step_call fp9 rfl (Lex.want_none rfl) (fun K hK => ?_)
  go_simp
  refine (hI _).mono ?_
  rintro e y3 ⟨rfl, hv⟩
  have f0 := cell_belowF hv f0
  have f1 := cell_belowF hv f1
  have f2 := cell_belowF hv f2
  have f3 := cell_belowF hv f3
  have f4 := cell_belowF hv f4
  have hB := hB.trans (hv.mono hB.size)
  clear hv
  refine hK.out _ _ _ (fun _ h => h) ⟨f0, f1, f2, f3, f4⟩ ?_
  clear hK K
  try simp only [Act.put, List.setIfInBounds_toArray, List.set_cons_zero, List.set_cons_succ]
  refine Lex.step_take (.string (mk ++ pe ++ pi)) fp10 rfl (Lex.want_none rfl) (by intro Wx hSw; (try dsimp only at hSw); go_simp; (try (first | (with_reducible rfl) | assumption | rfl))) ?_
  simp only [Act.put, List.setIfInBounds_toArray, List.set_cons_zero, List.set_cons_succ]
  refine Lex.step_call fp13 rfl (Lex.want_none rfl) (fun K hK => ?_)
  go_simp
  refine (hP _).mono ?_
  rintro e y4 ⟨rfl, hv⟩
  have f0 := cell_belowF hv f0
  have f1 := cell_belowF hv f1
  have f2 := cell_belowF hv f2
  have f3 := cell_belowF hv f3
  have f4 := cell_belowF hv f4
  have hB := hB.trans (hv.mono hB.size)
  clear hv
  refine hK.out _ _ _ (fun _ h => h) ⟨f0, f1, f2, f3, f4⟩ ?_
  clear hK K
  try simp only [Act.put, List.setIfInBounds_toArray, List.set_cons_zero, List.set_cons_succ]
  refine Lex.step_take (.string (mk ++ pe ++ pi ++ pp)) fp14 rfl (Lex.want_none rfl) (by intro Wx hSw; (try dsimp only at hSw); go_simp; (try (first | (with_reducible rfl) | assumption | rfl))) ?_
  simp only [Act.put, List.setIfInBounds_toArray, List.set_cons_zero, List.set_cons_succ]
  refine Lex.step_take (.string (mk ++ pe ++ pi ++ pp ++ fd)) fp17 rfl (Lex.want_none rfl) (by intro Wx hSw; (try dsimp only at hSw); go_simp; (try (first | (with_reducible rfl) | assumption | rfl))) ?_
  simp only [Act.put, List.setIfInBounds_toArray, List.set_cons_zero, List.set_cons_succ]
  refine Lex.step_call fp18 rfl (Lex.want_none rfl) (fun K hK => ?_)
  go_simp
  refine (HS.out _ (HT.out.below hB)).mono ?_
  rintro e y5 ⟨rfl, hv⟩
  have f0 := cell_belowF hv f0
  have f1 := cell_belowF hv f1
  have f2 := cell_belowF hv f2
  have f3 := cell_belowF hv f3
  have f4 := cell_belowF hv f4
  have hB := hB.trans (hv.mono hB.size)
  clear hv
  refine hK.out _ _ _ (fun _ h => h) ⟨f0, f1, f2, f3, f4⟩ ?_
  clear hK K
  try simp only [Act.put, List.setIfInBounds_toArray, List.set_cons_zero, List.set_cons_succ]
  refine Lex.step_take (.string sx) fp19 rfl (Lex.want_none rfl) (by intro Wx hSw; (try dsimp only at hSw); go_simp; (try (first | (with_reducible rfl) | assumption | rfl))) ?_
  simp only [Act.put, List.setIfInBounds_toArray, List.set_cons_zero, List.set_cons_succ]
  refine NoPanic.normal ?_
  have HB := Lib.hid hB
  clear hB f0 f1 f2 f3 f4
  go_wp2
  go_ret
  exact ⟨rfl, HB.out⟩
end Go.Proofs.YtiacdpfodhggmaaDoor.Fr
