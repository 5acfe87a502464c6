/- Frames: the document's seal, Right and Print, walked. -/
import Derived.Test.YtiacdpfodhggmaaDoorFrO
import Derived.Test.YtiacdpfodhggmaaDoorXfp
namespace Go.Proofs.YtiacdpfodhggmaaDoor.Fr
open Go.RowKit Tal Lf Lex
set_option maxRecDepth 20000 in
set_option maxHeartbeats 1600000 in
theorem refSealed_any (s : ByteArray) (w : World) (hs : s.size ≤ 252) :
    Calls Tryd.prog 28 #[.string s, .int .i64 256] w fun e w' => e = .returned (.string (sealed s 256)) ∧ Below w.heap.size w w' := by
  obtain ⟨i0, hi, hz0, hz1, hz2⟩ := info_partsF infoU8F
  have d2 : decide ((252 : Int) < (s.size : Int)) = false := by simp; omega
  obtain ⟨t, htt⟩ : ∃ t : Nat, 252 - s.size = t := ⟨_, rfl⟩
  have e1 : (252 : Int) - (s.size : Int) = (t : Int) := by omega
  have htl : t ≤ 252 := by omega
  have HZ : Hid (sealed s 256 = (s ++ zeros t) ++ prt (crc (s ++ zeros t).data.toList)) := by
    rw [← htt]
    exact Lib.hid rfl
  have HD : Hid ((s ++ zeros t).size = 252) := Lib.hid (by rw [ByteArray.size_append, zeros_size]; omega)
  go_enter Tryd.func28, Tryd.ntmps28
  go_wp2_with
    (at_make
     go_must (refine wpList_make_full _ rfl _ _ 26 rfl (w.heap.size) 5 i0 _ 1 Tryd.underlying26 hi hz0 hz1 _ _ _ _ t rfl rfl rfl rfl (by rw [hz2]; omega) (by unfold maxLen; omega) (by simp) ?_)
     intro w1 hown hgrow
     obtain ⟨hb1, hcv⟩ := noughts_new t hown hgrow
     clear hown hgrow
     have hrl : s.size + (zeros t).size ≤ 600 := by rw [zeros_size]; omega
     generalize zeros t = r at hcv HD HZ hrl)
  clear hcv
  generalize s ++ r = q at HD HZ ⊢
  have hq := HD.out
  refine (refOf_any q _ (by omega)).mono ?_
  rintro e w2 ⟨rfl, rfl⟩
  generalize hc : crc q.data.toList = c at HZ ⊢
  have hcl : c < 4294967296 := by rw [← hc]; exact crc_lt _
  clear hc
  have hcv := convP c w2 hcl
  have hps := prt_size c
  generalize hp : prt c = pc at hps hcv HZ
  have HP := Lib.hid hp
  clear hp
  have hps2 : pc.size ≤ 4 := by omega
  have hqs : q.size ≤ 600 := by omega
  clear hps hq
  go_wp2
  go_ret
  refine ⟨?_, hb1.trans (((Below.refl _ _).alloc (Nat.le_refl _) _).mono hb1.size)⟩
  rw [HZ.out]
  rfl
set_option maxRecDepth 20000 in
set_option maxHeartbeats 3200000 in
theorem refRight_any (f : F) (w : World) :
    Calls Tryd.prog 17 #[.agg (cellsF f)] w (BoolF (RightF f) w) := by
  have hB := (Below.refl w.heap.size w).alloc (Nat.le_refl _) (.cells (cellsF f) 36)
  have hf := BoxF.new w f 36
  obtain ⟨gf, hgf⟩ : ∃ g, w.heap.size = g := ⟨_, rfl⟩
  rw [hgf] at hf
  generalize hwa : w.alloc (.cells (cellsF f) 36) = wa at hB hf
  have hiff : RightF f ↔ (1 ≤ f.e ∧ f.e < 2147483648 ∧ 0 ≤ f.i ∧ f.i < 512 ∧ 0 ≤ f.p ∧ f.p < 512 ∧ (f.c = true → f.d.size = 0) ∧ (f.c = false → f.d.size = 200)) :=
    ⟨fun h => ⟨h.e0, h.e1, h.i0, h.i1, h.p0, h.p1, h.dc, h.dp⟩, fun ⟨a, b, c, d, e, g, h, i⟩ => ⟨a, b, c, d, e, g, h, i⟩⟩
  have HI := Lib.hid hiff
  clear hiff
  obtain ⟨fe, fi, fc, fp, fd⟩ := f
  unfold cellsF at hwa ⊢
  simp only at hwa ⊢
  have f0 := hf.c0
  have f1 := hf.c1
  have f2 := hf.c2
  have f3 := hf.c3
  have f4 := hf.c4
  simp only at f0 f1 f2 f3 f4
  have HB := Lib.hid hB
  clear hB hf
  have no : ¬ RightF ⟨fe, fi, fc, fp, fd⟩ → BoolF (RightF ⟨fe, fi, fc, fp, fd⟩) w (.returned (.bool false)) wa := fun h => ⟨false, rfl, ⟨fun e => (by cases e), fun e => absurd e h⟩, HB.out⟩
  have yes : RightF ⟨fe, fi, fc, fp, fd⟩ → BoolF (RightF ⟨fe, fi, fc, fp, fd⟩) w (.returned (.bool true)) wa := fun h => ⟨true, rfl, ⟨fun _ => h, fun _ => rfl⟩, HB.out⟩
  have NO := Lib.hid no
  have YES := Lib.hid yes
  clear no yes
  go_enter Tryd.func17, Tryd.ntmps17
  by_cases h1 : fe < 1
  · go_wp2
    go_ret
    exact NO.out (fun h => by have := h.e0; simp only at this; omega)
  by_cases h2 : 2147483648 ≤ fe
  · go_wp2
    go_ret
    exact NO.out (fun h => by have := h.e1; simp only at this; omega)
  by_cases h3 : fi < 0
  · go_wp2
    go_ret
    exact NO.out (fun h => by have := h.i0; simp only at this; omega)
  by_cases h4 : 512 ≤ fi
  · go_wp2
    go_ret
    exact NO.out (fun h => by have := h.i1; simp only at this; omega)
  by_cases h5 : fp < 0
  · go_wp2
    go_ret
    exact NO.out (fun h => by have := h.p0; simp only at this; omega)
  by_cases h6 : 512 ≤ fp
  · go_wp2
    go_ret
    exact NO.out (fun h => by have := h.p1; simp only at this; omega)
  have b2 : ¬ (2147483648 ≤ fe) := h2
  cases fc
  · by_cases hd : fd.size = 200
    · have i1 : (fd.size : Int) = 200 := by omega
      have i2 : ((fd.size : Int) == 200) = true := by rw [i1]; rfl
      go_wp2
      go_ret
      exact YES.out ⟨by show (1 : Int) ≤ fe; omega, by show fe < 2147483648; omega, by show (0 : Int) ≤ fi; omega, by show fi < 512; omega, by show (0 : Int) ≤ fp; omega, by show fp < 512; omega, fun h => (by cases h), fun _ => hd⟩
    · have i1 : ¬ (fd.size : Int) = 200 := by omega
      have i2 : ((fd.size : Int) == 200) = false := by simp; omega
      go_wp2
      go_ret
      exact NO.out (fun h => hd (h.dp rfl))
  · by_cases hd : fd.size = 0
    · obtain rfl := none_size hd
      go_wp2
      go_ret
      exact YES.out ⟨by show (1 : Int) ≤ fe; omega, by show fe < 2147483648; omega, by show (0 : Int) ≤ fi; omega, by show fi < 512; omega, by show (0 : Int) ≤ fp; omega, by show fp < 512; omega, fun _ => rfl, fun h => (by cases h)⟩
    · have i2 : (fd.toList == []) = false := by
        rw [beq_eq_false_iff_ne]
        intro e
        exact hd (by have := congrArg List.length e; simpa [ByteArray.toList_eq] using this)
      go_wp2
      go_ret
      exact NO.out (fun h => hd (h.dc rfl))
set_option maxRecDepth 20000 in
set_option maxHeartbeats 3200000 in
theorem refPrint_any (f : F) (w : World) (h : RightF f) :
    Calls Tryd.prog 19 #[.agg (cellsF f)] w fun e w' => e = .returned (.string (frameB f)) ∧ Below w.heap.size w w' := by
  have hB := (Below.refl w.heap.size w).alloc (Nat.le_refl _) (.cells (cellsF f) 36)
  have hf := BoxF.new w f 36
  obtain ⟨g, hg⟩ : ∃ g, w.heap.size = g := ⟨_, rfl⟩
  rw [hg] at hf
  generalize hwa : w.alloc (.cells (cellsF f) 36) = wa at hB hf
  obtain ⟨fe, fi, fc, fp, fd⟩ := f
  have q0 := h.e0
  have q1 := h.e1
  have q2 := h.i0
  have q3 := h.i1
  have q4 := h.p0
  have q5 := h.p1
  have hds := h.small
  clear h
  simp only at q0 q1 q2 q3 q4 q5 hds
  obtain ⟨en, rfl⟩ : ∃ n : Nat, fe = n := ⟨fe.toNat, by omega⟩
  obtain ⟨ix, rfl⟩ : ∃ n : Nat, fi = n := ⟨fi.toNat, by omega⟩
  obtain ⟨pn, rfl⟩ : ∃ n : Nat, fp = n := ⟨fp.toNat, by omega⟩
  obtain ⟨sx, hsx⟩ : ∃ x, frameB ⟨en, ix, fc, pn, fd⟩ = x := ⟨_, rfl⟩
  rw [hsx]
  have hE := fun W => four_any en W (by omega)
  have hI := fun W => four_any ix W (by omega)
  have hP := fun W => four_any pn W (by omega)
  have hS := fun W => refSealed_any (hdF ⟨en, ix, fc, pn, fd⟩ ++ fd) W (by rw [ByteArray.size_append, hdF_size]; omega)
  rw [show sealed (hdF ⟨en, ix, fc, pn, fd⟩ ++ fd) 256 = sx from hsx, show hdF ⟨en, ix, fc, pn, fd⟩ = markB fc ++ prt en ++ prt ix ++ prt pn from by unfold hdF; simp only [Int.toNat_natCast]; rfl] at hS
  have z0 : (markB fc).size = 4 := rfl
  have z1 : (markB fc ++ prt en).size = 8 := by rw [ByteArray.size_append, prt_size, z0]
  have z2 : (markB fc ++ prt en ++ prt ix).size = 12 := by rw [ByteArray.size_append, prt_size, z1]
  have z3 : (markB fc ++ prt en ++ prt ix ++ prt pn).size = 16 := by rw [ByteArray.size_append, prt_size, z2]
  have z5 := prt_size en
  have z6 := prt_size ix
  have z7 := prt_size pn
  have z8 : 16 + fd.size ≤ 9223372036854775807 := by omega
  generalize prt en = pe at hE hS z1 z2 z3 z5
  generalize prt ix = pi at hI hS z2 z3 z6
  generalize prt pn = pp at hP hS z3 z7
  clear hsx
  unfold cellsF at hwa ⊢
  simp only at hwa ⊢
  have f0 := hf.c0
  have f1 := hf.c1
  have f2 := hf.c2
  have f3 := hf.c3
  have f4 := hf.c4
  simp only at f0 f1 f2 f3 f4
  clear hf
  cases fc
  · have e0 : markB false = ⟨#[76, 79, 71, 80]⟩ := rfl
    rw [e0] at z0 z1 z2 z3 hS
    have HS := Lib.hid hS
    clear hS e0
    go_enter Tryd.func19, Tryd.ntmps19
    go_upto_region 4 with fail
    clear hwa hg
    have hdr := (Below.refl wa.heap.size wa).drew
    refine Lex.region_lex (ops := fqops) (calls := fqcalls) fqord (fun W => W.cell? ⟨g, 0, none⟩ = some (.int .i64 (en : Int)) ∧ W.cell? ⟨g, 1, none⟩ = some (.int .i64 (ix : Int)) ∧ W.cell? ⟨g, 2, none⟩ = some (.bool false) ∧ W.cell? ⟨g, 3, none⟩ = some (.int .i64 (pn : Int)) ∧ W.cell? ⟨g, 4, none⟩ = some (.string fd)) (by kernel_rfl) (by kernel_rfl) fqsel (by kernel_rfl) (by kernel_rfl) fqlex (⟨cell_belowF hdr f0, cell_belowF hdr f1, cell_belowF hdr f2, cell_belowF hdr f3, cell_belowF hdr f4⟩) ?_
    unfold fqord
    have f0 := cell_belowF hdr f0
    have f1 := cell_belowF hdr f1
    have f2 := cell_belowF hdr f2
    have f3 := cell_belowF hdr f3
    have f4 := cell_belowF hdr f4
    have hB := hB.trans (hdr.mono hB.size)
    clear hdr
    refine Lex.step_take (.string ⟨#[76, 79, 71, 80]⟩) fq0 rfl (Lex.want_none rfl) (by intro Wx hSw; (try dsimp only at hSw); go_simp; (try (first | (with_reducible rfl) | assumption | rfl))) ?_
    simp only [Act.put, List.setIfInBounds_toArray, List.set_cons_zero, List.set_cons_succ]
    refine Lex.step_take (.pointer (some ⟨g, 0, none⟩)) fq1 rfl (Lex.want_none rfl) (by intro Wx hSw; (try dsimp only at hSw); go_simp; (try (first | (with_reducible rfl) | assumption | rfl))) ?_
    simp only [Act.put, List.setIfInBounds_toArray, List.set_cons_zero, List.set_cons_succ]
    refine Lex.step_take (.int .i64 (en : Int)) fq2 rfl (Lex.want_none rfl) (by intro Wx hSw; (try dsimp only at hSw); go_simp; (try (first | (with_reducible rfl) | assumption | rfl))) ?_
    simp only [Act.put, List.setIfInBounds_toArray, List.set_cons_zero, List.set_cons_succ]
    refine Lex.step_take (.pointer (some ⟨g, 1, none⟩)) fq5 rfl (Lex.want_none rfl) (by intro Wx hSw; (try dsimp only at hSw); go_simp; (try (first | (with_reducible rfl) | assumption | rfl))) ?_
    simp only [Act.put, List.setIfInBounds_toArray, List.set_cons_zero, List.set_cons_succ]
    refine Lex.step_take (.int .i64 (ix : Int)) fq6 rfl (Lex.want_none rfl) (by intro Wx hSw; (try dsimp only at hSw); go_simp; (try (first | (with_reducible rfl) | assumption | rfl))) ?_
    simp only [Act.put, List.setIfInBounds_toArray, List.set_cons_zero, List.set_cons_succ]
    refine Lex.step_take (.pointer (some ⟨g, 3, none⟩)) fq9 rfl (Lex.want_none rfl) (by intro Wx hSw; (try dsimp only at hSw); go_simp; (try (first | (with_reducible rfl) | assumption | rfl))) ?_
    simp only [Act.put, List.setIfInBounds_toArray, List.set_cons_zero, List.set_cons_succ]
    refine Lex.step_take (.int .i64 (pn : Int)) fq10 rfl (Lex.want_none rfl) (by intro Wx hSw; (try dsimp only at hSw); go_simp; (try (first | (with_reducible rfl) | assumption | rfl))) ?_
    simp only [Act.put, List.setIfInBounds_toArray, List.set_cons_zero, List.set_cons_succ]
    refine Lex.step_take (.pointer (some ⟨g, 4, none⟩)) fq13 rfl (Lex.want_none rfl) (by intro Wx hSw; (try dsimp only at hSw); go_simp; (try (first | (with_reducible rfl) | assumption | rfl))) ?_
    simp only [Act.put, List.setIfInBounds_toArray, List.set_cons_zero, List.set_cons_succ]
    refine Lex.step_take (.string fd) fq14 rfl (Lex.want_none rfl) (by intro Wx hSw; (try dsimp only at hSw); go_simp; (try (first | (with_reducible rfl) | assumption | rfl))) ?_
    simp only [Act.put, List.setIfInBounds_toArray, List.set_cons_zero, List.set_cons_succ]
    refine Lex.step_call fq3 rfl (Lex.want_none rfl) (fun K hK => ?_)
    go_simp
    refine (hE _).mono ?_
    rintro e y2 ⟨rfl, hv⟩
    have f0 := cell_belowF hv f0
    have f1 := cell_belowF hv f1
    have f2 := cell_belowF hv f2
    have f3 := cell_belowF hv f3
    have f4 := cell_belowF hv f4
    have hB := hB.trans (hv.mono hB.size)
    clear hv
    refine hK.out _ _ _ (fun _ h => h) ⟨f0, f1, f2, f3, f4⟩ ?_
    clear hK K
    try simp only [Act.put, List.setIfInBounds_toArray, List.set_cons_zero, List.set_cons_succ]
    refine Lex.step_take (.string (⟨#[76, 79, 71, 80]⟩ ++ pe)) fq4 rfl (Lex.want_none rfl) (by intro Wx hSw; (try dsimp only at hSw); go_simp; (try (first | (with_reducible rfl) | assumption | rfl))) ?_
    simp only [Act.put, List.setIfInBounds_toArray, List.set_cons_zero, List.set_cons_succ]
    refine Lex.step_call fq7 rfl (Lex.want_none rfl) (fun K hK => ?_)
    go_simp
    refine (hI _).mono ?_
    rintro e y3 ⟨rfl, hv⟩
    have f0 := cell_belowF hv f0
    have f1 := cell_belowF hv f1
    have f2 := cell_belowF hv f2
    have f3 := cell_belowF hv f3
    have f4 := cell_belowF hv f4
    have hB := hB.trans (hv.mono hB.size)
    clear hv
    refine hK.out _ _ _ (fun _ h => h) ⟨f0, f1, f2, f3, f4⟩ ?_
    clear hK K
    try simp only [Act.put, List.setIfInBounds_toArray, List.set_cons_zero, List.set_cons_succ]
    refine Lex.step_take (.string (⟨#[76, 79, 71, 80]⟩ ++ pe ++ pi)) fq8 rfl (Lex.want_none rfl) (by intro Wx hSw; (try dsimp only at hSw); go_simp; (try (first | (with_reducible rfl) | assumption | rfl))) ?_
    simp only [Act.put, List.setIfInBounds_toArray, List.set_cons_zero, List.set_cons_succ]
    refine Lex.step_call fq11 rfl (Lex.want_none rfl) (fun K hK => ?_)
    go_simp
    refine (hP _).mono ?_
    rintro e y4 ⟨rfl, hv⟩
    have f0 := cell_belowF hv f0
    have f1 := cell_belowF hv f1
    have f2 := cell_belowF hv f2
    have f3 := cell_belowF hv f3
    have f4 := cell_belowF hv f4
    have hB := hB.trans (hv.mono hB.size)
    clear hv
    refine hK.out _ _ _ (fun _ h => h) ⟨f0, f1, f2, f3, f4⟩ ?_
    clear hK K
    try simp only [Act.put, List.setIfInBounds_toArray, List.set_cons_zero, List.set_cons_succ]
    refine Lex.step_take (.string (⟨#[76, 79, 71, 80]⟩ ++ pe ++ pi ++ pp)) fq12 rfl (Lex.want_none rfl) (by intro Wx hSw; (try dsimp only at hSw); go_simp; (try (first | (with_reducible rfl) | assumption | rfl))) ?_
    simp only [Act.put, List.setIfInBounds_toArray, List.set_cons_zero, List.set_cons_succ]
    refine Lex.step_take (.string (⟨#[76, 79, 71, 80]⟩ ++ pe ++ pi ++ pp ++ fd)) fq15 rfl (Lex.want_none rfl) (by intro Wx hSw; (try dsimp only at hSw); go_simp; (try (first | (with_reducible rfl) | assumption | rfl))) ?_
    simp only [Act.put, List.setIfInBounds_toArray, List.set_cons_zero, List.set_cons_succ]
    refine Lex.step_call fq16 rfl (Lex.want_none rfl) (fun K hK => ?_)
    go_simp
    refine (HS.out _).mono ?_
    rintro e y5 ⟨rfl, hv⟩
    have f0 := cell_belowF hv f0
    have f1 := cell_belowF hv f1
    have f2 := cell_belowF hv f2
    have f3 := cell_belowF hv f3
    have f4 := cell_belowF hv f4
    have hB := hB.trans (hv.mono hB.size)
    clear hv
    refine hK.out _ _ _ (fun _ h => h) ⟨f0, f1, f2, f3, f4⟩ ?_
    clear hK K
    try simp only [Act.put, List.setIfInBounds_toArray, List.set_cons_zero, List.set_cons_succ]
    refine Lex.step_take (.string sx) fq17 rfl (Lex.want_none rfl) (by intro Wx hSw; (try dsimp only at hSw); go_simp; (try (first | (with_reducible rfl) | assumption | rfl))) ?_
    simp only [Act.put, List.setIfInBounds_toArray, List.set_cons_zero, List.set_cons_succ]
    refine NoPanic.normal ?_
    have HB := Lib.hid hB
    clear hB f0 f1 f2 f3 f4
    go_wp2
    go_ret
    exact ⟨rfl, HB.out⟩
  · have e0 : markB true = ⟨#[76, 79, 71, 67]⟩ := rfl
    rw [e0] at z0 z1 z2 z3 hS
    have HS := Lib.hid hS
    clear hS e0
    go_enter Tryd.func19, Tryd.ntmps19
    go_upto_region 4 with fail
    clear hwa hg
    have hdr := (Below.refl wa.heap.size wa).drew
    refine Lex.region_lex (ops := fqops) (calls := fqcalls) fqord (fun W => W.cell? ⟨g, 0, none⟩ = some (.int .i64 (en : Int)) ∧ W.cell? ⟨g, 1, none⟩ = some (.int .i64 (ix : Int)) ∧ W.cell? ⟨g, 2, none⟩ = some (.bool true) ∧ W.cell? ⟨g, 3, none⟩ = some (.int .i64 (pn : Int)) ∧ W.cell? ⟨g, 4, none⟩ = some (.string fd)) (by kernel_rfl) (by kernel_rfl) fqsel (by kernel_rfl) (by kernel_rfl) fqlex (⟨cell_belowF hdr f0, cell_belowF hdr f1, cell_belowF hdr f2, cell_belowF hdr f3, cell_belowF hdr f4⟩) ?_
    unfold fqord
    have f0 := cell_belowF hdr f0
    have f1 := cell_belowF hdr f1
    have f2 := cell_belowF hdr f2
    have f3 := cell_belowF hdr f3
    have f4 := cell_belowF hdr f4
    have hB := hB.trans (hdr.mono hB.size)
    clear hdr
    refine Lex.step_take (.string ⟨#[76, 79, 71, 67]⟩) fq0 rfl (Lex.want_none rfl) (by intro Wx hSw; (try dsimp only at hSw); go_simp; (try (first | (with_reducible rfl) | assumption | rfl))) ?_
    simp only [Act.put, List.setIfInBounds_toArray, List.set_cons_zero, List.set_cons_succ]
    refine Lex.step_take (.pointer (some ⟨g, 0, none⟩)) fq1 rfl (Lex.want_none rfl) (by intro Wx hSw; (try dsimp only at hSw); go_simp; (try (first | (with_reducible rfl) | assumption | rfl))) ?_
    simp only [Act.put, List.setIfInBounds_toArray, List.set_cons_zero, List.set_cons_succ]
    refine Lex.step_take (.int .i64 (en : Int)) fq2 rfl (Lex.want_none rfl) (by intro Wx hSw; (try dsimp only at hSw); go_simp; (try (first | (with_reducible rfl) | assumption | rfl))) ?_
    simp only [Act.put, List.setIfInBounds_toArray, List.set_cons_zero, List.set_cons_succ]
    refine Lex.step_take (.pointer (some ⟨g, 1, none⟩)) fq5 rfl (Lex.want_none rfl) (by intro Wx hSw; (try dsimp only at hSw); go_simp; (try (first | (with_reducible rfl) | assumption | rfl))) ?_
    simp only [Act.put, List.setIfInBounds_toArray, List.set_cons_zero, List.set_cons_succ]
    refine Lex.step_take (.int .i64 (ix : Int)) fq6 rfl (Lex.want_none rfl) (by intro Wx hSw; (try dsimp only at hSw); go_simp; (try (first | (with_reducible rfl) | assumption | rfl))) ?_
    simp only [Act.put, List.setIfInBounds_toArray, List.set_cons_zero, List.set_cons_succ]
    refine Lex.step_take (.pointer (some ⟨g, 3, none⟩)) fq9 rfl (Lex.want_none rfl) (by intro Wx hSw; (try dsimp only at hSw); go_simp; (try (first | (with_reducible rfl) | assumption | rfl))) ?_
    simp only [Act.put, List.setIfInBounds_toArray, List.set_cons_zero, List.set_cons_succ]
    refine Lex.step_take (.int .i64 (pn : Int)) fq10 rfl (Lex.want_none rfl) (by intro Wx hSw; (try dsimp only at hSw); go_simp; (try (first | (with_reducible rfl) | assumption | rfl))) ?_
    simp only [Act.put, List.setIfInBounds_toArray, List.set_cons_zero, List.set_cons_succ]
    refine Lex.step_take (.pointer (some ⟨g, 4, none⟩)) fq13 rfl (Lex.want_none rfl) (by intro Wx hSw; (try dsimp only at hSw); go_simp; (try (first | (with_reducible rfl) | assumption | rfl))) ?_
    simp only [Act.put, List.setIfInBounds_toArray, List.set_cons_zero, List.set_cons_succ]
    refine Lex.step_take (.string fd) fq14 rfl (Lex.want_none rfl) (by intro Wx hSw; (try dsimp only at hSw); go_simp; (try (first | (with_reducible rfl) | assumption | rfl))) ?_
    simp only [Act.put, List.setIfInBounds_toArray, List.set_cons_zero, List.set_cons_succ]
    refine Lex.step_call fq3 rfl (Lex.want_none rfl) (fun K hK => ?_)
    go_simp
    refine (hE _).mono ?_
    rintro e y2 ⟨rfl, hv⟩
    have f0 := cell_belowF hv f0
    have f1 := cell_belowF hv f1
    have f2 := cell_belowF hv f2
    have f3 := cell_belowF hv f3
    have f4 := cell_belowF hv f4
    have hB := hB.trans (hv.mono hB.size)
    clear hv
    refine hK.out _ _ _ (fun _ h => h) ⟨f0, f1, f2, f3, f4⟩ ?_
    clear hK K
    try simp only [Act.put, List.setIfInBounds_toArray, List.set_cons_zero, List.set_cons_succ]
    refine Lex.step_take (.string (⟨#[76, 79, 71, 67]⟩ ++ pe)) fq4 rfl (Lex.want_none rfl) (by intro Wx hSw; (try dsimp only at hSw); go_simp; (try (first | (with_reducible rfl) | assumption | rfl))) ?_
    simp only [Act.put, List.setIfInBounds_toArray, List.set_cons_zero, List.set_cons_succ]
    refine Lex.step_call fq7 rfl (Lex.want_none rfl) (fun K hK => ?_)
    go_simp
    refine (hI _).mono ?_
    rintro e y3 ⟨rfl, hv⟩
    have f0 := cell_belowF hv f0
    have f1 := cell_belowF hv f1
    have f2 := cell_belowF hv f2
    have f3 := cell_belowF hv f3
    have f4 := cell_belowF hv f4
    have hB := hB.trans (hv.mono hB.size)
    clear hv
    refine hK.out _ _ _ (fun _ h => h) ⟨f0, f1, f2, f3, f4⟩ ?_
    clear hK K
    try simp only [Act.put, List.setIfInBounds_toArray, List.set_cons_zero, List.set_cons_succ]
    refine Lex.step_take (.string (⟨#[76, 79, 71, 67]⟩ ++ pe ++ pi)) fq8 rfl (Lex.want_none rfl) (by intro Wx hSw; (try dsimp only at hSw); go_simp; (try (first | (with_reducible rfl) | assumption | rfl))) ?_
    simp only [Act.put, List.setIfInBounds_toArray, List.set_cons_zero, List.set_cons_succ]
    refine Lex.step_call fq11 rfl (Lex.want_none rfl) (fun K hK => ?_)
    go_simp
    refine (hP _).mono ?_
    rintro e y4 ⟨rfl, hv⟩
    have f0 := cell_belowF hv f0
    have f1 := cell_belowF hv f1
    have f2 := cell_belowF hv f2
    have f3 := cell_belowF hv f3
    have f4 := cell_belowF hv f4
    have hB := hB.trans (hv.mono hB.size)
    clear hv
    refine hK.out _ _ _ (fun _ h => h) ⟨f0, f1, f2, f3, f4⟩ ?_
    clear hK K
    try simp only [Act.put, List.setIfInBounds_toArray, List.set_cons_zero, List.set_cons_succ]
    refine Lex.step_take (.string (⟨#[76, 79, 71, 67]⟩ ++ pe ++ pi ++ pp)) fq12 rfl (Lex.want_none rfl) (by intro Wx hSw; (try dsimp only at hSw); go_simp; (try (first | (with_reducible rfl) | assumption | rfl))) ?_
    simp only [Act.put, List.setIfInBounds_toArray, List.set_cons_zero, List.set_cons_succ]
    refine Lex.step_take (.string (⟨#[76, 79, 71, 67]⟩ ++ pe ++ pi ++ pp ++ fd)) fq15 rfl (Lex.want_none rfl) (by intro Wx hSw; (try dsimp only at hSw); go_simp; (try (first | (with_reducible rfl) | assumption | rfl))) ?_
    simp only [Act.put, List.setIfInBounds_toArray, List.set_cons_zero, List.set_cons_succ]
    refine Lex.step_call fq16 rfl (Lex.want_none rfl) (fun K hK => ?_)
    go_simp
    refine (HS.out _).mono ?_
    rintro e y5 ⟨rfl, hv⟩
    have f0 := cell_belowF hv f0
    have f1 := cell_belowF hv f1
    have f2 := cell_belowF hv f2
    have f3 := cell_belowF hv f3
    have f4 := cell_belowF hv f4
    have hB := hB.trans (hv.mono hB.size)
    clear hv
    refine hK.out _ _ _ (fun _ h => h) ⟨f0, f1, f2, f3, f4⟩ ?_
    clear hK K
    try simp only [Act.put, List.setIfInBounds_toArray, List.set_cons_zero, List.set_cons_succ]
    refine Lex.step_take (.string sx) fq17 rfl (Lex.want_none rfl) (by intro Wx hSw; (try dsimp only at hSw); go_simp; (try (first | (with_reducible rfl) | assumption | rfl))) ?_
    simp only [Act.put, List.setIfInBounds_toArray, List.set_cons_zero, List.set_cons_succ]
    refine NoPanic.normal ?_
    have HB := Lib.hid hB
    clear hB f0 f1 f2 f3 f4
    go_wp2
    go_ret
    exact ⟨rfl, HB.out⟩
end Go.Proofs.YtiacdpfodhggmaaDoor.Fr
