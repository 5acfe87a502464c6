/- Heads: Print of the program (762697a) and of the document, walked. -/
import Derived.Test.YtdbemkdfndjakaaDoorHdC
import Derived.Test.YtdbemkdfndjakaaDoorMgX
namespace Go.Proofs.YtdbemkdfndjakaaDoor.Hd
open Go.RowKit Tal Fr Lex
set_option maxRecDepth 20000 in
set_option maxHeartbeats 3200000 in
theorem print_any (h : H) (w : World) (ht : Tab w) (h1 : RightH h) :
    Calls Tryd.prog 12 #[.agg (cellsH h)] w fun e w' => e = .returned (.string (headB h)) ∧ Below w.heap.size w w' := by
  have HT := Lib.hid ht
  clear ht
  have hB := (Below.refl w.heap.size w).alloc (Nat.le_refl _) (.cells (cellsH h) 23)
  have hf := BoxH.new w h 23
  obtain ⟨g, hg⟩ : ∃ g, w.heap.size = g := ⟨_, rfl⟩
  rw [hg] at hf
  generalize hwa : w.alloc (.cells (cellsH h) 23) = wa at hB hf
  obtain ⟨hp, hl, he⟩ := h
  have q0 := h1.p0
  have q1 := h1.p1
  have q2 := h1.l0
  have q3 := h1.l1
  have q4 := h1.e0
  have q5 := h1.e1
  clear h1
  simp only at q0 q1 q2 q3 q4 q5
  obtain ⟨pn, rfl⟩ : ∃ n : Nat, hp = n := ⟨hp.toNat, by omega⟩
  obtain ⟨ln, rfl⟩ : ∃ n : Nat, hl = n := ⟨hl.toNat, by omega⟩
  obtain ⟨en, rfl⟩ : ∃ n : Nat, he = n := ⟨he.toNat, by omega⟩
  obtain ⟨sx, hsx⟩ : ∃ x, headB ⟨pn, ln, en⟩ = x := ⟨_, rfl⟩
  rw [hsx]
  have r0 := fun W => hasRoom_any pn W (by omega) (by omega)
  have r1 := fun W => hasRoom_any ln W (by omega) (by omega)
  have r2 := fun W => hasRoom_any en W (by omega) (by omega)
  have hP := fun W => fprinted_any pn W (by omega)
  have hL := fun W => fprinted_any ln W (by omega)
  have hE := fun W => fprinted_any en W (by omega)
  have hS := fun W (ht : Tab W) => sealed_any (hdH ⟨pn, ln, en⟩) 256 W ht (by decide) (by rw [hdH_size]; decide)
  rw [show sealed (hdH ⟨pn, ln, en⟩) (256 : Int).toNat = sx from hsx, show hdH ⟨pn, ln, en⟩ = ⟨#[77, 79, 83, 65, 73, 67, 48, 49]⟩ ++ prt pn ++ prt ln ++ prt en from by unfold hdH; simp only [Int.toNat_natCast]; rfl] at hS
  have z0 : (⟨#[77, 79, 83, 65, 73, 67, 48, 49]⟩ : ByteArray).size = 8 := rfl
  have z1 : ((⟨#[77, 79, 83, 65, 73, 67, 48, 49]⟩ : ByteArray) ++ prt pn).size = 12 := by rw [ByteArray.size_append, prt_size, z0]
  have z2 : ((⟨#[77, 79, 83, 65, 73, 67, 48, 49]⟩ : ByteArray) ++ prt pn ++ prt ln).size = 16 := by rw [ByteArray.size_append, prt_size, z1]
  have z3 : ((⟨#[77, 79, 83, 65, 73, 67, 48, 49]⟩ : ByteArray) ++ prt pn ++ prt ln ++ prt en).size = 20 := by rw [ByteArray.size_append, prt_size, z2]
  have z5 := prt_size pn
  have z6 := prt_size ln
  have z7 := prt_size en
  generalize prt pn = pp at hP hS z1 z2 z3 z5
  generalize prt ln = pl at hL hS z2 z3 z6
  generalize prt en = pe at hE hS z3 z7
  have HS := Lib.hid hS
  clear hS hsx
  unfold cellsH at hwa ⊢
  simp only at hwa ⊢
  have f0 := hf.c0
  have f1 := hf.c1
  have f2 := hf.c2
  simp only at f0 f1 f2
  clear hf
  go_enter Tryd.func12, Tryd.ntmps12
  go_wp2_with fail
  clear hwa hg
  refine (r0 _).mono ?_
  rintro e w2 ⟨rfl, rfl⟩
  go_wp2_with fail
  refine (r1 _).mono ?_
  rintro e w3 ⟨rfl, rfl⟩
  go_wp2_with fail
  refine (r2 _).mono ?_
  rintro e w4 ⟨rfl, rfl⟩
  clear r0 r1 r2
  go_upto_region 3 with fail
  have hdr := (Below.refl w4.heap.size w4).drew
  refine Lex.region_lex (ops := haops) (calls := hacalls) haord (fun W => W.cell? ⟨g, 0, none⟩ = some (.int .i64 (pn : Int)) ∧ W.cell? ⟨g, 1, none⟩ = some (.int .i64 (ln : Int)) ∧ W.cell? ⟨g, 2, none⟩ = some (.int .i64 (en : Int))) (by kernel_rfl) (by kernel_rfl) hasel (by kernel_rfl) (by kernel_rfl) halex (⟨cell_belowH hdr f0, cell_belowH hdr f1, cell_belowH hdr f2⟩) ?_
  unfold haord
  have f0 := cell_belowH hdr f0
  have f1 := cell_belowH hdr f1
  have f2 := cell_belowH hdr f2
  have hB := hB.trans (hdr.mono hB.size)
  clear hdr
  refine Lex.step_take (.pointer (some ⟨g, 0, none⟩)) ha0 rfl (Lex.want_none rfl) (by intro Wx hSw; (try dsimp only at hSw); go_simp; (try (first | (with_reducible rfl) | assumption | rfl))) ?_
  simp only [Act.put, List.setIfInBounds_toArray, List.set_cons_zero, List.set_cons_succ]
  refine Lex.step_take (.int .i64 (pn : Int)) ha1 rfl (Lex.want_none rfl) (by intro Wx hSw; (try dsimp only at hSw); go_simp; (try (first | (with_reducible rfl) | assumption | rfl))) ?_
  simp only [Act.put, List.setIfInBounds_toArray, List.set_cons_zero, List.set_cons_succ]
  refine Lex.step_take (.pointer (some ⟨g, 1, none⟩)) ha4 rfl (Lex.want_none rfl) (by intro Wx hSw; (try dsimp only at hSw); go_simp; (try (first | (with_reducible rfl) | assumption | rfl))) ?_
  simp only [Act.put, List.setIfInBounds_toArray, List.set_cons_zero, List.set_cons_succ]
  refine Lex.step_take (.int .i64 (ln : Int)) ha5 rfl (Lex.want_none rfl) (by intro Wx hSw; (try dsimp only at hSw); go_simp; (try (first | (with_reducible rfl) | assumption | rfl))) ?_
  simp only [Act.put, List.setIfInBounds_toArray, List.set_cons_zero, List.set_cons_succ]
  refine Lex.step_take (.pointer (some ⟨g, 2, none⟩)) ha8 rfl (Lex.want_none rfl) (by intro Wx hSw; (try dsimp only at hSw); go_simp; (try (first | (with_reducible rfl) | assumption | rfl))) ?_
  simp only [Act.put, List.setIfInBounds_toArray, List.set_cons_zero, List.set_cons_succ]
  refine Lex.step_take (.int .i64 (en : Int)) ha9 rfl (Lex.want_none rfl) (by intro Wx hSw; (try dsimp only at hSw); go_simp; (try (first | (with_reducible rfl) | assumption | rfl))) ?_
  simp only [Act.put, List.setIfInBounds_toArray, List.set_cons_zero, List.set_cons_succ]
  refine Lex.step_call ha2 rfl (Lex.want_none rfl) (fun K hK => ?_)
  go_simp
  refine (hP _).mono ?_
  rintro e y2 ⟨rfl, hv⟩
  have f0 := cell_belowH hv f0
  have f1 := cell_belowH hv f1
  have f2 := cell_belowH hv f2
  have hB := hB.trans (hv.mono hB.size)
  clear hv
  refine hK.out _ _ _ (fun _ h => h) ⟨f0, f1, f2⟩ ?_
  clear hK K
  try simp only [Act.put, List.setIfInBounds_toArray, List.set_cons_zero, List.set_cons_succ]
  refine Lex.step_take (.string (⟨#[77, 79, 83, 65, 73, 67, 48, 49]⟩ ++ pp)) ha3 rfl (Lex.want_none rfl) (by intro Wx hSw; (try dsimp only at hSw); go_simp; (try (first | (with_reducible rfl) | assumption | rfl))) ?_
  simp only [Act.put, List.setIfInBounds_toArray, List.set_cons_zero, List.set_cons_succ]
  refine Lex.step_call ha6 rfl (Lex.want_none rfl) (fun K hK => ?_)
  go_simp
  refine (hL _).mono ?_
  rintro e y3 ⟨rfl, hv⟩
  have f0 := cell_belowH hv f0
  have f1 := cell_belowH hv f1
  have f2 := cell_belowH hv f2
  have hB := hB.trans (hv.mono hB.size)
  clear hv
  refine hK.out _ _ _ (fun _ h => h) ⟨f0, f1, f2⟩ ?_
  clear hK K
  try simp only [Act.put, List.setIfInBounds_toArray, List.set_cons_zero, List.set_cons_succ]
  refine Lex.step_take (.string (⟨#[77, 79, 83, 65, 73, 67, 48, 49]⟩ ++ pp ++ pl)) ha7 rfl (Lex.want_none rfl) (by intro Wx hSw; (try dsimp only at hSw); go_simp; (try (first | (with_reducible rfl) | assumption | rfl))) ?_
  simp only [Act.put, List.setIfInBounds_toArray, List.set_cons_zero, List.set_cons_succ]
  refine Lex.step_call ha10 rfl (Lex.want_none rfl) (fun K hK => ?_)
  go_simp
  refine (hE _).mono ?_
  rintro e y4 ⟨rfl, hv⟩
  have f0 := cell_belowH hv f0
  have f1 := cell_belowH hv f1
  have f2 := cell_belowH hv f2
  have hB := hB.trans (hv.mono hB.size)
  clear hv
  refine hK.out _ _ _ (fun _ h => h) ⟨f0, f1, f2⟩ ?_
  clear hK K
  try simp only [Act.put, List.setIfInBounds_toArray, List.set_cons_zero, List.set_cons_succ]
  refine Lex.step_take (.string (⟨#[77, 79, 83, 65, 73, 67, 48, 49]⟩ ++ pp ++ pl ++ pe)) ha11 rfl (Lex.want_none rfl) (by intro Wx hSw; (try dsimp only at hSw); go_simp; (try (first | (with_reducible rfl) | assumption | rfl))) ?_
  simp only [Act.put, List.setIfInBounds_toArray, List.set_cons_zero, List.set_cons_succ]
  refine Lex.step_call ha12 rfl (Lex.want_none rfl) (fun K hK => ?_)
  go_simp
  refine (HS.out _ (HT.out.below hB)).mono ?_
  rintro e y5 ⟨rfl, hv⟩
  have f0 := cell_belowH hv f0
  have f1 := cell_belowH hv f1
  have f2 := cell_belowH hv f2
  have hB := hB.trans (hv.mono hB.size)
  clear hv
  refine hK.out _ _ _ (fun _ h => h) ⟨f0, f1, f2⟩ ?_
  clear hK K
  try simp only [Act.put, List.setIfInBounds_toArray, List.set_cons_zero, List.set_cons_succ]
  refine Lex.step_take (.string sx) ha13 rfl (Lex.want_none rfl) (by intro Wx hSw; (try dsimp only at hSw); go_simp; (try (first | (with_reducible rfl) | assumption | rfl))) ?_
  simp only [Act.put, List.setIfInBounds_toArray, List.set_cons_zero, List.set_cons_succ]
  refine NoPanic.normal ?_
  have HB := Lib.hid hB
  clear hB f0 f1 f2
  go_wp2
  go_ret
  exact ⟨rfl, HB.out⟩
set_option maxRecDepth 20000 in
set_option maxHeartbeats 3200000 in
theorem refPrint_any (h : H) (w : World) (h1 : RightH h) :
    Calls Tryd.prog 13 #[.agg (cellsH h)] w fun e w' => e = .returned (.string (headB h)) ∧ Below w.heap.size w w' := by
  have hB := (Below.refl w.heap.size w).alloc (Nat.le_refl _) (.cells (cellsH h) 23)
  have hf := BoxH.new w h 23
  obtain ⟨g, hg⟩ : ∃ g, w.heap.size = g := ⟨_, rfl⟩
  rw [hg] at hf
  generalize hwa : w.alloc (.cells (cellsH h) 23) = wa at hB hf
  obtain ⟨hp, hl, he⟩ := h
  have q0 := h1.p0
  have q1 := h1.p1
  have q2 := h1.l0
  have q3 := h1.l1
  have q4 := h1.e0
  have q5 := h1.e1
  clear h1
  simp only at q0 q1 q2 q3 q4 q5
  obtain ⟨pn, rfl⟩ : ∃ n : Nat, hp = n := ⟨hp.toNat, by omega⟩
  obtain ⟨ln, rfl⟩ : ∃ n : Nat, hl = n := ⟨hl.toNat, by omega⟩
  obtain ⟨en, rfl⟩ : ∃ n : Nat, he = n := ⟨he.toNat, by omega⟩
  obtain ⟨sx, hsx⟩ : ∃ x, headB ⟨pn, ln, en⟩ = x := ⟨_, rfl⟩
  rw [hsx]
  have hP := fun W => four_any pn W (by omega)
  have hL := fun W => four_any ln W (by omega)
  have hE := fun W => four_any en W (by omega)
  have hS := fun W => refSealed_any (hdH ⟨pn, ln, en⟩) W (by rw [hdH_size]; decide)
  rw [show sealed (hdH ⟨pn, ln, en⟩) 256 = sx from hsx, show hdH ⟨pn, ln, en⟩ = ⟨#[77, 79, 83, 65, 73, 67, 48, 49]⟩ ++ prt pn ++ prt ln ++ prt en from by unfold hdH; simp only [Int.toNat_natCast]; rfl] at hS
  have z0 : (⟨#[77, 79, 83, 65, 73, 67, 48, 49]⟩ : ByteArray).size = 8 := rfl
  have z1 : ((⟨#[77, 79, 83, 65, 73, 67, 48, 49]⟩ : ByteArray) ++ prt pn).size = 12 := by rw [ByteArray.size_append, prt_size, z0]
  have z2 : ((⟨#[77, 79, 83, 65, 73, 67, 48, 49]⟩ : ByteArray) ++ prt pn ++ prt ln).size = 16 := by rw [ByteArray.size_append, prt_size, z1]
  have z3 : ((⟨#[77, 79, 83, 65, 73, 67, 48, 49]⟩ : ByteArray) ++ prt pn ++ prt ln ++ prt en).size = 20 := by rw [ByteArray.size_append, prt_size, z2]
  have z5 := prt_size pn
  have z6 := prt_size ln
  have z7 := prt_size en
  generalize prt pn = pp at hP hS z1 z2 z3 z5
  generalize prt ln = pl at hL hS z2 z3 z6
  generalize prt en = pe at hE hS z3 z7
  have HS := Lib.hid hS
  clear hS hsx
  unfold cellsH at hwa ⊢
  simp only at hwa ⊢
  have f0 := hf.c0
  have f1 := hf.c1
  have f2 := hf.c2
  simp only at f0 f1 f2
  clear hf
  go_enter Tryd.func13, Tryd.ntmps13
  go_upto_region 1 with fail
  clear hwa hg
  have hdr := (Below.refl wa.heap.size wa).drew
  refine Lex.region_lex (ops := hbops) (calls := hbcalls) hbord (fun W => W.cell? ⟨g, 0, none⟩ = some (.int .i64 (pn : Int)) ∧ W.cell? ⟨g, 1, none⟩ = some (.int .i64 (ln : Int)) ∧ W.cell? ⟨g, 2, none⟩ = some (.int .i64 (en : Int))) (by kernel_rfl) (by kernel_rfl) hbsel (by kernel_rfl) (by kernel_rfl) hblex (⟨cell_belowH hdr f0, cell_belowH hdr f1, cell_belowH hdr f2⟩) ?_
  unfold hbord
  have f0 := cell_belowH hdr f0
  have f1 := cell_belowH hdr f1
  have f2 := cell_belowH hdr f2
  have hB := hB.trans (hdr.mono hB.size)
  clear hdr
  refine Lex.step_take (.pointer (some ⟨g, 0, none⟩)) hb0 rfl (Lex.want_none rfl) (by intro Wx hSw; (try dsimp only at hSw); go_simp; (try (first | (with_reducible rfl) | assumption | rfl))) ?_
  simp only [Act.put, List.setIfInBounds_toArray, List.set_cons_zero, List.set_cons_succ]
  refine Lex.step_take (.int .i64 (pn : Int)) hb1 rfl (Lex.want_none rfl) (by intro Wx hSw; (try dsimp only at hSw); go_simp; (try (first | (with_reducible rfl) | assumption | rfl))) ?_
  simp only [Act.put, List.setIfInBounds_toArray, List.set_cons_zero, List.set_cons_succ]
  refine Lex.step_take (.pointer (some ⟨g, 1, none⟩)) hb4 rfl (Lex.want_none rfl) (by intro Wx hSw; (try dsimp only at hSw); go_simp; (try (first | (with_reducible rfl) | assumption | rfl))) ?_
  simp only [Act.put, List.setIfInBounds_toArray, List.set_cons_zero, List.set_cons_succ]
  refine Lex.step_take (.int .i64 (ln : Int)) hb5 rfl (Lex.want_none rfl) (by intro Wx hSw; (try dsimp only at hSw); go_simp; (try (first | (with_reducible rfl) | assumption | rfl))) ?_
  simp only [Act.put, List.setIfInBounds_toArray, List.set_cons_zero, List.set_cons_succ]
  refine Lex.step_take (.pointer (some ⟨g, 2, none⟩)) hb8 rfl (Lex.want_none rfl) (by intro Wx hSw; (try dsimp only at hSw); go_simp; (try (first | (with_reducible rfl) | assumption | rfl))) ?_
  simp only [Act.put, List.setIfInBounds_toArray, List.set_cons_zero, List.set_cons_succ]
  refine Lex.step_take (.int .i64 (en : Int)) hb9 rfl (Lex.want_none rfl) (by intro Wx hSw; (try dsimp only at hSw); go_simp; (try (first | (with_reducible rfl) | assumption | rfl))) ?_
  simp only [Act.put, List.setIfInBounds_toArray, List.set_cons_zero, List.set_cons_succ]
  refine Lex.step_call hb2 rfl (Lex.want_none rfl) (fun K hK => ?_)
  go_simp
  refine (hP _).mono ?_
  rintro e y2 ⟨rfl, hv⟩
  have f0 := cell_belowH hv f0
  have f1 := cell_belowH hv f1
  have f2 := cell_belowH hv f2
  have hB := hB.trans (hv.mono hB.size)
  clear hv
  refine hK.out _ _ _ (fun _ h => h) ⟨f0, f1, f2⟩ ?_
  clear hK K
  try simp only [Act.put, List.setIfInBounds_toArray, List.set_cons_zero, List.set_cons_succ]
  refine Lex.step_take (.string (⟨#[77, 79, 83, 65, 73, 67, 48, 49]⟩ ++ pp)) hb3 rfl (Lex.want_none rfl) (by intro Wx hSw; (try dsimp only at hSw); go_simp; (try (first | (with_reducible rfl) | assumption | rfl))) ?_
  simp only [Act.put, List.setIfInBounds_toArray, List.set_cons_zero, List.set_cons_succ]
  refine Lex.step_call hb6 rfl (Lex.want_none rfl) (fun K hK => ?_)
  go_simp
  refine (hL _).mono ?_
  rintro e y3 ⟨rfl, hv⟩
  have f0 := cell_belowH hv f0
  have f1 := cell_belowH hv f1
  have f2 := cell_belowH hv f2
  have hB := hB.trans (hv.mono hB.size)
  clear hv
  refine hK.out _ _ _ (fun _ h => h) ⟨f0, f1, f2⟩ ?_
  clear hK K
  try simp only [Act.put, List.setIfInBounds_toArray, List.set_cons_zero, List.set_cons_succ]
  refine Lex.step_take (.string (⟨#[77, 79, 83, 65, 73, 67, 48, 49]⟩ ++ pp ++ pl)) hb7 rfl (Lex.want_none rfl) (by intro Wx hSw; (try dsimp only at hSw); go_simp; (try (first | (with_reducible rfl) | assumption | rfl))) ?_
  simp only [Act.put, List.setIfInBounds_toArray, List.set_cons_zero, List.set_cons_succ]
  refine Lex.step_call hb10 rfl (Lex.want_none rfl) (fun K hK => ?_)
  go_simp
  refine (hE _).mono ?_
  rintro e y4 ⟨rfl, hv⟩
  have f0 := cell_belowH hv f0
  have f1 := cell_belowH hv f1
  have f2 := cell_belowH hv f2
  have hB := hB.trans (hv.mono hB.size)
  clear hv
  refine hK.out _ _ _ (fun _ h => h) ⟨f0, f1, f2⟩ ?_
  clear hK K
  try simp only [Act.put, List.setIfInBounds_toArray, List.set_cons_zero, List.set_cons_succ]
  refine Lex.step_take (.string (⟨#[77, 79, 83, 65, 73, 67, 48, 49]⟩ ++ pp ++ pl ++ pe)) hb11 rfl (Lex.want_none rfl) (by intro Wx hSw; (try dsimp only at hSw); go_simp; (try (first | (with_reducible rfl) | assumption | rfl))) ?_
  simp only [Act.put, List.setIfInBounds_toArray, List.set_cons_zero, List.set_cons_succ]
  refine Lex.step_call hb12 rfl (Lex.want_none rfl) (fun K hK => ?_)
  go_simp
  refine (HS.out _).mono ?_
  rintro e y5 ⟨rfl, hv⟩
  have f0 := cell_belowH hv f0
  have f1 := cell_belowH hv f1
  have f2 := cell_belowH hv f2
  have hB := hB.trans (hv.mono hB.size)
  clear hv
  refine hK.out _ _ _ (fun _ h => h) ⟨f0, f1, f2⟩ ?_
  clear hK K
  try simp only [Act.put, List.setIfInBounds_toArray, List.set_cons_zero, List.set_cons_succ]
  refine Lex.step_take (.string sx) hb13 rfl (Lex.want_none rfl) (by intro Wx hSw; (try dsimp only at hSw); go_simp; (try (first | (with_reducible rfl) | assumption | rfl))) ?_
  simp only [Act.put, List.setIfInBounds_toArray, List.set_cons_zero, List.set_cons_succ]
  refine NoPanic.normal ?_
  have HB := Lib.hid hB
  clear hB f0 f1 f2
  go_wp2
  go_ret
  exact ⟨rfl, HB.out⟩
end Go.Proofs.YtdbemkdfndjakaaDoor.Hd
