/- Texts Xcj, Xfp, FrM, FrN, Xha, HdD, Xhl, Xhn, Xhp, Xhs, HdE, HdF, HdG, HdH, HdI, HdJ, one behind the other. -/
import Derived.Test.YtcgkbcgpnlogoaaGreatDoorMgAD
import Derived.Test.YtcgkbcgpnlogoaaGreatDoorMgAA
import Derived.KernelRfl
import Derived.Test.YtcgkbcgpnlogoaaGreatDoorProg
import Derived.Test.YtcgkbcgpnlogoaaGreatDoorMgAB
import Derived.Test.YtcgkbcgpnlogoaaGreatDoorMgAC
/- The operations of drawn regions, each by its number; the trees of their orders. -/
namespace Go.Proofs.YtcgkbcgpnlogoaaGreatDoor.Cl
open Lex

noncomputable def pqops : Array Oper := #[{ dst := some 30, op := Op.fieldAddr 35 (Operand.tmp 2) 0, type := 0, pos := "clock.go:37", after := #[], guard := none },
 { dst := some 31, op := Op.load 33 (Operand.tmp 30), type := 33, pos := "clock.go:37", after := #[{ on := 0, ground := Ground.data }], guard := none },
 { dst := some 32, op := Op.call { callee := Callee.value (Operand.func 166), args := #[Operand.tmp 31], argTypes := #[33] }, type := 33, pos := "clock.go:37", after := #[{ on := 1, ground := Ground.data }], guard := none },
 { dst := some 33, op := Op.load 195 (Operand.tmp 5), type := 195, pos := "clock.go:37", after := #[], guard := none },
 { dst := some 34, op := Op.buildSlice 33 1 #[(0, Operand.tmp 33)], type := 33, pos := "clock.go:37", after := #[{ on := 3, ground := Ground.data }], guard := none }]
def pqtree : Tr := (.op 0 (.op 1 (.op 3 (.alt 2 (.alt 4 .fin .fin) (.alt 4 (.alt 2 .fin .fin) .fin)))))
theorem pqsel : Region.noSelect pqops = true := by kernel_rfl
theorem pqlex : lexT pqops pqops.size [] pqtree (Array.replicate pqops.size false) = true := by kernel_rfl
theorem pq0 : pqops[0]? = some { dst := some 30, op := Op.fieldAddr 35 (Operand.tmp 2) 0, type := 0, pos := "clock.go:37", after := #[], guard := none } := by kernel_rfl
theorem pq1 : pqops[1]? = some { dst := some 31, op := Op.load 33 (Operand.tmp 30), type := 33, pos := "clock.go:37", after := #[{ on := 0, ground := Ground.data }], guard := none } := by kernel_rfl
theorem pq2 : pqops[2]? = some { dst := some 32, op := Op.call { callee := Callee.value (Operand.func 166), args := #[Operand.tmp 31], argTypes := #[33] }, type := 33, pos := "clock.go:37", after := #[{ on := 1, ground := Ground.data }], guard := none } := by kernel_rfl
theorem pq3 : pqops[3]? = some { dst := some 33, op := Op.load 195 (Operand.tmp 5), type := 195, pos := "clock.go:37", after := #[], guard := none } := by kernel_rfl
theorem pq4 : pqops[4]? = some { dst := some 34, op := Op.buildSlice 33 1 #[(0, Operand.tmp 33)], type := 33, pos := "clock.go:37", after := #[{ on := 3, ground := Ground.data }], guard := none } := by kernel_rfl
noncomputable def pqraw : Array Oper := Lex.opsOf Tryz.f89 7
theorem pqcut : pqops = pqraw.extract 0 5 := by kernel_rfl
theorem pqsize : pqraw.size = 8 := by kernel_rfl
theorem pqrsel : Region.noSelect pqraw = true := by kernel_rfl
theorem pqtlex : lexH pqraw [5, 7] [5, 6, 7] (extL (Array.replicate 5 true) pqraw.size) = true := by kernel_rfl
theorem pqt5 : pqraw[5]? = some { dst := some 35, op := Op.call { callee := Callee.builtin Builtin.append, args := #[Operand.tmp 32, Operand.tmp 34], argTypes := #[33, 33] }, type := 33, pos := "clock.go:37", after := #[{ on := 2, ground := Ground.data }, { on := 4, ground := Ground.data }, { on := 2, ground := Ground.chain }], guard := none } := by kernel_rfl
theorem pqt6 : pqraw[6]? = some { dst := some 36, op := Op.fieldAddr 35 (Operand.tmp 2) 0, type := 0, pos := "clock.go:37", after := #[{ on := 0, ground := Ground.phase }, { on := 1, ground := Ground.phase }, { on := 2, ground := Ground.phase }, { on := 3, ground := Ground.phase }, { on := 4, ground := Ground.phase }, { on := 5, ground := Ground.phase }], guard := none } := by kernel_rfl
theorem pqt7 : pqraw[7]? = some { dst := none, op := Op.store 33 (Operand.tmp 36) (Operand.tmp 35), type := 0, pos := "clock.go:37", after := #[{ on := 6, ground := Ground.data }, { on := 5, ground := Ground.data }, { on := 5, ground := Ground.chain }, { on := 0, ground := Ground.phase }, { on := 1, ground := Ground.phase }, { on := 2, ground := Ground.phase }, { on := 3, ground := Ground.phase }, { on := 4, ground := Ground.phase }, { on := 5, ground := Ground.phase }], guard := none } := by kernel_rfl
end Go.Proofs.YtcgkbcgpnlogoaaGreatDoor.Cl

/- The operations of a condition, each by its number. -/
namespace Go.Proofs.YtcgkbcgpnlogoaaGreatDoor.Fr
open Lex

noncomputable def fpops : Array Oper := Lex.opsOf Tryz.f202 3
def fpcalls : List Nat := [2, 5, 9, 13, 18]
def fpord : List Nat := [0, 1, 3, 4, 7, 8, 11, 12, 15, 16, 2, 5, 6, 9, 10, 13, 14, 17, 18, 19]
theorem fpsel : Region.noSelect fpops = true := by kernel_rfl
theorem fplex : lexH fpops fpcalls fpord (Array.replicate fpops.size false) = true := by kernel_rfl
theorem fp0 : fpops[0]? = some { dst := some 19, op := Op.fieldAddr 124 (Operand.tmp 1) 2, type := 0, pos := "frame.go:40", after := #[], guard := none } := by kernel_rfl
theorem fp1 : fpops[1]? = some { dst := some 20, op := Op.load 4 (Operand.tmp 19), type := 4, pos := "frame.go:40", after := #[{ on := 0, ground := Ground.data }], guard := none } := by kernel_rfl
theorem fp2 : fpops[2]? = some { dst := some 21, op := Op.call { callee := Callee.value (Operand.func 248), args := #[Operand.tmp 20], argTypes := #[4] }, type := 9, pos := "frame.go:40", after := #[{ on := 1, ground := Ground.data }], guard := none } := by kernel_rfl
theorem fp3 : fpops[3]? = some { dst := some 22, op := Op.fieldAddr 124 (Operand.tmp 1) 0, type := 0, pos := "frame.go:40", after := #[], guard := none } := by kernel_rfl
theorem fp4 : fpops[4]? = some { dst := some 23, op := Op.load 3 (Operand.tmp 22), type := 3, pos := "frame.go:40", after := #[{ on := 3, ground := Ground.data }], guard := none } := by kernel_rfl
theorem fp5 : fpops[5]? = some { dst := some 24, op := Op.call { callee := Callee.value (Operand.func 209), args := #[Operand.tmp 23], argTypes := #[3] }, type := 9, pos := "frame.go:40", after := #[{ on := 4, ground := Ground.data }, { on := 2, ground := Ground.chain }], guard := none } := by kernel_rfl
theorem fp6 : fpops[6]? = some { dst := some 25, op := Op.binOp BinOp.add 9 (Operand.tmp 21) (Operand.tmp 24) 9, type := 9, pos := "frame.go:40", after := #[{ on := 2, ground := Ground.data }, { on := 5, ground := Ground.data }], guard := none } := by kernel_rfl
theorem fp7 : fpops[7]? = some { dst := some 26, op := Op.fieldAddr 124 (Operand.tmp 1) 1, type := 0, pos := "frame.go:40", after := #[], guard := none } := by kernel_rfl
theorem fp8 : fpops[8]? = some { dst := some 27, op := Op.load 3 (Operand.tmp 26), type := 3, pos := "frame.go:40", after := #[{ on := 7, ground := Ground.data }], guard := none } := by kernel_rfl
theorem fp9 : fpops[9]? = some { dst := some 28, op := Op.call { callee := Callee.value (Operand.func 209), args := #[Operand.tmp 27], argTypes := #[3] }, type := 9, pos := "frame.go:40", after := #[{ on := 8, ground := Ground.data }, { on := 5, ground := Ground.chain }], guard := none } := by kernel_rfl
theorem fp10 : fpops[10]? = some { dst := some 29, op := Op.binOp BinOp.add 9 (Operand.tmp 25) (Operand.tmp 28) 9, type := 9, pos := "frame.go:40", after := #[{ on := 6, ground := Ground.data }, { on := 9, ground := Ground.data }], guard := none } := by kernel_rfl
theorem fp11 : fpops[11]? = some { dst := some 30, op := Op.fieldAddr 124 (Operand.tmp 1) 3, type := 0, pos := "frame.go:40", after := #[], guard := none } := by kernel_rfl
theorem fp12 : fpops[12]? = some { dst := some 31, op := Op.load 3 (Operand.tmp 30), type := 3, pos := "frame.go:40", after := #[{ on := 11, ground := Ground.data }], guard := none } := by kernel_rfl
theorem fp13 : fpops[13]? = some { dst := some 32, op := Op.call { callee := Callee.value (Operand.func 209), args := #[Operand.tmp 31], argTypes := #[3] }, type := 9, pos := "frame.go:40", after := #[{ on := 12, ground := Ground.data }, { on := 9, ground := Ground.chain }], guard := none } := by kernel_rfl
theorem fp14 : fpops[14]? = some { dst := some 33, op := Op.binOp BinOp.add 9 (Operand.tmp 29) (Operand.tmp 32) 9, type := 9, pos := "frame.go:40", after := #[{ on := 10, ground := Ground.data }, { on := 13, ground := Ground.data }], guard := none } := by kernel_rfl
theorem fp15 : fpops[15]? = some { dst := some 34, op := Op.fieldAddr 124 (Operand.tmp 1) 4, type := 0, pos := "frame.go:40", after := #[], guard := none } := by kernel_rfl
theorem fp16 : fpops[16]? = some { dst := some 35, op := Op.load 9 (Operand.tmp 34), type := 9, pos := "frame.go:40", after := #[{ on := 15, ground := Ground.data }], guard := none } := by kernel_rfl
theorem fp17 : fpops[17]? = some { dst := some 36, op := Op.binOp BinOp.add 9 (Operand.tmp 33) (Operand.tmp 35) 9, type := 9, pos := "frame.go:40", after := #[{ on := 14, ground := Ground.data }, { on := 16, ground := Ground.data }], guard := none } := by kernel_rfl
theorem fp18 : fpops[18]? = some { dst := some 37, op := Op.call { callee := Callee.value (Operand.func 208), args := #[Operand.tmp 36, Operand.const (Value.int IntKind.i64 256)], argTypes := #[9, 3] }, type := 9, pos := "frame.go:40", after := #[{ on := 17, ground := Ground.data }, { on := 13, ground := Ground.chain }], guard := none } := by kernel_rfl
theorem fp19 : fpops[19]? = some { dst := some 2, op := Op.assign (Operand.tmp 37), type := 9, pos := "frame.go:40", after := #[{ on := 18, ground := Ground.data }, { on := 18, ground := Ground.chain }, { on := 0, ground := Ground.phase }, { on := 1, ground := Ground.phase }, { on := 2, ground := Ground.phase }, { on := 3, ground := Ground.phase }, { on := 4, ground := Ground.phase }, { on := 5, ground := Ground.phase }, { on := 6, ground := Ground.phase }, { on := 7, ground := Ground.phase }, { on := 8, ground := Ground.phase }, { on := 9, ground := Ground.phase }, { on := 10, ground := Ground.phase }, { on := 11, ground := Ground.phase }, { on := 12, ground := Ground.phase }, { on := 13, ground := Ground.phase }, { on := 14, ground := Ground.phase }, { on := 15, ground := Ground.phase }, { on := 16, ground := Ground.phase }, { on := 17, ground := Ground.phase }, { on := 18, ground := Ground.phase }], guard := none } := by kernel_rfl
end Go.Proofs.YtcgkbcgpnlogoaaGreatDoor.Fr

/- Frames: the program's Print at 4d08357, walked. -/
namespace Go.Proofs.YtcgkbcgpnlogoaaGreatDoor.Fr
open Go.RowKit Tal Lf Lex
set_option maxRecDepth 20000 in
set_option maxHeartbeats 3200000 in
theorem print_any (f : F) (w : World) (ht : Tab w) (h : RightF f) :
  Calls Tryz.prog 202 #[.agg (cellsF f)] w fun e w' => e = .returned (.string (frameB f)) ∧ Below w.heap.size w w' := by
 have HT := Lib.hid ht
 clear ht
 have hB := (Below.refl w.heap.size w).alloc (Nat.le_refl _) (.cells (cellsF f) 124)
 have hf := BoxF.new w f 124
 obtain ⟨g, hg⟩ : ∃ g, w.heap.size = g := ⟨_, rfl⟩
 rw [hg] at hf
 generalize hwa : w.alloc (.cells (cellsF f) 124) = wa at hB hf
 obtain ⟨fe, fi, fc, fp, fd⟩ := f
 have q0 := h.e0
 have q1 := h.e1
 have q2 := h.i0
 have q3 := h.i1
 have q4 := h.p0
 have q5 := h.p1
 have hds := h.small
 clear h
 simp only at q0 q1 q2 q3 q4 q5 hds
 obtain ⟨en, rfl⟩ : ∃ n : Nat, fe = n := ⟨fe.toNat, by omega⟩
 obtain ⟨ix, rfl⟩ : ∃ n : Nat, fi = n := ⟨fi.toNat, by omega⟩
 obtain ⟨pn, rfl⟩ : ∃ n : Nat, fp = n := ⟨fp.toNat, by omega⟩
 obtain ⟨sx, hsx⟩ : ∃ x, frameB ⟨en, ix, fc, pn, fd⟩ = x := ⟨_, rfl⟩
 rw [hsx]
 have r0 := fun W => hasRoom_any en W (by omega) (by omega)
 have r1 := fun W => hasRoom_any ix W (by omega) (by omega)
 have r2 := fun W => hasRoom_any pn W (by omega) (by omega)
 have hM := fun W => markOf_any fc W
 have hE := fun W => fprinted_any en W (by omega)
 have hI := fun W => fprinted_any ix W (by omega)
 have hP := fun W => fprinted_any pn W (by omega)
 have hS := fun W (ht : Tab W) => sealed_any (hdF ⟨en, ix, fc, pn, fd⟩ ++ fd) 256 W ht (by decide) (by rw [ByteArray.size_append, hdF_size]; omega)
 rw [show sealed (hdF ⟨en, ix, fc, pn, fd⟩ ++ fd) (256 : Int).toNat = sx from hsx, show hdF ⟨en, ix, fc, pn, fd⟩ = markB fc ++ prt en ++ prt ix ++ prt pn from by unfold hdF; simp only [Int.toNat_natCast]; rfl] at hS
 have z0 : (markB fc).size = 4 := rfl
 have z1 : (markB fc ++ prt en).size = 8 := by rw [ByteArray.size_append, prt_size, z0]
 have z2 : (markB fc ++ prt en ++ prt ix).size = 12 := by rw [ByteArray.size_append, prt_size, z1]
 have z3 : (markB fc ++ prt en ++ prt ix ++ prt pn).size = 16 := by rw [ByteArray.size_append, prt_size, z2]
 have z5 := prt_size en
 have z6 := prt_size ix
 have z7 := prt_size pn
 have z8 : 16 + fd.size ≤ 9223372036854775807 := by omega
 generalize markB fc = mk at hM hS z0 z1 z2 z3
 generalize prt en = pe at hE hS z1 z2 z3 z5
 generalize prt ix = pi at hI hS z2 z3 z6
 generalize prt pn = pp at hP hS z3 z7
 have HS := Lib.hid hS
 clear hS hsx
 unfold cellsF at hwa ⊢
 simp only at hwa ⊢
 have f0 := hf.c0
 have f1 := hf.c1
 have f2 := hf.c2
 have f3 := hf.c3
 have f4 := hf.c4
 simp only at f0 f1 f2 f3 f4
 clear hf
 go_enter Tryz.func202, Tryz.ntmps202
 go_wp2_with fail
 clear hwa hg
 refine (r0 _).mono ?_
 rintro e w2 ⟨rfl, rfl⟩
 go_wp2_with fail
 refine (r1 _).mono ?_
 rintro e w3 ⟨rfl, rfl⟩
 go_wp2_with fail
 refine (r2 _).mono ?_
 rintro e w4 ⟨rfl, rfl⟩
 clear r0 r1 r2
 go_upto_region 3 with fail
 have hdr := (Below.refl w4.heap.size w4).drew
 refine Lex.region_lex (ops := fpops) (calls := fpcalls) fpord (fun W => W.cell? ⟨g, 0, none⟩ = some (.int .i64 (en : Int)) ∧ W.cell? ⟨g, 1, none⟩ = some (.int .i64 (ix : Int)) ∧ W.cell? ⟨g, 2, none⟩ = some (.bool fc) ∧ W.cell? ⟨g, 3, none⟩ = some (.int .i64 (pn : Int)) ∧ W.cell? ⟨g, 4, none⟩ = some (.string fd)) (by kernel_rfl) (by kernel_rfl) fpsel (by kernel_rfl) (by kernel_rfl) fplex (⟨cell_belowF hdr f0, cell_belowF hdr f1, cell_belowF hdr f2, cell_belowF hdr f3, cell_belowF hdr f4⟩) ?_
 unfold fpord
 have f0 := cell_belowF hdr f0
 have f1 := cell_belowF hdr f1
 have f2 := cell_belowF hdr f2
 have f3 := cell_belowF hdr f3
 have f4 := cell_belowF hdr f4
 have hB := hB.trans (hdr.mono hB.size)
 clear hdr
 refine Lex.step_take (.pointer (some ⟨g, 2, none⟩)) fp0 rfl (Lex.want_none rfl) (by intro Wx hSw; (try dsimp only at hSw); go_simp; (try (first | (with_reducible rfl) | assumption | rfl))) ?_
 simp only [Act.put, List.setIfInBounds_toArray, List.set_cons_zero, List.set_cons_succ]
 refine Lex.step_take (.bool fc) fp1 rfl (Lex.want_none rfl) (by intro Wx hSw; (try dsimp only at hSw); go_simp; (try (first | (with_reducible rfl) | assumption | rfl))) ?_
 simp only [Act.put, List.setIfInBounds_toArray, List.set_cons_zero, List.set_cons_succ]
 refine Lex.step_take (.pointer (some ⟨g, 0, none⟩)) fp3 rfl (Lex.want_none rfl) (by intro Wx hSw; (try dsimp only at hSw); go_simp; (try (first | (with_reducible rfl) | assumption | rfl))) ?_
 simp only [Act.put, List.setIfInBounds_toArray, List.set_cons_zero, List.set_cons_succ]
 refine Lex.step_take (.int .i64 (en : Int)) fp4 rfl (Lex.want_none rfl) (by intro Wx hSw; (try dsimp only at hSw); go_simp; (try (first | (with_reducible rfl) | assumption | rfl))) ?_
 simp only [Act.put, List.setIfInBounds_toArray, List.set_cons_zero, List.set_cons_succ]
 refine Lex.step_take (.pointer (some ⟨g, 1, none⟩)) fp7 rfl (Lex.want_none rfl) (by intro Wx hSw; (try dsimp only at hSw); go_simp; (try (first | (with_reducible rfl) | assumption | rfl))) ?_
 simp only [Act.put, List.setIfInBounds_toArray, List.set_cons_zero, List.set_cons_succ]
 refine Lex.step_take (.int .i64 (ix : Int)) fp8 rfl (Lex.want_none rfl) (by intro Wx hSw; (try dsimp only at hSw); go_simp; (try (first | (with_reducible rfl) | assumption | rfl))) ?_
 simp only [Act.put, List.setIfInBounds_toArray, List.set_cons_zero, List.set_cons_succ]
 refine Lex.step_take (.pointer (some ⟨g, 3, none⟩)) fp11 rfl (Lex.want_none rfl) (by intro Wx hSw; (try dsimp only at hSw); go_simp; (try (first | (with_reducible rfl) | assumption | rfl))) ?_
 simp only [Act.put, List.setIfInBounds_toArray, List.set_cons_zero, List.set_cons_succ]
 refine Lex.step_take (.int .i64 (pn : Int)) fp12 rfl (Lex.want_none rfl) (by intro Wx hSw; (try dsimp only at hSw); go_simp; (try (first | (with_reducible rfl) | assumption | rfl))) ?_
 simp only [Act.put, List.setIfInBounds_toArray, List.set_cons_zero, List.set_cons_succ]
 refine Lex.step_take (.pointer (some ⟨g, 4, none⟩)) fp15 rfl (Lex.want_none rfl) (by intro Wx hSw; (try dsimp only at hSw); go_simp; (try (first | (with_reducible rfl) | assumption | rfl))) ?_
 simp only [Act.put, List.setIfInBounds_toArray, List.set_cons_zero, List.set_cons_succ]
 refine Lex.step_take (.string fd) fp16 rfl (Lex.want_none rfl) (by intro Wx hSw; (try dsimp only at hSw); go_simp; (try (first | (with_reducible rfl) | assumption | rfl))) ?_
 simp only [Act.put, List.setIfInBounds_toArray, List.set_cons_zero, List.set_cons_succ]
 refine Lex.step_call fp2 rfl (Lex.want_none rfl) (fun K hK => ?_)
 go_simp
 refine (hM _).mono ?_
 rintro e y1 ⟨rfl, rfl⟩
 refine hK.out _ _ _ (fun _ h => h) ⟨f0, f1, f2, f3, f4⟩ ?_
 clear hK K
 try simp only [Act.put, List.setIfInBounds_toArray, List.set_cons_zero, List.set_cons_succ]
 refine Lex.step_call fp5 rfl (Lex.want_none rfl) (fun K hK => ?_)
 go_simp
 refine (hE _).mono ?_
 rintro e y2 ⟨rfl, hv⟩
 have f0 := cell_belowF hv f0
 have f1 := cell_belowF hv f1
 have f2 := cell_belowF hv f2
 have f3 := cell_belowF hv f3
 have f4 := cell_belowF hv f4
 have hB := hB.trans (hv.mono hB.size)
 clear hv
 refine hK.out _ _ _ (fun _ h => h) ⟨f0, f1, f2, f3, f4⟩ ?_
 clear hK K
 try simp only [Act.put, List.setIfInBounds_toArray, List.set_cons_zero, List.set_cons_succ]
 refine Lex.step_take (.string (mk ++ pe)) fp6 rfl (Lex.want_none rfl) (by intro Wx hSw; (try dsimp only at hSw); go_simp; (try (first | (with_reducible rfl) | assumption | rfl))) ?_
 simp only [Act.put, List.setIfInBounds_toArray, List.set_cons_zero, List.set_cons_succ]
 refine Lex.step_call fp9 rfl (Lex.want_none rfl) (fun K hK => ?_)
 go_simp
 refine (hI _).mono ?_
 rintro e y3 ⟨rfl, hv⟩
 have f0 := cell_belowF hv f0
 have f1 := cell_belowF hv f1
 have f2 := cell_belowF hv f2
 have f3 := cell_belowF hv f3
 have f4 := cell_belowF hv f4
 have hB := hB.trans (hv.mono hB.size)
 clear hv
 refine hK.out _ _ _ (fun _ h => h) ⟨f0, f1, f2, f3, f4⟩ ?_
 clear hK K
 try simp only [Act.put, List.setIfInBounds_toArray, List.set_cons_zero, List.set_cons_succ]
 refine Lex.step_take (.string (mk ++ pe ++ pi)) fp10 rfl (Lex.want_none rfl) (by intro Wx hSw; (try dsimp only at hSw); go_simp; (try (first | (with_reducible rfl) | assumption | rfl))) ?_
 simp only [Act.put, List.setIfInBounds_toArray, List.set_cons_zero, List.set_cons_succ]
 refine Lex.step_call fp13 rfl (Lex.want_none rfl) (fun K hK => ?_)
 go_simp
 refine (hP _).mono ?_
 rintro e y4 ⟨rfl, hv⟩
 have f0 := cell_belowF hv f0
 have f1 := cell_belowF hv f1
 have f2 := cell_belowF hv f2
 have f3 := cell_belowF hv f3
 have f4 := cell_belowF hv f4
 have hB := hB.trans (hv.mono hB.size)
 clear hv
 refine hK.out _ _ _ (fun _ h => h) ⟨f0, f1, f2, f3, f4⟩ ?_
 clear hK K
 try simp only [Act.put, List.setIfInBounds_toArray, List.set_cons_zero, List.set_cons_succ]
 refine Lex.step_take (.string (mk ++ pe ++ pi ++ pp)) fp14 rfl (Lex.want_none rfl) (by intro Wx hSw; (try dsimp only at hSw); go_simp; (try (first | (with_reducible rfl) | assumption | rfl))) ?_
 simp only [Act.put, List.setIfInBounds_toArray, List.set_cons_zero, List.set_cons_succ]
 refine Lex.step_take (.string (mk ++ pe ++ pi ++ pp ++ fd)) fp17 rfl (Lex.want_none rfl) (by intro Wx hSw; (try dsimp only at hSw); go_simp; (try (first | (with_reducible rfl) | assumption | rfl))) ?_
 simp only [Act.put, List.setIfInBounds_toArray, List.set_cons_zero, List.set_cons_succ]
 refine Lex.step_call fp18 rfl (Lex.want_none rfl) (fun K hK => ?_)
 go_simp
 refine (HS.out _ (HT.out.below hB)).mono ?_
 rintro e y5 ⟨rfl, hv⟩
 have f0 := cell_belowF hv f0
 have f1 := cell_belowF hv f1
 have f2 := cell_belowF hv f2
 have f3 := cell_belowF hv f3
 have f4 := cell_belowF hv f4
 have hB := hB.trans (hv.mono hB.size)
 clear hv
 refine hK.out _ _ _ (fun _ h => h) ⟨f0, f1, f2, f3, f4⟩ ?_
 clear hK K
 try simp only [Act.put, List.setIfInBounds_toArray, List.set_cons_zero, List.set_cons_succ]
 refine Lex.step_take (.string sx) fp19 rfl (Lex.want_none rfl) (by intro Wx hSw; (try dsimp only at hSw); go_simp; (try (first | (with_reducible rfl) | assumption | rfl))) ?_
 simp only [Act.put, List.setIfInBounds_toArray, List.set_cons_zero, List.set_cons_succ]
 refine NoPanic.normal ?_
 have HB := Lib.hid hB
 clear hB f0 f1 f2 f3 f4
 go_wp2
 go_ret
 exact ⟨rfl, HB.out⟩
end Go.Proofs.YtcgkbcgpnlogoaaGreatDoor.Fr

/- Frames: the program's read and Parse at 4d08357, walked. -/
namespace Go.Proofs.YtcgkbcgpnlogoaaGreatDoor.Fr
open Go.RowKit Tal Lf
theorem results_fr1 {fn : Func} {p : Tmp} (h : fn.results = #[.cell p 124]) (tmps : Array Value) (w : World) (g : Nat) (v0 v1 v2 v3 v4 : Value)
  (hp : tmps.getD p undef = .pointer (some ⟨g, 0, none⟩)) (c0 : w.cell? ⟨g, 0, none⟩ = some v0) (c1 : w.cell? ⟨g, 1, none⟩ = some v1) (c2 : w.cell? ⟨g, 2, none⟩ = some v2) (c3 : w.cell? ⟨g, 3, none⟩ = some v3) (c4 : w.cell? ⟨g, 4, none⟩ = some v4) :
  (results fn tmps).run Tryz.prog w = .ok (.agg #[v0, v1, v2, v3, v4]) w := by
 have hp' : tmps[p]?.getD undef = .pointer (some ⟨g, 0, none⟩) := by simpa using hp
 clear hp
 simp only [results, h]
 go_simp
theorem results_fr2 {fn : Func} {p q : Tmp} (h : fn.results = #[.cell p 124, .tmp q]) (tmps : Array Value) (w : World) (g : Nat) (v0 v1 v2 v3 v4 : Value)
  (hp : tmps.getD p undef = .pointer (some ⟨g, 0, none⟩)) (c0 : w.cell? ⟨g, 0, none⟩ = some v0) (c1 : w.cell? ⟨g, 1, none⟩ = some v1) (c2 : w.cell? ⟨g, 2, none⟩ = some v2) (c3 : w.cell? ⟨g, 3, none⟩ = some v3) (c4 : w.cell? ⟨g, 4, none⟩ = some v4) :
  (results fn tmps).run Tryz.prog w = .ok (.tuple #[.agg #[v0, v1, v2, v3, v4], tmps.getD q undef]) w := by
 have hp' : tmps[p]?.getD undef = .pointer (some ⟨g, 0, none⟩) := by simpa using hp
 clear hp
 simp only [results, h]
 go_simp
section
variable {w w' : World} {g B : Nat} {f : F}
theorem cell_set (w : World) (g i j : Nat) (u v : Value) (hij : i ≠ j) (h : w.cell? ⟨g, j, none⟩ = some v) : (w.setCell ⟨g, i, none⟩ u).cell? ⟨g, j, none⟩ = some v :=
 (World.cell?_setCell_other w _ _ u (fun e => by injection e with _ e2; exact hij e2)).trans h
/-- Another frame put into the variable. -/
theorem BoxF.put (h : BoxF w g f) (u : F) : BoxF (((((w.setCell ⟨g, 0, none⟩ (.int .i64 u.e)).setCell ⟨g, 1, none⟩ (.int .i64 u.i)).setCell ⟨g, 2, none⟩ (.bool u.c)).setCell ⟨g, 3, none⟩ (.int .i64 u.p)).setCell ⟨g, 4, none⟩ (.string u.d)) g u := by
 have a0 := World.cell?_setCell_same w ⟨g, 0, none⟩ (.int .i64 u.e) h.c0
 have b1 := cell_set w g 0 1 (.int .i64 u.e) _ (by decide) h.c1
 have b2 := cell_set w g 0 2 (.int .i64 u.e) _ (by decide) h.c2
 have b3 := cell_set w g 0 3 (.int .i64 u.e) _ (by decide) h.c3
 have b4 := cell_set w g 0 4 (.int .i64 u.e) _ (by decide) h.c4
 have f0 : ∀ i, (w.setCell ⟨g, 0, none⟩ (.int .i64 u.e)).frozen? ⟨g, i, none⟩ = false := fun i => by rw [World.frozen?_setCell]; exact h.f i
 generalize w.setCell ⟨g, 0, none⟩ (.int .i64 u.e) = w1 at a0 b1 b2 b3 b4 f0 ⊢
 have a0 := cell_set w1 g 1 0 (.int .i64 u.i) _ (by decide) a0
 have a1 := World.cell?_setCell_same w1 ⟨g, 1, none⟩ (.int .i64 u.i) b1
 have b2 := cell_set w1 g 1 2 (.int .i64 u.i) _ (by decide) b2
 have b3 := cell_set w1 g 1 3 (.int .i64 u.i) _ (by decide) b3
 have b4 := cell_set w1 g 1 4 (.int .i64 u.i) _ (by decide) b4
 have f0 : ∀ i, (w1.setCell ⟨g, 1, none⟩ (.int .i64 u.i)).frozen? ⟨g, i, none⟩ = false := fun i => by rw [World.frozen?_setCell]; exact f0 i
 generalize w1.setCell ⟨g, 1, none⟩ (.int .i64 u.i) = w2 at a0 a1 b2 b3 b4 f0 ⊢
 have a0 := cell_set w2 g 2 0 (.bool u.c) _ (by decide) a0
 have a1 := cell_set w2 g 2 1 (.bool u.c) _ (by decide) a1
 have a2 := World.cell?_setCell_same w2 ⟨g, 2, none⟩ (.bool u.c) b2
 have b3 := cell_set w2 g 2 3 (.bool u.c) _ (by decide) b3
 have b4 := cell_set w2 g 2 4 (.bool u.c) _ (by decide) b4
 have f0 : ∀ i, (w2.setCell ⟨g, 2, none⟩ (.bool u.c)).frozen? ⟨g, i, none⟩ = false := fun i => by rw [World.frozen?_setCell]; exact f0 i
 generalize w2.setCell ⟨g, 2, none⟩ (.bool u.c) = w3 at a0 a1 a2 b3 b4 f0 ⊢
 have a0 := cell_set w3 g 3 0 (.int .i64 u.p) _ (by decide) a0
 have a1 := cell_set w3 g 3 1 (.int .i64 u.p) _ (by decide) a1
 have a2 := cell_set w3 g 3 2 (.int .i64 u.p) _ (by decide) a2
 have a3 := World.cell?_setCell_same w3 ⟨g, 3, none⟩ (.int .i64 u.p) b3
 have b4 := cell_set w3 g 3 4 (.int .i64 u.p) _ (by decide) b4
 have f0 : ∀ i, (w3.setCell ⟨g, 3, none⟩ (.int .i64 u.p)).frozen? ⟨g, i, none⟩ = false := fun i => by rw [World.frozen?_setCell]; exact f0 i
 generalize w3.setCell ⟨g, 3, none⟩ (.int .i64 u.p) = w4 at a0 a1 a2 a3 b4 f0 ⊢
 exact ⟨cell_set w4 g 4 0 _ _ (by decide) a0, cell_set w4 g 4 1 _ _ (by decide) a1, cell_set w4 g 4 2 _ _ (by decide) a2, cell_set w4 g 4 3 _ _ (by decide) a3, World.cell?_setCell_same w4 ⟨g, 4, none⟩ _ b4, fun i => by rw [World.frozen?_setCell]; exact f0 i⟩
theorem below_put (hB : Below B w w') (hg : B ≤ g) (u : F) : Below B w (((((w'.setCell ⟨g, 0, none⟩ (.int .i64 u.e)).setCell ⟨g, 1, none⟩ (.int .i64 u.i)).setCell ⟨g, 2, none⟩ (.bool u.c)).setCell ⟨g, 3, none⟩ (.int .i64 u.p)).setCell ⟨g, 4, none⟩ (.string u.d)) :=
 ((((hB.setCell (p := ⟨g, 0, none⟩) hg _).setCell (p := ⟨g, 1, none⟩) hg _).setCell (p := ⟨g, 2, none⟩) hg _).setCell (p := ⟨g, 3, none⟩) hg _).setCell (p := ⟨g, 4, none⟩) hg _
end
theorem first4 (s : ByteArray) : (s.extract 0 4).toList = s.data.toList.take 4 := by
 rw [Lib.extract_toList, List.drop_zero]
theorem cand_read (s : ByteArray) (b : Bool) (hb : ((s.extract 0 4).toList == [76, 79, 71, 67]) = b) : cand s = ⟨nm (s.data.toList.drop 4), nm (s.data.toList.drop 8), b, nm (s.data.toList.drop 12), s.extract 16 (16 + lenOf b)⟩ := by
 have hb2 : (s.data.toList.take 4 == word true) = b := by rw [← hb, first4]; rfl
 unfold cand
 rw [hb2]
 cases b with
 | true =>
  have e : s.extract 16 (16 + lenOf true) = ⟨#[]⟩ := none_size (by show (s.extract 16 16).size = 0; rw [ByteArray.size_extract]; omega)
  rw [e]
  rfl
 | false => rfl
set_option maxRecDepth 20000 in
set_option maxHeartbeats 1600000 in
theorem read_any (s : ByteArray) (w : World) (hs : s.size = 256) :
  Calls Tryz.prog 255 #[.string s] w fun e w' => e = .returned (.agg (cellsF (cand s))) ∧ Below w.heap.size w w' := by
 have hB := (Below.refl w.heap.size w).alloc (Nat.le_refl _) (.cells (cellsF noF) 124)
 have hf := BoxF.new w noF 124
 obtain ⟨g, hg⟩ : ∃ g, w.heap.size = g := ⟨_, rfl⟩
 have hwg : w.heap.size ≤ g := by omega
 rw [hg] at hf
 generalize hwa : w.alloc (.cells (cellsF noF) 124) = wa at hB hf
 unfold cellsF noF at hwa
 simp only at hwa
 obtain ⟨b, hb⟩ : ∃ b, ((s.extract 0 4).toList == [76, 79, 71, 67]) = b := ⟨_, rfl⟩
 have HC := Lib.hid (cand_read s b hb)
 have n4 : ∀ W, Calls Tryz.prog 223 #[.string s, .int .i64 4] W fun e w' => e = .returned (.int .i64 (nm (s.data.toList.drop 4) : Nat)) ∧ Below W.heap.size W w' := fun W => numberAt_any 4 W (by decide) (by omega) (by omega)
 have n8 : ∀ W, Calls Tryz.prog 223 #[.string s, .int .i64 8] W fun e w' => e = .returned (.int .i64 (nm (s.data.toList.drop 8) : Nat)) ∧ Below W.heap.size W w' := fun W => numberAt_any 8 W (by decide) (by omega) (by omega)
 have n12 : ∀ W, Calls Tryz.prog 223 #[.string s, .int .i64 12] W fun e w' => e = .returned (.int .i64 (nm (s.data.toList.drop 12) : Nat)) ∧ Below W.heap.size W w' := fun W => numberAt_any 12 W (by decide) (by omega) (by omega)
 have hR := fun W : World => dataBytes_any b W
 have hl : lenOf b ≤ 200 := by cases b <;> decide
 generalize lenOf b = ln at HC hR hl
 generalize nm (s.data.toList.drop 4) = v4 at HC n4
 generalize nm (s.data.toList.drop 8) = v8 at HC n8
 generalize nm (s.data.toList.drop 12) = v12 at HC n12
 have i0 : (4 : Int) ≤ (s.size : Int) := by omega
 have i2 : (16 : Int) + (ln : Int) ≤ (s.size : Int) := by omega
 have i3 : (16 : Int) ≤ (16 : Int) + (ln : Int) := by omega
 have i4 : ((16 : Int) + (ln : Int)).toNat = 16 + ln := by omega
 go_enter Tryz.func255, Tryz.ntmps255
 go_wp2_with fail
 clear hwa hg hb
 refine (n4 _).mono ?_
 rintro e w1 ⟨rfl, hv⟩
 have hf := hf.below hv hf.lt
 have hB := hB.trans (hv.mono hB.size)
 clear hv
 go_wp2_with fail
 refine (n8 _).mono ?_
 rintro e w2 ⟨rfl, hv⟩
 have hf := hf.below hv hf.lt
 have hB := hB.trans (hv.mono hB.size)
 clear hv
 go_wp2_with fail
 refine (n12 _).mono ?_
 rintro e w3 ⟨rfl, hv⟩
 have hf := hf.below hv hf.lt
 have hB := hB.trans (hv.mono hB.size)
 clear hv
 go_wp2_with fail
 refine (hR _).mono ?_
 rintro e w4 ⟨rfl, rfl⟩
 have HR := Lib.hid (hf.put ⟨v4, v8, b, v12, s.extract 16 (16 + ln)⟩)
 have HB := Lib.hid (below_put hB hwg ⟨v4, v8, b, v12, s.extract 16 (16 + ln)⟩)
 have x0 := hf.c0
 have x1 := hf.c1
 have x2 := hf.c2
 have x3 := hf.c3
 have x4 := hf.c4
 have xf := hf.f
 clear hf hB n4 n8 n12 hR
 go_wp2
 refine bodyPost_ret (results_fr1 rfl _ _ g _ _ _ _ _ rfl HR.out.c0 HR.out.c1 HR.out.c2 HR.out.c3 HR.out.c4) rfl ?_
 rw [HC.out]
 exact ⟨rfl, HB.out⟩
set_option maxRecDepth 20000 in
set_option maxHeartbeats 1600000 in
theorem parse_any (s : ByteArray) (w : World) (ht : Tab w) (hs : s.size ≤ 300) :
  Calls Tryz.prog 224 #[.string s] w fun e w' => e = .returned (.tuple #[.agg (cellsF ((parseF s).getD noF)), .bool (parseF s).isSome]) ∧ Below w.heap.size w w' := by
 have HT := Lib.hid ht
 clear ht
 have hB := (Below.refl w.heap.size w).alloc (Nat.le_refl _) (.cells (cellsF noF) 124)
 have hf := BoxF.new w noF 124
 obtain ⟨g, hg⟩ : ∃ g, w.heap.size = g := ⟨_, rfl⟩
 have hwg : w.heap.size ≤ g := by omega
 rw [hg] at hf
 generalize hwa : w.alloc (.cells (cellsF noF) 124) = wa at hB hf
 unfold cellsF noF at hwa
 simp only at hwa
 obtain ⟨post, hpe⟩ : ∃ post, (fun (e : Ending) (w' : World) => e = .returned (.tuple #[.agg (cellsF ((parseF s).getD noF)), .bool (parseF s).isSome]) ∧ Below w.heap.size w w') = post := ⟨_, rfl⟩
 rw [hpe]
 have no : parseF s = none → ∀ W, Below w.heap.size w W → post (.returned (.tuple #[.agg #[.int .i64 0, .int .i64 0, .bool false, .int .i64 0, .string ⟨#[]⟩], .bool false])) W := fun h W hW => by rw [← hpe, h]; exact ⟨rfl, hW⟩
 have yes : parseF s = some (cand s) → ∀ W, Below w.heap.size w W → post (.returned (.tuple #[.agg (cellsF (cand s)), .bool true])) W := fun h W hW => by rw [← hpe, h]; exact ⟨rfl, hW⟩
 have NO := Lib.hid no
 have YES := Lib.hid yes
 clear no yes hpe
 by_cases h : s.size = 256
 ·have h1 : ((s.size : Int) == 256) = true := by rw [beq_iff_eq]; omega
  have hRd := fun W => read_any s W h
  have hRt := fun W => right_any (cand s) W
  have HP := Lib.hid (fun (h : RightF (cand s)) W (ht : Tab W) => print_any (cand s) W ht h)
  have HI : Hid (RightF (cand s) → frameB (cand s) = s → parseF s = some (cand s)) := Lib.hid (fun h1 h2 => by unfold parseF; rw [if_pos ⟨h, h1, h2⟩])
  have HN : Hid (¬ (RightF (cand s) ∧ frameB (cand s) = s) → parseF s = none) := Lib.hid (fun h1 => by unfold parseF; rw [if_neg (fun h2 => h1 h2.2)])
  generalize cand s = cf at hRd hRt HP HI HN YES
  obtain ⟨fe, fi, fc, fp, fd⟩ := cf
  unfold cellsF at hRd hRt
  have HQ := HP.out
  unfold cellsF at HQ
  have HP := Lib.hid HQ
  clear HQ
  have YQ := YES.out
  unfold cellsF at YQ
  have YES := Lib.hid YQ
  clear YQ
  simp only at hRd hRt
  go_enter Tryz.func224, Tryz.ntmps224
  go_wp2_with fail
  clear hwa hg
  refine (hRd _).mono ?_
  rintro e w1 ⟨rfl, hv⟩
  have hf := hf.below hv hf.lt
  have hB := hB.trans (hv.mono hB.size)
  clear hv hRd
  go_upto_region 4 with fail
  have hn : Below w1.heap.size w1 (w1.alloc (.cells #[.int .i64 fe, .int .i64 fi, .bool fc, .int .i64 fp, .string fd] 124)) := (Below.refl w1.heap.size w1).alloc (Nat.le_refl _) _
  have ha : BoxF (w1.alloc (.cells #[.int .i64 fe, .int .i64 fi, .bool fc, .int .i64 fp, .string fd] 124)) w1.heap.size ⟨fe, fi, fc, fp, fd⟩ := BoxF.new w1 ⟨fe, fi, fc, fp, fd⟩ 124
  have hf := hf.below hn hf.lt
  have hB := hB.trans (hn.mono hB.size)
  clear hn
  generalize w1.alloc (.cells #[.int .i64 fe, .int .i64 fi, .bool fc, .int .i64 fp, .string fd] 124) = w3 at hf ha hB ⊢
  generalize w1.heap.size = ga at ha ⊢
  have a0 := ha.c0
  have a1 := ha.c1
  have a2 := ha.c2
  have a3 := ha.c3
  have a4 := ha.c4
  simp only at a0 a1 a2 a3 a4
  go_wp2_with fail
  refine (hRt _).mono ?_
  rintro e w4 ⟨is, rfl, hb, hv⟩
  have hf := hf.below hv hf.lt
  have ha := ha.below hv ha.lt
  have hB := hB.trans (hv.mono hB.size)
  clear hv hRt a0 a1 a2 a3 a4
  have a0 := ha.c0
  have a1 := ha.c1
  have a2 := ha.c2
  have a3 := ha.c3
  have a4 := ha.c4
  simp only at a0 a1 a2 a3 a4
  cases is
  ·have HR := Lib.hid (hf.put noF)
   have HB := Lib.hid (below_put hB hwg noF)
   have HNO := Lib.hid (NO.out (HN.out (fun h => by cases hb.2 h.1)))
   have x0 := hf.c0
   have x1 := hf.c1
   have x2 := hf.c2
   have x3 := hf.c3
   have x4 := hf.c4
   have xf := hf.f
   clear hf hB ha a0 a1 a2 a3 a4 hb
   go_wp2
   refine bodyPost_ret (results_fr2 rfl _ _ g _ _ _ _ _ rfl HR.out.c0 HR.out.c1 HR.out.c2 HR.out.c3 HR.out.c4) rfl ?_
   exact HNO.out _ HB.out
  ·have hr := hb.1 rfl
   have hpf := HP.out hr
   clear hb
   go_wp2_with fail
   refine (hpf _ (HT.out.below hB)).mono ?_
   rintro e w5 ⟨rfl, hv⟩
   have hf := hf.below hv hf.lt
   have ha := ha.below hv ha.lt
   have hB := hB.trans (hv.mono hB.size)
   clear hv hpf a0 a1 a2 a3 a4
   have x0 := hf.c0
   have x1 := hf.c1
   have x2 := hf.c2
   have x3 := hf.c3
   have x4 := hf.c4
   have xf := hf.f
   by_cases hq : frameB ⟨fe, fi, fc, fp, fd⟩ = s
   ·have e1 : ((frameB ⟨fe, fi, fc, fp, fd⟩).toList == s.toList) = true := by rw [hq]; exact beq_self_eq_true _
    have HR := Lib.hid (hf.put ⟨fe, fi, fc, fp, fd⟩)
    have HB := Lib.hid (below_put hB hwg ⟨fe, fi, fc, fp, fd⟩)
    have HYE := Lib.hid (YES.out (HI.out hr hq))
    have a0 := ha.c0
    have a1 := ha.c1
    have a2 := ha.c2
    have a3 := ha.c3
    have a4 := ha.c4
    simp only at a0 a1 a2 a3 a4
    generalize frameB ⟨fe, fi, fc, fp, fd⟩ = sx at e1 ⊢
    clear hf hB ha hq hr
    go_wp2
    refine bodyPost_ret (results_fr2 rfl _ _ g _ _ _ _ _ rfl HR.out.c0 HR.out.c1 HR.out.c2 HR.out.c3 HR.out.c4) rfl ?_
    exact HYE.out _ HB.out
   ·have e1 : ((frameB ⟨fe, fi, fc, fp, fd⟩).toList == s.toList) = false := str_ne hq
    have HR := Lib.hid (hf.put noF)
    have HB := Lib.hid (below_put hB hwg noF)
    have HNO := Lib.hid (NO.out (HN.out (fun h => hq h.2)))
    generalize frameB ⟨fe, fi, fc, fp, fd⟩ = sx at e1 ⊢
    clear hf hB ha hq hr
    go_wp2
    refine bodyPost_ret (results_fr2 rfl _ _ g _ _ _ _ _ rfl HR.out.c0 HR.out.c1 HR.out.c2 HR.out.c3 HR.out.c4) rfl ?_
    exact HNO.out _ HB.out
 ·have h1 : ((s.size : Int) == 256) = false := beq_eq_false_iff_ne.2 (by omega)
  have e : parseF s = none := by unfold parseF; rw [if_neg (fun hc => h hc.1)]
  have HR := Lib.hid (hf.put noF)
  have HB := Lib.hid (below_put hB hwg noF)
  have HNO := Lib.hid (NO.out e)
  have x0 := hf.c0
  have x1 := hf.c1
  have x2 := hf.c2
  have x3 := hf.c3
  have x4 := hf.c4
  have xf := hf.f
  clear hf hB e
  go_enter Tryz.func224, Tryz.ntmps224
  go_wp2
  refine bodyPost_ret (results_fr2 rfl _ _ g _ _ _ _ _ rfl HR.out.c0 HR.out.c1 HR.out.c2 HR.out.c3 HR.out.c4) rfl ?_
  exact HNO.out _ HB.out
end Go.Proofs.YtcgkbcgpnlogoaaGreatDoor.Fr

/- The operations of a condition, each by its number. -/
namespace Go.Proofs.YtcgkbcgpnlogoaaGreatDoor.Hd
open Lex

noncomputable def haops : Array Oper := Lex.opsOf Tryz.f140 3
def hacalls : List Nat := [2, 6, 10, 12]
def haord : List Nat := [0, 1, 4, 5, 8, 9, 2, 3, 6, 7, 10, 11, 12, 13]
theorem hasel : Region.noSelect haops = true := by kernel_rfl
theorem halex : lexH haops hacalls haord (Array.replicate haops.size false) = true := by kernel_rfl
theorem ha0 : haops[0]? = some { dst := some 19, op := Op.fieldAddr 30 (Operand.tmp 1) 0, type := 0, pos := "head.go:54", after := #[], guard := none } := by kernel_rfl
theorem ha1 : haops[1]? = some { dst := some 20, op := Op.load 3 (Operand.tmp 19), type := 3, pos := "head.go:54", after := #[{ on := 0, ground := Ground.data }], guard := none } := by kernel_rfl
theorem ha2 : haops[2]? = some { dst := some 21, op := Op.call { callee := Callee.value (Operand.func 209), args := #[Operand.tmp 20], argTypes := #[3] }, type := 9, pos := "head.go:54", after := #[{ on := 1, ground := Ground.data }], guard := none } := by kernel_rfl
theorem ha3 : haops[3]? = some { dst := some 22, op := Op.binOp BinOp.add 9 (Operand.const (Value.string { data := #[77, 79, 83, 65, 73, 67, 48, 49] })) (Operand.tmp 21) 9, type := 9, pos := "head.go:54", after := #[{ on := 2, ground := Ground.data }], guard := none } := by kernel_rfl
theorem ha4 : haops[4]? = some { dst := some 23, op := Op.fieldAddr 30 (Operand.tmp 1) 1, type := 0, pos := "head.go:54", after := #[], guard := none } := by kernel_rfl
theorem ha5 : haops[5]? = some { dst := some 24, op := Op.load 3 (Operand.tmp 23), type := 3, pos := "head.go:54", after := #[{ on := 4, ground := Ground.data }], guard := none } := by kernel_rfl
theorem ha6 : haops[6]? = some { dst := some 25, op := Op.call { callee := Callee.value (Operand.func 209), args := #[Operand.tmp 24], argTypes := #[3] }, type := 9, pos := "head.go:54", after := #[{ on := 5, ground := Ground.data }, { on := 2, ground := Ground.chain }], guard := none } := by kernel_rfl
theorem ha7 : haops[7]? = some { dst := some 26, op := Op.binOp BinOp.add 9 (Operand.tmp 22) (Operand.tmp 25) 9, type := 9, pos := "head.go:54", after := #[{ on := 3, ground := Ground.data }, { on := 6, ground := Ground.data }], guard := none } := by kernel_rfl
theorem ha8 : haops[8]? = some { dst := some 27, op := Op.fieldAddr 30 (Operand.tmp 1) 2, type := 0, pos := "head.go:54", after := #[], guard := none } := by kernel_rfl
theorem ha9 : haops[9]? = some { dst := some 28, op := Op.load 3 (Operand.tmp 27), type := 3, pos := "head.go:54", after := #[{ on := 8, ground := Ground.data }], guard := none } := by kernel_rfl
theorem ha10 : haops[10]? = some { dst := some 29, op := Op.call { callee := Callee.value (Operand.func 209), args := #[Operand.tmp 28], argTypes := #[3] }, type := 9, pos := "head.go:54", after := #[{ on := 9, ground := Ground.data }, { on := 6, ground := Ground.chain }], guard := none } := by kernel_rfl
theorem ha11 : haops[11]? = some { dst := some 30, op := Op.binOp BinOp.add 9 (Operand.tmp 26) (Operand.tmp 29) 9, type := 9, pos := "head.go:54", after := #[{ on := 7, ground := Ground.data }, { on := 10, ground := Ground.data }], guard := none } := by kernel_rfl
theorem ha12 : haops[12]? = some { dst := some 31, op := Op.call { callee := Callee.value (Operand.func 208), args := #[Operand.tmp 30, Operand.const (Value.int IntKind.i64 256)], argTypes := #[9, 3] }, type := 9, pos := "head.go:54", after := #[{ on := 11, ground := Ground.data }, { on := 10, ground := Ground.chain }], guard := none } := by kernel_rfl
theorem ha13 : haops[13]? = some { dst := some 2, op := Op.assign (Operand.tmp 31), type := 9, pos := "head.go:54", after := #[{ on := 12, ground := Ground.data }, { on := 12, ground := Ground.chain }, { on := 0, ground := Ground.phase }, { on := 1, ground := Ground.phase }, { on := 2, ground := Ground.phase }, { on := 3, ground := Ground.phase }, { on := 4, ground := Ground.phase }, { on := 5, ground := Ground.phase }, { on := 6, ground := Ground.phase }, { on := 7, ground := Ground.phase }, { on := 8, ground := Ground.phase }, { on := 9, ground := Ground.phase }, { on := 10, ground := Ground.phase }, { on := 11, ground := Ground.phase }, { on := 12, ground := Ground.phase }], guard := none } := by kernel_rfl
noncomputable def hbops : Array Oper := Lex.opsOf Tryz.f144 1
theorem hb0 : hbops[0]? = some { dst := some 3, op := Op.fieldAddr 30 (Operand.tmp 1) 0, type := 0, pos := "ref.go:36", after := #[], guard := none } := by kernel_rfl
theorem hb1 : hbops[1]? = some { dst := some 4, op := Op.load 3 (Operand.tmp 3), type := 3, pos := "ref.go:36", after := #[{ on := 0, ground := Ground.data }], guard := none } := by kernel_rfl
theorem hb2 : hbops[2]? = some { dst := some 5, op := Op.call { callee := Callee.value (Operand.func 213), args := #[Operand.tmp 4], argTypes := #[3] }, type := 9, pos := "ref.go:36", after := #[{ on := 1, ground := Ground.data }], guard := none } := by kernel_rfl
theorem hb3 : hbops[3]? = some { dst := some 6, op := Op.binOp BinOp.add 9 (Operand.const (Value.string { data := #[77, 79, 83, 65, 73, 67, 48, 49] })) (Operand.tmp 5) 9, type := 9, pos := "ref.go:36", after := #[{ on := 2, ground := Ground.data }], guard := none } := by kernel_rfl
theorem hb4 : hbops[4]? = some { dst := some 7, op := Op.fieldAddr 30 (Operand.tmp 1) 1, type := 0, pos := "ref.go:36", after := #[], guard := none } := by kernel_rfl
theorem hb5 : hbops[5]? = some { dst := some 8, op := Op.load 3 (Operand.tmp 7), type := 3, pos := "ref.go:36", after := #[{ on := 4, ground := Ground.data }], guard := none } := by kernel_rfl
theorem hb6 : hbops[6]? = some { dst := some 9, op := Op.call { callee := Callee.value (Operand.func 213), args := #[Operand.tmp 8], argTypes := #[3] }, type := 9, pos := "ref.go:36", after := #[{ on := 5, ground := Ground.data }, { on := 2, ground := Ground.chain }], guard := none } := by kernel_rfl
theorem hb7 : hbops[7]? = some { dst := some 10, op := Op.binOp BinOp.add 9 (Operand.tmp 6) (Operand.tmp 9) 9, type := 9, pos := "ref.go:36", after := #[{ on := 3, ground := Ground.data }, { on := 6, ground := Ground.data }], guard := none } := by kernel_rfl
theorem hb9 : hbops[9]? = some { dst := some 12, op := Op.load 3 (Operand.tmp 11), type := 3, pos := "ref.go:36", after := #[{ on := 8, ground := Ground.data }], guard := none } := by kernel_rfl
end Go.Proofs.YtcgkbcgpnlogoaaGreatDoor.Hd

/- Heads: Print of the program (762697a) and of the document, walked. -/
namespace Go.Proofs.YtcgkbcgpnlogoaaGreatDoor.Hd
open Go.RowKit Tal Fr Lex
set_option maxRecDepth 20000 in
set_option maxHeartbeats 3200000 in
theorem print_any (h : H) (w : World) (ht : Tab w) (h1 : RightH h) :
  Calls Tryz.prog 140 #[.agg (cellsH h)] w fun e w' => e = .returned (.string (headB h)) ∧ Below w.heap.size w w' := by
 have HT := Lib.hid ht
 clear ht
 have hB := (Below.refl w.heap.size w).alloc (Nat.le_refl _) (.cells (cellsH h) 30)
 have hf := BoxH.new w h 30
 obtain ⟨g, hg⟩ : ∃ g, w.heap.size = g := ⟨_, rfl⟩
 rw [hg] at hf
 generalize hwa : w.alloc (.cells (cellsH h) 30) = wa at hB hf
 obtain ⟨hp, hl, he⟩ := h
 have q0 := h1.p0
 have q1 := h1.p1
 have q2 := h1.l0
 have q3 := h1.l1
 have q4 := h1.e0
 have q5 := h1.e1
 clear h1
 simp only at q0 q1 q2 q3 q4 q5
 obtain ⟨pn, rfl⟩ : ∃ n : Nat, hp = n := ⟨hp.toNat, by omega⟩
 obtain ⟨ln, rfl⟩ : ∃ n : Nat, hl = n := ⟨hl.toNat, by omega⟩
 obtain ⟨en, rfl⟩ : ∃ n : Nat, he = n := ⟨he.toNat, by omega⟩
 obtain ⟨sx, hsx⟩ : ∃ x, headB ⟨pn, ln, en⟩ = x := ⟨_, rfl⟩
 rw [hsx]
 have r0 := fun W => hasRoom_any pn W (by omega) (by omega)
 have r1 := fun W => hasRoom_any ln W (by omega) (by omega)
 have r2 := fun W => hasRoom_any en W (by omega) (by omega)
 have hP := fun W => fprinted_any pn W (by omega)
 have hL := fun W => fprinted_any ln W (by omega)
 have hE := fun W => fprinted_any en W (by omega)
 have hS := fun W (ht : Tab W) => sealed_any (hdH ⟨pn, ln, en⟩) 256 W ht (by decide) (by rw [hdH_size]; decide)
 rw [show sealed (hdH ⟨pn, ln, en⟩) (256 : Int).toNat = sx from hsx, show hdH ⟨pn, ln, en⟩ = ⟨#[77, 79, 83, 65, 73, 67, 48, 49]⟩ ++ prt pn ++ prt ln ++ prt en from by unfold hdH; simp only [Int.toNat_natCast]; rfl] at hS
 have z0 : (⟨#[77, 79, 83, 65, 73, 67, 48, 49]⟩ : ByteArray).size = 8 := rfl
 have z1 : ((⟨#[77, 79, 83, 65, 73, 67, 48, 49]⟩ : ByteArray) ++ prt pn).size = 12 := by rw [ByteArray.size_append, prt_size, z0]
 have z2 : ((⟨#[77, 79, 83, 65, 73, 67, 48, 49]⟩ : ByteArray) ++ prt pn ++ prt ln).size = 16 := by rw [ByteArray.size_append, prt_size, z1]
 have z3 : ((⟨#[77, 79, 83, 65, 73, 67, 48, 49]⟩ : ByteArray) ++ prt pn ++ prt ln ++ prt en).size = 20 := by rw [ByteArray.size_append, prt_size, z2]
 have z5 := prt_size pn
 have z6 := prt_size ln
 have z7 := prt_size en
 generalize prt pn = pp at hP hS z1 z2 z3 z5
 generalize prt ln = pl at hL hS z2 z3 z6
 generalize prt en = pe at hE hS z3 z7
 have HS := Lib.hid hS
 clear hS hsx
 unfold cellsH at hwa ⊢
 simp only at hwa ⊢
 have f0 := hf.c0
 have f1 := hf.c1
 have f2 := hf.c2
 simp only at f0 f1 f2
 clear hf
 go_enter Tryz.func140, Tryz.ntmps140
 go_wp2_with fail
 clear hwa hg
 refine (r0 _).mono ?_
 rintro e w2 ⟨rfl, rfl⟩
 go_wp2_with fail
 refine (r1 _).mono ?_
 rintro e w3 ⟨rfl, rfl⟩
 go_wp2_with fail
 refine (r2 _).mono ?_
 rintro e w4 ⟨rfl, rfl⟩
 clear r0 r1 r2
 go_upto_region 3 with fail
 have hdr := (Below.refl w4.heap.size w4).drew
 refine Lex.region_lex (ops := haops) (calls := hacalls) haord (fun W => W.cell? ⟨g, 0, none⟩ = some (.int .i64 (pn : Int)) ∧ W.cell? ⟨g, 1, none⟩ = some (.int .i64 (ln : Int)) ∧ W.cell? ⟨g, 2, none⟩ = some (.int .i64 (en : Int))) (by kernel_rfl) (by kernel_rfl) hasel (by kernel_rfl) (by kernel_rfl) halex (⟨cell_belowH hdr f0, cell_belowH hdr f1, cell_belowH hdr f2⟩) ?_
 unfold haord
 have f0 := cell_belowH hdr f0
 have f1 := cell_belowH hdr f1
 have f2 := cell_belowH hdr f2
 have hB := hB.trans (hdr.mono hB.size)
 clear hdr
 refine Lex.step_take (.pointer (some ⟨g, 0, none⟩)) ha0 rfl (Lex.want_none rfl) (by intro Wx hSw; (try dsimp only at hSw); go_simp; (try (first | (with_reducible rfl) | assumption | rfl))) ?_
 simp only [Act.put, List.setIfInBounds_toArray, List.set_cons_zero, List.set_cons_succ]
 refine Lex.step_take (.int .i64 (pn : Int)) ha1 rfl (Lex.want_none rfl) (by intro Wx hSw; (try dsimp only at hSw); go_simp; (try (first | (with_reducible rfl) | assumption | rfl))) ?_
 simp only [Act.put, List.setIfInBounds_toArray, List.set_cons_zero, List.set_cons_succ]
 refine Lex.step_take (.pointer (some ⟨g, 1, none⟩)) ha4 rfl (Lex.want_none rfl) (by intro Wx hSw; (try dsimp only at hSw); go_simp; (try (first | (with_reducible rfl) | assumption | rfl))) ?_
 simp only [Act.put, List.setIfInBounds_toArray, List.set_cons_zero, List.set_cons_succ]
 refine Lex.step_take (.int .i64 (ln : Int)) ha5 rfl (Lex.want_none rfl) (by intro Wx hSw; (try dsimp only at hSw); go_simp; (try (first | (with_reducible rfl) | assumption | rfl))) ?_
 simp only [Act.put, List.setIfInBounds_toArray, List.set_cons_zero, List.set_cons_succ]
 refine Lex.step_take (.pointer (some ⟨g, 2, none⟩)) ha8 rfl (Lex.want_none rfl) (by intro Wx hSw; (try dsimp only at hSw); go_simp; (try (first | (with_reducible rfl) | assumption | rfl))) ?_
 simp only [Act.put, List.setIfInBounds_toArray, List.set_cons_zero, List.set_cons_succ]
 refine Lex.step_take (.int .i64 (en : Int)) ha9 rfl (Lex.want_none rfl) (by intro Wx hSw; (try dsimp only at hSw); go_simp; (try (first | (with_reducible rfl) | assumption | rfl))) ?_
 simp only [Act.put, List.setIfInBounds_toArray, List.set_cons_zero, List.set_cons_succ]
 refine Lex.step_call ha2 rfl (Lex.want_none rfl) (fun K hK => ?_)
 go_simp
 refine (hP _).mono ?_
 rintro e y2 ⟨rfl, hv⟩
 have f0 := cell_belowH hv f0
 have f1 := cell_belowH hv f1
 have f2 := cell_belowH hv f2
 have hB := hB.trans (hv.mono hB.size)
 clear hv
 refine hK.out _ _ _ (fun _ h => h) ⟨f0, f1, f2⟩ ?_
 clear hK K
 try simp only [Act.put, List.setIfInBounds_toArray, List.set_cons_zero, List.set_cons_succ]
 refine Lex.step_take (.string (⟨#[77, 79, 83, 65, 73, 67, 48, 49]⟩ ++ pp)) ha3 rfl (Lex.want_none rfl) (by intro Wx hSw; (try dsimp only at hSw); go_simp; (try (first | (with_reducible rfl) | assumption | rfl))) ?_
 simp only [Act.put, List.setIfInBounds_toArray, List.set_cons_zero, List.set_cons_succ]
 refine Lex.step_call ha6 rfl (Lex.want_none rfl) (fun K hK => ?_)
 go_simp
 refine (hL _).mono ?_
 rintro e y3 ⟨rfl, hv⟩
 have f0 := cell_belowH hv f0
 have f1 := cell_belowH hv f1
 have f2 := cell_belowH hv f2
 have hB := hB.trans (hv.mono hB.size)
 clear hv
 refine hK.out _ _ _ (fun _ h => h) ⟨f0, f1, f2⟩ ?_
 clear hK K
 try simp only [Act.put, List.setIfInBounds_toArray, List.set_cons_zero, List.set_cons_succ]
 refine Lex.step_take (.string (⟨#[77, 79, 83, 65, 73, 67, 48, 49]⟩ ++ pp ++ pl)) ha7 rfl (Lex.want_none rfl) (by intro Wx hSw; (try dsimp only at hSw); go_simp; (try (first | (with_reducible rfl) | assumption | rfl))) ?_
 simp only [Act.put, List.setIfInBounds_toArray, List.set_cons_zero, List.set_cons_succ]
 refine Lex.step_call ha10 rfl (Lex.want_none rfl) (fun K hK => ?_)
 go_simp
 refine (hE _).mono ?_
 rintro e y4 ⟨rfl, hv⟩
 have f0 := cell_belowH hv f0
 have f1 := cell_belowH hv f1
 have f2 := cell_belowH hv f2
 have hB := hB.trans (hv.mono hB.size)
 clear hv
 refine hK.out _ _ _ (fun _ h => h) ⟨f0, f1, f2⟩ ?_
 clear hK K
 try simp only [Act.put, List.setIfInBounds_toArray, List.set_cons_zero, List.set_cons_succ]
 refine Lex.step_take (.string (⟨#[77, 79, 83, 65, 73, 67, 48, 49]⟩ ++ pp ++ pl ++ pe)) ha11 rfl (Lex.want_none rfl) (by intro Wx hSw; (try dsimp only at hSw); go_simp; (try (first | (with_reducible rfl) | assumption | rfl))) ?_
 simp only [Act.put, List.setIfInBounds_toArray, List.set_cons_zero, List.set_cons_succ]
 refine Lex.step_call ha12 rfl (Lex.want_none rfl) (fun K hK => ?_)
 go_simp
 refine (HS.out _ (HT.out.below hB)).mono ?_
 rintro e y5 ⟨rfl, hv⟩
 have f0 := cell_belowH hv f0
 have f1 := cell_belowH hv f1
 have f2 := cell_belowH hv f2
 have hB := hB.trans (hv.mono hB.size)
 clear hv
 refine hK.out _ _ _ (fun _ h => h) ⟨f0, f1, f2⟩ ?_
 clear hK K
 try simp only [Act.put, List.setIfInBounds_toArray, List.set_cons_zero, List.set_cons_succ]
 refine Lex.step_take (.string sx) ha13 rfl (Lex.want_none rfl) (by intro Wx hSw; (try dsimp only at hSw); go_simp; (try (first | (with_reducible rfl) | assumption | rfl))) ?_
 simp only [Act.put, List.setIfInBounds_toArray, List.set_cons_zero, List.set_cons_succ]
 refine NoPanic.normal ?_
 have HB := Lib.hid hB
 clear hB f0 f1 f2
 go_wp2
 go_ret
 exact ⟨rfl, HB.out⟩
end Go.Proofs.YtcgkbcgpnlogoaaGreatDoor.Hd

/- The operations of a condition, each by its number. -/
namespace Go.Proofs.YtcgkbcgpnlogoaaGreatDoor.Hd
open Lex

noncomputable def nlops : Array Oper := Lex.opsOf Tryz.f90 15
def nlcalls : List Nat := [2, 3]
def nlord : List Nat := [0, 1, 2, 3, 4]
theorem nlsel : Region.noSelect nlops = true := by kernel_rfl
theorem nllex : lexH nlops nlcalls nlord (Array.replicate nlops.size false) = true := by kernel_rfl
theorem nl0 : nlops[0]? = some { dst := some 48, op := Op.load 28 (Operand.tmp 1), type := 28, pos := "head.go:84", after := #[], guard := none } := by kernel_rfl
theorem nl1 : nlops[1]? = some { dst := some 49, op := Op.load 30 (Operand.tmp 5), type := 30, pos := "head.go:84", after := #[{ on := 2, ground := Ground.gcOnly Departure.lateStores }], guard := none } := by kernel_rfl
theorem nl2 : nlops[2]? = some { dst := none, op := Op.store 28 (Operand.tmp 2) (Operand.tmp 48), type := 0, pos := "head.go:84", after := #[{ on := 0, ground := Ground.data }, { on := 0, ground := Ground.phase }, { on := 1, ground := Ground.textOnly Departure.lateStores }], guard := none } := by kernel_rfl
theorem nl3 : nlops[3]? = some { dst := none, op := Op.store 30 (Operand.tmp 3) (Operand.tmp 49), type := 0, pos := "head.go:84", after := #[{ on := 1, ground := Ground.data }, { on := 2, ground := Ground.chain }, { on := 0, ground := Ground.phase }, { on := 1, ground := Ground.phase }, { on := 2, ground := Ground.phase }], guard := none } := by kernel_rfl
theorem nl4 : nlops[4]? = some { dst := some 4, op := Op.assign (Operand.const (Value.int IntKind.i64 0)), type := 38, pos := "head.go:84", after := #[{ on := 3, ground := Ground.chain }, { on := 0, ground := Ground.phase }, { on := 1, ground := Ground.phase }, { on := 2, ground := Ground.phase }, { on := 3, ground := Ground.phase }], guard := none } := by kernel_rfl
end Go.Proofs.YtcgkbcgpnlogoaaGreatDoor.Hd

/- The operations of a condition, each by its number. -/
namespace Go.Proofs.YtcgkbcgpnlogoaaGreatDoor.Hd
open Lex

end Go.Proofs.YtcgkbcgpnlogoaaGreatDoor.Hd

/- The operations of a condition, each by its number. -/
namespace Go.Proofs.YtcgkbcgpnlogoaaGreatDoor.Hd
open Lex

noncomputable def hpops : Array Oper := #[{ dst := some 12, op := Op.load 28 (Operand.tmp 2), type := 28, pos := "head.go:92", after := #[], guard := none },
 { dst := some 13, op := Op.fieldAddr 30 (Operand.tmp 3) 2, type := 0, pos := "head.go:92", after := #[], guard := none },
 { dst := some 14, op := Op.load 3 (Operand.tmp 13), type := 3, pos := "head.go:92", after := #[{ on := 1, ground := Ground.data }], guard := none },
 { dst := some 15, op := Op.binOp BinOp.rem 3 (Operand.tmp 14) (Operand.const (Value.int IntKind.i64 2)) 3, type := 3, pos := "head.go:92", after := #[{ on := 2, ground := Ground.data }], guard := none },
 { dst := some 16, op := Op.load 30 (Operand.tmp 3), type := 30, pos := "head.go:92", after := #[], guard := none },
 { dst := some 17, op := Op.call { callee := Callee.value (Operand.func 140), args := #[Operand.tmp 16], argTypes := #[30] }, type := 9, pos := "head.go:92", after := #[{ on := 4, ground := Ground.data }], guard := none },
 { dst := some 18, op := Op.call { callee := Callee.value (Operand.func 139), args := #[Operand.tmp 12, Operand.tmp 15, Operand.tmp 17], argTypes := #[28, 3, 9] }, type := 110, pos := "head.go:92", after := #[{ on := 0, ground := Ground.data }, { on := 3, ground := Ground.data }, { on := 5, ground := Ground.data }, { on := 5, ground := Ground.chain }], guard := none },
 { dst := some 11, op := Op.move (Operand.tmp 18), type := 110, pos := "head.go:92", after := #[{ on := 6, ground := Ground.data }], guard := none }]
def hpcalls : List Nat := [5, 6]
def hpord : List Nat := [0, 1, 2, 3, 4, 5, 6, 7]
theorem hpsel : Region.noSelect hpops = true := by kernel_rfl
theorem hplex : lexH hpops hpcalls hpord (Array.replicate hpops.size false) = true := by kernel_rfl
noncomputable def hpraw : Array Oper := Lex.opsOf Tryz.f68 3
theorem hpcut : hpops = hpraw.extract 0 8 := by kernel_rfl
theorem hpsize : hpraw.size = 12 := by kernel_rfl
theorem hprsel : Region.noSelect hpraw = true := by kernel_rfl
theorem hptlex : lexH hpraw [10] [8, 9, 10, 11] (extL (Array.replicate 8 true) hpraw.size) = true := by kernel_rfl
theorem hpt8 : hpraw[8]? = some { dst := some 19, op := Op.extract (Operand.tmp 11) 0, type := 28, pos := "head.go:92", after := #[{ on := 7, ground := Ground.data }], guard := none } := by kernel_rfl
theorem hpt9 : hpraw[9]? = some { dst := some 20, op := Op.extract (Operand.tmp 11) 1, type := 38, pos := "head.go:92", after := #[{ on := 7, ground := Ground.data }, { on := 10, ground := Ground.gcOnly Departure.lateStores }], guard := none } := by kernel_rfl
theorem hpt10 : hpraw[10]? = some { dst := none, op := Op.store 28 (Operand.tmp 2) (Operand.tmp 19), type := 0, pos := "head.go:92", after := #[{ on := 8, ground := Ground.data }, { on := 6, ground := Ground.chain }, { on := 0, ground := Ground.phase }, { on := 1, ground := Ground.phase }, { on := 2, ground := Ground.phase }, { on := 3, ground := Ground.phase }, { on := 4, ground := Ground.phase }, { on := 5, ground := Ground.phase }, { on := 6, ground := Ground.phase }, { on := 7, ground := Ground.phase }, { on := 8, ground := Ground.phase }, { on := 9, ground := Ground.textOnly Departure.lateStores }], guard := none } := by kernel_rfl
theorem hpt11 : hpraw[11]? = some { dst := some 6, op := Op.assign (Operand.tmp 20), type := 38, pos := "head.go:92", after := #[{ on := 9, ground := Ground.data }, { on := 10, ground := Ground.chain }, { on := 0, ground := Ground.phase }, { on := 1, ground := Ground.phase }, { on := 2, ground := Ground.phase }, { on := 3, ground := Ground.phase }, { on := 4, ground := Ground.phase }, { on := 5, ground := Ground.phase }, { on := 6, ground := Ground.phase }, { on := 7, ground := Ground.phase }, { on := 8, ground := Ground.phase }, { on := 9, ground := Ground.phase }, { on := 10, ground := Ground.phase }], guard := none } := by kernel_rfl
theorem hp0 : hpops[0]? = some { dst := some 12, op := Op.load 28 (Operand.tmp 2), type := 28, pos := "head.go:92", after := #[], guard := none } := by kernel_rfl
theorem hp1 : hpops[1]? = some { dst := some 13, op := Op.fieldAddr 30 (Operand.tmp 3) 2, type := 0, pos := "head.go:92", after := #[], guard := none } := by kernel_rfl
theorem hp2 : hpops[2]? = some { dst := some 14, op := Op.load 3 (Operand.tmp 13), type := 3, pos := "head.go:92", after := #[{ on := 1, ground := Ground.data }], guard := none } := by kernel_rfl
theorem hp3 : hpops[3]? = some { dst := some 15, op := Op.binOp BinOp.rem 3 (Operand.tmp 14) (Operand.const (Value.int IntKind.i64 2)) 3, type := 3, pos := "head.go:92", after := #[{ on := 2, ground := Ground.data }], guard := none } := by kernel_rfl
theorem hp4 : hpops[4]? = some { dst := some 16, op := Op.load 30 (Operand.tmp 3), type := 30, pos := "head.go:92", after := #[], guard := none } := by kernel_rfl
theorem hp5 : hpops[5]? = some { dst := some 17, op := Op.call { callee := Callee.value (Operand.func 140), args := #[Operand.tmp 16], argTypes := #[30] }, type := 9, pos := "head.go:92", after := #[{ on := 4, ground := Ground.data }], guard := none } := by kernel_rfl
theorem hp6 : hpops[6]? = some { dst := some 18, op := Op.call { callee := Callee.value (Operand.func 139), args := #[Operand.tmp 12, Operand.tmp 15, Operand.tmp 17], argTypes := #[28, 3, 9] }, type := 110, pos := "head.go:92", after := #[{ on := 0, ground := Ground.data }, { on := 3, ground := Ground.data }, { on := 5, ground := Ground.data }, { on := 5, ground := Ground.chain }], guard := none } := by kernel_rfl
theorem hp7 : hpops[7]? = some { dst := some 11, op := Op.move (Operand.tmp 18), type := 110, pos := "head.go:92", after := #[{ on := 6, ground := Ground.data }], guard := none } := by kernel_rfl
noncomputable def hqops : Array Oper := #[{ dst := some 12, op := Op.load 28 (Operand.tmp 2), type := 28, pos := "ref.go:76", after := #[], guard := none },
 { dst := some 13, op := Op.fieldAddr 30 (Operand.tmp 3) 2, type := 0, pos := "ref.go:76", after := #[], guard := none },
 { dst := some 14, op := Op.load 3 (Operand.tmp 13), type := 3, pos := "ref.go:76", after := #[{ on := 1, ground := Ground.data }], guard := none },
 { dst := some 15, op := Op.binOp BinOp.rem 3 (Operand.tmp 14) (Operand.const (Value.int IntKind.i64 2)) 3, type := 3, pos := "ref.go:76", after := #[{ on := 2, ground := Ground.data }], guard := none },
 { dst := some 16, op := Op.load 30 (Operand.tmp 3), type := 30, pos := "ref.go:76", after := #[], guard := none },
 { dst := some 17, op := Op.call { callee := Callee.value (Operand.func 144), args := #[Operand.tmp 16], argTypes := #[30] }, type := 9, pos := "ref.go:76", after := #[{ on := 4, ground := Ground.data }], guard := none },
 { dst := some 18, op := Op.call { callee := Callee.value (Operand.func 143), args := #[Operand.tmp 12, Operand.tmp 15, Operand.tmp 17], argTypes := #[28, 3, 9] }, type := 110, pos := "ref.go:76", after := #[{ on := 0, ground := Ground.data }, { on := 3, ground := Ground.data }, { on := 5, ground := Ground.data }, { on := 5, ground := Ground.chain }], guard := none },
 { dst := some 11, op := Op.move (Operand.tmp 18), type := 110, pos := "ref.go:76", after := #[{ on := 6, ground := Ground.data }], guard := none }]
theorem hq0 : hqops[0]? = some { dst := some 12, op := Op.load 28 (Operand.tmp 2), type := 28, pos := "ref.go:76", after := #[], guard := none } := by kernel_rfl
theorem hq1 : hqops[1]? = some { dst := some 13, op := Op.fieldAddr 30 (Operand.tmp 3) 2, type := 0, pos := "ref.go:76", after := #[], guard := none } := by kernel_rfl
theorem hq2 : hqops[2]? = some { dst := some 14, op := Op.load 3 (Operand.tmp 13), type := 3, pos := "ref.go:76", after := #[{ on := 1, ground := Ground.data }], guard := none } := by kernel_rfl
theorem hq3 : hqops[3]? = some { dst := some 15, op := Op.binOp BinOp.rem 3 (Operand.tmp 14) (Operand.const (Value.int IntKind.i64 2)) 3, type := 3, pos := "ref.go:76", after := #[{ on := 2, ground := Ground.data }], guard := none } := by kernel_rfl
theorem hq4 : hqops[4]? = some { dst := some 16, op := Op.load 30 (Operand.tmp 3), type := 30, pos := "ref.go:76", after := #[], guard := none } := by kernel_rfl
theorem hq5 : hqops[5]? = some { dst := some 17, op := Op.call { callee := Callee.value (Operand.func 144), args := #[Operand.tmp 16], argTypes := #[30] }, type := 9, pos := "ref.go:76", after := #[{ on := 4, ground := Ground.data }], guard := none } := by kernel_rfl
theorem hq6 : hqops[6]? = some { dst := some 18, op := Op.call { callee := Callee.value (Operand.func 143), args := #[Operand.tmp 12, Operand.tmp 15, Operand.tmp 17], argTypes := #[28, 3, 9] }, type := 110, pos := "ref.go:76", after := #[{ on := 0, ground := Ground.data }, { on := 3, ground := Ground.data }, { on := 5, ground := Ground.data }, { on := 5, ground := Ground.chain }], guard := none } := by kernel_rfl
end Go.Proofs.YtcgkbcgpnlogoaaGreatDoor.Hd

/- The operations of drawn regions, each by its number; the trees of their orders. -/
namespace Go.Proofs.YtcgkbcgpnlogoaaGreatDoor.Hd
open Lex

noncomputable def hsops : Array Oper := Lex.opsOf Tryz.f81 3
theorem hs0 : hsops[0]? = some { dst := some 14, op := Op.move (Operand.tmp 0), type := 9, pos := "ref.go:44", after := #[], guard := none } := by kernel_rfl
theorem hs1 : hsops[1]? = some { dst := some 15, op := Op.slice 9 (Operand.tmp 14) (some (Operand.const (Value.int IntKind.i64 8))) none none, type := 9, pos := "ref.go:44", after := #[{ on := 0, ground := Ground.data }], guard := none } := by kernel_rfl
theorem hs2 : hsops[2]? = some { dst := some 16, op := Op.call { callee := Callee.value (Operand.func 154), args := #[Operand.tmp 15], argTypes := #[9] }, type := 3, pos := "ref.go:44", after := #[{ on := 1, ground := Ground.data }], guard := none } := by kernel_rfl
theorem hs3 : hsops[3]? = some { dst := some 17, op := Op.move (Operand.tmp 0), type := 9, pos := "ref.go:44", after := #[], guard := none } := by kernel_rfl
theorem hs5 : hsops[5]? = some { dst := some 19, op := Op.call { callee := Callee.value (Operand.func 154), args := #[Operand.tmp 18], argTypes := #[9] }, type := 3, pos := "ref.go:44", after := #[{ on := 4, ground := Ground.data }, { on := 2, ground := Ground.chain }], guard := none } := by kernel_rfl
end Go.Proofs.YtcgkbcgpnlogoaaGreatDoor.Hd

/- Heads: Parse of the program (762697a) and of the document, walked. -/
namespace Go.Proofs.YtcgkbcgpnlogoaaGreatDoor.Hd
open Go.RowKit Tal Fr Lex
section
variable {w w' : World} {g q B : Nat} {h : H}
theorem BoxH.off1 (k : BoxH w g h) (hq : g ≠ q) (u : Value) {i : Nat} : BoxH (w.setCell ⟨q, i, none⟩ u) g h := by
 have o : ∀ j, (w.setCell ⟨q, i, none⟩ u).cell? ⟨g, j, none⟩ = w.cell? ⟨g, j, none⟩ := fun j => World.cell?_setCell_other w _ _ u (fun e => by injection e with e1 _; exact hq (by first | exact e1 | exact e1.symm))
 exact ⟨(o 0).trans k.c0, (o 1).trans k.c1, (o 2).trans k.c2, fun i => by rw [World.frozen?_setCell]; exact k.f i⟩
theorem BoxH.off (k : BoxH w g h) (hq : g ≠ q) (u : H) : BoxH (((w.setCell ⟨q, 0, none⟩ (.int .i64 u.p)).setCell ⟨q, 1, none⟩ (.int .i64 u.l)).setCell ⟨q, 2, none⟩ (.int .i64 u.e)) g h :=
 ((k.off1 hq _).off1 hq _).off1 hq _
end
theorem at_any (s : ByteArray) (k : Nat) (w : World) (hk : k ≤ 1000) (hz : s.size ≤ 300000) :
  Calls Tryz.prog 223 #[.string s, .int .i64 k] w fun e w' => e = .returned (.int .i64 (nmz s k : Nat)) ∧ Below w.heap.size w w' := by
 unfold nmz
 by_cases h : k + 4 ≤ s.size
 ·rw [if_pos h]
  exact numberAt_any k w hk h hz
 ·rw [if_neg h]
  exact numberAt_short k w hk (by omega) hz
def ParsePost (s : ByteArray) (w : World) (e : Ending) (w' : World) : Prop := e = .returned (.tuple #[.agg (cellsH ((parseH s).getD noH)), .bool (parseH s).isSome]) ∧ Below w.heap.size w w'
set_option maxRecDepth 20000 in
set_option maxHeartbeats 3200000 in
theorem parse_any (s : ByteArray) (w : World) (ht : Tab w) (hs : s.size ≤ 300000) :
  Calls Tryz.prog 169 #[.string s] w (ParsePost s w) := by
 have HT := Lib.hid ht
 clear ht
 have hB := (Below.refl w.heap.size w).alloc (Nat.le_refl _) (.cells (cellsH noH) 30)
 have hf := BoxH.new w noH 30
 obtain ⟨g, hg⟩ : ∃ g, w.heap.size = g := ⟨_, rfl⟩
 have hwg : w.heap.size ≤ g := by omega
 rw [hg] at hf
 generalize hwa : w.alloc (.cells (cellsH noH) 30) = wa at hB hf
 unfold cellsH noH at hwa
 simp only at hwa
 obtain ⟨post, hpe⟩ : ∃ post, ParsePost s w = post := ⟨_, rfl⟩
 rw [hpe]
 have no : parseH s = none → ∀ W, Below w.heap.size w W → post (.returned (.tuple #[.agg #[.int .i64 0, .int .i64 0, .int .i64 0], .bool false])) W := fun h W hW => by rw [← hpe, ParsePost, h]; exact ⟨rfl, hW⟩
 have yes : parseH s = some (candH s) → ∀ W, Below w.heap.size w W → post (.returned (.tuple #[.agg (cellsH (candH s)), .bool true])) W := fun h W hW => by rw [← hpe, ParsePost, h]; exact ⟨rfl, hW⟩
 have NO := Lib.hid no
 have YES := Lib.hid yes
 clear no yes hpe
 have hRt := fun W => right_any (candH s) W
 have HP := Lib.hid (fun (h : RightH (candH s)) W (ht : Tab W) => print_any (candH s) W ht h)
 have HI : Hid (RightH (candH s) → headB (candH s) = s → parseH s = some (candH s)) := Lib.hid (fun h1 h2 => by unfold parseH; rw [if_pos ⟨h1, h2⟩])
 have HN : Hid (¬ (RightH (candH s) ∧ headB (candH s) = s) → parseH s = none) := Lib.hid (fun h1 => by unfold parseH; rw [if_neg h1])
 have n8 := fun W => at_any s 8 W (by decide) hs
 have n12 := fun W => at_any s 12 W (by decide) hs
 have n16 := fun W => at_any s 16 W (by decide) hs
 have hcc : candH s = ⟨nmz s 8, nmz s 12, nmz s 16⟩ := rfl
 generalize nmz s 8 = v8 at n8 hcc
 generalize nmz s 12 = v12 at n12 hcc
 generalize nmz s 16 = v16 at n16 hcc
 rw [hcc] at hRt HP HI HN YES
 unfold cellsH at hRt HP YES
 simp only at hRt HP YES
 clear hcc
 go_enter Tryz.func169, Tryz.ntmps169
 go_wp2_with fail
 clear hwa hg
 refine (n8 _).mono ?_
 rintro e w1 ⟨rfl, hv⟩
 have hf := hf.below hv hf.lt
 have hB := hB.trans (hv.mono hB.size)
 clear hv
 go_wp2_with fail
 refine (n12 _).mono ?_
 rintro e w2 ⟨rfl, hv⟩
 have hf := hf.below hv hf.lt
 have hB := hB.trans (hv.mono hB.size)
 clear hv
 go_wp2_with fail
 refine (n16 _).mono ?_
 rintro e w3 ⟨rfl, hv⟩
 have hf := hf.below hv hf.lt
 have hB := hB.trans (hv.mono hB.size)
 clear hv n8 n12 n16
 go_upto_region 2 with fail
 have hn : Below w3.heap.size w3 (w3.alloc (.cells #[.int .i64 (v8 : Int), .int .i64 (v12 : Int), .int .i64 (v16 : Int)] 30)) := (Below.refl w3.heap.size w3).alloc (Nat.le_refl _) _
 have hq : BoxH (w3.alloc (.cells #[.int .i64 (v8 : Int), .int .i64 (v12 : Int), .int .i64 (v16 : Int)] 30)) w3.heap.size ⟨v8, v12, v16⟩ := BoxH.new w3 ⟨v8, v12, v16⟩ 30
 have hf := hf.below hn hf.lt
 have hB := hB.trans (hn.mono hB.size)
 clear hn
 generalize w3.alloc (.cells #[.int .i64 (v8 : Int), .int .i64 (v12 : Int), .int .i64 (v16 : Int)] 30) = wq at hf hq hB ⊢
 generalize w3.heap.size = gq at hq ⊢
 have q0 := hq.c0
 have q1 := hq.c1
 have q2 := hq.c2
 simp only at q0 q1 q2
 go_wp2_with fail
 refine (hRt _).mono ?_
 rintro e w4 ⟨is, rfl, hb, hv⟩
 have hf := hf.below hv hf.lt
 have hq := hq.below hv hq.lt
 have hB := hB.trans (hv.mono hB.size)
 clear hv q0 q1 q2
 have q0 := hq.c0
 have q1 := hq.c1
 have q2 := hq.c2
 simp only at q0 q1 q2
 cases is
 ·have HR := Lib.hid (hf.put noH)
  have HB := Lib.hid (below_putH hB hwg noH)
  have HNO := Lib.hid (NO.out (HN.out (fun h => by cases hb.2 h.1)))
  have x0 := hf.c0
  have x1 := hf.c1
  have x2 := hf.c2
  have xf := hf.f
  clear hf hB hq q0 q1 q2 hb
  go_wp2
  refine bodyPost_ret (results_h2 rfl _ _ g _ _ _ rfl HR.out.c0 HR.out.c1 HR.out.c2) rfl ?_
  exact HNO.out _ HB.out
 ·have hr := hb.1 rfl
  have hpf := HP.out hr
  clear hb
  go_wp2_with fail
  refine (hpf _ (HT.out.below hB)).mono ?_
  rintro e w5 ⟨rfl, hv⟩
  have hf := hf.below hv hf.lt
  have hq := hq.below hv hq.lt
  have hB := hB.trans (hv.mono hB.size)
  clear hv hpf q0 q1 q2
  have x0 := hf.c0
  have x1 := hf.c1
  have x2 := hf.c2
  have xf := hf.f
  by_cases hqq : headB ⟨v8, v12, v16⟩ = s
  ·have e1 : ((headB ⟨v8, v12, v16⟩).toList == s.toList) = true := by rw [hqq]; exact beq_self_eq_true _
   have HR := Lib.hid (hf.put ⟨v8, v12, v16⟩)
   have HB := Lib.hid (below_putH hB hwg ⟨v8, v12, v16⟩)
   have HYE := Lib.hid (YES.out (HI.out hr hqq))
   have q0 := hq.c0
   have q1 := hq.c1
   have q2 := hq.c2
   simp only at q0 q1 q2
   generalize headB ⟨v8, v12, v16⟩ = sx at e1 ⊢
   clear hf hB hq hqq hr
   go_wp2
   refine bodyPost_ret (results_h2 rfl _ _ g _ _ _ rfl HR.out.c0 HR.out.c1 HR.out.c2) rfl ?_
   exact HYE.out _ HB.out
  ·have e1 : ((headB ⟨v8, v12, v16⟩).toList == s.toList) = false := str_ne hqq
   have HR := Lib.hid (hf.put noH)
   have HB := Lib.hid (below_putH hB hwg noH)
   have HNO := Lib.hid (NO.out (HN.out (fun h => hqq h.2)))
   generalize headB ⟨v8, v12, v16⟩ = sx at e1 ⊢
   clear hf hB hq hqq hr
   go_wp2
   refine bodyPost_ret (results_h2 rfl _ _ g _ _ _ rfl HR.out.c0 HR.out.c1 HR.out.c2) rfl ?_
   exact HNO.out _ HB.out
end Go.Proofs.YtcgkbcgpnlogoaaGreatDoor.Hd

/- The document's device: blank, spend, Arm, Get, walked. -/
namespace Go.Proofs.YtcgkbcgpnlogoaaGreatDoor.Hd
open Go.RowKit Go.Shelf Tal Sla
set_option maxHeartbeats 400000 in
theorem blank_any (t : Nat) (w : World) (h : t ≤ 1000) :
    Calls Tryz.prog 142 #[.int .i64 t] w fun e w' => e = .returned (.string (zeros t)) ∧ Below w.heap.size w w' := by
  obtain ⟨i0, hi, hz0, hz1, hz2⟩ := info_partsF infoU8F
  go_enter Tryz.func142, Tryz.ntmps142
  go_wp2_with
    (at_make
     go_must (refine wpList_make_full _ rfl _ _ 118 rfl (w.heap.size) 5 i0 _ 1 Tryz.underlying118 hi hz0 hz1 _ _ _ _ t rfl rfl rfl rfl (by rw [hz2]; omega) (by unfold maxLen; omega) (by simp) ?_)
     intro w1 hown hgrow
     obtain ⟨hb1, hcv⟩ := noughts_new t hown hgrow
     clear hown hgrow)
  go_ret
  exact ⟨rfl, hb1⟩
set_option maxHeartbeats 400000 in
theorem refArm_any (A B : Option Addr) (n c m k : Nat) (dead : Bool) (left deeds x : Int) (w : World) :
    Calls Tryz.prog 75 #[.agg #[.slice A n c, .slice B m k, .bool dead, .int .i64 left, .int .i64 deeds], .int .i64 x] w fun e w' =>
      e = .returned (.agg #[.slice A n c, .slice B m k, .bool dead, .int .i64 (max x (-1)), .int .i64 deeds]) ∧ Below w.heap.size w w' := by
  go_enter Tryz.func75, Tryz.ntmps75
  go_wp2
  exact bodyPost_ret (v := .agg #[.slice A n c, .slice B m k, .bool dead, .int .i64 (max x (-1)), .int .i64 deeds]) (by simp [results, Tryz.results75, go_sem]) rfl ⟨rfl, ((Below.refl _ _).alloc (by simp) _).alloc (by simp) _⟩
theorem refArm_dev (v : Value) (D : Dev) (x : Int) (w : World) (h : IsDev w v D) :
    Calls Tryz.prog 75 #[v, .int .i64 x] w fun e w' => ∃ v', e = .returned v' ∧ IsDev w' v' (armed D x) ∧ Below w.heap.size w w' := by
  obtain ⟨b, B, c, k, rfl, hlt, hnc, hc, hl, h0⟩ := h
  refine (refArm_any _ _ _ _ _ _ _ _ _ _ _).mono ?_
  rintro e w' ⟨rfl, hb⟩
  have hd : DevAt w b B (.agg #[.slice (some ⟨b, 0, none⟩) D.n c, .slice B D.m k, .bool D.dead, .int .i64 (max x (-1)), .int .i64 D.deeds]) (armed D x) := ⟨c, k, rfl, hlt, hnc, hc, hl, h0⟩
  exact ⟨_, rfl, ⟨b, B, hd.below hb (Nat.le_refl _)⟩, hb⟩

end Go.Proofs.YtcgkbcgpnlogoaaGreatDoor.Hd

/- The document's device: Put, walked. -/
namespace Go.Proofs.YtcgkbcgpnlogoaaGreatDoor.Hd
open Go.RowKit Go.Shelf Tal Sla
theorem own_below {w w' : World} {B base : Nat} {e : TypeId} {size : Nat} {v : Value} {n : Nat} {xs : List Value} (h : w.ownsRow base e size v n xs) (hb : Below B w w') (hB : w.heap.size ≤ B) : w'.ownsRow base e size v n xs := by
 refine ⟨h.1, ?_⟩
 rcases h.2 with h2 | ⟨g, cap, cur, e1, e2, e3, r⟩
 ·exact Or.inl h2
 ·refine Or.inr ⟨g, cap, cur, e1, e2, ?_, r⟩
  have hg : g < w.heap.size := (Array.getElem?_eq_some_iff.1 e3).1
  rw [hb.block g (Nat.lt_of_lt_of_le hg hB)]
  exact e3
end Go.Proofs.YtcgkbcgpnlogoaaGreatDoor.Hd

/- The document's device: Flush, walked. -/
namespace Go.Proofs.YtcgkbcgpnlogoaaGreatDoor.Hd
open Go.RowKit Go.Shelf Tal Sla
theorem news_of_strs {w : World} {b n : Nat} {S : Nat → ByteArray} (hc : ∀ j, j < n → w.cell? ⟨b, j, none⟩ = some (.string (S j))) :
  ∀ (j : Nat) (u : Value), ((List.range n).map fun j => Value.string (S j))[j]? = some u → w.cell? ((⟨b, 0, none⟩ : Addr).add j) = some u := by
 intro j u hu
 rw [Sla.add_zero_off]
 have hj : j < n := by
  have := (List.getElem?_eq_some_iff.1 hu).1
  simpa using this
 rw [hc j hj]
 simpa [hj] using hu
theorem row_of_own {w : World} {base n : Nat} {v : Value} {S : Nat → ByteArray} (hown : w.ownsRow base 9 1 v n ((List.range n).map fun j => Value.string (S j))) (hn : 0 < n) :
  ∃ g cap, v = .slice (some ⟨g, 0, none⟩) n cap ∧ base ≤ g ∧ n ≤ cap ∧ StrRow w g n S := by
 obtain ⟨g, cap, rfl, hg, hlt⟩ := hown.form hn
 have hcap : n ≤ cap := by
  rcases hown.2 with ⟨h0, _⟩ | ⟨g', cap', cur, hv, _, _, hn, _⟩
  ·cases h0
  ·injection hv with _ _ h3
   subst h3
   exact hn
 refine ⟨g, cap, rfl, hg, hcap, ⟨hlt, fun j hj => ?_, fun i => hown.frozenAt i⟩⟩
 rw [hown.cellAt j (by omega)]
 simp [hj]
end Go.Proofs.YtcgkbcgpnlogoaaGreatDoor.Hd

/- The document's device: New, walked. -/
namespace Go.Proofs.YtcgkbcgpnlogoaaGreatDoor.Sla
open Go.RowKit Hd
theorem Box5.lt5 {w : World} {g : Nat} {v0 v1 v2 v3 v4 : Value} (h : Box5 w g v0 v1 v2 v3 v4) : g < w.heap.size := World.block_lt_of_cell? w _ h.c0
theorem Box5.set0 {w : World} {g : Nat} {v0 v1 v2 v3 v4 : Value} (h : Box5 w g v0 v1 v2 v3 v4) (u : Value) : Box5 (w.setCell ⟨g, 0, none⟩ u) g u v1 v2 v3 v4 :=
 ⟨World.cell?_setCell_same _ _ _ h.c0, cell_set w g 0 1 u _ (by decide) h.c1, cell_set w g 0 2 u _ (by decide) h.c2, cell_set w g 0 3 u _ (by decide) h.c3, cell_set w g 0 4 u _ (by decide) h.c4, fun i => by rw [World.frozen?_setCell]; exact h.f i⟩
end Go.Proofs.YtcgkbcgpnlogoaaGreatDoor.Sla
namespace Go.Proofs.YtcgkbcgpnlogoaaGreatDoor.Hd
open Go.RowKit Go.Shelf Tal Sla Lex
end Go.Proofs.YtcgkbcgpnlogoaaGreatDoor.Hd

/- The document's device: Start, walked. -/
namespace Go.Proofs.YtcgkbcgpnlogoaaGreatDoor.Hd
open Go.RowKit Go.Shelf Tal Sla
theorem extract_full (d : ByteArray) (h : d.size = 256) : d.extract 0 256 = d := by
 rw [← h]
 exact ByteArray.extract_zero_size
theorem laid_torn (o d : ByteArray) (n : Nat) (ho : o.size = 256) (hd : d.size = 256) (hn : n ≤ 256) : laidB o (d.extract 0 n) = d.extract 0 n ++ o.extract n 256 := by
 have hs : (d.extract 0 n).size = n := by rw [ByteArray.size_extract]; omega
 unfold laidB
 rw [hs, ho]
 split
 ·have hn2 : n = 256 := by omega
  subst hn2
  apply ByteArray.ext
  simp [ByteArray.data_append, ByteArray.data_extract]
 ·rfl
theorem laid_all (o d : ByteArray) (ho : o.size = 256) (hd : d.size = 256) : laidB o (d.extract 0 d.size) = d := by
 unfold laidB
 rw [hd, extract_full d hd, if_pos (by omega)]
theorem laid_none (o d : ByteArray) (ho : o.size = 256) : laidB o (d.extract 0 0) = o := by
 unfold laidB
 have hs : (d.extract 0 0).size = 0 := by rw [ByteArray.size_extract]; omega
 rw [hs, ho, if_neg (by decide), extract_full o ho]
 apply ByteArray.ext
 simp [ByteArray.data_append, ByteArray.data_extract]
set_option maxRecDepth 20000 in
set_option maxHeartbeats 6400000 in
theorem refStart_any {K : Nat} (v : Value) (D : Dev) (f : Fat) (w : World) (h : IsDev w v D) (hok : D.Ok K) (hK : K ≤ 100000) (f0 : 0 ≤ f.stay) (f1 : f.stay < 18446744073709551616) :
  Calls Tryz.prog 27 #[v, .agg #[.int .u64 f.stay, .int .i64 f.torn, .int .i64 f.bytes]] w (DevRet (D.started f) w) := by
 obtain ⟨b, B, c, k, rfl, hlt, hnc, hc, hl, h0⟩ := h
 have hm := hok.m2
 have hn1 := hok.n1
 have hn2 := hok.n2
 have HLA := Lib.hid hok.la
 have HLZ := Lib.hid hok.lz
 have HSZ := Lib.hid hok.sz
 have HC := Lib.hid hc
 have HL := Lib.hid hl
 have F1 := Lib.hid (And.intro f0 f1)
 clear hc hl h0 hok f1 f0
 obtain ⟨n, S, m, LA, LD, dead, left, deeds⟩ := D
 simp only at hm hnc hn1 hn2
 have HC2 : Hid (∀ j, j < n → w.cell? ⟨b, j, none⟩ = some (.string (S j))) := HC
 have HLA2 : Hid (∀ j, j < m → 0 ≤ LA j ∧ LA j < n) := HLA
 have HLZ2 : Hid (∀ j, j < m → (LD j).size = 256) := HLZ
 have HSZ2 : Hid (∀ j, j < n → (S j).size = 256) := HSZ
 clear HC HLA HLZ HSZ
 obtain ⟨i9, hi9, hv0, hv1, hv2⟩ := info_parts info9
 -- the three variables, and the list
 have hx := Box5.new w (.slice (some ⟨b, 0, none⟩) n c) (.slice B m k) (.bool dead) (.int .i64 left) (.int .i64 deeds) 28
 have hB := (Below.refl w.heap.size w).alloc (Nat.le_refl _) (.cells #[.slice (some ⟨b, 0, none⟩) n c, .slice B m k, .bool dead, .int .i64 left, .int .i64 deeds] 28)
 obtain ⟨gx, hgx⟩ : ∃ x, w.heap.size = x := ⟨_, rfl⟩
 rw [hgx] at hx
 have hwx : w.heap.size ≤ gx := by omega
 generalize hwa : w.alloc (.cells #[.slice (some ⟨b, 0, none⟩) n c, .slice B m k, .bool dead, .int .i64 left, .int .i64 deeds] 28) = wa at hB hx
 have hF := Box3.new wa (.int .u64 f.stay) (.int .i64 f.torn) (.int .i64 f.bytes) 46
 have hv := (Below.refl wa.heap.size wa).alloc (Nat.le_refl _) (.cells #[.int .u64 f.stay, .int .i64 f.torn, .int .i64 f.bytes] 46)
 have hx := hx.below hv hx.lt5
 have hwf : w.heap.size ≤ wa.heap.size := hB.size
 have hxlt := hx.lt5
 have hgxf : gx < wa.heap.size := by rw [← hwa]; simp; omega
 have hB := hB.trans (hv.mono hB.size)
 clear hv
 obtain ⟨gf, hgf⟩ : ∃ x, wa.heap.size = x := ⟨_, rfl⟩
 rw [hgf] at hF hwf hgxf
 generalize hwb : wa.alloc (.cells #[.int .u64 f.stay, .int .i64 f.torn, .int .i64 f.bytes] 46) = wb at hB hx hF
 have hFlt : gf < wb.heap.size := World.block_lt_of_cell? wb _ hF.c0
 have hy := Box5.new wb (.slice none 0 0) (.slice none 0 0) (.bool false) (.int .i64 0) (.int .i64 0) 28
 have hv := (Below.refl wb.heap.size wb).alloc (Nat.le_refl _) (.cells #[.slice none 0 0, .slice none 0 0, .bool false, .int .i64 0, .int .i64 0] 28)
 have hx := hx.below hv hx.lt5
 have hF := hF.below hv hFlt
 have hwy : w.heap.size ≤ wb.heap.size := hB.size
 have hB := hB.trans (hv.mono hB.size)
 clear hv
 obtain ⟨gy, hgy⟩ : ∃ x, wb.heap.size = x := ⟨_, rfl⟩
 rw [hgy] at hy hwy hFlt
 generalize hwc : wb.alloc (.cells #[.slice none 0 0, .slice none 0 0, .bool false, .int .i64 0, .int .i64 0] 28) = w3 at hB hx hF hy
 have hylt := hy.lt5
 have hn4 := (Below.refl w3.heap.size w3).alloc (Nat.le_refl _) (.cells #[] 9)
 have hx5 := hx.below hn4 (by omega)
 have hcx0 := hx5.c0
 have hown0 := World.ownsRow_lit (e := 9) (size := 1) (base := w3.heap.size) w3 #[] 0 (Nat.le_refl _) (by unfold maxLen; omega) rfl
 have hnw := news_of_strs (S := S) (n := n) (fun j hj => (((hB.trans (hn4.mono hB.size)).cell (p := ⟨b, j, none⟩) hlt)).trans (HC2.out j hj))
 have HW := Lib.hid (And.intro hown0 (And.intro hnw hn4))
 have HX := Lib.hid (And.intro hx (And.intro hF (And.intro hy hB)))
 clear hown0 hnw hn4 hx hF hy hx5
 go_enter Tryz.func27, Tryz.ntmps27
 go_wp2_with (at_builtin; go_must (refine wpList_append_own _ rfl _ _ 25 rfl w3.heap.size 9 i9 (.string ⟨#[]⟩) 1 16 Tryz.underlying25 hi9 hv0 hv1 hv2 rfl (by decide) (.slice (some ⟨w3.heap.size, 0, none⟩) 0 0) 0 [] rfl HW.out.1 ⟨b, 0, none⟩ n c ((List.range n).map fun j => .string (S j)) rfl (by simp) HW.out.2.1 (by simp [Value.oneCell']) (by unfold maxLen; omega) (by omega) HW.out.2.2.size ?_))
 intro v5 w4 hown hgrow5 _
 obtain ⟨hown0, _, hn4⟩ := HW.out
 have hb34 := hn4.grown hgrow5 hn4.size (fun k hk => (hown0.lt k hk).1)
 (try simp only [Nat.zero_add, List.nil_append] at hown)
 obtain ⟨g, cap, rfl, hg3, hncap, hrow⟩ := row_of_own hown (by omega)
 clear hown hown0 hn4 hgrow5 HW
 go_wp2
 clear hwa hwb hwc hgx hgf hgy hcx0
 obtain ⟨hx, hF, hy, hB⟩ := HX.out
 clear HX
 have hs34 : w3.heap.size ≤ w4.heap.size := hb34.size
 have hx4 := hx.below hb34 (by omega)
 have hF4 := hF.below hb34 (by omega)
 have hy4 := hy.below hb34 (by omega)
 have hbw4 : Below w.heap.size w w4 := hB.trans (hb34.mono hB.size)
 have hwg : w.heap.size ≤ g := Nat.le_trans hB.size hg3
 clear hx hF hy hB hb34
 go_loopw [6] (fun u wr => ∃ q : Nat, q ≤ m ∧ u = .int .i64 q ∧ Below w3.heap.size w4 wr ∧ StrRow wr g n (startS f S LA LD q)) (fun u _ => m - (intOf u).toNat)
 case atStart => exact ⟨0, Nat.zero_le _, rfl, Below.refl _ _, hrow⟩
 case round =>
  obtain ⟨q, hq, rfl, hbr, hrr⟩ := hrel
  have hx5 := hx4.below hbr (by omega)
  have hsr := hbr.size
  have hbw : Below w.heap.size w wr := hbw4.trans (hbr.mono (by omega))
  have hF5 := hF4.below hbr (by omega)
  have hcx1 := hx5.c1
  by_cases hqm : q < m
  ·obtain ⟨bl, rfl, hbl, hlc⟩ := HL.out (by omega)
   obtain ⟨a, ha⟩ := Int.eq_ofNat_of_zero_le (HLA2.out q hqm).1
   have han : a < n := by have := (HLA2.out q hqm).2; omega
   have kA : wr.cell? ⟨bl, q * 2, none⟩ = some (.int .i64 (a : Int)) := by rw [← ha]; exact (hbw.cell (p := ⟨bl, q * 2, none⟩) hbl).trans (hlc q hqm).1
   have kD : wr.cell? ⟨bl, q * 2 + 1, none⟩ = some (.string (LD q)) := (hbw.cell (p := ⟨bl, q * 2 + 1, none⟩) hbl).trans (hlc q hqm).2
   have HA := Lib.hid ha
   have i0 : (q : Int) < (m : Int) := by omega
   have i1 : (0 : Int) ≤ (a : Int) := by omega
   have i2 : (a : Int) < (n : Int) := by omega
   have hz1 := startS_size f S LA LD n q HSZ2.out (fun j hj => HLZ2.out j (by omega)) a han
   have hz2 := HLZ2.out q hqm
   have HZ := Lib.hid (And.intro hz1 hz2)
   clear ha hlc
   go_upto_block 2 with fail
   have hn6 := (Below.refl wr.heap.size wr).alloc (Nat.le_refl _) (.cells #[.int .i64 (a : Int), .string (LD q)] 120)
   have hr6 := hrr.below hn6 (Nat.le_refl _)
   have hx6 := hx5.below hn6 (by omega)
   have hF6 := hF5.below hn6 (by omega)
   have kt0 : (wr.alloc (.cells #[.int .i64 (a : Int), .string (LD q)] 120)).cell? ⟨wr.heap.size, 0, none⟩ = some (.int .i64 (a : Int)) := by simp
   have kt1 : (wr.alloc (.cells #[.int .i64 (a : Int), .string (LD q)] 120)).cell? ⟨wr.heap.size, 1, none⟩ = some (.string (LD q)) := by simp
   have hgt : g < wr.heap.size := hrr.1
   have hbr6 := hbr.trans (hn6.mono (by omega))
   clear hn6 hrr kA kD hcx1 hx5 hF5
   generalize wr.alloc (.cells #[.int .i64 (a : Int), .string (LD q)] 120) = w6 at hr6 hx6 hF6 kt0 kt1 hbr6 ⊢
   generalize wr.heap.size = gt at kt0 kt1 hgt hsr ⊢
   have kg := hr6.2.1 a han
   have kf := hr6.2.2 a
   have k0 := hF6.c0
   have k1 := hF6.c1
   have k2 := hF6.c2
   have HR := Lib.hid hr6
   clear hr6
   have HST : Hid (∀ d, laidB (startS f S LA LD q a) ((LD q).extract 0 (keptN f q (LD q).size)) = d → ∀ W, StrRow W g n (fun j => if j = a then d else startS f S LA LD q j) → StrRow W g n (startS f S LA LD (q + 1))) := Lib.hid (fun d hd W hW => hW.congr fun j hj => by
    simp only [startS]
    rw [HA.out]
    by_cases e : j = a
    ·subst e; rw [if_pos rfl, if_pos rfl, hd]
    ·rw [if_neg e, if_neg (by omega)])
   have HKP : Hid (keptN f q (LD q).size = (keptI f.stay f.torn f.bytes q (LD q).size).toNat) := Lib.hid rfl
   have hz1 := HZ.out.1
   have hz2 := HZ.out.2
   have HR2 : Hid (∃ Sq : Nat → ByteArray, Sq = startS f S LA LD q) := Lib.hid ⟨_, rfl⟩
   generalize hsg : startS f S LA LD q a = sg at kg hz1 HST
   generalize hld : LD q = d at kt1 hz2 HST HKP
   have HD2 := Lib.hid (And.intro hsg hld)
   clear hsg hld HZ
   by_cases ht : (q : Int) = f.torn
   ·have t1 : ((q : Int) == f.torn) = true := by rw [beq_iff_eq]; exact ht
    obtain ⟨X, hX⟩ : ∃ X : Nat, (max 0 (min f.bytes 256)).toNat = X := ⟨_, rfl⟩
    have HFIN : Hid (laidB sg (d.extract 0 (keptN f q d.size)) = d.extract 0 (max 0 (min f.bytes 256)).toNat ++ sg.extract (max 0 (min f.bytes 256)).toNat 256) := Lib.hid (by
     have hk : keptN f q d.size = (max 0 (min f.bytes 256)).toNat := by
      rw [HKP.out]
      unfold keptI
      rw [if_pos ht, hz2]
      omega
     rw [hk]
     exact laid_torn sg d _ hz1 hz2 (by omega))
    clear ht HKP hX
    go_wp2
    go_region
    go_wp2
    have hset := HST.out _ HFIN.out _ (HR.out.set han _)
    go_roundw
    case rel => exact ⟨q + 1, by omega, by go_num, (Below.setCell hbr6 (p := ⟨g, a, none⟩) (by simp; omega) _).drew, hset.below (Below.refl _ _).drew (Nat.le_refl _)⟩
    case measure => simp [intOf]; omega
   ·have t1 : ((q : Int) == f.torn) = false := beq_eq_false_iff_ne.2 ht
    have hq0 : 0 ≤ f.stay / 2 ^ (q % 64) := Int.ediv_nonneg F1.out.1 (Int.le_of_lt (Int.pow_pos (by decide)))
    have hq1 : f.stay / 2 ^ (q % 64) ≤ 18446744073709551615 := by
     have := Int.ediv_le_self (2 ^ (q % 64)) F1.out.1
     have := F1.out.2
     omega
    have HAN := Lib.hid (and_one_u64 _ hq0 hq1)
    have HT := Lib.hid ht
    clear hq0 hq1 ht
    go_wp2
    ·have hc2 : (bits BinOp.and IntKind.u64 (f.stay / 2 ^ (q % 64)) 1 == 1) = true := by assumption
     rw [HAN.out] at hc2
     have HFIN : laidB sg (d.extract 0 (keptN f q d.size)) = d := by
      rw [HKP.out]
      unfold keptI
      rw [if_neg HT.out, if_pos (by simpa using hc2), Int.toNat_natCast, laid_all sg d hz1 hz2]
     have hset := HST.out d HFIN _ (HR.out.set han d)
     go_roundw
     case rel => exact ⟨q + 1, by omega, by go_num, Below.setCell hbr6 (p := ⟨g, a, none⟩) (by simp; omega) _, hset⟩
     case measure => simp [intOf]; omega
    ·have hc2 : (bits BinOp.and IntKind.u64 (f.stay / 2 ^ (q % 64)) 1 == 1) = false := by assumption
     rw [HAN.out] at hc2
     have HFIN : laidB sg (d.extract 0 (keptN f q d.size)) = sg := by
      rw [HKP.out]
      unfold keptI
      rw [if_neg HT.out, if_neg (by simpa using hc2), Int.toNat_zero, laid_none sg d hz1]
     have hset := HST.out sg HFIN w6 (HR.out.congr fun j hj => by
      by_cases e : j = a
      ·subst e; rw [if_pos rfl, HD2.out.1]
      ·rw [if_neg e])
     go_roundw
     case rel => exact ⟨q + 1, by omega, by go_num, hbr6, hset⟩
     case measure => simp [intOf]; omega
  ·obtain rfl : q = m := by omega
   have hy5 := hy4.below hbr (by omega)
   have hfy := hy5.f
   have ky0 := hy5.c0
   have ky1 := hy5.c1
   have ky2 := hy5.c2
   have ky3 := hy5.c3
   have ky4 := hy5.c4
   have hgl := hrr.1
   have i0 : ¬ (q : Int) < (q : Int) := by omega
   have hd5 : DevAt wr g none (.agg #[.slice (some ⟨g, 0, none⟩) n cap, .slice none 0 0, .bool false, .int .i64 (-1), .int .i64 0]) (Dev.started { n := n, S := S, m := q, LA := LA, LD := LD, dead := dead, left := left, deeds := deeds } f) :=
    ⟨cap, 0, rfl, hgl, hncap, hrr.2.1, fun h => absurd h (by simp [Dev.started]), fun _ => ⟨rfl, rfl⟩⟩
   have hgn : gy ≠ g := by omega
   go_wp2
   refine bodyPost_ret (v := .agg #[.slice (some ⟨g, 0, none⟩) n cap, .slice none 0 0, .bool false, .int .i64 (-1), .int .i64 0]) (by simp [results, Tryz.results27, go_sem, ky0, ky1, ky2, ky3, ky4]) rfl ⟨_, rfl, ⟨g, none, ?_⟩, ?_⟩
   ·repeat (first | (with_reducible exact hd5) | refine DevAt.setCell ?_ (by simp; omega) (fun a h => by cases h) _)
   ·repeat (first | (with_reducible exact hbw) | refine Below.setCell ?_ (by simp; omega) _)
end Go.Proofs.YtcgkbcgpnlogoaaGreatDoor.Hd
