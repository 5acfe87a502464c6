/- The program's frameAt. -/
import Derived.Test.YtcgkbcgpnlogoaaGreatDoorMgAH
import Derived.Test.YtcgkbcgpnlogoaaGreatDoorMgAF
import Derived.Test.YtcgkbcgpnlogoaaGreatDoorMgAE
namespace Go.Proofs.YtcgkbcgpnlogoaaGreatDoor.St
open Go.RowKit Go.Shelf Tal Sla Hd Fr Lf Lex
theorem logN_any (h : H) (i : Nat) (w : World) (hr : RightH h) (hi : i < 512) :
  Calls Tryz.prog 201 #[.agg #[.int .i64 h.p, .int .i64 h.l, .int .i64 h.e], .int .i64 i] w fun e w' => e = .returned (.int .i64 (logN h i : Nat)) ∧ Below w.heap.size w w' := by
 refine (log_any h i w).mono ?_
 rintro e w' ⟨rfl, hb⟩
 refine ⟨?_, hb⟩
 have := hr.p0
 have := hr.p1
 have e1 : wrap64 (2 + h.p) = 2 + h.p := by unfold wrap64; omega
 have e2 : wrap64 (2 + h.p + i) = ((logN h i : Nat) : Int) := by unfold wrap64 logN; omega
 rw [e1, e2]
def FramePost (R : Dev × F × Int) (w : World) (e : Ending) (w' : World) : Prop := ∃ v, e = .returned (.tuple #[v, .agg (cellsF R.2.1), .int .i64 R.2.2]) ∧ IsDev w' v R.1 ∧ Below w.heap.size w w'
section
variable {D D1 : Dev} {h : H} {i K x : Nat} {t : ByteArray} {er : Int} {f : F}
theorem frameR_err (hg : getR D (logN h i) = (D1, t, er)) (he : er ≠ 0) : frameR D h i = (D1, noF, er) := by
 unfold frameR
 rw [hg, if_pos he]
 rfl
theorem frameR_none (hg : getR D (logN h i) = (D1, t, 0)) (hp : parseF t = none) : frameR D h i = (D1, noF, 2) := by
 unfold frameR
 rw [hg, if_neg (by simp)]
 simp only [hp]
 rfl
theorem frameR_other (hg : getR D (logN h i) = (D1, t, 0)) (hp : parseF t = some f) (hn : ¬ (f.e = h.e ∧ f.i = i)) : frameR D h i = (D1, noF, 2) := by
 unfold frameR
 rw [hg, if_neg (by simp)]
 simp only [hp]
 rw [if_neg hn]
 rfl
theorem frameR_some (hg : getR D (logN h i) = (D1, t, 0)) (hp : parseF t = some f) (hn : f.e = h.e ∧ f.i = i) : frameR D h i = (D1, f, 0) := by
 unfold frameR
 rw [hg, if_neg (by simp)]
 simp only [hp]
 rw [if_pos hn]
theorem get_size (h : D.Ok K) (hx : x < D.n) (hg : getR D x = (D1, t, 0)) : t.size = 256 := by
 unfold getR at hg
 split at hg
 ·injection hg with _ hg
  injection hg with hg _
  rw [← hg]
  exact Hd.look_size (h.sz x (by omega)) _ h.lz
 ·injection hg with _ hg
  injection hg with _ hg
  cases hg
theorem get_n (hg : getR D x = (D1, t, er)) : D1.n = D.n := by have := getR_n D x; rw [hg] at this; exact this
end
set_option maxRecDepth 20000 in
set_option maxHeartbeats 6400000 in
theorem frameAt_any {K : Nat} (v : Value) (D : Dev) (h : H) (i : Nat) (w : World) (ht : Tab w) (hD : IsDev w v D) (hok : D.Ok K) (hK : K ≤ 99990) (hr : RightH h) (hn : D.n = 2 + h.p.toNat + h.l.toNat) (hi : i < h.l.toNat) :
  Calls Tryz.prog 170 #[v, .agg (cellsH h), .int .i64 i] w (FramePost (frameR D h i) w) := by
 have HT := Lib.hid ht
 clear ht
 obtain ⟨A0, n0, c0, B0, m0, k0, dd0, lf0, ds0, rfl⟩ := dev_form hD
 have hl9 := hr.l1
 have hlt : logN h i < D.n := by unfold logN; omega
 have hhas : D.has ((logN h i : Nat) : Int) = true := by
  unfold Dev.has
  exact decide_eq_true (by omega)
 have HG := Lib.hid (fun W (hd : IsDev W (.agg #[.slice A0 n0 c0, .slice B0 m0 k0, .bool dd0, .int .i64 lf0, .int .i64 ds0]) D) => slabGet _ D (logN h i) W hd hok (by omega) hhas)
 have HL := Lib.hid (fun W => logN_any h i W hr (by omega))
 have HD := Lib.hid hD
 have HSZ := Lib.hid (fun D1 t => get_size (D1 := D1) (t := t) hok hlt)
 have hn1 := hok.n1
 clear hD hhas hlt hl9 hok hK hr hn hi
 obtain ⟨post, hpost⟩ : ∃ post, FramePost (frameR D h i) w = post := ⟨_, rfl⟩
 rw [hpost]
 have HP := Lib.hid hpost
 clear hpost
 generalize hgr : getR D (logN h i) = GR at HG
 obtain ⟨D1, tx, er⟩ := GR
 have HGR := Lib.hid hgr
 have HN1 := Lib.hid (show 1 ≤ D1.n by rw [get_n hgr]; exact hn1)
 clear hgr hn1
 unfold cellsH
 have F := Fv.Fr.start w
 go_enter Tryz.func170, Tryz.ntmps170
 go_upto_region 1 with (first
  | ((with_reducible (show wpList _ _ _ (Oper.mk _ (Op.load _ _) _ _ _ none :: _) _ _)); first | refine Fv.ldN F rfl rfl rfl (by repeat constructor) (by repeat constructor) ?_ | refine Fv.ld1 F rfl rfl rfl (by repeat constructor) (by repeat constructor) ?_)
  | ((with_reducible (show wpList _ _ _ (Oper.mk _ (Op.store _ _ _) _ _ _ none :: _) _ _)); (first | refine Fv.stN F rfl rfl rfl rfl rfl (by first | rfl | simp [Value.oneCell']) (by repeat constructor) ?_ | refine Fv.st1 F rfl rfl rfl (by first | exact (rfl : _ = Value.int _ _) | exact (rfl : _ = Value.slice _ _ _) | exact (rfl : _ = Value.bool _) | exact (rfl : _ = Value.string _)) (by rfl) (by repeat constructor) ?_); clear F; intro W F)
  | ((with_reducible (show wpList _ _ _ (Oper.mk _ (Op.alloc _) _ _ _ none :: _) _ _)); refine Fv.al F rfl rfl ?_; clear F; intro g W hs1 hs2 F; clear hs1 hs2)
  | ((with_reducible (show wpList _ _ _ (Oper.mk _ (Op.box _ _) _ _ _ none :: _) _ _)); refine Fv.wpL_box F rfl rfl rfl rfl ?_; clear F; intro g W hs1 hs2 F; clear hs1 hs2))
 refine Lex.region_parts (ops := faraw) (ops1 := faops) (calls := facalls) 6 faord (Fv.FrS _ _ _) (by kernel_rfl) facut (by rw [fasize]; decide) (by kernel_rfl) (by kernel_rfl) (by kernel_rfl) fasel (by kernel_rfl) (by kernel_rfl) falex F.drew ?_
 replace F := F.drew
 unfold faord
 refine Lex.step_take _ fa0 rfl (Lex.want_none rfl) (by intro Wx hSw; exact Fv.run_loadN hSw rfl rfl Fv.rt_Slab (by repeat constructor) (by repeat constructor)) ?_
 simp only [Act.put, List.setIfInBounds_toArray, List.set_cons_zero, List.set_cons_succ]
 refine Lex.step_take _ fa1 rfl (Lex.want_none rfl) (by intro Wx hSw; exact Fv.run_loadN hSw rfl rfl Fv.rt_Head (by repeat constructor) (by repeat constructor)) ?_
 simp only [Act.put, List.setIfInBounds_toArray, List.set_cons_zero, List.set_cons_succ]
 refine Lex.step_take _ fa2 rfl (Lex.want_none rfl) (by intro Wx hSw; clear hSw; go_simp; try (first | (with_reducible rfl) | rfl)) ?_
 simp only [Act.put, List.setIfInBounds_toArray, List.set_cons_zero, List.set_cons_succ]
 refine Lex.step_call fa3 rfl (Lex.want_none rfl) (fun K hK => ?_)
 go_simp
 refine (HL.out _).mono ?_
 rintro e w1 ⟨rfl, hv⟩
 replace F := F.call hv
 clear hv
 refine hK.out (Fv.FrS _ _ _) _ _ (fun _ h => Fv.Fr.weak h (by intro L w h; first | exact h | exact h.1 | exact h.1.1)) F ?_
 clear hK K
 try simp only [Act.put, List.setIfInBounds_toArray, List.set_cons_zero, List.set_cons_succ]
 refine Lex.step_call fa4 rfl (Lex.want_none rfl) (fun K hK => ?_)
 go_simp
 refine (HG.out _ (HD.out.below F.B (Nat.le_refl _))).mono ?_
 rintro e w1 ⟨v1, rfl, hD1, hv⟩
 replace F := F.call hv
 clear hv
 obtain ⟨A1, n1, c1, B1, m1, k1, dd1, lf1, ds1, rfl⟩ := dev_form hD1
 replace F := addDev F hD1 HN1.out rfl
 clear hD1
 refine hK.out (Fv.FrS _ _ _) _ _ (fun _ h => Fv.Fr.weak h (by intro L w h; first | exact h | exact h.1 | exact h.1.1)) F ?_
 clear hK K
 try simp only [Act.put, List.setIfInBounds_toArray, List.set_cons_zero, List.set_cons_succ]
 refine Lex.step_take _ fa5 rfl (Lex.want_none rfl) (by intro Wx hSw; clear hSw; go_simp; try (first | (with_reducible rfl) | rfl)) ?_
 simp only [Act.put, List.setIfInBounds_toArray, List.set_cons_zero, List.set_cons_succ]
 refine Lex.tail_lex (ops := faraw) (calls := [9]) (n := 6) [6, 7, 8, 9, 10, 11] (fun _ => True) farsel (by rw [fasize]; rfl) (by kernel_rfl) fatlex trivial ?_
 refine Lex.step_take _ fat6 rfl (Lex.want_none rfl) (by intro Wx hSw; clear hSw; go_simp; try (first | (with_reducible rfl) | rfl)) ?_
 simp only [Act.put, List.setIfInBounds_toArray, List.set_cons_zero, List.set_cons_succ]
 refine Lex.step_take _ fat7 rfl (Lex.want_none rfl) (by intro Wx hSw; clear hSw; go_simp; try (first | (with_reducible rfl) | rfl)) ?_
 simp only [Act.put, List.setIfInBounds_toArray, List.set_cons_zero, List.set_cons_succ]
 refine Lex.step_take _ fat8 rfl (Lex.want_none rfl) (by intro Wx hSw; clear hSw; go_simp; try (first | (with_reducible rfl) | rfl)) ?_
 simp only [Act.put, List.setIfInBounds_toArray, List.set_cons_zero, List.set_cons_succ]
 refine Lex.step_call fat9 rfl (Lex.want_none rfl) (fun K hK => ?_)
 refine Fv.wp_storeN F rfl rfl rfl Fv.rt_Slab rfl (by first | rfl | simp [Value.oneCell']) (by repeat constructor) ?_; clear F; intro W F
 refine hK.out _ _ _ (fun _ h => h) trivial ?_
 clear hK K
 try simp only [Act.put, List.setIfInBounds_toArray, List.set_cons_zero, List.set_cons_succ]
 refine Lex.step_take _ fat10 rfl (Lex.want_none rfl) (by intro Wx hSw; clear hSw; go_simp; try (first | (with_reducible rfl) | rfl)) ?_
 simp only [Act.put, List.setIfInBounds_toArray, List.set_cons_zero, List.set_cons_succ]
 refine Lex.step_take _ fat11 rfl (Lex.want_none rfl) (by intro Wx hSw; clear hSw; go_simp; try (first | (with_reducible rfl) | rfl)) ?_
 simp only [Act.put, List.setIfInBounds_toArray, List.set_cons_zero, List.set_cons_succ]
 refine NoPanic.normal ?_
 by_cases he : er = 0
 ·subst he
  have hsz := HSZ.out _ _ HGR.out
  have HPR := Lib.hid (fun W (ht : Tab W) => Fr.parse_any tx W ht (by omega))
  clear hsz
  cases hpf : parseF tx with
  | none =>
   have HE := Lib.hid (frameR_none HGR.out hpf)
   rw [hpf] at HPR
   simp only [Option.getD_none, Option.isSome_none, noF, cellsF] at HPR
   clear hpf
   go_wp2_with (first
    | ((with_reducible (show wpList _ _ _ (Oper.mk _ (Op.load _ _) _ _ _ none :: _) _ _)); first | refine Fv.ldN F rfl rfl rfl (by repeat constructor) (by repeat constructor) ?_ | refine Fv.ld1 F rfl rfl rfl (by repeat constructor) (by repeat constructor) ?_)
    | ((with_reducible (show wpList _ _ _ (Oper.mk _ (Op.store _ _ _) _ _ _ none :: _) _ _)); (first | refine Fv.stN F rfl rfl rfl rfl rfl (by first | rfl | simp [Value.oneCell']) (by repeat constructor) ?_ | refine Fv.st1 F rfl rfl rfl (by first | exact (rfl : _ = Value.int _ _) | exact (rfl : _ = Value.slice _ _ _) | exact (rfl : _ = Value.bool _) | exact (rfl : _ = Value.string _)) (by rfl) (by repeat constructor) ?_); clear F; intro W F)
    | ((with_reducible (show wpList _ _ _ (Oper.mk _ (Op.alloc _) _ _ _ none :: _) _ _)); refine Fv.al F rfl rfl ?_; clear F; intro g W hs1 hs2 F; clear hs1 hs2)
    | (go_at_call 224; refine (HPR.out _ (HT.out.below F.B)).mono ?_; rintro e w1 ⟨rfl, hv⟩; replace F := F.call hv; clear hv))
   refine bodyPost_ret (res_ccT F rfl rfl Fv.rt_Slab (by repeat constructor) rfl rfl Fv.rt_Frame (by repeat constructor) rfl) rfl ?_
   rw [← HP.out, HE.out]
   exact ⟨_, rfl, F.out.2.dev, F.B⟩
  | some f =>
   rw [hpf] at HPR
   obtain ⟨fe, fi, fc, fp, fd⟩ := f
   simp only [Option.getD_some, Option.isSome_some, cellsF] at HPR
   by_cases h1 : fe = h.e
   ·by_cases h2 : fi = i
    ·subst h1 h2
     have HE := Lib.hid (frameR_some HGR.out hpf ⟨rfl, rfl⟩)
     clear hpf
     go_upto_region 5 with (first
      | ((with_reducible (show wpList _ _ _ (Oper.mk _ (Op.load _ _) _ _ _ none :: _) _ _)); first | refine Fv.ldN F rfl rfl rfl (by repeat constructor) (by repeat constructor) ?_ | refine Fv.ld1 F rfl rfl rfl (by repeat constructor) (by repeat constructor) ?_)
      | ((with_reducible (show wpList _ _ _ (Oper.mk _ (Op.store _ _ _) _ _ _ none :: _) _ _)); (first | refine Fv.stN F rfl rfl rfl rfl rfl (by first | rfl | simp [Value.oneCell']) (by repeat constructor) ?_ | refine Fv.st1 F rfl rfl rfl (by first | exact (rfl : _ = Value.int _ _) | exact (rfl : _ = Value.slice _ _ _) | exact (rfl : _ = Value.bool _) | exact (rfl : _ = Value.string _)) (by rfl) (by repeat constructor) ?_); clear F; intro W F)
      | ((with_reducible (show wpList _ _ _ (Oper.mk _ (Op.alloc _) _ _ _ none :: _) _ _)); refine Fv.al F rfl rfl ?_; clear F; intro g W hs1 hs2 F; clear hs1 hs2)
      | (go_at_call 224; refine (HPR.out _ (HT.out.below F.B)).mono ?_; rintro e w1 ⟨rfl, hv⟩; replace F := F.call hv; clear hv))
     have q0_0 := Fv.Fr.cell F Fv.At.head 0
     simp only [List.getElem?_cons_zero] at q0_0
     have q0_1 := Fv.Fr.cell F Fv.At.head 1
     simp only [List.getElem?_cons_zero, List.getElem?_cons_succ] at q0_1
     have q3_2 := Fv.Fr.cell F (Fv.At.tail (Fv.At.tail (Fv.At.tail Fv.At.head))) 2
     simp only [List.getElem?_cons_zero, List.getElem?_cons_succ] at q3_2
     go_upto_region 7 with (first
      | ((with_reducible (show wpList _ _ _ (Oper.mk _ (Op.load _ _) _ _ _ none :: _) _ _)); first | refine Fv.ldN F rfl rfl rfl (by repeat constructor) (by repeat constructor) ?_ | refine Fv.ld1 F rfl rfl rfl (by repeat constructor) (by repeat constructor) ?_)
      | ((with_reducible (show wpList _ _ _ (Oper.mk _ (Op.store _ _ _) _ _ _ none :: _) _ _)); (first | refine Fv.stN F rfl rfl rfl rfl rfl (by first | rfl | simp [Value.oneCell']) (by repeat constructor) ?_ | refine Fv.st1 F rfl rfl rfl (by first | exact (rfl : _ = Value.int _ _) | exact (rfl : _ = Value.slice _ _ _) | exact (rfl : _ = Value.bool _) | exact (rfl : _ = Value.string _)) (by rfl) (by repeat constructor) ?_); clear F; intro W F)
      | ((with_reducible (show wpList _ _ _ (Oper.mk _ (Op.alloc _) _ _ _ none :: _) _ _)); refine Fv.al F rfl rfl ?_; clear F; intro g W hs1 hs2 F; clear hs1 hs2))
     replace F := F.drew
     refine Lex.region_lex (ops := frops) (calls := frcalls) frord (Fv.ClsB _ _) (by kernel_rfl) (by kernel_rfl) frsel (by kernel_rfl) (by kernel_rfl) frlex ⟨F.B, F.cls (Fv.Inc.cons Fv.VIn.head (Fv.Inc.cons (Fv.VIn.tail (Fv.VIn.tail (Fv.VIn.tail (Fv.VIn.tail Fv.VIn.head)))) Fv.Inc.nil))⟩ ?_
     unfold frord
     refine Lex.step_take _ fr0 rfl (Lex.want_none rfl) (by intro Wx hSw; exact Fv.run_loadNC hSw.2 rfl rfl Fv.rt_Slab (by repeat constructor) (by repeat constructor)) ?_
     simp only [Act.put, List.setIfInBounds_toArray, List.set_cons_zero, List.set_cons_succ]
     refine Lex.step_take _ fr1 rfl (Lex.want_none rfl) (by intro Wx hSw; exact Fv.run_loadNC hSw.2 rfl rfl Fv.rt_Frame (by repeat constructor) (by repeat constructor)) ?_
     simp only [Act.put, List.setIfInBounds_toArray, List.set_cons_zero, List.set_cons_succ]
     refine Lex.step_call fr2 rfl (Lex.want_none rfl) (fun K hK => ?_)
     refine Fv.wp_storeN F rfl rfl rfl Fv.rt_Slab rfl (by first | rfl | simp [Value.oneCell']) (by repeat constructor) ?_; clear F; intro W F
     refine hK.out _ _ _ (fun _ h => h) ⟨F.B, F.cls (by (repeat (first | exact Fv.Inc.nil | apply Fv.Inc.cons | exact Fv.VIn.head | apply Fv.VIn.tail)); done)⟩ ?_
     clear hK K
     try simp only [Act.put, List.setIfInBounds_toArray, List.set_cons_zero, List.set_cons_succ]
     refine Lex.step_call fr3 rfl (Lex.want_none rfl) (fun K hK => ?_)
     refine Fv.wp_storeN F rfl rfl rfl Fv.rt_Frame rfl (by first | rfl | simp [Value.oneCell']) (by repeat constructor) ?_; clear F; intro W F
     refine hK.out _ _ _ (fun _ h => h) ⟨F.B, F.cls (by (repeat (first | exact Fv.Inc.nil | apply Fv.Inc.cons | exact Fv.VIn.head | apply Fv.VIn.tail)); done)⟩ ?_
     clear hK K
     try simp only [Act.put, List.setIfInBounds_toArray, List.set_cons_zero, List.set_cons_succ]
     refine Lex.step_take _ fr4 rfl (Lex.want_none rfl) (by intro Wx hSw; clear hSw; go_simp; try (first | (with_reducible rfl) | rfl)) ?_
     simp only [Act.put, List.setIfInBounds_toArray, List.set_cons_zero, List.set_cons_succ]
     refine NoPanic.normal ?_
     go_wp2_with (first
      | ((with_reducible (show wpList _ _ _ (Oper.mk _ (Op.load _ _) _ _ _ none :: _) _ _)); first | refine Fv.ldN F rfl rfl rfl (by repeat constructor) (by repeat constructor) ?_ | refine Fv.ld1 F rfl rfl rfl (by repeat constructor) (by repeat constructor) ?_)
      | ((with_reducible (show wpList _ _ _ (Oper.mk _ (Op.store _ _ _) _ _ _ none :: _) _ _)); (first | refine Fv.stN F rfl rfl rfl rfl rfl (by first | rfl | simp [Value.oneCell']) (by repeat constructor) ?_ | refine Fv.st1 F rfl rfl rfl (by first | exact (rfl : _ = Value.int _ _) | exact (rfl : _ = Value.slice _ _ _) | exact (rfl : _ = Value.bool _) | exact (rfl : _ = Value.string _)) (by rfl) (by repeat constructor) ?_); clear F; intro W F)
      | ((with_reducible (show wpList _ _ _ (Oper.mk _ (Op.alloc _) _ _ _ none :: _) _ _)); refine Fv.al F rfl rfl ?_; clear F; intro g W hs1 hs2 F; clear hs1 hs2))
     refine bodyPost_ret (res_ccT F rfl rfl Fv.rt_Slab (by repeat constructor) rfl rfl Fv.rt_Frame (by repeat constructor) rfl) rfl ?_
     rw [← HP.out, HE.out]
     exact ⟨_, rfl, F.out.2.dev, F.B⟩
    ·have HE := Lib.hid (frameR_other HGR.out hpf (fun e => h2 e.2))
     clear hpf
     go_upto_region 5 with (first
      | ((with_reducible (show wpList _ _ _ (Oper.mk _ (Op.load _ _) _ _ _ none :: _) _ _)); first | refine Fv.ldN F rfl rfl rfl (by repeat constructor) (by repeat constructor) ?_ | refine Fv.ld1 F rfl rfl rfl (by repeat constructor) (by repeat constructor) ?_)
      | ((with_reducible (show wpList _ _ _ (Oper.mk _ (Op.store _ _ _) _ _ _ none :: _) _ _)); (first | refine Fv.stN F rfl rfl rfl rfl rfl (by first | rfl | simp [Value.oneCell']) (by repeat constructor) ?_ | refine Fv.st1 F rfl rfl rfl (by first | exact (rfl : _ = Value.int _ _) | exact (rfl : _ = Value.slice _ _ _) | exact (rfl : _ = Value.bool _) | exact (rfl : _ = Value.string _)) (by rfl) (by repeat constructor) ?_); clear F; intro W F)
      | ((with_reducible (show wpList _ _ _ (Oper.mk _ (Op.alloc _) _ _ _ none :: _) _ _)); refine Fv.al F rfl rfl ?_; clear F; intro g W hs1 hs2 F; clear hs1 hs2)
      | (go_at_call 224; refine (HPR.out _ (HT.out.below F.B)).mono ?_; rintro e w1 ⟨rfl, hv⟩; replace F := F.call hv; clear hv))
     have q0_0 := Fv.Fr.cell F Fv.At.head 0
     simp only [List.getElem?_cons_zero] at q0_0
     have q0_1 := Fv.Fr.cell F Fv.At.head 1
     simp only [List.getElem?_cons_zero, List.getElem?_cons_succ] at q0_1
     have q3_2 := Fv.Fr.cell F (Fv.At.tail (Fv.At.tail (Fv.At.tail Fv.At.head))) 2
     simp only [List.getElem?_cons_zero, List.getElem?_cons_succ] at q3_2
     go_wp2_with (first
      | ((with_reducible (show wpList _ _ _ (Oper.mk _ (Op.load _ _) _ _ _ none :: _) _ _)); first | refine Fv.ldN F rfl rfl rfl (by repeat constructor) (by repeat constructor) ?_ | refine Fv.ld1 F rfl rfl rfl (by repeat constructor) (by repeat constructor) ?_)
      | ((with_reducible (show wpList _ _ _ (Oper.mk _ (Op.store _ _ _) _ _ _ none :: _) _ _)); (first | refine Fv.stN F rfl rfl rfl rfl rfl (by first | rfl | simp [Value.oneCell']) (by repeat constructor) ?_ | refine Fv.st1 F rfl rfl rfl (by first | exact (rfl : _ = Value.int _ _) | exact (rfl : _ = Value.slice _ _ _) | exact (rfl : _ = Value.bool _) | exact (rfl : _ = Value.string _)) (by rfl) (by repeat constructor) ?_); clear F; intro W F)
      | ((with_reducible (show wpList _ _ _ (Oper.mk _ (Op.alloc _) _ _ _ none :: _) _ _)); refine Fv.al F rfl rfl ?_; clear F; intro g W hs1 hs2 F; clear hs1 hs2))
     refine bodyPost_ret (res_ccT F rfl rfl Fv.rt_Slab (by repeat constructor) rfl rfl Fv.rt_Frame (by repeat constructor) rfl) rfl ?_
     rw [← HP.out, HE.out]
     exact ⟨_, rfl, F.out.2.dev, F.B⟩
   ·have HE := Lib.hid (frameR_other HGR.out hpf (fun e => h1 e.1))
    clear hpf
    go_upto_region 5 with (first
     | ((with_reducible (show wpList _ _ _ (Oper.mk _ (Op.load _ _) _ _ _ none :: _) _ _)); first | refine Fv.ldN F rfl rfl rfl (by repeat constructor) (by repeat constructor) ?_ | refine Fv.ld1 F rfl rfl rfl (by repeat constructor) (by repeat constructor) ?_)
     | ((with_reducible (show wpList _ _ _ (Oper.mk _ (Op.store _ _ _) _ _ _ none :: _) _ _)); (first | refine Fv.stN F rfl rfl rfl rfl rfl (by first | rfl | simp [Value.oneCell']) (by repeat constructor) ?_ | refine Fv.st1 F rfl rfl rfl (by first | exact (rfl : _ = Value.int _ _) | exact (rfl : _ = Value.slice _ _ _) | exact (rfl : _ = Value.bool _) | exact (rfl : _ = Value.string _)) (by rfl) (by repeat constructor) ?_); clear F; intro W F)
     | ((with_reducible (show wpList _ _ _ (Oper.mk _ (Op.alloc _) _ _ _ none :: _) _ _)); refine Fv.al F rfl rfl ?_; clear F; intro g W hs1 hs2 F; clear hs1 hs2)
     | (go_at_call 224; refine (HPR.out _ (HT.out.below F.B)).mono ?_; rintro e w1 ⟨rfl, hv⟩; replace F := F.call hv; clear hv))
    have q0_0 := Fv.Fr.cell F Fv.At.head 0
    simp only [List.getElem?_cons_zero] at q0_0
    have q0_1 := Fv.Fr.cell F Fv.At.head 1
    simp only [List.getElem?_cons_zero, List.getElem?_cons_succ] at q0_1
    have q3_2 := Fv.Fr.cell F (Fv.At.tail (Fv.At.tail (Fv.At.tail Fv.At.head))) 2
    simp only [List.getElem?_cons_zero, List.getElem?_cons_succ] at q3_2
    go_wp2_with (first
     | ((with_reducible (show wpList _ _ _ (Oper.mk _ (Op.load _ _) _ _ _ none :: _) _ _)); first | refine Fv.ldN F rfl rfl rfl (by repeat constructor) (by repeat constructor) ?_ | refine Fv.ld1 F rfl rfl rfl (by repeat constructor) (by repeat constructor) ?_)
     | ((with_reducible (show wpList _ _ _ (Oper.mk _ (Op.store _ _ _) _ _ _ none :: _) _ _)); (first | refine Fv.stN F rfl rfl rfl rfl rfl (by first | rfl | simp [Value.oneCell']) (by repeat constructor) ?_ | refine Fv.st1 F rfl rfl rfl (by first | exact (rfl : _ = Value.int _ _) | exact (rfl : _ = Value.slice _ _ _) | exact (rfl : _ = Value.bool _) | exact (rfl : _ = Value.string _)) (by rfl) (by repeat constructor) ?_); clear F; intro W F)
     | ((with_reducible (show wpList _ _ _ (Oper.mk _ (Op.alloc _) _ _ _ none :: _) _ _)); refine Fv.al F rfl rfl ?_; clear F; intro g W hs1 hs2 F; clear hs1 hs2))
    refine bodyPost_ret (res_ccT F rfl rfl Fv.rt_Slab (by repeat constructor) rfl rfl Fv.rt_Frame (by repeat constructor) rfl) rfl ?_
    rw [← HP.out, HE.out]
    exact ⟨_, rfl, F.out.2.dev, F.B⟩
 ·have HE := Lib.hid (frameR_err HGR.out he)
  go_wp2_with (first
   | ((with_reducible (show wpList _ _ _ (Oper.mk _ (Op.load _ _) _ _ _ none :: _) _ _)); first | refine Fv.ldN F rfl rfl rfl (by repeat constructor) (by repeat constructor) ?_ | refine Fv.ld1 F rfl rfl rfl (by repeat constructor) (by repeat constructor) ?_)
   | ((with_reducible (show wpList _ _ _ (Oper.mk _ (Op.store _ _ _) _ _ _ none :: _) _ _)); (first | refine Fv.stN F rfl rfl rfl rfl rfl (by first | rfl | simp [Value.oneCell']) (by repeat constructor) ?_ | refine Fv.st1 F rfl rfl rfl (by first | exact (rfl : _ = Value.int _ _) | exact (rfl : _ = Value.slice _ _ _) | exact (rfl : _ = Value.bool _) | exact (rfl : _ = Value.string _)) (by rfl) (by repeat constructor) ?_); clear F; intro W F)
   | ((with_reducible (show wpList _ _ _ (Oper.mk _ (Op.alloc _) _ _ _ none :: _) _ _)); refine Fv.al F rfl rfl ?_; clear F; intro g W hs1 hs2 F; clear hs1 hs2))
  refine bodyPost_ret (res_ccT F rfl rfl Fv.rt_Slab (by repeat constructor) rfl rfl Fv.rt_Frame (by repeat constructor) rfl) rfl ?_
  rw [← HP.out, HE.out]
  exact ⟨_, rfl, F.out.2.dev, F.B⟩
end Go.Proofs.YtcgkbcgpnlogoaaGreatDoor.St
