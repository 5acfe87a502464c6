/- Stores: the program's sure and Write. -/
import Derived.Test.YtcgkbcgpnlogoaaGreatDoorStE
namespace Go.Proofs.YtcgkbcgpnlogoaaGreatDoor.St
open Go.RowKit Go.Shelf Tal Sla Hd Fr Lf Lex
theorem sureR_log {s : S} {no : Nat} {m : Im} (h : findI s.fr no = some m) : sureR s no = logR s.d s.h m := by unfold sureR; rw [h]
theorem sureR_home {s : S} {no : Nat} (h : findI s.fr no = none) : sureR s no = homeR s.d no := by unfold sureR; rw [h]
set_option maxRecDepth 20000 in
set_option maxHeartbeats 6400000 in
theorem sure_any {X : Nat → Prop} {K : Nat} (v : Value) (s : S) (no : Nat) (w : World) (ht : Tab w) (hS : IsSt X w v s) (hok : OkS s K) (hK : K ≤ 99990) (hno : no < s.h.p.toNat) :
  Calls Tryz.prog 88 #[v, .int .i64 no] w (GetErr (sureR s no).1 (sureR s no).2.1 (sureR s no).2.2 w) := by
 obtain ⟨A0, n0, c0, B0, m0, k0, dd0, lf0, ds0, Af, cf, Ad, cd, Ac, cc, rfl, hdev, hfr, hdi, hck, hcc⟩ := hS
 have HS := Lib.hid (And.intro hdev (And.intro hfr (And.intro hdi (And.intro hck hcc))))
 have HT := Lib.hid ht
 have HK := Lib.hid (And.intro hok hK)
 clear hdev hfr hdi hck hcc ht hok hK
 obtain ⟨post, hpost⟩ : ∃ post, GetErr (sureR s no).1 (sureR s no).2.1 (sureR s no).2.2 w = post := ⟨_, rfl⟩
 rw [hpost]
 have HP := Lib.hid hpost
 clear hpost
 have hfl := HK.out.1.fl
 have F := Fv.Fr.start w
 go_enter Tryz.func88, Tryz.ntmps88
 go_upto_region 2 with (first
  | ((with_reducible (show wpList _ _ _ (Oper.mk _ (Op.load _ _) _ _ _ none :: _) _ _)); first | refine Fv.ldN F rfl rfl rfl (by repeat constructor) (by repeat constructor) ?_ | refine Fv.ld1 F rfl rfl rfl (by repeat constructor) (by repeat constructor) ?_)
  | ((with_reducible (show wpList _ _ _ (Oper.mk _ (Op.store _ _ _) _ _ _ none :: _) _ _)); (first | refine Fv.stN F rfl rfl rfl rfl rfl (by first | rfl | simp [Value.oneCell']) (by repeat constructor) ?_ | refine Fv.st1 F rfl rfl rfl (by first | exact (rfl : _ = Value.int _ _) | exact (rfl : _ = Value.slice _ _ _) | exact (rfl : _ = Value.bool _) | exact (rfl : _ = Value.string _)) (by rfl) (by repeat constructor) ?_); clear F; intro W F)
  | ((with_reducible (show wpList _ _ _ (Oper.mk _ (Op.alloc _) _ _ _ none :: _) _ _)); refine Fv.al F rfl rfl ?_; clear F; intro g W hs1 hs2 F; clear hs1 hs2)
  | ((with_reducible (show wpList _ _ _ (Oper.mk _ (Op.box _ _) _ _ _ none :: _) _ _)); refine Fv.wpL_box F rfl rfl rfl rfl ?_; clear F; intro g W hs1 hs2 F; clear hs1 hs2)
  | (go_at_call 162; refine (SlI.bsearch_any (lo := 0) no 0 (HS.out.2.1.p.below F.B (Nat.le_refl _)) rfl (by omega) HK.out.1.fu).mono ?_; rintro e w1 ⟨rfl, hv⟩; replace F := F.call hv; clear hv))
 cases hf : SlI.fnd s.fr no with
 | true =>
  obtain ⟨y, hy, hyk⟩ := SlI.fnd_at hf
  have hlt := (List.getElem?_eq_some_iff.1 hy).1
  have HE := Lib.hid (sureR_log (SlI.find_at hy hyk))
  have HY := Lib.hid (HK.out.1.fi y (List.mem_of_getElem? hy))
  obtain ⟨b0, q0, rfl, _, hb0, hR⟩ := SlI.HasE.at HS.out.2.1.p hy
  generalize SlI.pos s.fr no = p at hy hlt hR ⊢
  have hR2 := Lib.hid (fun W (hb : Below w.heap.size w W) => (show W.rangeAt b0 (q0 + p * 2) (SlI.cellsE y) from fun j v hj => (hb.cell (p := ⟨b0, q0 + p * 2 + j, none⟩) hb0).trans (hR j v hj)))
  clear hR hb0 hy hyk hf
  have j0 : (0 : Int) ≤ (p : Int) := by omega
  have j1 : (p : Int) < (s.fr.length : Int) := by omega
  have hn1 : 1 ≤ (logR s.d s.h y).1.n := by rw [logR_n]; exact HK.out.1.d.n1
  obtain ⟨R, hR⟩ : ∃ R, logR s.d s.h y = R := ⟨_, rfl⟩
  have HLG := Lib.hid (fun W (ht : Tab W) (hd : IsDev W (.agg #[.slice A0 n0 c0, .slice B0 m0 k0, .bool dd0, .int .i64 lf0, .int .i64 ds0]) s.d) => atLog_any s.d A0 n0 c0 B0 m0 k0 dd0 lf0 ds0 s.h (s.t : Nat) (some ⟨b0, q0, none⟩) s.fr.length cf Ad s.di.length cd Ac s.c.l.length cc (s.c.h : Nat) y W ht hd HK.out.1.d HK.out.2 HK.out.1.h HK.out.1.n HY.out.2)
  rw [hR] at HLG HE hn1
  have HN1 := Lib.hid hn1
  obtain ⟨D1, tx, er⟩ := R
  clear hR hn1 hlt hfl
  go_upto_region 3 with (first
   | ((with_reducible (show wpList _ _ _ (Oper.mk _ (Op.load _ _) _ _ _ none :: _) _ _)); first | refine Fv.ldN F rfl rfl rfl (by repeat constructor) (by repeat constructor) ?_ | refine Fv.ld1 F rfl rfl rfl (by repeat constructor) (by repeat constructor) ?_)
   | ((with_reducible (show wpList _ _ _ (Oper.mk _ (Op.store _ _ _) _ _ _ none :: _) _ _)); (first | refine Fv.stN F rfl rfl rfl rfl rfl (by first | rfl | simp [Value.oneCell']) (by repeat constructor) ?_ | refine Fv.st1 F rfl rfl rfl (by first | exact (rfl : _ = Value.int _ _) | exact (rfl : _ = Value.slice _ _ _) | exact (rfl : _ = Value.bool _) | exact (rfl : _ = Value.string _)) (by rfl) (by repeat constructor) ?_); clear F; intro W F)
   | ((with_reducible (show wpList _ _ _ (Oper.mk _ (Op.alloc _) _ _ _ none :: _) _ _)); refine Fv.al F rfl rfl ?_; clear F; intro g W hs1 hs2 F; clear hs1 hs2))
  refine Lex.region_parts (ops := suraw) (ops1 := suops) (calls := sucalls) 7 suord (Fv.FrS _ _ _) (by kernel_rfl) sucut (by rw [susize]; decide) (by kernel_rfl) (by kernel_rfl) (by kernel_rfl) susel (by kernel_rfl) (by kernel_rfl) sulex F.drew ?_
  replace F := F.drew
  unfold suord
  refine Lex.step_take _ su0 rfl (Lex.want_none rfl) (by intro Wx hSw; exact Fv.run_loadN hSw rfl rfl Fv.rt_Store (by repeat constructor) (by repeat constructor)) ?_
  simp only [Act.put, List.setIfInBounds_toArray, List.set_cons_zero, List.set_cons_succ]
  refine Lex.step_take _ su1 rfl (Lex.want_none rfl) (by intro Wx hSw; clear hSw; go_simp; try (first | (with_reducible rfl) | rfl)) ?_
  simp only [Act.put, List.setIfInBounds_toArray, List.set_cons_zero, List.set_cons_succ]
  refine Lex.step_take _ su2 rfl (Lex.want_none rfl) (by intro Wx hSw; exact Fv.run_load1 hSw rfl rfl Fv.ot_Images (by repeat constructor) (by repeat constructor)) ?_
  simp only [Act.put, List.setIfInBounds_toArray, List.set_cons_zero, List.set_cons_succ]
  refine Lex.step_take _ su3 rfl (Lex.want_none rfl) (by intro Wx hSw; clear hSw; go_simp; try (first | (with_reducible rfl) | rfl)) ?_
  simp only [Act.put, List.setIfInBounds_toArray, List.set_cons_zero, List.set_cons_succ]
  refine Lex.step_take _ su4 rfl (Lex.want_none rfl) (by intro Wx hSw; clear hSw; go_simp; try (first | (with_reducible rfl) | rfl)) ?_
  simp only [Act.put, List.setIfInBounds_toArray, List.set_cons_zero, List.set_cons_succ]
  refine Lex.step_take _ su5 rfl (Lex.want_none rfl) (by intro Wx hSw; exact Fv.run_loadR (hR2.out Wx hSw.B) rfl rfl Fv.rt_Image rfl) ?_
  simp only [Act.put, List.setIfInBounds_toArray, List.set_cons_zero, List.set_cons_succ]
  refine Lex.step_call su6 rfl (Lex.want_none rfl) (fun K hK => ?_)
  go_simp
  refine (HLG.out _ (HT.out.below F.B) (HS.out.1.below F.B (Nat.le_refl _))).mono ?_
  rintro e1 w1 ⟨v1, rfl, hD1, hv⟩
  replace F := F.call hv
  clear hv
  obtain ⟨A1, n1, c1, B1, m1, k1, dd1, lf1, ds1, rfl⟩ := dev_form hD1
  replace F := addDev F hD1 HN1.out rfl
  clear hD1
  refine hK.out (Fv.FrS _ _ _) _ _ (fun _ h => Fv.Fr.weak h (by intro L w h; first | exact h | exact h.1 | exact h.1.1)) F ?_
  clear hK K
  try simp only [Act.put, List.setIfInBounds_toArray, List.set_cons_zero, List.set_cons_succ]
  refine Lex.tail_lex (ops := suraw) (calls := [10]) (n := 7) [7, 8, 9, 10, 11, 12] (fun _ => True) sursel (by rw [susize]; rfl) (by kernel_rfl) sutlex trivial ?_
  refine Lex.step_take _ sut7 rfl (Lex.want_none rfl) (by intro Wx hSw; clear hSw; go_simp; try (first | (with_reducible rfl) | rfl)) ?_
  simp only [Act.put, List.setIfInBounds_toArray, List.set_cons_zero, List.set_cons_succ]
  refine Lex.step_take _ sut8 rfl (Lex.want_none rfl) (by intro Wx hSw; clear hSw; go_simp; try (first | (with_reducible rfl) | rfl)) ?_
  simp only [Act.put, List.setIfInBounds_toArray, List.set_cons_zero, List.set_cons_succ]
  refine Lex.step_take _ sut9 rfl (Lex.want_none rfl) (by intro Wx hSw; clear hSw; go_simp; try (first | (with_reducible rfl) | rfl)) ?_
  simp only [Act.put, List.setIfInBounds_toArray, List.set_cons_zero, List.set_cons_succ]
  refine Lex.step_call sut10 rfl (Lex.want_none rfl) (fun K hK => ?_)
  refine Fv.wp_storeN F rfl rfl rfl Fv.rt_Slab rfl (by first | rfl | simp [Value.oneCell']) (by repeat constructor) ?_; clear F; intro W F
  refine hK.out _ _ _ (fun _ h => h) trivial ?_
  clear hK K
  try simp only [Act.put, List.setIfInBounds_toArray, List.set_cons_zero, List.set_cons_succ]
  refine Lex.step_take _ sut11 rfl (Lex.want_none rfl) (by intro Wx hSw; clear hSw; go_simp; try (first | (with_reducible rfl) | rfl)) ?_
  simp only [Act.put, List.setIfInBounds_toArray, List.set_cons_zero, List.set_cons_succ]
  refine Lex.step_take _ sut12 rfl (Lex.want_none rfl) (by intro Wx hSw; clear hSw; go_simp; try (first | (with_reducible rfl) | rfl)) ?_
  simp only [Act.put, List.setIfInBounds_toArray, List.set_cons_zero, List.set_cons_succ]
  refine NoPanic.normal ?_
  go_wp2_with (first
   | ((with_reducible (show wpList _ _ _ (Oper.mk _ (Op.load _ _) _ _ _ none :: _) _ _)); first | refine Fv.ldN F rfl rfl rfl (by repeat constructor) (by repeat constructor) ?_ | refine Fv.ld1 F rfl rfl rfl (by repeat constructor) (by repeat constructor) ?_)
   | ((with_reducible (show wpList _ _ _ (Oper.mk _ (Op.store _ _ _) _ _ _ none :: _) _ _)); (first | refine Fv.stN F rfl rfl rfl rfl rfl (by first | rfl | simp [Value.oneCell']) (by repeat constructor) ?_ | refine Fv.st1 F rfl rfl rfl (by first | exact (rfl : _ = Value.int _ _) | exact (rfl : _ = Value.slice _ _ _) | exact (rfl : _ = Value.bool _) | exact (rfl : _ = Value.string _)) (by rfl) (by repeat constructor) ?_); clear F; intro W F)
   | ((with_reducible (show wpList _ _ _ (Oper.mk _ (Op.alloc _) _ _ _ none :: _) _ _)); refine Fv.al F rfl rfl ?_; clear F; intro g W hs1 hs2 F; clear hs1 hs2))
  refine bodyPost_ret (res_cTT F rfl rfl Fv.rt_Slab (by repeat constructor) rfl) rfl ?_
  rw [← HP.out, HE.out]
  exact ⟨_, rfl, F.out.2.dev, F.B⟩
 | false =>
  have HE := Lib.hid (sureR_home (SlI.find_no HK.out.1.fu (SlI.fnd_no hf)))
  have hn1 : 1 ≤ (homeR s.d no).1.n := by rw [homeR_n]; exact HK.out.1.d.n1
  obtain ⟨R, hR⟩ : ∃ R, homeR s.d no = R := ⟨_, rfl⟩
  have HLG := Lib.hid (fun W (ht : Tab W) (hd : IsDev W (.agg #[.slice A0 n0 c0, .slice B0 m0 k0, .bool dd0, .int .i64 lf0, .int .i64 ds0]) s.d) => atHome_any s.d A0 n0 c0 B0 m0 k0 dd0 lf0 ds0 s.h (s.t : Nat) Af s.fr.length cf Ad s.di.length cd Ac s.c.l.length cc (s.c.h : Nat) no W ht hd HK.out.1.d HK.out.2 HK.out.1.h HK.out.1.n hno)
  rw [hR] at HLG HE hn1
  have HN1 := Lib.hid hn1
  obtain ⟨D1, tx, er⟩ := R
  clear hR hn1 hf hfl
  go_wp2_with (first
   | ((with_reducible (show wpList _ _ _ (Oper.mk _ (Op.load _ _) _ _ _ none :: _) _ _)); first | refine Fv.ldN F rfl rfl rfl (by repeat constructor) (by repeat constructor) ?_ | refine Fv.ld1 F rfl rfl rfl (by repeat constructor) (by repeat constructor) ?_)
   | ((with_reducible (show wpList _ _ _ (Oper.mk _ (Op.store _ _ _) _ _ _ none :: _) _ _)); (first | refine Fv.stN F rfl rfl rfl rfl rfl (by first | rfl | simp [Value.oneCell']) (by repeat constructor) ?_ | refine Fv.st1 F rfl rfl rfl (by first | exact (rfl : _ = Value.int _ _) | exact (rfl : _ = Value.slice _ _ _) | exact (rfl : _ = Value.bool _) | exact (rfl : _ = Value.string _)) (by rfl) (by repeat constructor) ?_); clear F; intro W F)
   | ((with_reducible (show wpList _ _ _ (Oper.mk _ (Op.alloc _) _ _ _ none :: _) _ _)); refine Fv.al F rfl rfl ?_; clear F; intro g W hs1 hs2 F; clear hs1 hs2)
   | (go_at_call 165; refine (HLG.out _ (HT.out.below F.B) (HS.out.1.below F.B (Nat.le_refl _))).mono ?_; rintro e w1 ⟨v1, rfl, hD1, hv⟩; replace F := F.call hv; clear hv; obtain ⟨A1, n1, c1, B1, m1, k1, dd1, lf1, ds1, rfl⟩ := dev_form hD1; replace F := addDev F hD1 HN1.out rfl; clear hD1))
  refine bodyPost_ret (res_cTT F rfl rfl Fv.rt_Slab (by repeat constructor) rfl) rfl ?_
  rw [← HP.out, HE.out]
  exact ⟨_, rfl, F.out.2.dev, F.B⟩
theorem writeR_arg {s : S} {no : Int} {d : ByteArray} (h : hasB s.h no = false ∨ 200 < d.size) : writeR s no d = (s, 1) := by
 unfold writeR
 rw [if_pos]
 rcases h with h | h
 ·exact Or.inl fun hn => by rw [hasB_iff.2 hn] at h; cases h
 ·exact Or.inr h
theorem writeR_down {s : S} {no : Int} {d : ByteArray} (h : hasB s.h no = true) (h2 : ¬ 200 < d.size) (hd : s.d.dead = true) : writeR s no d = (s, 10) := by
 unfold writeR
 rw [if_neg (by rintro (h3 | h3); exact h3 (hasB_iff.1 h); exact h2 h3), if_pos hd]
theorem writeR_good {s : S} {no : Int} {d : ByteArray} (h : hasB s.h no = true) (h2 : ¬ 200 < d.size) (hd : s.d.dead = false) : writeR s no d = ({ s with di := insP s.di ⟨no.toNat, padP d⟩ }, 0) := by
 unfold writeR
 rw [if_neg (by rintro (h3 | h3); exact h3 (hasB_iff.1 h); exact h2 h3), if_neg (by rw [hd]; simp)]
set_option maxRecDepth 20000 in
set_option maxHeartbeats 6400000 in
theorem write_any {X : Nat → Prop} {K : Nat} (v : Value) (s : S) (no : Int) (d : ByteArray) (w : World) (ht : Tab w) (hS : IsSt X w v s) (hok : OkS s K) (hK : K ≤ 99990) (hd : d.size ≤ 300) :
  Calls Tryz.prog 63 #[v, .int .i64 no, .string d] w (StErr X (writeR s no d).1 (writeR s no d).2 w) := by
 obtain ⟨A0, n0, c0, B0, m0, k0, dd0, lf0, ds0, Af, cf, Ad, cd, Ac, cc, rfl, hdev, hfr, hdi, hck, hcc⟩ := hS
 have HS := Lib.hid (And.intro hdev (And.intro hfr (And.intro hdi (And.intro hck hcc))))
 have HT := Lib.hid ht
 have HK := Lib.hid (And.intro hok hK)
 clear hdev hfr hdi hck hcc ht hok hK
 obtain ⟨post, hpost⟩ : ∃ post, StErr X (writeR s no d).1 (writeR s no d).2 w = post := ⟨_, rfl⟩
 rw [hpost]
 have HP := Lib.hid hpost
 clear hpost
 have HB := Lib.hid (fun W => has_any s.h no W)
 have hdl := HK.out.1.dl
 have hdd := (dev_eq HS.out.1).1
 cases hb : hasB s.h no with
 | false =>
  rw [hb] at HB
  have HE := Lib.hid (writeR_arg (d := d) (Or.inl hb))
  clear hb hdd hdl
  have F := Fv.Fr.start w
  go_enter Tryz.func63, Tryz.ntmps63
  go_wp2_with (first
   | ((with_reducible (show wpList _ _ _ (Oper.mk _ (Op.load _ _) _ _ _ none :: _) _ _)); first | refine Fv.ldN F rfl rfl rfl (by repeat constructor) (by repeat constructor) ?_ | refine Fv.ld1 F rfl rfl rfl (by repeat constructor) (by repeat constructor) ?_)
   | ((with_reducible (show wpList _ _ _ (Oper.mk _ (Op.store _ _ _) _ _ _ none :: _) _ _)); (first | refine Fv.stN F rfl rfl rfl rfl rfl (by first | rfl | simp [Value.oneCell']) (by repeat constructor) ?_ | refine Fv.st1 F rfl rfl rfl (by first | exact (rfl : _ = Value.int _ _) | exact (rfl : _ = Value.slice _ _ _) | exact (rfl : _ = Value.bool _) | exact (rfl : _ = Value.string _)) (by rfl) (by repeat constructor) ?_); clear F; intro W F)
   | ((with_reducible (show wpList _ _ _ (Oper.mk _ (Op.alloc _) _ _ _ none :: _) _ _)); refine Fv.al F rfl rfl ?_; clear F; intro g W hs1 hs2 F; clear hs1 hs2)
   | ((with_reducible (show wpList _ _ _ (Oper.mk _ (Op.box _ _) _ _ _ none :: _) _ _)); refine Fv.wpL_box F rfl rfl rfl rfl ?_; clear F; intro g W hs1 hs2 F; clear hs1 hs2)
   | (go_at_call 84; refine (HB.out _).mono ?_; rintro e w1 ⟨rfl, hv⟩; replace F := F.call hv; clear hv))
  refine bodyPost_ret (res_cT F rfl rfl Fv.rt_Store (by repeat constructor) rfl) rfl ?_
  rw [← HP.out, HE.out]
  exact ⟨_, rfl, ⟨_, _, _, _, _, _, _, _, _, _, _, _, _, _, _, rfl, HS.out.1.below F.B (Nat.le_refl _), (HS.out.2.1.below F.B (Nat.le_refl _)).mono (fun _ h => Or.inl h), (HS.out.2.2.1.below F.B (Nat.le_refl _)).mono (fun _ h => Or.inl h), (HS.out.2.2.2.1.below F.B (Nat.le_refl _)).mono (fun _ h => Or.inl h), HS.out.2.2.2.2⟩, F.B⟩
 | true =>
  rw [hb] at HB
  by_cases h2 : 200 < d.size
  ·have HE := Lib.hid (writeR_arg (s := s) (no := no) (Or.inr h2))
   have h3 : (200 : Int) < (d.size : Int) := by omega
   clear hb hdd hdl
   have F := Fv.Fr.start w
   go_enter Tryz.func63, Tryz.ntmps63
   go_wp2_with (first
    | ((with_reducible (show wpList _ _ _ (Oper.mk _ (Op.load _ _) _ _ _ none :: _) _ _)); first | refine Fv.ldN F rfl rfl rfl (by repeat constructor) (by repeat constructor) ?_ | refine Fv.ld1 F rfl rfl rfl (by repeat constructor) (by repeat constructor) ?_)
    | ((with_reducible (show wpList _ _ _ (Oper.mk _ (Op.store _ _ _) _ _ _ none :: _) _ _)); (first | refine Fv.stN F rfl rfl rfl rfl rfl (by first | rfl | simp [Value.oneCell']) (by repeat constructor) ?_ | refine Fv.st1 F rfl rfl rfl (by first | exact (rfl : _ = Value.int _ _) | exact (rfl : _ = Value.slice _ _ _) | exact (rfl : _ = Value.bool _) | exact (rfl : _ = Value.string _)) (by rfl) (by repeat constructor) ?_); clear F; intro W F)
    | ((with_reducible (show wpList _ _ _ (Oper.mk _ (Op.alloc _) _ _ _ none :: _) _ _)); refine Fv.al F rfl rfl ?_; clear F; intro g W hs1 hs2 F; clear hs1 hs2)
    | ((with_reducible (show wpList _ _ _ (Oper.mk _ (Op.box _ _) _ _ _ none :: _) _ _)); refine Fv.wpL_box F rfl rfl rfl rfl ?_; clear F; intro g W hs1 hs2 F; clear hs1 hs2)
    | (go_at_call 84; refine (HB.out _).mono ?_; rintro e w1 ⟨rfl, hv⟩; replace F := F.call hv; clear hv))
   refine bodyPost_ret (res_cT F rfl rfl Fv.rt_Store (by repeat constructor) rfl) rfl ?_
   rw [← HP.out, HE.out]
   exact ⟨_, rfl, ⟨_, _, _, _, _, _, _, _, _, _, _, _, _, _, _, rfl, HS.out.1.below F.B (Nat.le_refl _), (HS.out.2.1.below F.B (Nat.le_refl _)).mono (fun _ h => Or.inl h), (HS.out.2.2.1.below F.B (Nat.le_refl _)).mono (fun _ h => Or.inl h), (HS.out.2.2.2.1.below F.B (Nat.le_refl _)).mono (fun _ h => Or.inl h), HS.out.2.2.2.2⟩, F.B⟩
  ·have h3 : ¬ (200 : Int) < (d.size : Int) := by omega
   cases dd0 with
   | true =>
    have HE := Lib.hid (writeR_down hb h2 hdd.symm)
    clear hb hdd hdl
    have F := Fv.Fr.start w
    go_enter Tryz.func63, Tryz.ntmps63
    go_wp2_with (first
     | ((with_reducible (show wpList _ _ _ (Oper.mk _ (Op.load _ _) _ _ _ none :: _) _ _)); first | refine Fv.ldN F rfl rfl rfl (by repeat constructor) (by repeat constructor) ?_ | refine Fv.ld1 F rfl rfl rfl (by repeat constructor) (by repeat constructor) ?_)
     | ((with_reducible (show wpList _ _ _ (Oper.mk _ (Op.store _ _ _) _ _ _ none :: _) _ _)); (first | refine Fv.stN F rfl rfl rfl rfl rfl (by first | rfl | simp [Value.oneCell']) (by repeat constructor) ?_ | refine Fv.st1 F rfl rfl rfl (by first | exact (rfl : _ = Value.int _ _) | exact (rfl : _ = Value.slice _ _ _) | exact (rfl : _ = Value.bool _) | exact (rfl : _ = Value.string _)) (by rfl) (by repeat constructor) ?_); clear F; intro W F)
     | ((with_reducible (show wpList _ _ _ (Oper.mk _ (Op.alloc _) _ _ _ none :: _) _ _)); refine Fv.al F rfl rfl ?_; clear F; intro g W hs1 hs2 F; clear hs1 hs2)
     | ((with_reducible (show wpList _ _ _ (Oper.mk _ (Op.box _ _) _ _ _ none :: _) _ _)); refine Fv.wpL_box F rfl rfl rfl rfl ?_; clear F; intro g W hs1 hs2 F; clear hs1 hs2)
     | (go_at_call 84; refine (HB.out _).mono ?_; rintro e w1 ⟨rfl, hv⟩; replace F := F.call hv; clear hv))
    refine bodyPost_ret (res_cT F rfl rfl Fv.rt_Store (by repeat constructor) rfl) rfl ?_
    rw [← HP.out, HE.out]
    exact ⟨_, rfl, ⟨_, _, _, _, _, _, _, _, _, _, _, _, _, _, _, rfl, HS.out.1.below F.B (Nat.le_refl _), (HS.out.2.1.below F.B (Nat.le_refl _)).mono (fun _ h => Or.inl h), (HS.out.2.2.1.below F.B (Nat.le_refl _)).mono (fun _ h => Or.inl h), (HS.out.2.2.2.1.below F.B (Nat.le_refl _)).mono (fun _ h => Or.inl h), HS.out.2.2.2.2⟩, F.B⟩
   | false =>
    have HE := Lib.hid (writeR_good hb h2 hdd.symm)
    obtain ⟨q, rfl⟩ : ∃ q : Nat, no = q := ⟨no.toNat, by have := (hasB_iff.1 hb).1; omega⟩
    clear hb hdd
    have hz := zeros_size 200
    have h4 : d.size ≤ 200 := by omega
    have F := Fv.Fr.start w
    go_enter Tryz.func63, Tryz.ntmps63
    go_upto_region 5 with (first
     | ((with_reducible (show wpList _ _ _ (Oper.mk _ (Op.load _ _) _ _ _ none :: _) _ _)); first | refine Fv.ldN F rfl rfl rfl (by repeat constructor) (by repeat constructor) ?_ | refine Fv.ld1 F rfl rfl rfl (by repeat constructor) (by repeat constructor) ?_)
     | ((with_reducible (show wpList _ _ _ (Oper.mk _ (Op.store _ _ _) _ _ _ none :: _) _ _)); (first | refine Fv.stN F rfl rfl rfl rfl rfl (by first | rfl | simp [Value.oneCell']) (by repeat constructor) ?_ | refine Fv.st1 F rfl rfl rfl (by first | exact (rfl : _ = Value.int _ _) | exact (rfl : _ = Value.slice _ _ _) | exact (rfl : _ = Value.bool _) | exact (rfl : _ = Value.string _)) (by rfl) (by repeat constructor) ?_); clear F; intro W F)
     | ((with_reducible (show wpList _ _ _ (Oper.mk _ (Op.alloc _) _ _ _ none :: _) _ _)); refine Fv.al F rfl rfl ?_; clear F; intro g W hs1 hs2 F; clear hs1 hs2)
     | ((with_reducible (show wpList _ _ _ (Oper.mk _ (Op.box _ _) _ _ _ none :: _) _ _)); refine Fv.wpL_box F rfl rfl rfl rfl ?_; clear F; intro g W hs1 hs2 F; clear hs1 hs2)
     | (go_at_call 84; refine (HB.out _).mono ?_; rintro e w1 ⟨rfl, hv⟩; replace F := F.call hv; clear hv))
    refine Lex.region_parts (ops := wrraw) (ops1 := wrops) (calls := wrcalls) 11 wrord (Fv.FrS _ _ _) (by kernel_rfl) wrcut (by rw [wrsize]; decide) (by kernel_rfl) (by kernel_rfl) (by kernel_rfl) wrsel (by kernel_rfl) (by kernel_rfl) wrlex F.drew ?_
    replace F := F.drew
    unfold wrord
    refine Lex.step_take _ wr0 rfl (Lex.want_none rfl) (by intro Wx hSw; clear hSw; go_simp; try (first | (with_reducible rfl) | rfl)) ?_
    simp only [Act.put, List.setIfInBounds_toArray, List.set_cons_zero, List.set_cons_succ]
    refine Lex.step_take _ wr1 rfl (Lex.want_none rfl) (by intro Wx hSw; exact Fv.run_load1 hSw rfl rfl Fv.ot_Pages (by repeat constructor) (by repeat constructor)) ?_
    simp only [Act.put, List.setIfInBounds_toArray, List.set_cons_zero, List.set_cons_succ]
    refine Lex.step_take _ wr2 rfl (Lex.want_none rfl) (by intro Wx hSw; clear hSw; go_simp; try (first | (with_reducible rfl) | rfl)) ?_
    simp only [Act.put, List.setIfInBounds_toArray, List.set_cons_zero, List.set_cons_succ]
    refine Lex.step_take _ wr3 rfl (Lex.want_none rfl) (by intro Wx hSw; clear hSw; go_simp; try (first | (with_reducible rfl) | rfl)) ?_
    simp only [Act.put, List.setIfInBounds_toArray, List.set_cons_zero, List.set_cons_succ]
    refine Lex.step_take _ wr5 rfl (Lex.want_none rfl) (by intro Wx hSw; clear hSw; go_simp; try (first | (with_reducible rfl) | rfl)) ?_
    simp only [Act.put, List.setIfInBounds_toArray, List.set_cons_zero, List.set_cons_succ]
    refine Lex.step_take _ wr6 rfl (Lex.want_none rfl) (by intro Wx hSw; clear hSw; go_simp; try (first | (with_reducible rfl) | rfl)) ?_
    simp only [Act.put, List.setIfInBounds_toArray, List.set_cons_zero, List.set_cons_succ]
    refine Lex.step_call wr4 rfl (Lex.want_none rfl) (fun K hK => ?_)
    go_simp
    refine (Lf.blank_any _).mono ?_
    rintro e1 w1 ⟨rfl, hv⟩
    replace F := F.call hv
    clear hv
    refine hK.out (Fv.FrS _ _ _) _ _ (fun _ h => Fv.Fr.weak h (by intro L w h; first | exact h | exact h.1 | exact h.1.1)) F ?_
    clear hK K
    try simp only [Act.put, List.setIfInBounds_toArray, List.set_cons_zero, List.set_cons_succ]
    refine Lex.step_take _ wr7 rfl (Lex.want_none rfl) (by intro Wx hSw; clear hSw; go_simp; try (first | (with_reducible rfl) | rfl)) ?_
    simp only [Act.put, List.setIfInBounds_toArray, List.set_cons_zero, List.set_cons_succ]
    refine Lex.step_take _ wr8 rfl (Lex.want_none rfl) (by intro Wx hSw; clear hSw; go_simp; try (first | (with_reducible rfl) | rfl)) ?_
    simp only [Act.put, List.setIfInBounds_toArray, List.set_cons_zero, List.set_cons_succ]
    refine Lex.step_take _ wr9 rfl (Lex.want_none rfl) (by intro Wx hSw; clear hSw; go_simp; try (first | (with_reducible rfl) | rfl)) ?_
    simp only [Act.put, List.setIfInBounds_toArray, List.set_cons_zero, List.set_cons_succ]
    refine Lex.step_call wr10 rfl (Lex.want_none rfl) (fun K hK => ?_)
    go_simp
    have hb7 := (Below.refl w1.heap.size w1).alloc (Nat.le_refl _) (.cells #[.int .i64 (q : Nat), .string (padP d)] 133)
    have hrow : SlP.HasE (w1.alloc (.cells #[.int .i64 (q : Nat), .string (padP d)] 133)) w1.heap.size (some ⟨w1.heap.size, 0, none⟩) [⟨q, padP d⟩] := Li.list_of_block SlP.cellsE_len (heap_alloc_new w1 _) rfl
    replace F := F.call hb7
    refine hK.out (Fv.FrS _ _ _) _ _ (fun _ h => Fv.Fr.weak h (by intro L w h; first | exact h | exact h.1 | exact h.1.1)) F ?_
    clear hK K
    try simp only [Act.put, List.setIfInBounds_toArray, List.set_cons_zero, List.set_cons_succ]
    refine Lex.tail_lex (ops := wrraw) (calls := [11, 13]) (n := 11) [11, 12, 13] (fun _ => True) wrrsel (by rw [wrsize]; rfl) (by kernel_rfl) wrtlex trivial ?_
    refine Lex.step_call wrt11 rfl (Lex.want_none rfl) (fun K hK => ?_)
    go_simp
    refine (SlP.with_any (lo := 0) (lo2 := w1.heap.size) (l := s.di) (more := [⟨q, padP d⟩]) (HS.out.2.2.1.p.below F.B (Nat.le_refl _)) rfl HK.out.1.du hrow rfl (by show s.di.length + 1 ≤ 10000; omega)).mono ?_
    rintro e5 w5 ⟨v5, m5, rfl, hm5, hown5, hv⟩
    obtain ⟨A5, c5, rfl, hX5⟩ := row_X hown5 hm5
    have F2 := F.call hv
    replace F := addRow F F2 hX5
    subst hm5
    clear hv hown5 hX5 F2 hrow hb7
    refine hK.out _ _ _ (fun _ h => h) trivial ?_
    clear hK K
    try simp only [Act.put, List.setIfInBounds_toArray, List.set_cons_zero, List.set_cons_succ]
    refine Lex.step_take _ wrt12 rfl (Lex.want_none rfl) (by intro Wx hSw; clear hSw; go_simp; try (first | (with_reducible rfl) | rfl)) ?_
    simp only [Act.put, List.setIfInBounds_toArray, List.set_cons_zero, List.set_cons_succ]
    refine Lex.step_call wrt13 rfl (Lex.want_none rfl) (fun K hK => ?_)
    refine Fv.wp_store1 F rfl rfl (show _ = Value.slice _ _ _ from rfl) Fv.ot_Pages (by first | rfl | simp [Value.oneCell']) (by repeat constructor) ?_; clear F; intro W F
    refine hK.out _ _ _ (fun _ h => h) trivial ?_
    clear hK K
    try simp only [Act.put, List.setIfInBounds_toArray, List.set_cons_zero, List.set_cons_succ]
    refine NoPanic.normal ?_
    go_wp2_with (first
     | ((with_reducible (show wpList _ _ _ (Oper.mk _ (Op.load _ _) _ _ _ none :: _) _ _)); first | refine Fv.ldN F rfl rfl rfl (by repeat constructor) (by repeat constructor) ?_ | refine Fv.ld1 F rfl rfl rfl (by repeat constructor) (by repeat constructor) ?_)
     | ((with_reducible (show wpList _ _ _ (Oper.mk _ (Op.store _ _ _) _ _ _ none :: _) _ _)); (first | refine Fv.stN F rfl rfl rfl rfl rfl (by first | rfl | simp [Value.oneCell']) (by repeat constructor) ?_ | refine Fv.st1 F rfl rfl rfl (by first | exact (rfl : _ = Value.int _ _) | exact (rfl : _ = Value.slice _ _ _) | exact (rfl : _ = Value.bool _) | exact (rfl : _ = Value.string _)) (by rfl) (by repeat constructor) ?_); clear F; intro W F)
     | ((with_reducible (show wpList _ _ _ (Oper.mk _ (Op.alloc _) _ _ _ none :: _) _ _)); refine Fv.al F rfl rfl ?_; clear F; intro g W hs1 hs2 F; clear hs1 hs2))
    refine bodyPost_ret (res_cT F rfl rfl Fv.rt_Store (by repeat constructor) rfl) rfl ?_
    rw [← HP.out, HE.out]
    exact ⟨_, rfl, ⟨_, _, _, _, _, _, _, _, _, _, _, _, _, _, _, rfl, HS.out.1.below F.B (Nat.le_refl _), (HS.out.2.1.below F.B (Nat.le_refl _)).mono (fun _ h => Or.inl h), F.out.2.mono (fun _ h => Or.inr h.1), (HS.out.2.2.2.1.below F.B (Nat.le_refl _)).mono (fun _ h => Or.inl h), HS.out.2.2.2.2⟩, F.B⟩
end Go.Proofs.YtcgkbcgpnlogoaaGreatDoor.St
