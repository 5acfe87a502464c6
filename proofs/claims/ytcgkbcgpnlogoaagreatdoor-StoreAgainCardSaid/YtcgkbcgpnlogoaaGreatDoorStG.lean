/- Stores: the program's Read. -/
import Derived.Test.YtcgkbcgpnlogoaaGreatDoorStF
namespace Go.Proofs.YtcgkbcgpnlogoaaGreatDoor.St
open Go.RowKit Go.Shelf Tal Sla Hd Fr Lf Lex
theorem IsSt.below {Z : Nat → Prop} {w w' : World} {v : Value} {s : S} (h : IsSt Z w v s) (hb : Below w.heap.size w w') : IsSt Z w' v s := by
 obtain ⟨A0, n0, c0, B0, m0, k0, dd0, lf0, ds0, Af, cf, Ad, cd, Ac, cc, rfl, hdev, hfr, hdi, hck, hcc⟩ := h
 exact ⟨_, _, _, _, _, _, _, _, _, _, _, _, _, _, _, rfl, hdev.below hb (Nat.le_refl _), hfr.below hb (Nat.le_refl _), hdi.below hb (Nat.le_refl _), hck.below hb (Nat.le_refl _), hcc⟩
section
variable {s : S} {q : Nat} {p : Pg} {c : Cl.C} {D : Dev} {t : ByteArray} {er : Int}
theorem readR_arg {no : Int} (h : hasB s.h no = false) : readR s no = (s, ⟨#[]⟩, 1) := by
 unfold readR
 rw [if_pos (fun hn => by rw [hasB_iff.2 hn] at h; cases h)]
theorem readR_down {no : Int} (h : hasB s.h no = true) (hd : s.d.dead = true) : readR s no = (s, ⟨#[]⟩, 10) := by
 unfold readR
 rw [if_neg (fun hn => hn (hasB_iff.1 h)), if_pos hd]
theorem readR_dirty (h : hasB s.h (q : Int) = true) (hd : s.d.dead = false) (hp : findP s.di q = some p) : readR s q = (s, p.data, 0) := by
 unfold readR
 rw [if_neg (fun hn => hn (hasB_iff.1 h)), if_neg (by rw [hd]; simp), Int.toNat_natCast, hp]
theorem readR_hand (h : hasB s.h (q : Int) = true) (hd : s.d.dead = false) (hp : findP s.di q = none) (hg : Cl.getC s.c q = (c, t, true)) : readR s q = ({ s with c := c }, t, 0) := by
 unfold readR
 rw [if_neg (fun hn => hn (hasB_iff.1 h)), if_neg (by rw [hd]; simp), Int.toNat_natCast, hp]
 simp only [hg, if_true]
theorem readR_err (h : hasB s.h (q : Int) = true) (hd : s.d.dead = false) (hp : findP s.di q = none) (hg : (Cl.getC s.c q).2.2 = false) (hs : sureR s q = (D, t, er)) (he : er ≠ 0) : readR s q = ({ s with d := D }, ⟨#[]⟩, er) := by
 unfold readR
 rw [if_neg (fun hn => hn (hasB_iff.1 h)), if_neg (by rw [hd]; simp), Int.toNat_natCast, hp]
 simp only [hg, hs]
 rw [if_neg (by simp), if_pos he]
theorem readR_home (h : hasB s.h (q : Int) = true) (hd : s.d.dead = false) (hp : findP s.di q = none) (hg : (Cl.getC s.c q).2.2 = false) (hs : sureR s q = (D, t, 0)) : readR s q = ({ s with d := D, c := Cl.putC s.c q t }, t, 0) := by
 unfold readR
 rw [if_neg (fun hn => hn (hasB_iff.1 h)), if_neg (by rw [hd]; simp), Int.toNat_natCast, hp]
 simp only [hg, hs]
 rw [if_neg (by simp), if_neg (by simp)]
theorem sureR_n (s : S) (no : Nat) : (sureR s no).1.n = s.d.n := by
 unfold sureR
 split
 ·exact logR_n _ _ _
 ·exact homeR_n _ _
theorem sureR_ok {K : Nat} (h : s.d.Ok K) (no : Nat) : (sureR s no).1.Ok (K + 1) := by
 unfold sureR
 split
 ·exact logR_ok h _ _
 ·exact homeR_ok h _
end
set_option maxRecDepth 20000 in
set_option maxHeartbeats 6400000 in
theorem read_any {X : Nat → Prop} {K : Nat} (v : Value) (s : S) (no : Int) (w : World) (ht : Tab w) (hS : IsSt X w v s) (hok : OkS s K) (hK : K ≤ 99990) :
  Calls Tryz.prog 24 #[v, .int .i64 no] w (StRead X (readR s no).1 (readR s no).2.1 (readR s no).2.2 w) := by
 have HI := Lib.hid hS
 obtain ⟨A0, n0, c0, B0, m0, k0, dd0, lf0, ds0, Af, cf, Ad, cd, Ac, cc, rfl, hdev, hfr, hdi, hck, hcc⟩ := hS
 have HS := Lib.hid (And.intro hdev (And.intro hfr (And.intro hdi (And.intro hck hcc))))
 have HT := Lib.hid ht
 have HK := Lib.hid (And.intro hok hK)
 clear hdev hfr hdi hck hcc ht hok hK
 obtain ⟨post, hpost⟩ : ∃ post, StRead X (readR s no).1 (readR s no).2.1 (readR s no).2.2 w = post := ⟨_, rfl⟩
 rw [hpost]
 have HP := Lib.hid hpost
 clear hpost
 have HB := Lib.hid (fun W => has_any s.h no W)
 have hdl := HK.out.1.dl
 have hdd := (dev_eq HS.out.1).1
 cases hb : hasB s.h no with
 | false =>
  rw [hb] at HB
  have HE := Lib.hid (readR_arg hb)
  clear hb hdd hdl
  have F := Fv.Fr.start w
  go_enter Tryz.func24, Tryz.ntmps24
  go_wp2_with (first
   | ((with_reducible (show wpList _ _ _ (Oper.mk _ (Op.load _ _) _ _ _ none :: _) _ _)); first | refine Fv.ldN F rfl rfl rfl (by repeat constructor) (by repeat constructor) ?_ | refine Fv.ld1 F rfl rfl rfl (by repeat constructor) (by repeat constructor) ?_)
   | ((with_reducible (show wpList _ _ _ (Oper.mk _ (Op.store _ _ _) _ _ _ none :: _) _ _)); (first | refine Fv.stN F rfl rfl rfl rfl rfl (by first | rfl | simp [Value.oneCell']) (by repeat constructor) ?_ | refine Fv.st1 F rfl rfl rfl (by first | exact (rfl : _ = Value.int _ _) | exact (rfl : _ = Value.slice _ _ _) | exact (rfl : _ = Value.bool _) | exact (rfl : _ = Value.string _)) (by rfl) (by repeat constructor) ?_); clear F; intro W F)
   | ((with_reducible (show wpList _ _ _ (Oper.mk _ (Op.alloc _) _ _ _ none :: _) _ _)); refine Fv.al F rfl rfl ?_; clear F; intro g W hs1 hs2 F; clear hs1 hs2)
   | ((with_reducible (show wpList _ _ _ (Oper.mk _ (Op.box _ _) _ _ _ none :: _) _ _)); refine Fv.wpL_box F rfl rfl rfl rfl ?_; clear F; intro g W hs1 hs2 F; clear hs1 hs2)
   | (go_at_call 84; refine (HB.out _).mono ?_; rintro e w1 ⟨rfl, hv⟩; replace F := F.call hv; clear hv))
  refine bodyPost_ret (res_cTT F rfl rfl Fv.rt_Store (by repeat constructor) rfl) rfl ?_
  rw [← HP.out, HE.out]
  exact ⟨_, rfl, ⟨_, _, _, _, _, _, _, _, _, _, _, _, _, _, _, rfl, HS.out.1.below F.B (Nat.le_refl _), (HS.out.2.1.below F.B (Nat.le_refl _)).mono (fun _ h => Or.inl h), (HS.out.2.2.1.below F.B (Nat.le_refl _)).mono (fun _ h => Or.inl h), (HS.out.2.2.2.1.below F.B (Nat.le_refl _)).mono (fun _ h => Or.inl h), HS.out.2.2.2.2⟩, F.B⟩
 | true =>
  rw [hb] at HB
  cases dd0 with
  | true =>
   have HE := Lib.hid (readR_down hb hdd.symm)
   clear hb hdd hdl
   have F := Fv.Fr.start w
   go_enter Tryz.func24, Tryz.ntmps24
   go_wp2_with (first
    | ((with_reducible (show wpList _ _ _ (Oper.mk _ (Op.load _ _) _ _ _ none :: _) _ _)); first | refine Fv.ldN F rfl rfl rfl (by repeat constructor) (by repeat constructor) ?_ | refine Fv.ld1 F rfl rfl rfl (by repeat constructor) (by repeat constructor) ?_)
    | ((with_reducible (show wpList _ _ _ (Oper.mk _ (Op.store _ _ _) _ _ _ none :: _) _ _)); (first | refine Fv.stN F rfl rfl rfl rfl rfl (by first | rfl | simp [Value.oneCell']) (by repeat constructor) ?_ | refine Fv.st1 F rfl rfl rfl (by first | exact (rfl : _ = Value.int _ _) | exact (rfl : _ = Value.slice _ _ _) | exact (rfl : _ = Value.bool _) | exact (rfl : _ = Value.string _)) (by rfl) (by repeat constructor) ?_); clear F; intro W F)
    | ((with_reducible (show wpList _ _ _ (Oper.mk _ (Op.alloc _) _ _ _ none :: _) _ _)); refine Fv.al F rfl rfl ?_; clear F; intro g W hs1 hs2 F; clear hs1 hs2)
    | ((with_reducible (show wpList _ _ _ (Oper.mk _ (Op.box _ _) _ _ _ none :: _) _ _)); refine Fv.wpL_box F rfl rfl rfl rfl ?_; clear F; intro g W hs1 hs2 F; clear hs1 hs2)
    | (go_at_call 84; refine (HB.out _).mono ?_; rintro e w1 ⟨rfl, hv⟩; replace F := F.call hv; clear hv))
   refine bodyPost_ret (res_cTT F rfl rfl Fv.rt_Store (by repeat constructor) rfl) rfl ?_
   rw [← HP.out, HE.out]
   exact ⟨_, rfl, ⟨_, _, _, _, _, _, _, _, _, _, _, _, _, _, _, rfl, HS.out.1.below F.B (Nat.le_refl _), (HS.out.2.1.below F.B (Nat.le_refl _)).mono (fun _ h => Or.inl h), (HS.out.2.2.1.below F.B (Nat.le_refl _)).mono (fun _ h => Or.inl h), (HS.out.2.2.2.1.below F.B (Nat.le_refl _)).mono (fun _ h => Or.inl h), HS.out.2.2.2.2⟩, F.B⟩
  | false =>
   obtain ⟨q, rfl⟩ : ∃ q : Nat, no = q := ⟨no.toNat, by have := (hasB_iff.1 hb).1; omega⟩
   have HQ := Lib.hid (show q < s.h.p.toNat by have := (hasB_iff.1 hb).2; omega)
   have HBD := Lib.hid (And.intro hb hdd.symm)
   clear hb hdd
   have F := Fv.Fr.start w
   go_enter Tryz.func24, Tryz.ntmps24
   go_upto_region 6 with (first
    | ((with_reducible (show wpList _ _ _ (Oper.mk _ (Op.load _ _) _ _ _ none :: _) _ _)); first | refine Fv.ldN F rfl rfl rfl (by repeat constructor) (by repeat constructor) ?_ | refine Fv.ld1 F rfl rfl rfl (by repeat constructor) (by repeat constructor) ?_)
    | ((with_reducible (show wpList _ _ _ (Oper.mk _ (Op.store _ _ _) _ _ _ none :: _) _ _)); (first | refine Fv.stN F rfl rfl rfl rfl rfl (by first | rfl | simp [Value.oneCell']) (by repeat constructor) ?_ | refine Fv.st1 F rfl rfl rfl (by first | exact (rfl : _ = Value.int _ _) | exact (rfl : _ = Value.slice _ _ _) | exact (rfl : _ = Value.bool _) | exact (rfl : _ = Value.string _)) (by rfl) (by repeat constructor) ?_); clear F; intro W F)
    | ((with_reducible (show wpList _ _ _ (Oper.mk _ (Op.alloc _) _ _ _ none :: _) _ _)); refine Fv.al F rfl rfl ?_; clear F; intro g W hs1 hs2 F; clear hs1 hs2)
    | ((with_reducible (show wpList _ _ _ (Oper.mk _ (Op.box _ _) _ _ _ none :: _) _ _)); refine Fv.wpL_box F rfl rfl rfl rfl ?_; clear F; intro g W hs1 hs2 F; clear hs1 hs2)
    | (go_at_call 84; refine (HB.out _).mono ?_; rintro e w1 ⟨rfl, hv⟩; replace F := F.call hv; clear hv)
    | (go_at_call 85; refine (SlP.bsearch_any (lo := 0) q ⟨#[]⟩ (HS.out.2.2.1.p.below F.B (Nat.le_refl _)) rfl (by omega) HK.out.1.du).mono ?_; rintro e w1 ⟨rfl, hv⟩; replace F := F.call hv; clear hv))
   cases hf : SlP.fnd s.di q with
   | true =>
    obtain ⟨y, hy, hyk⟩ := SlP.fnd_at hf
    have hlt := (List.getElem?_eq_some_iff.1 hy).1
    have HE := Lib.hid (readR_dirty HBD.out.1 HBD.out.2 (SlP.find_at hy hyk))
    obtain ⟨b0, q0, rfl, _, hb0, hR⟩ := SlP.HasE.at HS.out.2.2.1.p hy
    generalize SlP.pos s.di q = p at hy hlt hR ⊢
    have hR2 := Lib.hid (fun W (hb : Below w.heap.size w W) => (show W.cell? ⟨b0, q0 + p * 2 + 1, none⟩ = some (.string y.data) from (hb.cell (p := ⟨b0, q0 + p * 2 + 1, none⟩) hb0).trans (hR 1 _ rfl)))
    clear hR hb0 hy hyk hf hdl
    have j0 : (0 : Int) ≤ (p : Int) := by omega
    have j1 : (p : Int) < (s.di.length : Int) := by omega
    go_upto_region 7 with (first
     | ((with_reducible (show wpList _ _ _ (Oper.mk _ (Op.load _ _) _ _ _ none :: _) _ _)); first | refine Fv.ldN F rfl rfl rfl (by repeat constructor) (by repeat constructor) ?_ | refine Fv.ld1 F rfl rfl rfl (by repeat constructor) (by repeat constructor) ?_)
     | ((with_reducible (show wpList _ _ _ (Oper.mk _ (Op.store _ _ _) _ _ _ none :: _) _ _)); (first | refine Fv.stN F rfl rfl rfl rfl rfl (by first | rfl | simp [Value.oneCell']) (by repeat constructor) ?_ | refine Fv.st1 F rfl rfl rfl (by first | exact (rfl : _ = Value.int _ _) | exact (rfl : _ = Value.slice _ _ _) | exact (rfl : _ = Value.bool _) | exact (rfl : _ = Value.string _)) (by rfl) (by repeat constructor) ?_); clear F; intro W F)
     | ((with_reducible (show wpList _ _ _ (Oper.mk _ (Op.alloc _) _ _ _ none :: _) _ _)); refine Fv.al F rfl rfl ?_; clear F; intro g W hs1 hs2 F; clear hs1 hs2))
    replace F := F.drew
    refine Lex.region_lex (ops := reops) (calls := recalls) reord (Fv.ClsB _ _) (by kernel_rfl) (by kernel_rfl) resel (by kernel_rfl) (by kernel_rfl) relex ⟨F.B, F.cls (Fv.Inc.cons (Fv.VIn.tail Fv.VIn.head) Fv.Inc.nil)⟩ ?_
    unfold reord
    refine Lex.step_take _ re0 rfl (Lex.want_none rfl) (by intro Wx hSw; exact Fv.run_loadNC hSw.2 rfl rfl Fv.rt_Store (by repeat constructor) (by repeat constructor)) ?_
    simp only [Act.put, List.setIfInBounds_toArray, List.set_cons_zero, List.set_cons_succ]
    refine Lex.step_take _ re1 rfl (Lex.want_none rfl) (by intro Wx hSw; clear hSw; go_simp; try (first | (with_reducible rfl) | rfl)) ?_
    simp only [Act.put, List.setIfInBounds_toArray, List.set_cons_zero, List.set_cons_succ]
    refine Lex.step_take _ re2 rfl (Lex.want_none rfl) (by intro Wx hSw; exact Fv.run_load1C hSw.2 rfl rfl Fv.ot_Pages (by repeat constructor) (by repeat constructor)) ?_
    simp only [Act.put, List.setIfInBounds_toArray, List.set_cons_zero, List.set_cons_succ]
    refine Lex.step_take _ re3 rfl (Lex.want_none rfl) (by intro Wx hSw; clear hSw; go_simp; try (first | (with_reducible rfl) | rfl)) ?_
    simp only [Act.put, List.setIfInBounds_toArray, List.set_cons_zero, List.set_cons_succ]
    refine Lex.step_take _ re4 rfl (Lex.want_none rfl) (by intro Wx hSw; clear hSw; go_simp; try (first | (with_reducible rfl) | rfl)) ?_
    simp only [Act.put, List.setIfInBounds_toArray, List.set_cons_zero, List.set_cons_succ]
    refine Lex.step_take _ re5 rfl (Lex.want_none rfl) (by intro Wx hSw; clear hSw; go_simp; try (first | (with_reducible rfl) | rfl)) ?_
    simp only [Act.put, List.setIfInBounds_toArray, List.set_cons_zero, List.set_cons_succ]
    refine Lex.step_take _ re6 rfl (Lex.want_none rfl) (by intro Wx hSw; exact Fv.run_load1R (hR2.out Wx hSw.1) rfl rfl Fv.ot_string) ?_
    simp only [Act.put, List.setIfInBounds_toArray, List.set_cons_zero, List.set_cons_succ]
    refine Lex.step_call re7 rfl (Lex.want_none rfl) (fun K hK => ?_)
    refine Fv.wp_storeN F rfl rfl rfl Fv.rt_Store rfl (by first | rfl | simp [Value.oneCell']) (by repeat constructor) ?_; clear F; intro W F
    refine hK.out _ _ _ (fun _ h => h) ⟨F.B, F.cls (by (repeat (first | exact Fv.Inc.nil | apply Fv.Inc.cons | exact Fv.VIn.head | apply Fv.VIn.tail)); done)⟩ ?_
    clear hK K
    try simp only [Act.put, List.setIfInBounds_toArray, List.set_cons_zero, List.set_cons_succ]
    refine Lex.step_take _ re8 rfl (Lex.want_none rfl) (by intro Wx hSw; clear hSw; go_simp; try (first | (with_reducible rfl) | rfl)) ?_
    simp only [Act.put, List.setIfInBounds_toArray, List.set_cons_zero, List.set_cons_succ]
    refine Lex.step_take _ re9 rfl (Lex.want_none rfl) (by intro Wx hSw; clear hSw; go_simp; try (first | (with_reducible rfl) | rfl)) ?_
    simp only [Act.put, List.setIfInBounds_toArray, List.set_cons_zero, List.set_cons_succ]
    refine NoPanic.normal ?_
    go_wp2_with (first
     | ((with_reducible (show wpList _ _ _ (Oper.mk _ (Op.load _ _) _ _ _ none :: _) _ _)); first | refine Fv.ldN F rfl rfl rfl (by repeat constructor) (by repeat constructor) ?_ | refine Fv.ld1 F rfl rfl rfl (by repeat constructor) (by repeat constructor) ?_)
     | ((with_reducible (show wpList _ _ _ (Oper.mk _ (Op.store _ _ _) _ _ _ none :: _) _ _)); (first | refine Fv.stN F rfl rfl rfl rfl rfl (by first | rfl | simp [Value.oneCell']) (by repeat constructor) ?_ | refine Fv.st1 F rfl rfl rfl (by first | exact (rfl : _ = Value.int _ _) | exact (rfl : _ = Value.slice _ _ _) | exact (rfl : _ = Value.bool _) | exact (rfl : _ = Value.string _)) (by rfl) (by repeat constructor) ?_); clear F; intro W F)
     | ((with_reducible (show wpList _ _ _ (Oper.mk _ (Op.alloc _) _ _ _ none :: _) _ _)); refine Fv.al F rfl rfl ?_; clear F; intro g W hs1 hs2 F; clear hs1 hs2))
    refine bodyPost_ret (res_cTT F rfl rfl Fv.rt_Store (by repeat constructor) rfl) rfl ?_
    rw [← HP.out, HE.out]
    exact ⟨_, rfl, ⟨_, _, _, _, _, _, _, _, _, _, _, _, _, _, _, rfl, HS.out.1.below F.B (Nat.le_refl _), (HS.out.2.1.below F.B (Nat.le_refl _)).mono (fun _ h => Or.inl h), (HS.out.2.2.1.below F.B (Nat.le_refl _)).mono (fun _ h => Or.inl h), (HS.out.2.2.2.1.below F.B (Nat.le_refl _)).mono (fun _ h => Or.inl h), HS.out.2.2.2.2⟩, F.B⟩
   | false =>
    have hfp := SlP.find_no HK.out.1.du (SlP.fnd_no hf)
    clear hf
    cases hg : (Cl.getC s.c q).2.2 with
    | true =>
     have hE := readR_hand HBD.out.1 HBD.out.2 hfp (show Cl.getC s.c q = ((Cl.getC s.c q).1, (Cl.getC s.c q).2.1, true) by rw [← hg])
     have HE := Lib.hid hE
     clear hE hfp
     go_upto_region 9 with (first
      | ((with_reducible (show wpList _ _ _ (Oper.mk _ (Op.load _ _) _ _ _ none :: _) _ _)); first | refine Fv.ldN F rfl rfl rfl (by repeat constructor) (by repeat constructor) ?_ | refine Fv.ld1 F rfl rfl rfl (by repeat constructor) (by repeat constructor) ?_)
      | ((with_reducible (show wpList _ _ _ (Oper.mk _ (Op.store _ _ _) _ _ _ none :: _) _ _)); (first | refine Fv.stN F rfl rfl rfl rfl rfl (by first | rfl | simp [Value.oneCell']) (by repeat constructor) ?_ | refine Fv.st1 F rfl rfl rfl (by first | exact (rfl : _ = Value.int _ _) | exact (rfl : _ = Value.slice _ _ _) | exact (rfl : _ = Value.bool _) | exact (rfl : _ = Value.string _)) (by rfl) (by repeat constructor) ?_); clear F; intro W F)
      | ((with_reducible (show wpList _ _ _ (Oper.mk _ (Op.alloc _) _ _ _ none :: _) _ _)); refine Fv.al F rfl rfl ?_; clear F; intro g W hs1 hs2 F; clear hs1 hs2)
      | (go_at_call 87; refine (Cl.pget_any _ s.c q (Fv.Fr.clk F HS.out.2.2.2.1) rfl HS.out.2.2.2.2 (by have := HK.out.1.c.len; omega)).mono ?_; rintro e1 w1 ⟨v1, rfl, ⟨Ac1, n1, cc1, rfl, hn1, hc1, hp1⟩, hv⟩; have F2 := F.call hv; replace F := addClk F F2 hn1 hc1 hp1; clear hv F2 hp1))
     subst hn1
     go_wp2_with (first
      | ((with_reducible (show wpList _ _ _ (Oper.mk _ (Op.load _ _) _ _ _ none :: _) _ _)); first | refine Fv.ldN F rfl rfl rfl (by repeat constructor) (by repeat constructor) ?_ | refine Fv.ld1 F rfl rfl rfl (by repeat constructor) (by repeat constructor) ?_)
      | ((with_reducible (show wpList _ _ _ (Oper.mk _ (Op.store _ _ _) _ _ _ none :: _) _ _)); (first | refine Fv.stN F rfl rfl rfl rfl rfl (by first | rfl | simp [Value.oneCell']) (by repeat constructor) ?_ | refine Fv.st1 F rfl rfl rfl (by first | exact (rfl : _ = Value.int _ _) | exact (rfl : _ = Value.slice _ _ _) | exact (rfl : _ = Value.bool _) | exact (rfl : _ = Value.string _)) (by rfl) (by repeat constructor) ?_); clear F; intro W F)
      | ((with_reducible (show wpList _ _ _ (Oper.mk _ (Op.alloc _) _ _ _ none :: _) _ _)); refine Fv.al F rfl rfl ?_; clear F; intro g W hs1 hs2 F; clear hs1 hs2))
     refine bodyPost_ret (res_cTT F rfl rfl Fv.rt_Store (by repeat constructor) rfl) rfl ?_
     rw [← HP.out, HE.out]
     exact ⟨_, rfl, ⟨_, _, _, _, _, _, _, _, _, _, _, _, _, _, _, rfl, HS.out.1.below F.B (Nat.le_refl _), (HS.out.2.1.below F.B (Nat.le_refl _)).mono (fun _ h => Or.inl h), (HS.out.2.2.1.below F.B (Nat.le_refl _)).mono (fun _ h => Or.inl h), F.out.2.2.2.mono (fun _ h => h.1), hc1⟩, F.B⟩
    | false =>
     have hn1 : 1 ≤ (sureR s q).1.n := by rw [sureR_n]; exact HK.out.1.d.n1
     have hE1 := fun D t er (h : sureR s q = (D, t, er)) (he : er ≠ 0) => readR_err HBD.out.1 HBD.out.2 hfp hg h he
     have hE2 := fun D t (h : sureR s q = (D, t, 0)) => readR_home HBD.out.1 HBD.out.2 hfp hg h
     have HE1 := Lib.hid hE1
     have HE2 := Lib.hid hE2
     clear hE1 hE2 hfp
     go_upto_region 9 with (first
      | ((with_reducible (show wpList _ _ _ (Oper.mk _ (Op.load _ _) _ _ _ none :: _) _ _)); first | refine Fv.ldN F rfl rfl rfl (by repeat constructor) (by repeat constructor) ?_ | refine Fv.ld1 F rfl rfl rfl (by repeat constructor) (by repeat constructor) ?_)
      | ((with_reducible (show wpList _ _ _ (Oper.mk _ (Op.store _ _ _) _ _ _ none :: _) _ _)); (first | refine Fv.stN F rfl rfl rfl rfl rfl (by first | rfl | simp [Value.oneCell']) (by repeat constructor) ?_ | refine Fv.st1 F rfl rfl rfl (by first | exact (rfl : _ = Value.int _ _) | exact (rfl : _ = Value.slice _ _ _) | exact (rfl : _ = Value.bool _) | exact (rfl : _ = Value.string _)) (by rfl) (by repeat constructor) ?_); clear F; intro W F)
      | ((with_reducible (show wpList _ _ _ (Oper.mk _ (Op.alloc _) _ _ _ none :: _) _ _)); refine Fv.al F rfl rfl ?_; clear F; intro g W hs1 hs2 F; clear hs1 hs2)
      | (go_at_call 87; refine (Cl.pget_any _ s.c q (Fv.Fr.clk F HS.out.2.2.2.1) rfl HS.out.2.2.2.2 (by have := HK.out.1.c.len; omega)).mono ?_; rintro e1 w1 ⟨v1, rfl, ⟨Ac1, n1, cc1, rfl, hn1, hc1, hp1⟩, hv⟩; have F2 := F.call hv; replace F := addClk F F2 hn1 hc1 hp1; clear hv F2 hp1))
     clear hg hc1
     go_upto_region 12 with (first
      | ((with_reducible (show wpList _ _ _ (Oper.mk _ (Op.load _ _) _ _ _ none :: _) _ _)); first | refine Fv.ldN F rfl rfl rfl (by repeat constructor) (by repeat constructor) ?_ | refine Fv.ld1 F rfl rfl rfl (by repeat constructor) (by repeat constructor) ?_)
      | ((with_reducible (show wpList _ _ _ (Oper.mk _ (Op.store _ _ _) _ _ _ none :: _) _ _)); (first | refine Fv.stN F rfl rfl rfl rfl rfl (by first | rfl | simp [Value.oneCell']) (by repeat constructor) ?_ | refine Fv.st1 F rfl rfl rfl (by first | exact (rfl : _ = Value.int _ _) | exact (rfl : _ = Value.slice _ _ _) | exact (rfl : _ = Value.bool _) | exact (rfl : _ = Value.string _)) (by rfl) (by repeat constructor) ?_); clear F; intro W F)
      | ((with_reducible (show wpList _ _ _ (Oper.mk _ (Op.alloc _) _ _ _ none :: _) _ _)); refine Fv.al F rfl rfl ?_; clear F; intro g W hs1 hs2 F; clear hs1 hs2))
     have HSR := Lib.hid (fun W (v : Value) (ht : Tab W) (hi : IsSt X W v s) => sure_any v s q W ht hi HK.out.1 HK.out.2 HQ.out)
     have hN : 1 ≤ (sureR s q).1.n := by rw [sureR_n]; exact HK.out.1.d.n1
     obtain ⟨R, hR⟩ : ∃ R, sureR s q = R := ⟨_, rfl⟩
     rw [hR] at HSR hN
     have HN1 := Lib.hid hN
     obtain ⟨D1, tx, er⟩ := R
     have HR := Lib.hid hR
     clear hR hN
     go_upto_region 14 with (first
      | ((with_reducible (show wpList _ _ _ (Oper.mk _ (Op.load _ _) _ _ _ none :: _) _ _)); first | refine Fv.ldN F rfl rfl rfl (by repeat constructor) (by repeat constructor) ?_ | refine Fv.ld1 F rfl rfl rfl (by repeat constructor) (by repeat constructor) ?_)
      | ((with_reducible (show wpList _ _ _ (Oper.mk _ (Op.store _ _ _) _ _ _ none :: _) _ _)); (first | refine Fv.stN F rfl rfl rfl rfl rfl (by first | rfl | simp [Value.oneCell']) (by repeat constructor) ?_ | refine Fv.st1 F rfl rfl rfl (by first | exact (rfl : _ = Value.int _ _) | exact (rfl : _ = Value.slice _ _ _) | exact (rfl : _ = Value.bool _) | exact (rfl : _ = Value.string _)) (by rfl) (by repeat constructor) ?_); clear F; intro W F)
      | ((with_reducible (show wpList _ _ _ (Oper.mk _ (Op.alloc _) _ _ _ none :: _) _ _)); refine Fv.al F rfl rfl ?_; clear F; intro g W hs1 hs2 F; clear hs1 hs2)
      | (go_at_call 88; refine (HSR.out _ _ (HT.out.below F.B) (HI.out.below F.B)).mono ?_; rintro e3 w3 ⟨v3, rfl, hD3, hv⟩; replace F := F.call hv; clear hv; obtain ⟨A3, n3, c3, B3, m3, k3, dd3, lf3, ds3, rfl⟩ := dev_form hD3; replace F := addDev F hD3 HN1.out rfl; clear hD3))
     by_cases he : er = 0
     ·subst he
      have HE := Lib.hid (HE2.out _ _ HR.out)
      go_wp2_with (first
       | ((with_reducible (show wpList _ _ _ (Oper.mk _ (Op.load _ _) _ _ _ none :: _) _ _)); first | refine Fv.ldN F rfl rfl rfl (by repeat constructor) (by repeat constructor) ?_ | refine Fv.ld1 F rfl rfl rfl (by repeat constructor) (by repeat constructor) ?_)
       | ((with_reducible (show wpList _ _ _ (Oper.mk _ (Op.store _ _ _) _ _ _ none :: _) _ _)); (first | refine Fv.stN F rfl rfl rfl rfl rfl (by first | rfl | simp [Value.oneCell']) (by repeat constructor) ?_ | refine Fv.st1 F rfl rfl rfl (by first | exact (rfl : _ = Value.int _ _) | exact (rfl : _ = Value.slice _ _ _) | exact (rfl : _ = Value.bool _) | exact (rfl : _ = Value.string _)) (by rfl) (by repeat constructor) ?_); clear F; intro W F)
       | ((with_reducible (show wpList _ _ _ (Oper.mk _ (Op.alloc _) _ _ _ none :: _) _ _)); refine Fv.al F rfl rfl ?_; clear F; intro g W hs1 hs2 F; clear hs1 hs2)
       | (go_at_call 89; refine (Cl.pput_any _ s.c q tx HK.out.1.c (Fv.Fr.clk F HS.out.2.2.2.1) rfl HS.out.2.2.2.2).mono ?_; rintro e2 w2 ⟨v2, rfl, ⟨Ac2, n2, cc2, rfl, hn2, hc2, hp2⟩, hv⟩; have F2 := F.call hv; replace F := addClk F F2 hn2 hc2 hp2; clear hv F2 hp2))
      subst hn2
      refine bodyPost_ret (res_cTT F rfl rfl Fv.rt_Store (by repeat constructor) rfl) rfl ?_
      rw [← HP.out, HE.out]
      exact ⟨_, rfl, ⟨_, _, _, _, _, _, _, _, _, _, _, _, _, _, _, rfl, F.out.1.2.dev, (HS.out.2.1.below F.B (Nat.le_refl _)).mono (fun _ h => Or.inl h), (HS.out.2.2.1.below F.B (Nat.le_refl _)).mono (fun _ h => Or.inl h), F.out.2.2.2.mono (fun _ h => h.1), hc2⟩, F.B⟩
     ·have HE := Lib.hid (HE1.out _ _ _ HR.out he)
      go_wp2_with (first
       | ((with_reducible (show wpList _ _ _ (Oper.mk _ (Op.load _ _) _ _ _ none :: _) _ _)); first | refine Fv.ldN F rfl rfl rfl (by repeat constructor) (by repeat constructor) ?_ | refine Fv.ld1 F rfl rfl rfl (by repeat constructor) (by repeat constructor) ?_)
       | ((with_reducible (show wpList _ _ _ (Oper.mk _ (Op.store _ _ _) _ _ _ none :: _) _ _)); (first | refine Fv.stN F rfl rfl rfl rfl rfl (by first | rfl | simp [Value.oneCell']) (by repeat constructor) ?_ | refine Fv.st1 F rfl rfl rfl (by first | exact (rfl : _ = Value.int _ _) | exact (rfl : _ = Value.slice _ _ _) | exact (rfl : _ = Value.bool _) | exact (rfl : _ = Value.string _)) (by rfl) (by repeat constructor) ?_); clear F; intro W F)
       | ((with_reducible (show wpList _ _ _ (Oper.mk _ (Op.alloc _) _ _ _ none :: _) _ _)); refine Fv.al F rfl rfl ?_; clear F; intro g W hs1 hs2 F; clear hs1 hs2))
      refine bodyPost_ret (res_cTT F rfl rfl Fv.rt_Store (by repeat constructor) rfl) rfl ?_
      rw [← HP.out, HE.out]
      exact ⟨_, rfl, ⟨_, _, _, _, _, _, _, _, _, _, _, _, _, _, _, rfl, F.out.2.dev, (HS.out.2.1.below F.B (Nat.le_refl _)).mono (fun _ h => Or.inl h), (HS.out.2.2.1.below F.B (Nat.le_refl _)).mono (fun _ h => Or.inl h), (HS.out.2.2.2.1.below F.B (Nat.le_refl _)).mono (fun _ h => Or.inl h), HS.out.2.2.2.2⟩, F.B⟩
end Go.Proofs.YtcgkbcgpnlogoaaGreatDoor.St
