/- Stores: the program's logged. -/
import Derived.Test.YtcgkbcgpnlogoaaGreatDoorMgAI
import Derived.Test.YtcgkbcgpnlogoaaGreatDoorMgAF
import Derived.Test.YtcgkbcgpnlogoaaGreatDoorMgAE
namespace Go.Proofs.YtcgkbcgpnlogoaaGreatDoor.St
open Go.RowKit Go.Shelf Tal Sla Hd Fr Lf Lex
section
variable {h : H} {D D1 D2 : Dev} {l l2 : List F} {f : F} {er : Int}
theorem putsR_app (hz : putsR h D l = (D1, 0)) : putsR h D (l ++ l2) = putsR h D1 l2 := by
 induction l generalizing D with
 | nil =>
  have : D = D1 := by injection hz
  subst this
  rfl
 | cons f l ih =>
  show putsR h D (f :: (l ++ l2)) = _
  rw [putsR] at hz ⊢
  by_cases h3 : (putR D (logN h f.i.toNat) (frameB f)).2 ≠ 0
  ·rw [if_pos h3] at hz
   rw [hz] at h3
   exact absurd rfl h3
  ·rw [if_neg h3] at hz ⊢
   exact ih hz
theorem putsR_err (hp : putR D (logN h f.i.toNat) (frameB f) = (D2, er)) (he : er ≠ 0) : putsR h D (f :: l) = (D2, er) := by
 rw [putsR]
 simp only [hp]
 rw [if_pos he]
theorem putsR_next (hp : putR D (logN h f.i.toNat) (frameB f) = (D2, 0)) : putsR h D (f :: l) = putsR h D2 l := by
 rw [putsR]
 simp only [hp]
 rw [if_neg (by simp)]
end
theorem loggedR_err {s : S} {D : Dev} {er : Int} (h : putsR s.h s.d (framesL s) = (D, er)) (he : er ≠ 0) : loggedR s = (D, er) := by unfold loggedR; rw [h, if_pos he]
theorem loggedR_good {s : S} {D : Dev} (h : putsR s.h s.d (framesL s) = (D, 0)) : loggedR s = flushR D := by unfold loggedR; rw [h, if_neg (by simp)]
theorem putsR_n (h : H) : ∀ (l : List F) (D : Dev), (putsR h D l).1.n = D.n
 | [], _ => rfl
 | f :: l, D => by
  rw [putsR]
  split
  ·exact putR_n _ _ _
  ·exact (putsR_n h l _).trans (putR_n _ _ _)
theorem loggedR_n (s : S) : (loggedR s).1.n = s.d.n := by
 unfold loggedR
 split
 ·exact putsR_n _ _ _
 ·exact (flushR_n _).trans (putsR_n _ _ _)
theorem frames_len (s : S) : (framesL s).length = s.di.length + 1 := by unfold framesL; simp
/-- Each frame of a commit for which there is room may be. -/
theorem frames_right {s : S} {K : Nat} (hok : OkS s K) (hr : s.t + (s.di.length + 1) ≤ s.h.l.toNat) : ∀ f ∈ framesL s, RightF f ∧ ∃ i : Nat, f.i = i ∧ i < s.h.l.toNat := by
 intro f hf
 have h1 := hok.h.l1
 have h2 := hok.h.p1
 have h3 := hok.h.e0
 have h4 := hok.h.e1
 unfold framesL at hf
 rcases List.mem_append.1 hf with hf | hf
 ·obtain ⟨i, hi, rfl⟩ := List.mem_mapIdx.1 hf
  have hp := hok.di _ (List.getElem_mem hi)
  refine ⟨⟨h3, h4, ?_, ?_, ?_, ?_, fun h => (by cases h), fun _ => hp.2⟩, s.t + i, rfl, by omega⟩
  ·show (0 : Int) ≤ ((s.t + i : Nat) : Int); omega
  ·show ((s.t + i : Nat) : Int) < 512; omega
  ·show (0 : Int) ≤ ((s.di[i].no : Nat) : Int); omega
  ·show ((s.di[i].no : Nat) : Int) < 512; have := hp.1; omega
 ·have hf : f = endF s.h s.t s.di.length := by simpa using hf
  subst hf
  refine ⟨⟨h3, h4, ?_, ?_, ?_, ?_, fun _ => rfl, fun h => (by cases h)⟩, s.t + s.di.length, rfl, by omega⟩
  ·show (0 : Int) ≤ ((s.t + s.di.length : Nat) : Int); omega
  ·show ((s.t + s.di.length : Nat) : Int) < 512; omega
  ·show (0 : Int) ≤ ((s.di.length : Nat) : Int); omega
  ·show ((s.di.length : Nat) : Int) < 512; omega
theorem rowFr {W : World} {base m : Nat} {v : Value} {l : List F} (h : W.ownsRow base 124 5 v m (Li.cellsL cellsFr l)) (hm : l.length = m) : ∃ A c, v = .slice A m c ∧ HasX cellsFr 5 W (fun b => base ≤ b ∧ b < W.heap.size) A c l := by
 obtain ⟨A, c, hv, hc, hl⟩ := Li.list_of_own cellsFr_len h hm
 refine ⟨A, c, hv, hl.lower (Nat.zero_le _), fun hn b o s hA => ?_, by omega⟩
 obtain ⟨b', o', hA', hlo, hlt, _⟩ := hl hn
 rw [hA'] at hA
 injection hA with hA
 injection hA with e1 _ _
 rw [← e1]
 exact ⟨hlo, hlt⟩
set_option maxRecDepth 20000 in
set_option maxHeartbeats 6400000 in
theorem logged_any {X : Nat → Prop} {K : Nat} (v : Value) (s : S) (w : World) (ht : Tab w) (hS : IsSt X w v s) (hok : OkS s K) (hK : K ≤ 90000) (hroom : s.t + (s.di.length + 1) ≤ s.h.l.toNat) :
  Calls Tryz.prog 135 #[v] w (DevErr (loggedR s).1 (loggedR s).2 w) := by
 have HI := Lib.hid hS
 obtain ⟨A0, n0, c0, B0, m0, k0, dd0, lf0, ds0, Af, cf, Ad, cd, Ac, cc, rfl, hdev, hfr, hdi, hck, hcc⟩ := hS
 have HS := Lib.hid (And.intro hdev (And.intro hfr (And.intro hdi (And.intro hck hcc))))
 have HT := Lib.hid ht
 have HK := Lib.hid (And.intro hok hK)
 clear hdev hfr hdi hck hcc ht hok hK
 obtain ⟨post, hpost⟩ : ∃ post, DevErr (loggedR s).1 (loggedR s).2 w = post := ⟨_, rfl⟩
 rw [hpost]
 have HP := Lib.hid hpost
 clear hpost
 have HLR := Lib.hid (frames_right HK.out.1 hroom)
 have HLL := Lib.hid (frames_len s)
 have hll : (framesL s).length ≤ 513 := by have := HK.out.1.dl; have := HLL.out; omega
 generalize hLL : framesL s = LL at HLR HLL hll
 have HLE := Lib.hid hLL
 clear hLL hroom
 have F := Fv.Fr.start w
 go_enter Tryz.func135, Tryz.ntmps135
 go_upto_region 1 with (first
  | ((with_reducible (show wpList _ _ _ (Oper.mk _ (Op.load _ _) _ _ _ none :: _) _ _)); first | refine Fv.ldN F rfl rfl rfl (by repeat constructor) (by repeat constructor) ?_ | refine Fv.ld1 F rfl rfl rfl (by repeat constructor) (by repeat constructor) ?_)
  | ((with_reducible (show wpList _ _ _ (Oper.mk _ (Op.store _ _ _) _ _ _ none :: _) _ _)); (first | refine Fv.stN F rfl rfl rfl rfl rfl (by first | rfl | simp [Value.oneCell']) (by repeat constructor) ?_ | refine Fv.st1 F rfl rfl rfl (by first | exact (rfl : _ = Value.int _ _) | exact (rfl : _ = Value.slice _ _ _) | exact (rfl : _ = Value.bool _) | exact (rfl : _ = Value.string _)) (by rfl) (by repeat constructor) ?_); clear F; intro W F)
  | ((with_reducible (show wpList _ _ _ (Oper.mk _ (Op.alloc _) _ _ _ none :: _) _ _)); refine Fv.al F rfl rfl ?_; clear F; intro g W hs1 hs2 F; clear hs1 hs2)
  | ((with_reducible (show wpList _ _ _ (Oper.mk _ (Op.box _ _) _ _ _ none :: _) _ _)); refine Fv.wpL_box F rfl rfl rfl rfl ?_; clear F; intro gb W hs1 hs2 F; clear hs1 hs2))
 rename Nat => gr
 go_upto_region 3 with (first
  | ((with_reducible (show wpList _ _ _ (Oper.mk _ (Op.load _ _) _ _ _ none :: _) _ _)); first | refine Fv.ldN F rfl rfl rfl (by repeat constructor) (by repeat constructor) ?_ | refine Fv.ld1 F rfl rfl rfl (by repeat constructor) (by repeat constructor) ?_)
  | ((with_reducible (show wpList _ _ _ (Oper.mk _ (Op.store _ _ _) _ _ _ none :: _) _ _)); (first | refine Fv.stN F rfl rfl rfl rfl rfl (by first | rfl | simp [Value.oneCell']) (by repeat constructor) ?_ | refine Fv.st1 F rfl rfl rfl (by first | exact (rfl : _ = Value.int _ _) | exact (rfl : _ = Value.slice _ _ _) | exact (rfl : _ = Value.bool _) | exact (rfl : _ = Value.string _)) (by rfl) (by repeat constructor) ?_); clear F; intro W F)
  | ((with_reducible (show wpList _ _ _ (Oper.mk _ (Op.alloc _) _ _ _ none :: _) _ _)); refine Fv.al F rfl rfl ?_; clear F; intro g W hs1 hs2 F; clear hs1 hs2)
  | (go_at_call 200; refine (frames_any _ s _ (HT.out.below F.B) (HI.out.below F.B) HK.out.1 (by have := HK.out.2; omega)).mono ?_; rintro e1 w1 ⟨v1, rfl, hown1, hv⟩; rw [HLE.out] at hown1; obtain ⟨AF, cF, rfl, hXF⟩ := rowFr hown1 rfl; have F2 := F.call hv; replace F := addRow F F2 hXF; clear hv F2 hXF hown1))
 replace F := addDev F (HS.out.1.below F.B (Nat.le_refl _)) HK.out.1.d.n1 rfl
 go_loopw [14] (fun s14 wr => ∃ (k : Nat) (A1 : Option Addr) (n1 c1 : Nat) (B1 : Option Addr) (m1 k1 : Nat) (dd1 : Bool) (lf1 ds1 : Int) (D1 : Dev), s14 = .int .i64 (k : Nat) ∧ k ≤ LL.length ∧ Hid (putsR s.h s.d (LL.take k) = (D1, 0)) ∧ Hid (D1.Ok (K + k)) ∧ Hid (D1.n = s.d.n) ∧ Fv.Fr w wr [(g, 28, [.slice A1 n1 c1, .slice B1 m1 k1, .bool dd1, .int .i64 lf1, .int .i64 ds1]), (gr, 28, [.slice none 0 0, .slice none 0 0, .bool false, .int .i64 0, .int .i64 0]), (gb, 37, [.slice A0 n0 c0, .slice B0 m0 k0, .bool dd0, .int .i64 lf0, .int .i64 ds0, .int .i64 s.h.p, .int .i64 s.h.l, .int .i64 s.h.e, .int .i64 (s.t : Nat), .slice Af s.fr.length cf, .slice Ad s.di.length cd, .slice Ac s.c.l.length cc, .int .i64 (s.c.h : Nat)])] (fun L w2 => (True ∧ RowF cellsFr 5 w.heap.size AF cF LL L w2) ∧ DevF (.agg #[.slice A1 n1 c1, .slice B1 m1 k1, .bool dd1, .int .i64 lf1, .int .i64 ds1]) D1 L w2)) (fun s14 _ => LL.length - (intOf s14).toNat)
 case atStart => exact ⟨0, _, _, _, _, _, _, _, _, _, s.d, rfl, Nat.zero_le _, rfl, HK.out.1.d, rfl, F⟩
 case round =>
  clear F
  obtain ⟨k, A1, n1, c1, B1, m1, k1, dd1, lf1, ds1, D1, rfl, hk, HZ, HO, HN, F⟩ := hrel
  by_cases hlt : k < LL.length
  ·have i1 : (k : Int) < (LL.length : Int) := by omega
   have i0 : (0 : Int) ≤ (k : Int) := by omega
   obtain ⟨f, hf⟩ : ∃ f, LL[k]? = some f := ⟨_, List.getElem?_eq_getElem hlt⟩
   obtain ⟨hRf, fi, hfi, hfl⟩ := HLR.out f (List.mem_of_getElem? hf)
   obtain ⟨b0, q0, hAF, _, hb0, hR⟩ := F.out.1.2.p (fun e => by rw [e] at hf; simp at hf)
   have hR := hR k f hf
   obtain ⟨fe, fii, fc, fp, fd⟩ := f
   have hfi : fii = (fi : Int) := hfi
   subst hfi
   have d0 : (_ : World).cell? ⟨b0, q0 + k * 5, none⟩ = some (.int .i64 fe) := hR 0 _ rfl
   have d1 : (_ : World).cell? ⟨b0, q0 + k * 5 + 1, none⟩ = some (.int .i64 (fi : Int)) := hR 1 _ rfl
   have d2 : (_ : World).cell? ⟨b0, q0 + k * 5 + 2, none⟩ = some (.bool fc) := hR 2 _ rfl
   have d3 : (_ : World).cell? ⟨b0, q0 + k * 5 + 3, none⟩ = some (.int .i64 fp) := hR 3 _ rfl
   have d4 : (_ : World).cell? ⟨b0, q0 + k * 5 + 4, none⟩ = some (.string fd) := hR 4 _ rfl
   subst hAF
   have hsp : LL = LL.take k ++ ⟨fe, fi, fc, fp, fd⟩ :: LL.drop (k + 1) := by
    have := List.take_append_drop k LL
    rw [List.drop_eq_getElem_cons hlt] at this
    have hyg : LL[k] = ⟨fe, fi, fc, fp, fd⟩ := by rw [List.getElem?_eq_getElem hlt] at hf; injection hf
    rw [hyg] at this
    exact this.symm
   have HSP := Lib.hid hsp
   have HYG := Lib.hid hf
   have HRF := Lib.hid hRf
   have hlt9 : logN s.h fi < D1.n := by have := HN.out; have := HK.out.1.n; unfold logN; omega
   have hhas : D1.has ((logN s.h fi : Nat) : Int) = true := by
    unfold Dev.has
    exact decide_eq_true (by omega)
   have hsz := frameB_size hRf.small
   have HLG := Lib.hid (fun W => logN_any s.h fi W HK.out.1.h (by have := HK.out.1.h.l1; omega))
   have HPR := Lib.hid (fun W (ht : Tab W) => Fr.print_any ⟨fe, fi, fc, fp, fd⟩ W ht HRF.out)
   have HPT := Lib.hid (fun W (hd : IsDev W (.agg #[.slice A1 n1 c1, .slice B1 m1 k1, .bool dd1, .int .i64 lf1, .int .i64 ds1]) D1) => slabPut _ D1 (logN s.h fi : Nat) (frameB ⟨fe, fi, fc, fp, fd⟩) W hd HO.out (by have := HK.out.2; omega) (by omega) hhas)
   have ho2 := putR_ok HO.out (frameB ⟨fe, fi, fc, fp, fd⟩) hhas (by omega)
   have hn2 := (putR_n D1 (logN s.h fi : Nat) (frameB ⟨fe, fi, fc, fp, fd⟩)).trans HN.out
   obtain ⟨R, hR2⟩ : ∃ R, putR D1 (logN s.h fi : Nat) (frameB ⟨fe, fi, fc, fp, fd⟩) = R := ⟨_, rfl⟩
   rw [hR2] at HPT ho2 hn2
   obtain ⟨D2, er⟩ := R
   have HN2 := Lib.hid (show 1 ≤ D2.n by rw [show D2.n = s.d.n from hn2]; exact HK.out.1.d.n1)
   have HO2 := Lib.hid (And.intro ho2 hn2)
   have HR2 := Lib.hid hR2
   unfold cellsF at HPR
   clear hR2 ho2 hn2 hhas hsz hlt9 hsp hf hRf hR hb0 hfl
   go_upto_region 5 with (first
    | ((with_reducible (show wpList _ _ _ (Oper.mk _ (Op.load _ _) _ _ _ none :: _) _ _)); first | refine Fv.ldN F rfl rfl rfl (by repeat constructor) (by repeat constructor) ?_ | refine Fv.ld1 F rfl rfl rfl (by repeat constructor) (by repeat constructor) ?_)
    | ((with_reducible (show wpList _ _ _ (Oper.mk _ (Op.store _ _ _) _ _ _ none :: _) _ _)); (first | refine Fv.stN F rfl rfl rfl rfl rfl (by first | rfl | simp [Value.oneCell']) (by repeat constructor) ?_ | refine Fv.st1 F rfl rfl rfl (by first | exact (rfl : _ = Value.int _ _) | exact (rfl : _ = Value.slice _ _ _) | exact (rfl : _ = Value.bool _) | exact (rfl : _ = Value.string _)) (by rfl) (by repeat constructor) ?_); clear F; intro W F)
    | ((with_reducible (show wpList _ _ _ (Oper.mk _ (Op.alloc _) _ _ _ none :: _) _ _)); refine Fv.al F rfl rfl ?_; clear F; intro g W hs1 hs2 F; clear hs1 hs2))
   clear d0 d1 d2 d3 d4
   replace F := F.drew
   refine Lex.region_tree (ops := loops) lotree (Fv.ClsB _ _) (by kernel_rfl) (by kernel_rfl) losel lolex ⟨F.B, F.cls (Fv.Inc.cons Fv.VIn.head (Fv.Inc.cons (Fv.VIn.tail Fv.VIn.head) (Fv.Inc.cons (Fv.VIn.tail (Fv.VIn.tail (Fv.VIn.tail Fv.VIn.head))) Fv.Inc.nil)))⟩ ?_
   unfold lotree
   refine Lex.tree_take _ lo0 (Lex.want_none rfl) (by intro Wx hSw; exact Fv.run_loadNC hSw.2 rfl rfl Fv.rt_Slab (by repeat constructor) (by repeat constructor)) ?_
   simp only [Act.put, List.setIfInBounds_toArray, List.set_cons_zero, List.set_cons_succ]
   refine Lex.tree_take _ lo1 (Lex.want_none rfl) (by intro Wx hSw; clear hSw; go_simp; try (first | (with_reducible rfl) | rfl)) ?_
   simp only [Act.put, List.setIfInBounds_toArray, List.set_cons_zero, List.set_cons_succ]
   refine Lex.tree_take _ lo2 (Lex.want_none rfl) (by intro Wx hSw; exact Fv.run_loadNC hSw.2 rfl rfl Fv.rt_Head (by repeat constructor) (by repeat constructor)) ?_
   simp only [Act.put, List.setIfInBounds_toArray, List.set_cons_zero, List.set_cons_succ]
   refine Lex.tree_take _ lo3 (Lex.want_none rfl) (by intro Wx hSw; clear hSw; go_simp; try (first | (with_reducible rfl) | rfl)) ?_
   simp only [Act.put, List.setIfInBounds_toArray, List.set_cons_zero, List.set_cons_succ]
   refine Lex.tree_take _ lo4 (Lex.want_none rfl) (by intro Wx hSw; exact Fv.run_load1C hSw.2 rfl rfl Fv.ot_int (by repeat constructor) (by repeat constructor)) ?_
   simp only [Act.put, List.setIfInBounds_toArray, List.set_cons_zero, List.set_cons_succ]
   refine Lex.tree_take _ lo6 (Lex.want_none rfl) (by intro Wx hSw; exact Fv.run_loadNC hSw.2 rfl rfl Fv.rt_Frame (by repeat constructor) (by repeat constructor)) ?_
   simp only [Act.put, List.setIfInBounds_toArray, List.set_cons_zero, List.set_cons_succ]
   refine Lex.tree_call lo5 (Lex.want_none rfl) (fun K hK => ?_) ?_
   ·go_simp
    refine (HLG.out _).mono ?_
    rintro e4 w4 ⟨rfl, hv⟩
    replace F := F.call hv
    clear hv
    refine hK.out _ _ _ (fun _ h => h) ⟨F.B, F.cls (by (repeat (first | exact Fv.Inc.nil | apply Fv.Inc.cons | exact Fv.VIn.head | apply Fv.VIn.tail)); done)⟩ ?_
    clear hK K
    try simp only [Act.put, List.setIfInBounds_toArray, List.set_cons_zero, List.set_cons_succ]
    refine Lex.tree_call lo7 (Lex.want_none rfl) (fun K hK => ?_) ?_
    ·go_simp
     refine (HPR.out _ (HT.out.below F.B)).mono ?_
     rintro e5 w5 ⟨rfl, hv⟩
     replace F := F.call hv
     clear hv
     refine hK.out _ _ _ (fun _ h => h) ⟨F.B, F.cls (by (repeat (first | exact Fv.Inc.nil | apply Fv.Inc.cons | exact Fv.VIn.head | apply Fv.VIn.tail)); done)⟩ ?_
     clear hK K
     try simp only [Act.put, List.setIfInBounds_toArray, List.set_cons_zero, List.set_cons_succ]
     refine Lex.tree_call lo8 (Lex.want_none rfl) (fun K hK => ?_) ?_
     ·go_simp
      refine (HPT.out _ F.out.2.dev).mono ?_
      rintro e6 w6 ⟨v2, rfl, hD2, hv⟩
      replace F := F.call hv
      clear hv
      obtain ⟨A2, n2, c2, B2, m2, k2, dd2, lf2, ds2, rfl⟩ := dev_form hD2
      replace F := addDev F hD2 HN2.out rfl
      clear hD2
      refine hK.out _ _ _ (fun _ h => h) ⟨F.B, F.cls (by (repeat (first | exact Fv.Inc.nil | apply Fv.Inc.cons | exact Fv.VIn.head | apply Fv.VIn.tail)); done)⟩ ?_
      clear hK K
      try simp only [Act.put, List.setIfInBounds_toArray, List.set_cons_zero, List.set_cons_succ]
      refine Lex.tree_take _ lo9 (Lex.want_none rfl) (by intro Wx hSw; clear hSw; go_simp; try (first | (with_reducible rfl) | rfl)) ?_
      simp only [Act.put, List.setIfInBounds_toArray, List.set_cons_zero, List.set_cons_succ]
      refine Lex.tree_take _ lo10 (Lex.want_none rfl) (by intro Wx hSw; clear hSw; go_simp; try (first | (with_reducible rfl) | rfl)) ?_
      simp only [Act.put, List.setIfInBounds_toArray, List.set_cons_zero, List.set_cons_succ]
      refine Lex.tree_take _ lo11 (Lex.want_none rfl) (by intro Wx hSw; clear hSw; go_simp; try (first | (with_reducible rfl) | rfl)) ?_
      simp only [Act.put, List.setIfInBounds_toArray, List.set_cons_zero, List.set_cons_succ]
      refine Lex.tree_call lo12 (Lex.want_none rfl) (fun K hK => ?_) Lex.tree_no
      refine Fv.wp_alloc F rfl (by first | exact Fv.zt_Slab | exact Fv.zt_Head | exact Fv.zt_Frame | exact Fv.zt_Clock | exact Fv.zt_Page | exact Fv.zt_Image | exact Fv.zt_Store) ?_; clear F; intro g W hs1 hs2 F; clear hs1 hs2
      refine hK.out _ _ _ (fun _ h => h) ⟨F.B, F.cls (by (repeat (first | exact Fv.Inc.nil | apply Fv.Inc.cons | exact Fv.VIn.head | apply Fv.VIn.tail)); done)⟩ ?_
      clear hK K
      try simp only [Act.put, List.setIfInBounds_toArray, List.set_cons_zero, List.set_cons_succ]
      refine Lex.tree_call lo13 (Lex.want_none rfl) (fun K hK => ?_) Lex.tree_no
      refine Fv.wp_storeN F rfl rfl rfl Fv.rt_Slab rfl (by first | rfl | simp [Value.oneCell']) (by repeat constructor) ?_; clear F; intro W F
      refine hK.out _ _ _ (fun _ h => h) ⟨F.B, F.cls (by (repeat (first | exact Fv.Inc.nil | apply Fv.Inc.cons | exact Fv.VIn.head | apply Fv.VIn.tail)); done)⟩ ?_
      clear hK K
      try simp only [Act.put, List.setIfInBounds_toArray, List.set_cons_zero, List.set_cons_succ]
      refine Lex.tree_take _ lo14 (Lex.want_none rfl) (by intro Wx hSw; clear hSw; go_simp; try (first | (with_reducible rfl) | rfl)) ?_
      simp only [Act.put, List.setIfInBounds_toArray, List.set_cons_zero, List.set_cons_succ]
      refine Lex.tree_end ?_
      refine NoPanic.normal ?_
      by_cases he : er = 0
      ·subst he
       have hz2 : putsR s.h s.d (LL.take (k + 1)) = (D2, 0) := by
        rw [List.take_add_one, HYG.out]
        exact (putsR_app HZ.out).trans (putsR_next HR2.out)
       have HZ2 := Lib.hid hz2
       clear hz2
       go_wp2_with (first
        | ((with_reducible (show wpList _ _ _ (Oper.mk _ (Op.load _ _) _ _ _ none :: _) _ _)); first | refine Fv.ldN F rfl rfl rfl (by repeat constructor) (by repeat constructor) ?_ | refine Fv.ld1 F rfl rfl rfl (by repeat constructor) (by repeat constructor) ?_)
        | ((with_reducible (show wpList _ _ _ (Oper.mk _ (Op.store _ _ _) _ _ _ none :: _) _ _)); (first | refine Fv.stN F rfl rfl rfl rfl rfl (by first | rfl | simp [Value.oneCell']) (by repeat constructor) ?_ | refine Fv.st1 F rfl rfl rfl (by first | exact (rfl : _ = Value.int _ _) | exact (rfl : _ = Value.slice _ _ _) | exact (rfl : _ = Value.bool _) | exact (rfl : _ = Value.string _)) (by rfl) (by repeat constructor) ?_); clear F; intro W F)
        | ((with_reducible (show wpList _ _ _ (Oper.mk _ (Op.alloc _) _ _ _ none :: _) _ _)); refine Fv.al F rfl rfl ?_; clear F; intro g W hs1 hs2 F; clear hs1 hs2))
       go_roundw
       case rel => exact ⟨k + 1, _, _, _, _, _, _, _, _, _, D2, by go_num, by omega, HZ2, HO2.out.1, HO2.out.2, (F.weak (fun _ _ h => ⟨h.1.1, h.2⟩)).tail.tail⟩
       case measure => simp [intOf]; omega
      ·have HE := Lib.hid (loggedR_err (s := s) (by rw [HLE.out, HSP.out, putsR_app HZ.out]; exact putsR_err HR2.out he) he)
       go_wp2_with (first
        | ((with_reducible (show wpList _ _ _ (Oper.mk _ (Op.load _ _) _ _ _ none :: _) _ _)); first | refine Fv.ldN F rfl rfl rfl (by repeat constructor) (by repeat constructor) ?_ | refine Fv.ld1 F rfl rfl rfl (by repeat constructor) (by repeat constructor) ?_)
        | ((with_reducible (show wpList _ _ _ (Oper.mk _ (Op.store _ _ _) _ _ _ none :: _) _ _)); (first | refine Fv.stN F rfl rfl rfl rfl rfl (by first | rfl | simp [Value.oneCell']) (by repeat constructor) ?_ | refine Fv.st1 F rfl rfl rfl (by first | exact (rfl : _ = Value.int _ _) | exact (rfl : _ = Value.slice _ _ _) | exact (rfl : _ = Value.bool _) | exact (rfl : _ = Value.string _)) (by rfl) (by repeat constructor) ?_); clear F; intro W F)
        | ((with_reducible (show wpList _ _ _ (Oper.mk _ (Op.alloc _) _ _ _ none :: _) _ _)); refine Fv.al F rfl rfl ?_; clear F; intro g W hs1 hs2 F; clear hs1 hs2))
       refine bodyPost_ret (res_cT F rfl rfl Fv.rt_Slab (by repeat constructor) rfl) rfl ?_
       rw [← HP.out, HE.out]
       exact ⟨_, rfl, F.out.2.dev, F.B⟩
     refine Lex.tree_call lo12 (Lex.want_none rfl) (fun K hK => ?_) Lex.tree_no
     refine Fv.wp_alloc F rfl (by first | exact Fv.zt_Slab | exact Fv.zt_Head | exact Fv.zt_Frame | exact Fv.zt_Clock | exact Fv.zt_Page | exact Fv.zt_Image | exact Fv.zt_Store) ?_; clear F; intro g W hs1 hs2 F; clear hs1 hs2
     refine hK.out _ _ _ (fun _ h => h) ⟨F.B, F.cls (by (repeat (first | exact Fv.Inc.nil | apply Fv.Inc.cons | exact Fv.VIn.head | apply Fv.VIn.tail)); done)⟩ ?_
     clear hK K
     try simp only [Act.put, List.setIfInBounds_toArray, List.set_cons_zero, List.set_cons_succ]
     refine Lex.tree_call lo8 (Lex.want_none rfl) (fun K hK => ?_) Lex.tree_no
     go_simp
     refine (HPT.out _ F.out.2.dev).mono ?_
     rintro e6 w6 ⟨v2, rfl, hD2, hv⟩
     replace F := F.call hv
     clear hv
     obtain ⟨A2, n2, c2, B2, m2, k2, dd2, lf2, ds2, rfl⟩ := dev_form hD2
     replace F := addDev F hD2 HN2.out rfl
     clear hD2
     refine hK.out _ _ _ (fun _ h => h) ⟨F.B, F.cls (by (repeat (first | exact Fv.Inc.nil | apply Fv.Inc.cons | exact Fv.VIn.head | apply Fv.VIn.tail)); done)⟩ ?_
     clear hK K
     try simp only [Act.put, List.setIfInBounds_toArray, List.set_cons_zero, List.set_cons_succ]
     refine Lex.tree_take _ lo9 (Lex.want_none rfl) (by intro Wx hSw; clear hSw; go_simp; try (first | (with_reducible rfl) | rfl)) ?_
     simp only [Act.put, List.setIfInBounds_toArray, List.set_cons_zero, List.set_cons_succ]
     refine Lex.tree_take _ lo10 (Lex.want_none rfl) (by intro Wx hSw; clear hSw; go_simp; try (first | (with_reducible rfl) | rfl)) ?_
     simp only [Act.put, List.setIfInBounds_toArray, List.set_cons_zero, List.set_cons_succ]
     refine Lex.tree_take _ lo11 (Lex.want_none rfl) (by intro Wx hSw; clear hSw; go_simp; try (first | (with_reducible rfl) | rfl)) ?_
     simp only [Act.put, List.setIfInBounds_toArray, List.set_cons_zero, List.set_cons_succ]
     refine Lex.tree_call lo13 (Lex.want_none rfl) (fun K hK => ?_) Lex.tree_no
     refine Fv.wp_storeN F rfl rfl rfl Fv.rt_Slab rfl (by first | rfl | simp [Value.oneCell']) (by repeat constructor) ?_; clear F; intro W F
     refine hK.out _ _ _ (fun _ h => h) ⟨F.B, F.cls (by (repeat (first | exact Fv.Inc.nil | apply Fv.Inc.cons | exact Fv.VIn.head | apply Fv.VIn.tail)); done)⟩ ?_
     clear hK K
     try simp only [Act.put, List.setIfInBounds_toArray, List.set_cons_zero, List.set_cons_succ]
     refine Lex.tree_take _ lo14 (Lex.want_none rfl) (by intro Wx hSw; clear hSw; go_simp; try (first | (with_reducible rfl) | rfl)) ?_
     simp only [Act.put, List.setIfInBounds_toArray, List.set_cons_zero, List.set_cons_succ]
     refine Lex.tree_end ?_
     refine NoPanic.normal ?_
     by_cases he : er = 0
     ·subst he
      have hz2 : putsR s.h s.d (LL.take (k + 1)) = (D2, 0) := by
       rw [List.take_add_one, HYG.out]
       exact (putsR_app HZ.out).trans (putsR_next HR2.out)
      have HZ2 := Lib.hid hz2
      clear hz2
      go_wp2_with (first
       | ((with_reducible (show wpList _ _ _ (Oper.mk _ (Op.load _ _) _ _ _ none :: _) _ _)); first | refine Fv.ldN F rfl rfl rfl (by repeat constructor) (by repeat constructor) ?_ | refine Fv.ld1 F rfl rfl rfl (by repeat constructor) (by repeat constructor) ?_)
       | ((with_reducible (show wpList _ _ _ (Oper.mk _ (Op.store _ _ _) _ _ _ none :: _) _ _)); (first | refine Fv.stN F rfl rfl rfl rfl rfl (by first | rfl | simp [Value.oneCell']) (by repeat constructor) ?_ | refine Fv.st1 F rfl rfl rfl (by first | exact (rfl : _ = Value.int _ _) | exact (rfl : _ = Value.slice _ _ _) | exact (rfl : _ = Value.bool _) | exact (rfl : _ = Value.string _)) (by rfl) (by repeat constructor) ?_); clear F; intro W F)
       | ((with_reducible (show wpList _ _ _ (Oper.mk _ (Op.alloc _) _ _ _ none :: _) _ _)); refine Fv.al F rfl rfl ?_; clear F; intro g W hs1 hs2 F; clear hs1 hs2))
      go_roundw
      case rel => exact ⟨k + 1, _, _, _, _, _, _, _, _, _, D2, by go_num, by omega, HZ2, HO2.out.1, HO2.out.2, (F.weak (fun _ _ h => ⟨h.1.1, h.2⟩)).tail.tail⟩
      case measure => simp [intOf]; omega
     ·have HE := Lib.hid (loggedR_err (s := s) (by rw [HLE.out, HSP.out, putsR_app HZ.out]; exact putsR_err HR2.out he) he)
      go_wp2_with (first
       | ((with_reducible (show wpList _ _ _ (Oper.mk _ (Op.load _ _) _ _ _ none :: _) _ _)); first | refine Fv.ldN F rfl rfl rfl (by repeat constructor) (by repeat constructor) ?_ | refine Fv.ld1 F rfl rfl rfl (by repeat constructor) (by repeat constructor) ?_)
       | ((with_reducible (show wpList _ _ _ (Oper.mk _ (Op.store _ _ _) _ _ _ none :: _) _ _)); (first | refine Fv.stN F rfl rfl rfl rfl rfl (by first | rfl | simp [Value.oneCell']) (by repeat constructor) ?_ | refine Fv.st1 F rfl rfl rfl (by first | exact (rfl : _ = Value.int _ _) | exact (rfl : _ = Value.slice _ _ _) | exact (rfl : _ = Value.bool _) | exact (rfl : _ = Value.string _)) (by rfl) (by repeat constructor) ?_); clear F; intro W F)
       | ((with_reducible (show wpList _ _ _ (Oper.mk _ (Op.alloc _) _ _ _ none :: _) _ _)); refine Fv.al F rfl rfl ?_; clear F; intro g W hs1 hs2 F; clear hs1 hs2))
      refine bodyPost_ret (res_cT F rfl rfl Fv.rt_Slab (by repeat constructor) rfl) rfl ?_
      rw [← HP.out, HE.out]
      exact ⟨_, rfl, F.out.2.dev, F.B⟩
    refine Lex.tree_call lo12 (Lex.want_none rfl) (fun K hK => ?_) Lex.tree_no
    refine Fv.wp_alloc F rfl (by first | exact Fv.zt_Slab | exact Fv.zt_Head | exact Fv.zt_Frame | exact Fv.zt_Clock | exact Fv.zt_Page | exact Fv.zt_Image | exact Fv.zt_Store) ?_; clear F; intro g W hs1 hs2 F; clear hs1 hs2
    refine hK.out _ _ _ (fun _ h => h) ⟨F.B, F.cls (by (repeat (first | exact Fv.Inc.nil | apply Fv.Inc.cons | exact Fv.VIn.head | apply Fv.VIn.tail)); done)⟩ ?_
    clear hK K
    try simp only [Act.put, List.setIfInBounds_toArray, List.set_cons_zero, List.set_cons_succ]
    refine Lex.tree_call lo7 (Lex.want_none rfl) (fun K hK => ?_) Lex.tree_no
    go_simp
    refine (HPR.out _ (HT.out.below F.B)).mono ?_
    rintro e5 w5 ⟨rfl, hv⟩
    replace F := F.call hv
    clear hv
    refine hK.out _ _ _ (fun _ h => h) ⟨F.B, F.cls (by (repeat (first | exact Fv.Inc.nil | apply Fv.Inc.cons | exact Fv.VIn.head | apply Fv.VIn.tail)); done)⟩ ?_
    clear hK K
    try simp only [Act.put, List.setIfInBounds_toArray, List.set_cons_zero, List.set_cons_succ]
    refine Lex.tree_call lo8 (Lex.want_none rfl) (fun K hK => ?_) Lex.tree_no
    go_simp
    refine (HPT.out _ F.out.2.dev).mono ?_
    rintro e6 w6 ⟨v2, rfl, hD2, hv⟩
    replace F := F.call hv
    clear hv
    obtain ⟨A2, n2, c2, B2, m2, k2, dd2, lf2, ds2, rfl⟩ := dev_form hD2
    replace F := addDev F hD2 HN2.out rfl
    clear hD2
    refine hK.out _ _ _ (fun _ h => h) ⟨F.B, F.cls (by (repeat (first | exact Fv.Inc.nil | apply Fv.Inc.cons | exact Fv.VIn.head | apply Fv.VIn.tail)); done)⟩ ?_
    clear hK K
    try simp only [Act.put, List.setIfInBounds_toArray, List.set_cons_zero, List.set_cons_succ]
    refine Lex.tree_take _ lo9 (Lex.want_none rfl) (by intro Wx hSw; clear hSw; go_simp; try (first | (with_reducible rfl) | rfl)) ?_
    simp only [Act.put, List.setIfInBounds_toArray, List.set_cons_zero, List.set_cons_succ]
    refine Lex.tree_take _ lo10 (Lex.want_none rfl) (by intro Wx hSw; clear hSw; go_simp; try (first | (with_reducible rfl) | rfl)) ?_
    simp only [Act.put, List.setIfInBounds_toArray, List.set_cons_zero, List.set_cons_succ]
    refine Lex.tree_take _ lo11 (Lex.want_none rfl) (by intro Wx hSw; clear hSw; go_simp; try (first | (with_reducible rfl) | rfl)) ?_
    simp only [Act.put, List.setIfInBounds_toArray, List.set_cons_zero, List.set_cons_succ]
    refine Lex.tree_call lo13 (Lex.want_none rfl) (fun K hK => ?_) Lex.tree_no
    refine Fv.wp_storeN F rfl rfl rfl Fv.rt_Slab rfl (by first | rfl | simp [Value.oneCell']) (by repeat constructor) ?_; clear F; intro W F
    refine hK.out _ _ _ (fun _ h => h) ⟨F.B, F.cls (by (repeat (first | exact Fv.Inc.nil | apply Fv.Inc.cons | exact Fv.VIn.head | apply Fv.VIn.tail)); done)⟩ ?_
    clear hK K
    try simp only [Act.put, List.setIfInBounds_toArray, List.set_cons_zero, List.set_cons_succ]
    refine Lex.tree_take _ lo14 (Lex.want_none rfl) (by intro Wx hSw; clear hSw; go_simp; try (first | (with_reducible rfl) | rfl)) ?_
    simp only [Act.put, List.setIfInBounds_toArray, List.set_cons_zero, List.set_cons_succ]
    refine Lex.tree_end ?_
    refine NoPanic.normal ?_
    by_cases he : er = 0
    ·subst he
     have hz2 : putsR s.h s.d (LL.take (k + 1)) = (D2, 0) := by
      rw [List.take_add_one, HYG.out]
      exact (putsR_app HZ.out).trans (putsR_next HR2.out)
     have HZ2 := Lib.hid hz2
     clear hz2
     go_wp2_with (first
      | ((with_reducible (show wpList _ _ _ (Oper.mk _ (Op.load _ _) _ _ _ none :: _) _ _)); first | refine Fv.ldN F rfl rfl rfl (by repeat constructor) (by repeat constructor) ?_ | refine Fv.ld1 F rfl rfl rfl (by repeat constructor) (by repeat constructor) ?_)
      | ((with_reducible (show wpList _ _ _ (Oper.mk _ (Op.store _ _ _) _ _ _ none :: _) _ _)); (first | refine Fv.stN F rfl rfl rfl rfl rfl (by first | rfl | simp [Value.oneCell']) (by repeat constructor) ?_ | refine Fv.st1 F rfl rfl rfl (by first | exact (rfl : _ = Value.int _ _) | exact (rfl : _ = Value.slice _ _ _) | exact (rfl : _ = Value.bool _) | exact (rfl : _ = Value.string _)) (by rfl) (by repeat constructor) ?_); clear F; intro W F)
      | ((with_reducible (show wpList _ _ _ (Oper.mk _ (Op.alloc _) _ _ _ none :: _) _ _)); refine Fv.al F rfl rfl ?_; clear F; intro g W hs1 hs2 F; clear hs1 hs2))
     go_roundw
     case rel => exact ⟨k + 1, _, _, _, _, _, _, _, _, _, D2, by go_num, by omega, HZ2, HO2.out.1, HO2.out.2, (F.weak (fun _ _ h => ⟨h.1.1, h.2⟩)).tail.tail⟩
     case measure => simp [intOf]; omega
    ·have HE := Lib.hid (loggedR_err (s := s) (by rw [HLE.out, HSP.out, putsR_app HZ.out]; exact putsR_err HR2.out he) he)
     go_wp2_with (first
      | ((with_reducible (show wpList _ _ _ (Oper.mk _ (Op.load _ _) _ _ _ none :: _) _ _)); first | refine Fv.ldN F rfl rfl rfl (by repeat constructor) (by repeat constructor) ?_ | refine Fv.ld1 F rfl rfl rfl (by repeat constructor) (by repeat constructor) ?_)
      | ((with_reducible (show wpList _ _ _ (Oper.mk _ (Op.store _ _ _) _ _ _ none :: _) _ _)); (first | refine Fv.stN F rfl rfl rfl rfl rfl (by first | rfl | simp [Value.oneCell']) (by repeat constructor) ?_ | refine Fv.st1 F rfl rfl rfl (by first | exact (rfl : _ = Value.int _ _) | exact (rfl : _ = Value.slice _ _ _) | exact (rfl : _ = Value.bool _) | exact (rfl : _ = Value.string _)) (by rfl) (by repeat constructor) ?_); clear F; intro W F)
      | ((with_reducible (show wpList _ _ _ (Oper.mk _ (Op.alloc _) _ _ _ none :: _) _ _)); refine Fv.al F rfl rfl ?_; clear F; intro g W hs1 hs2 F; clear hs1 hs2))
     refine bodyPost_ret (res_cT F rfl rfl Fv.rt_Slab (by repeat constructor) rfl) rfl ?_
     rw [← HP.out, HE.out]
     exact ⟨_, rfl, F.out.2.dev, F.B⟩
   refine Lex.tree_call lo12 (Lex.want_none rfl) (fun K hK => ?_) Lex.tree_no
   refine Fv.wp_alloc F rfl (by first | exact Fv.zt_Slab | exact Fv.zt_Head | exact Fv.zt_Frame | exact Fv.zt_Clock | exact Fv.zt_Page | exact Fv.zt_Image | exact Fv.zt_Store) ?_; clear F; intro g W hs1 hs2 F; clear hs1 hs2
   refine hK.out _ _ _ (fun _ h => h) ⟨F.B, F.cls (by (repeat (first | exact Fv.Inc.nil | apply Fv.Inc.cons | exact Fv.VIn.head | apply Fv.VIn.tail)); done)⟩ ?_
   clear hK K
   try simp only [Act.put, List.setIfInBounds_toArray, List.set_cons_zero, List.set_cons_succ]
   refine Lex.tree_call lo5 (Lex.want_none rfl) (fun K hK => ?_) Lex.tree_no
   go_simp
   refine (HLG.out _).mono ?_
   rintro e4 w4 ⟨rfl, hv⟩
   replace F := F.call hv
   clear hv
   refine hK.out _ _ _ (fun _ h => h) ⟨F.B, F.cls (by (repeat (first | exact Fv.Inc.nil | apply Fv.Inc.cons | exact Fv.VIn.head | apply Fv.VIn.tail)); done)⟩ ?_
   clear hK K
   try simp only [Act.put, List.setIfInBounds_toArray, List.set_cons_zero, List.set_cons_succ]
   refine Lex.tree_call lo7 (Lex.want_none rfl) (fun K hK => ?_) Lex.tree_no
   go_simp
   refine (HPR.out _ (HT.out.below F.B)).mono ?_
   rintro e5 w5 ⟨rfl, hv⟩
   replace F := F.call hv
   clear hv
   refine hK.out _ _ _ (fun _ h => h) ⟨F.B, F.cls (by (repeat (first | exact Fv.Inc.nil | apply Fv.Inc.cons | exact Fv.VIn.head | apply Fv.VIn.tail)); done)⟩ ?_
   clear hK K
   try simp only [Act.put, List.setIfInBounds_toArray, List.set_cons_zero, List.set_cons_succ]
   refine Lex.tree_call lo8 (Lex.want_none rfl) (fun K hK => ?_) Lex.tree_no
   go_simp
   refine (HPT.out _ F.out.2.dev).mono ?_
   rintro e6 w6 ⟨v2, rfl, hD2, hv⟩
   replace F := F.call hv
   clear hv
   obtain ⟨A2, n2, c2, B2, m2, k2, dd2, lf2, ds2, rfl⟩ := dev_form hD2
   replace F := addDev F hD2 HN2.out rfl
   clear hD2
   refine hK.out _ _ _ (fun _ h => h) ⟨F.B, F.cls (by (repeat (first | exact Fv.Inc.nil | apply Fv.Inc.cons | exact Fv.VIn.head | apply Fv.VIn.tail)); done)⟩ ?_
   clear hK K
   try simp only [Act.put, List.setIfInBounds_toArray, List.set_cons_zero, List.set_cons_succ]
   refine Lex.tree_take _ lo9 (Lex.want_none rfl) (by intro Wx hSw; clear hSw; go_simp; try (first | (with_reducible rfl) | rfl)) ?_
   simp only [Act.put, List.setIfInBounds_toArray, List.set_cons_zero, List.set_cons_succ]
   refine Lex.tree_take _ lo10 (Lex.want_none rfl) (by intro Wx hSw; clear hSw; go_simp; try (first | (with_reducible rfl) | rfl)) ?_
   simp only [Act.put, List.setIfInBounds_toArray, List.set_cons_zero, List.set_cons_succ]
   refine Lex.tree_take _ lo11 (Lex.want_none rfl) (by intro Wx hSw; clear hSw; go_simp; try (first | (with_reducible rfl) | rfl)) ?_
   simp only [Act.put, List.setIfInBounds_toArray, List.set_cons_zero, List.set_cons_succ]
   refine Lex.tree_call lo13 (Lex.want_none rfl) (fun K hK => ?_) Lex.tree_no
   refine Fv.wp_storeN F rfl rfl rfl Fv.rt_Slab rfl (by first | rfl | simp [Value.oneCell']) (by repeat constructor) ?_; clear F; intro W F
   refine hK.out _ _ _ (fun _ h => h) ⟨F.B, F.cls (by (repeat (first | exact Fv.Inc.nil | apply Fv.Inc.cons | exact Fv.VIn.head | apply Fv.VIn.tail)); done)⟩ ?_
   clear hK K
   try simp only [Act.put, List.setIfInBounds_toArray, List.set_cons_zero, List.set_cons_succ]
   refine Lex.tree_take _ lo14 (Lex.want_none rfl) (by intro Wx hSw; clear hSw; go_simp; try (first | (with_reducible rfl) | rfl)) ?_
   simp only [Act.put, List.setIfInBounds_toArray, List.set_cons_zero, List.set_cons_succ]
   refine Lex.tree_end ?_
   refine NoPanic.normal ?_
   by_cases he : er = 0
   ·subst he
    have hz2 : putsR s.h s.d (LL.take (k + 1)) = (D2, 0) := by
     rw [List.take_add_one, HYG.out]
     exact (putsR_app HZ.out).trans (putsR_next HR2.out)
    have HZ2 := Lib.hid hz2
    clear hz2
    go_wp2_with (first
     | ((with_reducible (show wpList _ _ _ (Oper.mk _ (Op.load _ _) _ _ _ none :: _) _ _)); first | refine Fv.ldN F rfl rfl rfl (by repeat constructor) (by repeat constructor) ?_ | refine Fv.ld1 F rfl rfl rfl (by repeat constructor) (by repeat constructor) ?_)
     | ((with_reducible (show wpList _ _ _ (Oper.mk _ (Op.store _ _ _) _ _ _ none :: _) _ _)); (first | refine Fv.stN F rfl rfl rfl rfl rfl (by first | rfl | simp [Value.oneCell']) (by repeat constructor) ?_ | refine Fv.st1 F rfl rfl rfl (by first | exact (rfl : _ = Value.int _ _) | exact (rfl : _ = Value.slice _ _ _) | exact (rfl : _ = Value.bool _) | exact (rfl : _ = Value.string _)) (by rfl) (by repeat constructor) ?_); clear F; intro W F)
     | ((with_reducible (show wpList _ _ _ (Oper.mk _ (Op.alloc _) _ _ _ none :: _) _ _)); refine Fv.al F rfl rfl ?_; clear F; intro g W hs1 hs2 F; clear hs1 hs2))
    go_roundw
    case rel => exact ⟨k + 1, _, _, _, _, _, _, _, _, _, D2, by go_num, by omega, HZ2, HO2.out.1, HO2.out.2, (F.weak (fun _ _ h => ⟨h.1.1, h.2⟩)).tail.tail⟩
    case measure => simp [intOf]; omega
   ·have HE := Lib.hid (loggedR_err (s := s) (by rw [HLE.out, HSP.out, putsR_app HZ.out]; exact putsR_err HR2.out he) he)
    go_wp2_with (first
     | ((with_reducible (show wpList _ _ _ (Oper.mk _ (Op.load _ _) _ _ _ none :: _) _ _)); first | refine Fv.ldN F rfl rfl rfl (by repeat constructor) (by repeat constructor) ?_ | refine Fv.ld1 F rfl rfl rfl (by repeat constructor) (by repeat constructor) ?_)
     | ((with_reducible (show wpList _ _ _ (Oper.mk _ (Op.store _ _ _) _ _ _ none :: _) _ _)); (first | refine Fv.stN F rfl rfl rfl rfl rfl (by first | rfl | simp [Value.oneCell']) (by repeat constructor) ?_ | refine Fv.st1 F rfl rfl rfl (by first | exact (rfl : _ = Value.int _ _) | exact (rfl : _ = Value.slice _ _ _) | exact (rfl : _ = Value.bool _) | exact (rfl : _ = Value.string _)) (by rfl) (by repeat constructor) ?_); clear F; intro W F)
     | ((with_reducible (show wpList _ _ _ (Oper.mk _ (Op.alloc _) _ _ _ none :: _) _ _)); refine Fv.al F rfl rfl ?_; clear F; intro g W hs1 hs2 F; clear hs1 hs2))
    refine bodyPost_ret (res_cT F rfl rfl Fv.rt_Slab (by repeat constructor) rfl) rfl ?_
    rw [← HP.out, HE.out]
    exact ⟨_, rfl, F.out.2.dev, F.B⟩
  ·obtain rfl : k = LL.length := by omega
   have i1 : ¬ (LL.length : Int) < (LL.length : Int) := by omega
   have hz := HZ.out
   rw [List.take_length] at hz
   have HE := Lib.hid (loggedR_good (s := s) (by rw [HLE.out]; exact hz))
   have HN4 := Lib.hid (show 1 ≤ (flushR D1).1.n by rw [flushR_n, HN.out]; exact HK.out.1.d.n1)
   clear hz
   go_wp2_with (first
    | ((with_reducible (show wpList _ _ _ (Oper.mk _ (Op.load _ _) _ _ _ none :: _) _ _)); first | refine Fv.ldN F rfl rfl rfl (by repeat constructor) (by repeat constructor) ?_ | refine Fv.ld1 F rfl rfl rfl (by repeat constructor) (by repeat constructor) ?_)
    | ((with_reducible (show wpList _ _ _ (Oper.mk _ (Op.store _ _ _) _ _ _ none :: _) _ _)); (first | refine Fv.stN F rfl rfl rfl rfl rfl (by first | rfl | simp [Value.oneCell']) (by repeat constructor) ?_ | refine Fv.st1 F rfl rfl rfl (by first | exact (rfl : _ = Value.int _ _) | exact (rfl : _ = Value.slice _ _ _) | exact (rfl : _ = Value.bool _) | exact (rfl : _ = Value.string _)) (by rfl) (by repeat constructor) ?_); clear F; intro W F)
    | ((with_reducible (show wpList _ _ _ (Oper.mk _ (Op.alloc _) _ _ _ none :: _) _ _)); refine Fv.al F rfl rfl ?_; clear F; intro g W hs1 hs2 F; clear hs1 hs2)
    | (go_at_call 141; refine (slabFlush _ D1 _ F.out.2.dev HO.out (by have := HK.out.2; omega)).mono ?_; rintro e4 w4 ⟨v4, rfl, hD4, hv⟩; replace F := F.call hv; clear hv; obtain ⟨A4, n4, c4, B4, m4, k4, dd4, lf4, ds4, rfl⟩ := dev_form hD4; replace F := addDev F hD4 HN4.out rfl; clear hD4))
   refine bodyPost_ret (res_cT F rfl rfl Fv.rt_Slab (by repeat constructor) rfl) rfl ?_
   rw [← HP.out, HE.out]
   exact ⟨_, rfl, F.out.2.dev, F.B⟩
end Go.Proofs.YtcgkbcgpnlogoaaGreatDoor.St
