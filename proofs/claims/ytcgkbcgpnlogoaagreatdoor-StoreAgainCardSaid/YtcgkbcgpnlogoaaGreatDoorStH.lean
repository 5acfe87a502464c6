/- Stores: the program's broughtHome. -/
import Derived.Test.YtcgkbcgpnlogoaaGreatDoorStG
import Derived.Test.YtcgkbcgpnlogoaaGreatDoorMgAF
namespace Go.Proofs.YtcgkbcgpnlogoaaGreatDoor.St
open Go.RowKit Go.Shelf Tal Sla Hd Fr Lf Lex
section
variable {h : H} {D D1 D2 : Dev} {l l2 : List Im} {m : Im} {t : ByteArray} {er : Int}
theorem homesR_app (hz : homesR h D l = (D1, 0)) : homesR h D (l ++ l2) = homesR h D1 l2 := by
 induction l generalizing D with
 | nil =>
  have : D = D1 := by injection hz
  subst this
  rfl
 | cons m l ih =>
  show homesR h D (m :: (l ++ l2)) = _
  rw [homesR] at hz ⊢
  by_cases h1 : (logR D h m).2.2 ≠ 0
  ·rw [if_pos h1] at hz
   injection hz with _ h2
   exact absurd h2 h1
  ·rw [if_neg h1] at hz ⊢
   by_cases h3 : (putR (logR D h m).1 (homeN m.pg) (leafB m.pg (logR D h m).2.1)).2 ≠ 0
   ·rw [if_pos h3] at hz
    rw [hz] at h3
    exact absurd rfl h3
   ·rw [if_neg h3] at hz ⊢
    exact ih hz
theorem homesR_log (hl : logR D h m = (D1, t, er)) (he : er ≠ 0) : homesR h D (m :: l) = (D1, er) := by
 unfold homesR
 rw [hl, if_pos he]
theorem homesR_put (hl : logR D h m = (D1, t, 0)) (hp : putR D1 (homeN m.pg) (leafB m.pg t) = (D2, er)) (he : er ≠ 0) : homesR h D (m :: l) = (D2, er) := by
 unfold homesR
 rw [hl, if_neg (by simp)]
 simp only [hp]
 rw [if_pos he]
theorem homesR_next (hl : logR D h m = (D1, t, 0)) (hp : putR D1 (homeN m.pg) (leafB m.pg t) = (D2, 0)) : homesR h D (m :: l) = homesR h D2 l := by
 rw [homesR, hl, if_neg (by simp)]
 simp only [hp]
 rw [if_neg (by simp)]
end
/-- A page's bytes out of the log are 200. -/
theorem logR_full {D D1 : Dev} {h : H} {m : Im} {t : ByteArray} (hl : logR D h m = (D1, t, 0)) : t.size = 200 := by
 unfold logR at hl
 by_cases h1 : (frameR D h m.at_).2.2 ≠ 0
 ·rw [if_pos h1] at hl
  injection hl with _ hl
  injection hl with _ hl
  exact absurd hl h1
 ·rw [if_neg h1] at hl
  by_cases h2 : (frameR D h m.at_).2.1.c = true ∨ (frameR D h m.at_).2.1.p ≠ m.pg
  ·rw [if_pos h2] at hl
   injection hl with _ hl
   injection hl with _ hl
   cases hl
  ·rw [if_neg h2] at hl
   injection hl with _ hl
   injection hl with hl _
   rw [← hl]
   have h3 : (frameR D h m.at_).2.1.c = false := by
    cases hc : (frameR D h m.at_).2.1.c
    ·rfl
    ·exact absurd (Or.inl hc) h2
   unfold frameR at h1 h3 ⊢
   by_cases g1 : (getR D (logN h m.at_)).2.2 ≠ 0
   ·rw [if_pos g1] at h1
    exact absurd g1 h1
   ·rw [if_neg g1] at h1 h3 ⊢
    cases hp : parseF (getR D (logN h m.at_)).2.1 with
    | none => rw [hp] at h1; exact absurd (show (2 : Int) ≠ 0 by decide) h1
    | some f =>
     rw [hp] at h1 h3
     simp only at h1 h3 ⊢
     by_cases g2 : f.e = h.e ∧ f.i = m.at_
     ·rw [if_pos g2] at h3 ⊢
      exact (Fr.parse_iff.1 hp).1.dp h3
     ·rw [if_neg g2] at h1
      exact absurd (show (2 : Int) ≠ 0 by decide) h1
theorem broughtR_err {s : S} {D : Dev} {er : Int} (h : homesR s.h s.d s.fr = (D, er)) (he : er ≠ 0) : broughtR s = (D, er) := by unfold broughtR; rw [h, if_pos he]
theorem broughtR_good {s : S} {D : Dev} (h : homesR s.h s.d s.fr = (D, 0)) : broughtR s = flushR D := by unfold broughtR; rw [h, if_neg (by simp)]
theorem homesR_n (h : H) : ∀ (l : List Im) (D : Dev), (homesR h D l).1.n = D.n
 | [], _ => rfl
 | m :: l, D => by
  unfold homesR
  split
  ·exact logR_n D h m
  ·split
   ·exact (putR_n _ _ _).trans (logR_n D h m)
   ·exact (homesR_n h l _).trans ((putR_n _ _ _).trans (logR_n D h m))
theorem broughtR_n (s : S) : (broughtR s).1.n = s.d.n := by
 unfold broughtR
 split
 ·exact homesR_n _ _ _
 ·exact (flushR_n _).trans (homesR_n _ _ _)
set_option maxRecDepth 20000 in
set_option maxHeartbeats 6400000 in
theorem brought_any {X : Nat → Prop} {K : Nat} (v : Value) (s : S) (w : World) (ht : Tab w) (hS : IsSt X w v s) (hok : OkS s K) (hK : K ≤ 90000) :
  Calls Tryz.prog 146 #[v] w (DevErr (broughtR s).1 (broughtR s).2 w) := by
 obtain ⟨A0, n0, c0, B0, m0, k0, dd0, lf0, ds0, Af, cf, Ad, cd, Ac, cc, rfl, hdev, hfr, hdi, hck, hcc⟩ := hS
 have HS := Lib.hid (And.intro hdev (And.intro hfr (And.intro hdi (And.intro hck hcc))))
 have HT := Lib.hid ht
 have HK := Lib.hid (And.intro hok hK)
 clear hdev hfr hdi hck hcc ht hok hK
 obtain ⟨post, hpost⟩ : ∃ post, DevErr (broughtR s).1 (broughtR s).2 w = post := ⟨_, rfl⟩
 rw [hpost]
 have HP := Lib.hid hpost
 clear hpost
 have hfl := HK.out.1.fl
 have F := Fv.Fr.start w
 go_enter Tryz.func146, Tryz.ntmps146
 go_upto_region 2 with (first
  | ((with_reducible (show wpList _ _ _ (Oper.mk _ (Op.load _ _) _ _ _ none :: _) _ _)); first | refine Fv.ldN F rfl rfl rfl (by repeat constructor) (by repeat constructor) ?_ | refine Fv.ld1 F rfl rfl rfl (by repeat constructor) (by repeat constructor) ?_)
  | ((with_reducible (show wpList _ _ _ (Oper.mk _ (Op.store _ _ _) _ _ _ none :: _) _ _)); (first | refine Fv.stN F rfl rfl rfl rfl rfl (by first | rfl | simp [Value.oneCell']) (by repeat constructor) ?_ | refine Fv.st1 F rfl rfl rfl (by first | exact (rfl : _ = Value.int _ _) | exact (rfl : _ = Value.slice _ _ _) | exact (rfl : _ = Value.bool _) | exact (rfl : _ = Value.string _)) (by rfl) (by repeat constructor) ?_); clear F; intro W F)
  | ((with_reducible (show wpList _ _ _ (Oper.mk _ (Op.alloc _) _ _ _ none :: _) _ _)); refine Fv.al F rfl rfl ?_; clear F; intro g W hs1 hs2 F; clear hs1 hs2)
  | ((with_reducible (show wpList _ _ _ (Oper.mk _ (Op.box _ _) _ _ _ none :: _) _ _)); refine Fv.wpL_box F rfl rfl rfl rfl ?_; clear F; intro gb W hs1 hs2 F; clear hs1 hs2))
 replace F := addDev F (HS.out.1.below F.B (Nat.le_refl _)) HK.out.1.d.n1 rfl
 go_loopw [12] (fun s12 wr => ∃ (k : Nat) (A1 : Option Addr) (n1 c1 : Nat) (B1 : Option Addr) (m1 k1 : Nat) (dd1 : Bool) (lf1 ds1 : Int) (D1 : Dev), s12 = .int .i64 (k : Nat) ∧ k ≤ s.fr.length ∧ Hid (homesR s.h s.d (s.fr.take k) = (D1, 0)) ∧ Hid (D1.Ok (K + 2 * k)) ∧ Hid (D1.n = s.d.n) ∧ Fv.Fr w wr [(g, 28, [.slice none 0 0, .slice none 0 0, .bool false, .int .i64 0, .int .i64 0]), (gb, 37, [.slice A1 n1 c1, .slice B1 m1 k1, .bool dd1, .int .i64 lf1, .int .i64 ds1, .int .i64 s.h.p, .int .i64 s.h.l, .int .i64 s.h.e, .int .i64 (s.t : Nat), .slice Af s.fr.length cf, .slice Ad s.di.length cd, .slice Ac s.c.l.length cc, .int .i64 (s.c.h : Nat)])] (fun L w => True ∧ DevF (.agg #[.slice A1 n1 c1, .slice B1 m1 k1, .bool dd1, .int .i64 lf1, .int .i64 ds1]) D1 L w)) (fun s12 _ => s.fr.length - (intOf s12).toNat)
 case atStart => exact ⟨0, _, _, _, _, _, _, _, _, _, s.d, rfl, Nat.zero_le _, rfl, HK.out.1.d, rfl, F⟩
 case round =>
  clear F
  obtain ⟨k, A1, n1, c1, B1, m1, k1, dd1, lf1, ds1, D1, rfl, hk, HZ, HO, HN, F⟩ := hrel
  by_cases hlt : k < s.fr.length
  ·have i1 : (k : Int) < (s.fr.length : Int) := by omega
   have i0 : (0 : Int) ≤ (k : Int) := by omega
   obtain ⟨y, hy⟩ : ∃ y, s.fr[k]? = some y := ⟨_, List.getElem?_eq_getElem hlt⟩
   obtain ⟨b0, q0, hAf, _, hb0, hR⟩ := SlI.HasE.at HS.out.2.1.p hy
   have d0 : (_ : World).cell? ⟨b0, q0 + k * 2, none⟩ = some (.int .i64 (y.pg : Nat)) := (F.B.cell (p := ⟨b0, q0 + k * 2, none⟩) hb0).trans (hR 0 _ rfl)
   have d1 : (_ : World).cell? ⟨b0, q0 + k * 2 + 1, none⟩ = some (.int .i64 (y.at_ : Nat)) := (F.B.cell (p := ⟨b0, q0 + k * 2 + 1, none⟩) hb0).trans (hR 1 _ rfl)
   subst hAf
   have HY := Lib.hid (HK.out.1.fi y (List.mem_of_getElem? hy))
   have hsp : s.fr = s.fr.take k ++ y :: s.fr.drop (k + 1) := by
    have := List.take_append_drop k s.fr
    rw [List.drop_eq_getElem_cons hlt] at this
    have hyg : s.fr[k] = y := by rw [List.getElem?_eq_getElem hlt] at hy; injection hy
    rw [hyg] at this
    exact this.symm
   have HSP := Lib.hid hsp
   have HYG := Lib.hid hy
   clear hR hsp hb0
   have HLG := Lib.hid (fun W (ht : Tab W) (hd : IsDev W (.agg #[.slice A1 n1 c1, .slice B1 m1 k1, .bool dd1, .int .i64 lf1, .int .i64 ds1]) D1) => atLog_any D1 A1 n1 c1 B1 m1 k1 dd1 lf1 ds1 s.h (s.t : Nat) (some ⟨b0, q0, none⟩) s.fr.length cf Ad s.di.length cd Ac s.c.l.length cc (s.c.h : Nat) y W ht hd HO.out (by have := HK.out.2; omega) HK.out.1.h (by rw [HN.out]; exact HK.out.1.n) HY.out.2)
   have hn2 : (logR D1 s.h y).1.n = s.d.n := (logR_n _ _ _).trans HN.out
   have ho2 := logR_ok HO.out s.h y
   obtain ⟨R, hR⟩ : ∃ R, logR D1 s.h y = R := ⟨_, rfl⟩
   rw [hR] at HLG hn2 ho2
   obtain ⟨D2, tx, er⟩ := R
   have HN2 := Lib.hid (show 1 ≤ D2.n by rw [show D2.n = s.d.n from hn2]; exact HK.out.1.d.n1)
   have HO2 := Lib.hid (And.intro ho2 hn2)
   have HR := Lib.hid hR
   clear hR hn2 ho2
   go_upto_region 5 with (first
    | ((with_reducible (show wpList _ _ _ (Oper.mk _ (Op.load _ _) _ _ _ none :: _) _ _)); first | refine Fv.ldN F rfl rfl rfl (by repeat constructor) (by repeat constructor) ?_ | refine Fv.ld1 F rfl rfl rfl (by repeat constructor) (by repeat constructor) ?_)
    | ((with_reducible (show wpList _ _ _ (Oper.mk _ (Op.store _ _ _) _ _ _ none :: _) _ _)); (first | refine Fv.stN F rfl rfl rfl rfl rfl (by first | rfl | simp [Value.oneCell']) (by repeat constructor) ?_ | refine Fv.st1 F rfl rfl rfl (by first | exact (rfl : _ = Value.int _ _) | exact (rfl : _ = Value.slice _ _ _) | exact (rfl : _ = Value.bool _) | exact (rfl : _ = Value.string _)) (by rfl) (by repeat constructor) ?_); clear F; intro W F)
    | ((with_reducible (show wpList _ _ _ (Oper.mk _ (Op.alloc _) _ _ _ none :: _) _ _)); refine Fv.al F rfl rfl ?_; clear F; intro g W hs1 hs2 F; clear hs1 hs2)
    | (go_at_call 164; refine (HLG.out _ (HT.out.below F.B) F.out.2.dev).mono ?_; rintro e w1 ⟨v2, rfl, hD2, hv⟩; replace F := F.call hv; clear hv; obtain ⟨A2, n2, c2, B2, m2, k2, dd2, lf2, ds2, rfl⟩ := dev_form hD2; replace F := addDev F hD2 HN2.out rfl; clear hD2))
   clear d0 d1 hy
   by_cases he : er = 0
   ·subst he
    have hp9 := HK.out.1.h.p1
    have hhas : D2.has ((homeN y.pg : Nat) : Int) = true := by
     unfold Dev.has homeN
     have := HY.out.1
     have := HK.out.1.n
     have := HO2.out.2
     exact decide_eq_true (by omega)
    have hpg : y.pg < 512 := by have := HY.out.1; omega
    have htx := logR_full HR.out
    have HHM := Lib.hid (fun W => homeN_any y.pg W (by omega))
    have HPR := Lib.hid (fun W (ht : Tab W) => Lf.print_any y.pg tx W ht hpg htx)
    have HPT := Lib.hid (fun W (hd : IsDev W (.agg #[.slice A2 n2 c2, .slice B2 m2 k2, .bool dd2, .int .i64 lf2, .int .i64 ds2]) D2) => slabPut _ D2 (homeN y.pg : Nat) (leafB y.pg tx) W hd HO2.out.1 (by have := HK.out.2; omega) (by rw [leafB_size htx]; decide) hhas)
    have ho3 := putR_ok HO2.out.1 (leafB y.pg tx) hhas (by rw [leafB_size htx]; decide)
    have hn3 := (putR_n D2 (homeN y.pg : Nat) (leafB y.pg tx)).trans HO2.out.2
    obtain ⟨R3, hR3⟩ : ∃ R, putR D2 (homeN y.pg : Nat) (leafB y.pg tx) = R := ⟨_, rfl⟩
    rw [hR3] at HPT ho3 hn3
    obtain ⟨D3, er3⟩ := R3
    have HN3 := Lib.hid (show 1 ≤ D3.n by rw [show D3.n = s.d.n from hn3]; exact HK.out.1.d.n1)
    have HO3 := Lib.hid (And.intro ho3 hn3)
    have HR3 := Lib.hid hR3
    clear hR3 ho3 hn3 hhas htx hpg hp9
    go_upto_region 7 with (first
     | ((with_reducible (show wpList _ _ _ (Oper.mk _ (Op.load _ _) _ _ _ none :: _) _ _)); first | refine Fv.ldN F rfl rfl rfl (by repeat constructor) (by repeat constructor) ?_ | refine Fv.ld1 F rfl rfl rfl (by repeat constructor) (by repeat constructor) ?_)
     | ((with_reducible (show wpList _ _ _ (Oper.mk _ (Op.store _ _ _) _ _ _ none :: _) _ _)); (first | refine Fv.stN F rfl rfl rfl rfl rfl (by first | rfl | simp [Value.oneCell']) (by repeat constructor) ?_ | refine Fv.st1 F rfl rfl rfl (by first | exact (rfl : _ = Value.int _ _) | exact (rfl : _ = Value.slice _ _ _) | exact (rfl : _ = Value.bool _) | exact (rfl : _ = Value.string _)) (by rfl) (by repeat constructor) ?_); clear F; intro W F)
     | ((with_reducible (show wpList _ _ _ (Oper.mk _ (Op.alloc _) _ _ _ none :: _) _ _)); refine Fv.al F rfl rfl ?_; clear F; intro g W hs1 hs2 F; clear hs1 hs2))
    refine Lex.region_parts (ops := bhraw) (ops1 := bhops) (calls := bhcalls) 11 bhord (Fv.FrS _ _ _) (by kernel_rfl) bhcut (by rw [bhsize]; decide) (by kernel_rfl) (by kernel_rfl) (by kernel_rfl) bhsel (by kernel_rfl) (by kernel_rfl) bhlex F.drew ?_
    replace F := F.drew
    unfold bhord
    refine Lex.step_take _ bh0 rfl (Lex.want_none rfl) (by intro Wx hSw; exact Fv.run_loadN hSw rfl rfl Fv.rt_Slab (by repeat constructor) (by repeat constructor)) ?_
    simp only [Act.put, List.setIfInBounds_toArray, List.set_cons_zero, List.set_cons_succ]
    refine Lex.step_take _ bh1 rfl (Lex.want_none rfl) (by intro Wx hSw; clear hSw; go_simp; try (first | (with_reducible rfl) | rfl)) ?_
    simp only [Act.put, List.setIfInBounds_toArray, List.set_cons_zero, List.set_cons_succ]
    refine Lex.step_take _ bh2 rfl (Lex.want_none rfl) (by intro Wx hSw; exact Fv.run_load1 hSw rfl rfl Fv.ot_int (by repeat constructor) (by repeat constructor)) ?_
    simp only [Act.put, List.setIfInBounds_toArray, List.set_cons_zero, List.set_cons_succ]
    refine Lex.step_take _ bh4 rfl (Lex.want_none rfl) (by intro Wx hSw; clear hSw; go_simp; try (first | (with_reducible rfl) | rfl)) ?_
    simp only [Act.put, List.setIfInBounds_toArray, List.set_cons_zero, List.set_cons_succ]
    refine Lex.step_take _ bh5 rfl (Lex.want_none rfl) (by intro Wx hSw; exact Fv.run_load1 hSw rfl rfl Fv.ot_int (by repeat constructor) (by repeat constructor)) ?_
    simp only [Act.put, List.setIfInBounds_toArray, List.set_cons_zero, List.set_cons_succ]
    refine Lex.step_take _ bh6 rfl (Lex.want_none rfl) (by intro Wx hSw; clear hSw; go_simp; try (first | (with_reducible rfl) | rfl)) ?_
    simp only [Act.put, List.setIfInBounds_toArray, List.set_cons_zero, List.set_cons_succ]
    refine Lex.step_take _ bh7 rfl (Lex.want_none rfl) (by intro Wx hSw; clear hSw; go_simp; try (first | (with_reducible rfl) | rfl)) ?_
    simp only [Act.put, List.setIfInBounds_toArray, List.set_cons_zero, List.set_cons_succ]
    refine Lex.step_call bh3 rfl (Lex.want_none rfl) (fun K hK => ?_)
    go_simp
    refine (HHM.out _).mono ?_
    rintro e4 w4 ⟨rfl, hv⟩
    replace F := F.call hv
    clear hv
    refine hK.out (Fv.FrS _ _ _) _ _ (fun _ h => Fv.Fr.weak h (by intro L w h; first | exact h | exact h.1 | exact h.1.1)) F ?_
    clear hK K
    try simp only [Act.put, List.setIfInBounds_toArray, List.set_cons_zero, List.set_cons_succ]
    refine Lex.step_call bh8 rfl (Lex.want_none rfl) (fun K hK => ?_)
    go_simp
    refine (HPR.out _ (HT.out.below F.B)).mono ?_
    rintro e5 w5 ⟨rfl, hv⟩
    replace F := F.call hv
    clear hv
    refine hK.out (Fv.FrS _ _ _) _ _ (fun _ h => Fv.Fr.weak h (by intro L w h; first | exact h | exact h.1 | exact h.1.1)) F ?_
    clear hK K
    try simp only [Act.put, List.setIfInBounds_toArray, List.set_cons_zero, List.set_cons_succ]
    refine Lex.step_call bh9 rfl (Lex.want_none rfl) (fun K hK => ?_)
    go_simp
    refine (HPT.out _ F.out.2.dev).mono ?_
    rintro e6 w6 ⟨v3, rfl, hD3, hv⟩
    replace F := F.call hv
    clear hv
    obtain ⟨A3, n3, c3, B3, m3, k3, dd3, lf3, ds3, rfl⟩ := dev_form hD3
    replace F := addDev F hD3 HN3.out rfl
    clear hD3
    refine hK.out (Fv.FrS _ _ _) _ _ (fun _ h => Fv.Fr.weak h (by intro L w h; first | exact h | exact h.1 | exact h.1.1)) F ?_
    clear hK K
    try simp only [Act.put, List.setIfInBounds_toArray, List.set_cons_zero, List.set_cons_succ]
    refine Lex.step_take _ bh10 rfl (Lex.want_none rfl) (by intro Wx hSw; clear hSw; go_simp; try (first | (with_reducible rfl) | rfl)) ?_
    simp only [Act.put, List.setIfInBounds_toArray, List.set_cons_zero, List.set_cons_succ]
    refine Lex.tail_lex (ops := bhraw) (calls := [13]) (n := 11) [11, 12, 13, 14] (fun _ => True) bhrsel (by rw [bhsize]; rfl) (by kernel_rfl) bhtlex trivial ?_
    refine Lex.step_take _ bht11 rfl (Lex.want_none rfl) (by intro Wx hSw; clear hSw; go_simp; try (first | (with_reducible rfl) | rfl)) ?_
    simp only [Act.put, List.setIfInBounds_toArray, List.set_cons_zero, List.set_cons_succ]
    refine Lex.step_take _ bht12 rfl (Lex.want_none rfl) (by intro Wx hSw; clear hSw; go_simp; try (first | (with_reducible rfl) | rfl)) ?_
    simp only [Act.put, List.setIfInBounds_toArray, List.set_cons_zero, List.set_cons_succ]
    refine Lex.step_call bht13 rfl (Lex.want_none rfl) (fun K hK => ?_)
    refine Fv.wp_storeN F rfl rfl rfl Fv.rt_Slab rfl (by first | rfl | simp [Value.oneCell']) (by repeat constructor) ?_; clear F; intro W F
    refine hK.out _ _ _ (fun _ h => h) trivial ?_
    clear hK K
    try simp only [Act.put, List.setIfInBounds_toArray, List.set_cons_zero, List.set_cons_succ]
    refine Lex.step_take _ bht14 rfl (Lex.want_none rfl) (by intro Wx hSw; clear hSw; go_simp; try (first | (with_reducible rfl) | rfl)) ?_
    simp only [Act.put, List.setIfInBounds_toArray, List.set_cons_zero, List.set_cons_succ]
    refine NoPanic.normal ?_
    by_cases he3 : er3 = 0
    ·subst he3
     have hz3 : homesR s.h s.d (s.fr.take (k + 1)) = (D3, 0) := by
      rw [List.take_add_one, HYG.out]
      exact (homesR_app HZ.out).trans (homesR_next HR.out HR3.out)
     have HZ3 := Lib.hid hz3
     clear hz3
     go_wp2_with (first
      | ((with_reducible (show wpList _ _ _ (Oper.mk _ (Op.load _ _) _ _ _ none :: _) _ _)); first | refine Fv.ldN F rfl rfl rfl (by repeat constructor) (by repeat constructor) ?_ | refine Fv.ld1 F rfl rfl rfl (by repeat constructor) (by repeat constructor) ?_)
      | ((with_reducible (show wpList _ _ _ (Oper.mk _ (Op.store _ _ _) _ _ _ none :: _) _ _)); (first | refine Fv.stN F rfl rfl rfl rfl rfl (by first | rfl | simp [Value.oneCell']) (by repeat constructor) ?_ | refine Fv.st1 F rfl rfl rfl (by first | exact (rfl : _ = Value.int _ _) | exact (rfl : _ = Value.slice _ _ _) | exact (rfl : _ = Value.bool _) | exact (rfl : _ = Value.string _)) (by rfl) (by repeat constructor) ?_); clear F; intro W F)
      | ((with_reducible (show wpList _ _ _ (Oper.mk _ (Op.alloc _) _ _ _ none :: _) _ _)); refine Fv.al F rfl rfl ?_; clear F; intro g W hs1 hs2 F; clear hs1 hs2))
     go_roundw
     case rel => exact ⟨k + 1, _, _, _, _, _, _, _, _, _, D3, by go_num, by omega, HZ3, (show D3.Ok (K + 2 * (k + 1)) from HO3.out.1), HO3.out.2, (F.weak (fun _ _ h => ⟨trivial, h.2⟩)).tail.tail⟩
     case measure => simp [intOf]; omega
    ·have HE := Lib.hid (broughtR_err (s := s) (by rw [HSP.out, homesR_app HZ.out]; exact homesR_put HR.out HR3.out he3) he3)
     go_wp2_with (first
      | ((with_reducible (show wpList _ _ _ (Oper.mk _ (Op.load _ _) _ _ _ none :: _) _ _)); first | refine Fv.ldN F rfl rfl rfl (by repeat constructor) (by repeat constructor) ?_ | refine Fv.ld1 F rfl rfl rfl (by repeat constructor) (by repeat constructor) ?_)
      | ((with_reducible (show wpList _ _ _ (Oper.mk _ (Op.store _ _ _) _ _ _ none :: _) _ _)); (first | refine Fv.stN F rfl rfl rfl rfl rfl (by first | rfl | simp [Value.oneCell']) (by repeat constructor) ?_ | refine Fv.st1 F rfl rfl rfl (by first | exact (rfl : _ = Value.int _ _) | exact (rfl : _ = Value.slice _ _ _) | exact (rfl : _ = Value.bool _) | exact (rfl : _ = Value.string _)) (by rfl) (by repeat constructor) ?_); clear F; intro W F)
      | ((with_reducible (show wpList _ _ _ (Oper.mk _ (Op.alloc _) _ _ _ none :: _) _ _)); refine Fv.al F rfl rfl ?_; clear F; intro g W hs1 hs2 F; clear hs1 hs2))
     refine bodyPost_ret (res_cT F rfl rfl Fv.rt_Slab (by repeat constructor) rfl) rfl ?_
     rw [← HP.out, HE.out]
     exact ⟨_, rfl, F.out.2.dev, F.B⟩
   ·have HE := Lib.hid (broughtR_err (s := s) (by rw [HSP.out, homesR_app HZ.out]; exact homesR_log HR.out he) he)
    go_wp2_with (first
     | ((with_reducible (show wpList _ _ _ (Oper.mk _ (Op.load _ _) _ _ _ none :: _) _ _)); first | refine Fv.ldN F rfl rfl rfl (by repeat constructor) (by repeat constructor) ?_ | refine Fv.ld1 F rfl rfl rfl (by repeat constructor) (by repeat constructor) ?_)
     | ((with_reducible (show wpList _ _ _ (Oper.mk _ (Op.store _ _ _) _ _ _ none :: _) _ _)); (first | refine Fv.stN F rfl rfl rfl rfl rfl (by first | rfl | simp [Value.oneCell']) (by repeat constructor) ?_ | refine Fv.st1 F rfl rfl rfl (by first | exact (rfl : _ = Value.int _ _) | exact (rfl : _ = Value.slice _ _ _) | exact (rfl : _ = Value.bool _) | exact (rfl : _ = Value.string _)) (by rfl) (by repeat constructor) ?_); clear F; intro W F)
     | ((with_reducible (show wpList _ _ _ (Oper.mk _ (Op.alloc _) _ _ _ none :: _) _ _)); refine Fv.al F rfl rfl ?_; clear F; intro g W hs1 hs2 F; clear hs1 hs2))
    refine bodyPost_ret (res_cT F rfl rfl Fv.rt_Slab (by repeat constructor) rfl) rfl ?_
    rw [← HP.out, HE.out]
    exact ⟨_, rfl, F.out.2.dev, F.B⟩
  ·obtain rfl : k = s.fr.length := by omega
   have i1 : ¬ (s.fr.length : Int) < (s.fr.length : Int) := by omega
   have hz := HZ.out
   rw [List.take_length] at hz
   have HE := Lib.hid (broughtR_good hz)
   have HN4 := Lib.hid (show 1 ≤ (flushR D1).1.n by rw [flushR_n, HN.out]; exact HK.out.1.d.n1)
   clear hz
   go_wp2_with (first
    | ((with_reducible (show wpList _ _ _ (Oper.mk _ (Op.load _ _) _ _ _ none :: _) _ _)); first | refine Fv.ldN F rfl rfl rfl (by repeat constructor) (by repeat constructor) ?_ | refine Fv.ld1 F rfl rfl rfl (by repeat constructor) (by repeat constructor) ?_)
    | ((with_reducible (show wpList _ _ _ (Oper.mk _ (Op.store _ _ _) _ _ _ none :: _) _ _)); (first | refine Fv.stN F rfl rfl rfl rfl rfl (by first | rfl | simp [Value.oneCell']) (by repeat constructor) ?_ | refine Fv.st1 F rfl rfl rfl (by first | exact (rfl : _ = Value.int _ _) | exact (rfl : _ = Value.slice _ _ _) | exact (rfl : _ = Value.bool _) | exact (rfl : _ = Value.string _)) (by rfl) (by repeat constructor) ?_); clear F; intro W F)
    | ((with_reducible (show wpList _ _ _ (Oper.mk _ (Op.alloc _) _ _ _ none :: _) _ _)); refine Fv.al F rfl rfl ?_; clear F; intro g W hs1 hs2 F; clear hs1 hs2)
    | (go_at_call 141; refine (slabFlush _ D1 _ F.out.2.dev HO.out (by have := HK.out.2; omega)).mono ?_; rintro e4 w4 ⟨v4, rfl, hD4, hv⟩; replace F := F.call hv; clear hv; obtain ⟨A4, n4, c4, B4, m4, k4, dd4, lf4, ds4, rfl⟩ := dev_form hD4; replace F := addDev F hD4 HN4.out rfl; clear hD4))
   refine bodyPost_ret (res_cT F rfl rfl Fv.rt_Slab (by repeat constructor) rfl) rfl ?_
   rw [← HP.out, HE.out]
   exact ⟨_, rfl, F.out.2.dev, F.B⟩
end Go.Proofs.YtcgkbcgpnlogoaaGreatDoor.St
