/- Stores: the law StoreDeeds, walked. -/
import Derived.Test.YtfhopccbjlleoaaGreatDoorSuC
namespace Go.Proofs.YtfhopccbjlleoaaGreatDoor.St
open Go.RowKit Go.Shelf Tal Sla Hd Fr Lf Lex
theorem wr_id (x y : Int) (h0 : 0 ≤ y) (h1 : y ≤ 100000) (e : x = y) : wrap64 x = y := by
 subst e
 unfold wrap64
 omega
theorem st_deeds {Z : Nat → Prop} {w : World} {s : S} {a0 a1 a2 a3 x5 x6 x7 x8 x9 x10 x11 x12 : Value} {ds : Int} (h : IsSt Z w (.agg #[a0, a1, a2, a3, .int .i64 ds, x5, x6, x7, x8, x9, x10, x11, x12]) s) : ds = s.d.deeds := by
 obtain ⟨A0, n1, c0, B0, m0, k0, dd0, lf0, ds0, Af, cf, Ad, cd, Ac, cc, hv, hd, _⟩ := h
 simp only [Value.agg.injEq, Array.mk.injEq, List.cons.injEq, Value.int.injEq, true_and, and_true] at hv
 obtain ⟨_, _, _, _, e, _⟩ := hv
 rw [e]
 exact (dev_eq hd).2.2
section
variable {D : Option Addr} {n cp : Nat} {l : List Ac} {w : World}
set_option maxRecDepth 20000 in
set_option maxHeartbeats 6400000 in
theorem deeds_any  (lg : Int) (g0 : 0 ≤ lg) (g1 : lg < 256) (lo : Nat) (hl : HasA w lo D l) (hn : l.length = n) (h9 : n ≤ 9223372036854775807) (ho : ∀ a ∈ l, OkA a) (ht : Tab w) : Calls Tryz.prog 6 #[.int .u8 lg, .slice D n cp] w (AwPost w) := by
 have HS := Lib.hid (show Calls Tryz.prog 9 #[.slice D n cp, .int .i64 60] w (BoolPost (SmallA 60 l) w) from small_any (cp := cp) 60 lo hl hn h9)
 have HL := Lib.hid (And.intro hl (And.intro hn ho))
 have HT := Lib.hid ht
 clear hl hn ho ht
 obtain ⟨post, hpost⟩ : ∃ post, AwPost w = post := ⟨_, rfl⟩
 rw [hpost]
 have HP := Lib.hid hpost
 clear hpost
 by_cases hsm : SmallA 60 l
 ·have HSM := Lib.hid hsm
  have hn60 : n ≤ 60 := by rw [← HL.out.2.1]; exact hsm.len
  clear hsm
  obtain ⟨m, hm, hm4, hm12⟩ : ∃ m : Nat, (m : Int) = 4 + lg % 9 ∧ 4 ≤ m ∧ m ≤ 12 := ⟨(4 + lg % 9).toNat, by omega, by omega, by omega⟩
  have hr : RightH ⟨12, (m : Int), 1⟩ := ⟨(show (8 : Int) ≤ 12 by decide), (show (12 : Int) ≤ 512 by decide), by show (4 : Int) ≤ m; omega, by show (m : Int) ≤ 512; omega, (show (1 : Int) ≤ 1 by decide), (show (1 : Int) < 2147483648 by decide)⟩
  obtain ⟨D0, hf, hcal⟩ := format_good hr
  have hok0 := new_ok hr hcal
  have HFM := Lib.hid (fun W (ht : Tab W) => show Calls Tryz.prog 11 #[.int .i64 12, .int .i64 (4 + lg % 9)] W (FmtPost (some (⟨D0, ⟨12, (m : Int), 1⟩, 0, [], [], ⟨[], 0⟩⟩ : S), 0) W) by rw [← hm, ← hf]; exact format_any 12 m W ht)
  have HOK := Lib.hid hok0
  have HG := Lib.hid (And.intro g0 g1)
  clear hr hf hcal hok0 hm hm4 hm12
  have hw9 : wrap64 (4 + lg % 9) = 4 + lg % 9 := by have := HG.out.1; have := HG.out.2; unfold wrap64; omega
  have F := Fv.Fr.start w
  go_enter Tryz.func6, Tryz.ntmps6
  go_upto_region 7 with (first
   | ((with_reducible (show wpList _ _ _ (Oper.mk _ (Op.load _ _) _ _ _ none :: _) _ _)); first | refine Fv.ldN F rfl rfl rfl (by repeat constructor) (by repeat constructor) ?_ | refine Fv.ld1 F rfl rfl rfl (by repeat constructor) (by repeat constructor) ?_)
   | ((with_reducible (show wpList _ _ _ (Oper.mk _ (Op.store _ _ _) _ _ _ none :: _) _ _)); (first | refine Fv.stN F rfl rfl rfl rfl rfl (by first | rfl | simp [Value.oneCell']) (by repeat constructor) ?_ | refine Fv.st1 F rfl rfl rfl (by first | exact (rfl : _ = Value.int _ _) | exact (rfl : _ = Value.slice _ _ _) | exact (rfl : _ = Value.bool _) | exact (rfl : _ = Value.string _)) (by rfl) (by repeat constructor) ?_); clear F; intro W F)
   | ((with_reducible (show wpList _ _ _ (Oper.mk _ (Op.alloc _) _ _ _ none :: _) _ _)); refine Fv.al F rfl rfl ?_; clear F; intro g W hs1 hs2 F; clear hs1 hs2)
   | ((with_reducible (show wpList _ _ _ (Oper.mk _ (Op.box _ _) _ _ _ none :: _) _ _)); refine Fv.wpL_box F rfl rfl rfl rfl ?_; clear F; intro gb W hs1 hs2 F; clear hs1 hs2)
   | (go_at_call 9; refine HS.out.mono ?_; rintro e w1 ⟨b, rfl, hb, hv⟩; obtain rfl : b = true := hb.2 HSM.out; clear hb; replace F := F.call hv; clear hv)
   | (go_at_call 11; refine (HFM.out _ (HT.out.below F.B)).mono ?_; rintro e2 w2 ⟨v0, rfl, hS0, _, hv⟩; replace hS0 := hS0 _ rfl; obtain ⟨A0, n0, c0, B0, m0, k0, dd0, lf0, ds0, Af0, cf0, Ad0, cd0, Ac0, cc0, rfl, hq0⟩ := hS0; have hS0 := (show IsSt _ _ _ _ from ⟨_, _, _, _, _, _, _, _, _, _, _, _, _, _, _, rfl, hq0⟩); clear hq0; have F2 := F.call hv; replace F := addSt (X := fun _ => False) F F2 (hS0.mono fun b hb => Or.inr hb) HOK.out.d.n1 rfl; clear hv F2 hS0))
  go_loopw [7] (fun s7 wr => ∃ (q : Nat) (s : S) (A1 : Option Addr) (n1 c1 : Nat) (B1 : Option Addr) (m1 k1 : Nat) (dd1 : Bool) (lf1 ds1 : Int) (Af1 : Option Addr) (cf1 : Nat) (Ad1 : Option Addr) (cd1 : Nat) (Ac1 : Option Addr) (cc1 : Nat), s7 = .int .i64 (q : Nat) ∧ q ≤ n ∧ Hid (OkS s (2 + 60 * q)) ∧ Hid (s.h.p = 12) ∧ Fv.Fr w wr [(g, 37, [.slice A1 n1 c1, .slice B1 m1 k1, .bool dd1, .int .i64 lf1, .int .i64 ds1, .int .i64 s.h.p, .int .i64 s.h.l, .int .i64 s.h.e, .int .i64 (s.t : Nat), .slice Af1 s.fr.length cf1, .slice Ad1 s.di.length cd1, .slice Ac1 s.c.l.length cc1, .int .i64 (s.c.h : Nat)])] (fun L w2 => True ∧ StF (fun _ => False) w.heap.size (.agg #[.slice A1 n1 c1, .slice B1 m1 k1, .bool dd1, .int .i64 lf1, .int .i64 ds1, .int .i64 s.h.p, .int .i64 s.h.l, .int .i64 s.h.e, .int .i64 (s.t : Nat), .slice Af1 s.fr.length cf1, .slice Ad1 s.di.length cd1, .slice Ac1 s.c.l.length cc1, .int .i64 (s.c.h : Nat)]) s L w2)) (fun s7 _ => n - (intOf s7).toNat)
  case atStart => exact ⟨0, ⟨D0, ⟨12, (m : Int), 1⟩, 0, [], [], ⟨[], 0⟩⟩, _, _, _, _, _, _, _, _, _, _, _, _, _, _, _, rfl, Nat.zero_le _, HOK, Lib.hid rfl, F⟩
  case round =>
   clear F
   obtain ⟨q, s, A1, n1, c1, B1, m1, k1, dd1, lf1, ds1, Af1, cf1, Ad1, cd1, Ac1, cc1, rfl, hq, HO, HPP, F⟩ := hrel
   by_cases hlt : q < n
   ·have hgt := List.getElem?_eq_getElem (l := l) (i := q) (by rw [HL.out.2.1]; exact hlt)
    generalize (l[q]'(by rw [HL.out.2.1]; exact hlt)) = x at hgt
    have HFA := Lib.hid (HSM.out.fine HL.out.2.2 x (List.mem_of_getElem? hgt))
    obtain ⟨bD, oD, hD, hlb, d0, d1, d2, d3, d4, d5⟩ := HasA.at (HL.out.1.below F.B (Nat.le_refl _)) hgt
    obtain ⟨ak, aat, ad, ⟨fs, ft, fb⟩⟩ := x
    simp only at d0 d1 d2 d3 d4 d5
    subst hD
    have i1 : (q : Int) < (n : Int) := by omega
    have i0 : (0 : Int) ≤ (q : Int) := by omega
    clear hgt hlb
    by_cases hk4 : ak ≤ 4
    ·by_cases hk0 : 0 ≤ ak
     ·have hlf := HO.out.lfr
      have hld := HO.out.ldi
      have hok2 := doR_ok (a := ⟨ak, aat, ad, ⟨fs, ft, fb⟩⟩) HO.out hk0 hk4
      have hdd := doR_dds (s := s) (a := ⟨ak, aat, ad, ⟨fs, ft, fb⟩⟩) hk0 hk4
      have hpp := (doR_p (s := s) (a := ⟨ak, aat, ad, ⟨fs, ft, fb⟩⟩) hk0 hk4).1
      have HDO := Lib.hid (fun Z W (v : Value) (ht : Tab W) (hi : IsSt Z W v s) => does_any v s ⟨ak, aat, ad, ⟨fs, ft, fb⟩⟩ W ht hi HO.out (by omega) HFA.out)
      obtain ⟨R, hR⟩ : ∃ R, doR s ⟨ak, aat, ad, ⟨fs, ft, fb⟩⟩ = R := ⟨_, rfl⟩
      rw [hR] at HDO hok2 hdd hpp
      obtain ⟨s2, t2, er⟩ := R
      simp only [cellsA] at HDO
      simp only at hok2 hdd hpp
      have HO2 := Lib.hid (hok2.more (K2 := 2 + 60 * (q + 1)) (by have := HPP.out; omega))
      have HPP2 := Lib.hid (hpp.trans HPP.out)
      have HDD := Lib.hid hdd
      have HLF := Lib.hid (And.intro hlf hld)
      clear hR hok2 hdd hpp hlf hld
      rcases calm_cases hk0 hk4 with e | e | e | e | e <;> subst e
      ·skip
       go_upto_region 10 with (first
        | ((with_reducible (show wpList _ _ _ (Oper.mk _ (Op.load _ _) _ _ _ none :: _) _ _)); first | refine Fv.ldN F rfl rfl rfl (by repeat constructor) (by repeat constructor) ?_ | refine Fv.ld1 F rfl rfl rfl (by repeat constructor) (by repeat constructor) ?_)
        | ((with_reducible (show wpList _ _ _ (Oper.mk _ (Op.store _ _ _) _ _ _ none :: _) _ _)); (first | refine Fv.stN F rfl rfl rfl rfl rfl (by first | rfl | simp [Value.oneCell']) (by repeat constructor) ?_ | refine Fv.st1 F rfl rfl rfl (by first | exact (rfl : _ = Value.int _ _) | exact (rfl : _ = Value.slice _ _ _) | exact (rfl : _ = Value.bool _) | exact (rfl : _ = Value.string _)) (by rfl) (by repeat constructor) ?_); clear F; intro W F)
        | ((with_reducible (show wpList _ _ _ (Oper.mk _ (Op.alloc _) _ _ _ none :: _) _ _)); refine Fv.al F rfl rfl ?_; clear F; intro g W hs1 hs2 F; clear hs1 hs2)
        | ((with_reducible (show wpList _ _ _ (Oper.mk _ (Op.box _ _) _ _ _ none :: _) _ _)); refine Fv.wpL_box F rfl rfl rfl rfl ?_; clear F; intro gb W hs1 hs2 F; clear hs1 hs2))
       have q0_0 := Fv.Fr.cell F Fv.At.head 0
       simp only [List.getElem?_cons_zero, List.getElem?_cons_succ] at q0_0
       go_upto_region 12 with (first
        | ((with_reducible (show wpList _ _ _ (Oper.mk _ (Op.load _ _) _ _ _ none :: _) _ _)); first | refine Fv.ldN F rfl rfl rfl (by repeat constructor) (by repeat constructor) ?_ | refine Fv.ld1 F rfl rfl rfl (by repeat constructor) (by repeat constructor) ?_)
        | ((with_reducible (show wpList _ _ _ (Oper.mk _ (Op.store _ _ _) _ _ _ none :: _) _ _)); (first | refine Fv.stN F rfl rfl rfl rfl rfl (by first | rfl | simp [Value.oneCell']) (by repeat constructor) ?_ | refine Fv.st1 F rfl rfl rfl (by first | exact (rfl : _ = Value.int _ _) | exact (rfl : _ = Value.slice _ _ _) | exact (rfl : _ = Value.bool _) | exact (rfl : _ = Value.string _)) (by rfl) (by repeat constructor) ?_); clear F; intro W F)
        | ((with_reducible (show wpList _ _ _ (Oper.mk _ (Op.alloc _) _ _ _ none :: _) _ _)); refine Fv.al F rfl rfl ?_; clear F; intro g W hs1 hs2 F; clear hs1 hs2)
        | ((with_reducible (show wpList _ _ _ (Oper.mk _ (Op.box _ _) _ _ _ none :: _) _ _)); refine Fv.wpL_box F rfl rfl rfl rfl ?_; clear F; intro gb W hs1 hs2 F; clear hs1 hs2)
        | (go_at_call 14; refine (HDO.out _ _ _ (HT.out.below F.B) F.out.2.free).mono ?_; rintro e2 w2 ⟨v2, rfl, hS2, hv⟩; obtain ⟨A2, n2, c2, B2, m2, k2, dd2, lf2, ds2, Af2, cf2, Ad2, cd2, Ac2, cc2, rfl, hq2⟩ := hS2; have hS2 := (show IsSt _ _ _ _ from ⟨_, _, _, _, _, _, _, _, _, _, _, _, _, _, _, rfl, hq2⟩); clear hq2; have F2 := F.call hv; replace F := addSt F F2 hS2 HO2.out.d.n1 rfl; clear hv F2 hS2))
       have e1 := st_deeds F.out.1.2.st
       have e2 := st_deeds F.out.2.st
       obtain ⟨dn, hdn, hdm⟩ : ∃ dn : Nat, ds2 = ds1 + dn ∧ dn ≤ mostR s 0 := ⟨(ds2 - ds1).toNat, by have := HDD.out.1; omega, by have := HDD.out.2; omega⟩
       have hsd1 := HO.out.d.d1
       have hsd2 := HO.out.d.d2
       have hlf := HLF.out.1
       have hld := HLF.out.2
       have hp12 := HPP.out
       obtain rfl : dn = 0 := Nat.le_zero.1 hdm
       have ne : ds2 - ds1 = 0 := by omega
       clear e1 e2 hdn hdm hsd1 hsd2 hlf hld hp12
       have hw : wrap64 (ds2 - ds1) = 0 := wr_id _ _ (by decide) (by decide) ne
       clear ne
       clear d0 d1 d2 d3 d4 d5 hw9 HDO HFM HS HL HOK HG HLF HDD HSM HFA
       clear q0_0
       go_wp2_with (first
        | ((with_reducible (show wpList _ _ _ (Oper.mk _ (Op.load _ _) _ _ _ none :: _) _ _)); first | refine Fv.ldN F rfl rfl rfl (by repeat constructor) (by repeat constructor) ?_ | refine Fv.ld1 F rfl rfl rfl (by repeat constructor) (by repeat constructor) ?_)
        | ((with_reducible (show wpList _ _ _ (Oper.mk _ (Op.store _ _ _) _ _ _ none :: _) _ _)); (first | refine Fv.stN F rfl rfl rfl rfl rfl (by first | rfl | simp [Value.oneCell']) (by repeat constructor) ?_ | refine Fv.st1 F rfl rfl rfl (by first | exact (rfl : _ = Value.int _ _) | exact (rfl : _ = Value.slice _ _ _) | exact (rfl : _ = Value.bool _) | exact (rfl : _ = Value.string _)) (by rfl) (by repeat constructor) ?_); clear F; intro W F)
        | ((with_reducible (show wpList _ _ _ (Oper.mk _ (Op.alloc _) _ _ _ none :: _) _ _)); refine Fv.al F rfl rfl ?_; clear F; intro g W hs1 hs2 F; clear hs1 hs2)
        | ((with_reducible (show wpList _ _ _ (Oper.mk _ (Op.box _ _) _ _ _ none :: _) _ _)); refine Fv.wpL_box F rfl rfl rfl rfl ?_; clear F; intro gb W hs1 hs2 F; clear hs1 hs2))
       go_roundw
       case rel => exact ⟨q + 1, s2, _, _, _, _, _, _, _, _, _, _, _, _, _, _, _, by go_num, by omega, HO2, HPP2, (F.weak (fun _ _ h => ⟨trivial, h.2⟩)).tail.tail⟩
       case measure => simp [intOf]; omega
      ·skip
       go_upto_region 10 with (first
        | ((with_reducible (show wpList _ _ _ (Oper.mk _ (Op.load _ _) _ _ _ none :: _) _ _)); first | refine Fv.ldN F rfl rfl rfl (by repeat constructor) (by repeat constructor) ?_ | refine Fv.ld1 F rfl rfl rfl (by repeat constructor) (by repeat constructor) ?_)
        | ((with_reducible (show wpList _ _ _ (Oper.mk _ (Op.store _ _ _) _ _ _ none :: _) _ _)); (first | refine Fv.stN F rfl rfl rfl rfl rfl (by first | rfl | simp [Value.oneCell']) (by repeat constructor) ?_ | refine Fv.st1 F rfl rfl rfl (by first | exact (rfl : _ = Value.int _ _) | exact (rfl : _ = Value.slice _ _ _) | exact (rfl : _ = Value.bool _) | exact (rfl : _ = Value.string _)) (by rfl) (by repeat constructor) ?_); clear F; intro W F)
        | ((with_reducible (show wpList _ _ _ (Oper.mk _ (Op.alloc _) _ _ _ none :: _) _ _)); refine Fv.al F rfl rfl ?_; clear F; intro g W hs1 hs2 F; clear hs1 hs2)
        | ((with_reducible (show wpList _ _ _ (Oper.mk _ (Op.box _ _) _ _ _ none :: _) _ _)); refine Fv.wpL_box F rfl rfl rfl rfl ?_; clear F; intro gb W hs1 hs2 F; clear hs1 hs2))
       have q0_0 := Fv.Fr.cell F Fv.At.head 0
       simp only [List.getElem?_cons_zero, List.getElem?_cons_succ] at q0_0
       go_upto_region 12 with (first
        | ((with_reducible (show wpList _ _ _ (Oper.mk _ (Op.load _ _) _ _ _ none :: _) _ _)); first | refine Fv.ldN F rfl rfl rfl (by repeat constructor) (by repeat constructor) ?_ | refine Fv.ld1 F rfl rfl rfl (by repeat constructor) (by repeat constructor) ?_)
        | ((with_reducible (show wpList _ _ _ (Oper.mk _ (Op.store _ _ _) _ _ _ none :: _) _ _)); (first | refine Fv.stN F rfl rfl rfl rfl rfl (by first | rfl | simp [Value.oneCell']) (by repeat constructor) ?_ | refine Fv.st1 F rfl rfl rfl (by first | exact (rfl : _ = Value.int _ _) | exact (rfl : _ = Value.slice _ _ _) | exact (rfl : _ = Value.bool _) | exact (rfl : _ = Value.string _)) (by rfl) (by repeat constructor) ?_); clear F; intro W F)
        | ((with_reducible (show wpList _ _ _ (Oper.mk _ (Op.alloc _) _ _ _ none :: _) _ _)); refine Fv.al F rfl rfl ?_; clear F; intro g W hs1 hs2 F; clear hs1 hs2)
        | ((with_reducible (show wpList _ _ _ (Oper.mk _ (Op.box _ _) _ _ _ none :: _) _ _)); refine Fv.wpL_box F rfl rfl rfl rfl ?_; clear F; intro gb W hs1 hs2 F; clear hs1 hs2)
        | (go_at_call 14; refine (HDO.out _ _ _ (HT.out.below F.B) F.out.2.free).mono ?_; rintro e2 w2 ⟨v2, rfl, hS2, hv⟩; obtain ⟨A2, n2, c2, B2, m2, k2, dd2, lf2, ds2, Af2, cf2, Ad2, cd2, Ac2, cc2, rfl, hq2⟩ := hS2; have hS2 := (show IsSt _ _ _ _ from ⟨_, _, _, _, _, _, _, _, _, _, _, _, _, _, _, rfl, hq2⟩); clear hq2; have F2 := F.call hv; replace F := addSt F F2 hS2 HO2.out.d.n1 rfl; clear hv F2 hS2))
       have e1 := st_deeds F.out.1.2.st
       have e2 := st_deeds F.out.2.st
       obtain ⟨dn, hdn, hdm⟩ : ∃ dn : Nat, ds2 = ds1 + dn ∧ dn ≤ mostR s 1 := ⟨(ds2 - ds1).toNat, by have := HDD.out.1; omega, by have := HDD.out.2; omega⟩
       have hsd1 := HO.out.d.d1
       have hsd2 := HO.out.d.d2
       have hlf := HLF.out.1
       have hld := HLF.out.2
       have hp12 := HPP.out
       have n0 : (0 : Int) ≤ (dn : Int) := by omega
       have ne : ds2 - ds1 = (dn : Int) := by omega
       have hdm : dn ≤ 1 := hdm
       have n1 : (dn : Int) ≤ 100000 := by omega
       have i2 : ¬ (dn : Int) < 0 := by omega
       have i3 : ¬ (1 : Int) < (dn : Int) := by omega
       clear e1 e2 hdn hdm hsd1 hsd2 hlf hld hp12
       have hw : wrap64 (ds2 - ds1) = (dn : Int) := wr_id _ _ n0 n1 ne
       clear n0 n1
       clear ne
       clear d0 d1 d2 d3 d4 d5 hw9 HDO HFM HS HL HOK HG HLF HDD HSM HFA
       clear q0_0
       go_wp2_with (first
        | ((with_reducible (show wpList _ _ _ (Oper.mk _ (Op.load _ _) _ _ _ none :: _) _ _)); first | refine Fv.ldN F rfl rfl rfl (by repeat constructor) (by repeat constructor) ?_ | refine Fv.ld1 F rfl rfl rfl (by repeat constructor) (by repeat constructor) ?_)
        | ((with_reducible (show wpList _ _ _ (Oper.mk _ (Op.store _ _ _) _ _ _ none :: _) _ _)); (first | refine Fv.stN F rfl rfl rfl rfl rfl (by first | rfl | simp [Value.oneCell']) (by repeat constructor) ?_ | refine Fv.st1 F rfl rfl rfl (by first | exact (rfl : _ = Value.int _ _) | exact (rfl : _ = Value.slice _ _ _) | exact (rfl : _ = Value.bool _) | exact (rfl : _ = Value.string _)) (by rfl) (by repeat constructor) ?_); clear F; intro W F)
        | ((with_reducible (show wpList _ _ _ (Oper.mk _ (Op.alloc _) _ _ _ none :: _) _ _)); refine Fv.al F rfl rfl ?_; clear F; intro g W hs1 hs2 F; clear hs1 hs2)
        | ((with_reducible (show wpList _ _ _ (Oper.mk _ (Op.box _ _) _ _ _ none :: _) _ _)); refine Fv.wpL_box F rfl rfl rfl rfl ?_; clear F; intro gb W hs1 hs2 F; clear hs1 hs2))
       go_roundw
       case rel => exact ⟨q + 1, s2, _, _, _, _, _, _, _, _, _, _, _, _, _, _, _, by go_num, by omega, HO2, HPP2, (F.weak (fun _ _ h => ⟨trivial, h.2⟩)).tail.tail⟩
       case measure => simp [intOf]; omega
      ·skip
       go_upto_region 10 with (first
        | ((with_reducible (show wpList _ _ _ (Oper.mk _ (Op.load _ _) _ _ _ none :: _) _ _)); first | refine Fv.ldN F rfl rfl rfl (by repeat constructor) (by repeat constructor) ?_ | refine Fv.ld1 F rfl rfl rfl (by repeat constructor) (by repeat constructor) ?_)
        | ((with_reducible (show wpList _ _ _ (Oper.mk _ (Op.store _ _ _) _ _ _ none :: _) _ _)); (first | refine Fv.stN F rfl rfl rfl rfl rfl (by first | rfl | simp [Value.oneCell']) (by repeat constructor) ?_ | refine Fv.st1 F rfl rfl rfl (by first | exact (rfl : _ = Value.int _ _) | exact (rfl : _ = Value.slice _ _ _) | exact (rfl : _ = Value.bool _) | exact (rfl : _ = Value.string _)) (by rfl) (by repeat constructor) ?_); clear F; intro W F)
        | ((with_reducible (show wpList _ _ _ (Oper.mk _ (Op.alloc _) _ _ _ none :: _) _ _)); refine Fv.al F rfl rfl ?_; clear F; intro g W hs1 hs2 F; clear hs1 hs2)
        | ((with_reducible (show wpList _ _ _ (Oper.mk _ (Op.box _ _) _ _ _ none :: _) _ _)); refine Fv.wpL_box F rfl rfl rfl rfl ?_; clear F; intro gb W hs1 hs2 F; clear hs1 hs2))
       have q0_0 := Fv.Fr.cell F Fv.At.head 0
       simp only [List.getElem?_cons_zero, List.getElem?_cons_succ] at q0_0
       go_upto_region 12 with (first
        | ((with_reducible (show wpList _ _ _ (Oper.mk _ (Op.load _ _) _ _ _ none :: _) _ _)); first | refine Fv.ldN F rfl rfl rfl (by repeat constructor) (by repeat constructor) ?_ | refine Fv.ld1 F rfl rfl rfl (by repeat constructor) (by repeat constructor) ?_)
        | ((with_reducible (show wpList _ _ _ (Oper.mk _ (Op.store _ _ _) _ _ _ none :: _) _ _)); (first | refine Fv.stN F rfl rfl rfl rfl rfl (by first | rfl | simp [Value.oneCell']) (by repeat constructor) ?_ | refine Fv.st1 F rfl rfl rfl (by first | exact (rfl : _ = Value.int _ _) | exact (rfl : _ = Value.slice _ _ _) | exact (rfl : _ = Value.bool _) | exact (rfl : _ = Value.string _)) (by rfl) (by repeat constructor) ?_); clear F; intro W F)
        | ((with_reducible (show wpList _ _ _ (Oper.mk _ (Op.alloc _) _ _ _ none :: _) _ _)); refine Fv.al F rfl rfl ?_; clear F; intro g W hs1 hs2 F; clear hs1 hs2)
        | ((with_reducible (show wpList _ _ _ (Oper.mk _ (Op.box _ _) _ _ _ none :: _) _ _)); refine Fv.wpL_box F rfl rfl rfl rfl ?_; clear F; intro gb W hs1 hs2 F; clear hs1 hs2)
        | (go_at_call 14; refine (HDO.out _ _ _ (HT.out.below F.B) F.out.2.free).mono ?_; rintro e2 w2 ⟨v2, rfl, hS2, hv⟩; obtain ⟨A2, n2, c2, B2, m2, k2, dd2, lf2, ds2, Af2, cf2, Ad2, cd2, Ac2, cc2, rfl, hq2⟩ := hS2; have hS2 := (show IsSt _ _ _ _ from ⟨_, _, _, _, _, _, _, _, _, _, _, _, _, _, _, rfl, hq2⟩); clear hq2; have F2 := F.call hv; replace F := addSt F F2 hS2 HO2.out.d.n1 rfl; clear hv F2 hS2))
       have e1 := st_deeds F.out.1.2.st
       have e2 := st_deeds F.out.2.st
       obtain ⟨dn, hdn, hdm⟩ : ∃ dn : Nat, ds2 = ds1 + dn ∧ dn ≤ mostR s 2 := ⟨(ds2 - ds1).toNat, by have := HDD.out.1; omega, by have := HDD.out.2; omega⟩
       have hsd1 := HO.out.d.d1
       have hsd2 := HO.out.d.d2
       have hlf := HLF.out.1
       have hld := HLF.out.2
       have hp12 := HPP.out
       have n0 : (0 : Int) ≤ (dn : Int) := by omega
       have ne : ds2 - ds1 = (dn : Int) := by omega
       have hdm : dn ≤ 2 * s.fr.length + s.di.length + 8 := hdm
       have n1 : (dn : Int) ≤ 100000 := by omega
       have i2 : ¬ (dn : Int) < 0 := by omega
       have i3 : ¬ 2 * (s.fr.length : Int) + (s.di.length : Int) + 8 < (dn : Int) := by omega
       have m0 : (0 : Int) ≤ 2 * (s.fr.length : Int) := by omega
       have p0 : 2 * (s.fr.length : Int) ≤ 100000 := by omega
       have m1 : (0 : Int) ≤ 2 * (s.fr.length : Int) + (s.di.length : Int) := by omega
       have p1 : 2 * (s.fr.length : Int) + (s.di.length : Int) ≤ 100000 := by omega
       have m2 : (0 : Int) ≤ 2 * (s.fr.length : Int) + (s.di.length : Int) + 8 := by omega
       have p2 : 2 * (s.fr.length : Int) + (s.di.length : Int) + 8 ≤ 100000 := by omega
       clear e1 e2 hdn hdm hsd1 hsd2 hlf hld hp12
       have hw : wrap64 (ds2 - ds1) = (dn : Int) := wr_id _ _ n0 n1 ne
       have hv0 : wrap64 (2 * (s.fr.length : Int)) = 2 * (s.fr.length : Int) := wr_id _ _ m0 p0 rfl
       have hv1 : wrap64 (2 * (s.fr.length : Int) + (s.di.length : Int)) = 2 * (s.fr.length : Int) + (s.di.length : Int) := wr_id _ _ m1 p1 rfl
       have hv2 : wrap64 (2 * (s.fr.length : Int) + (s.di.length : Int) + 8) = 2 * (s.fr.length : Int) + (s.di.length : Int) + 8 := wr_id _ _ m2 p2 rfl
       clear n0 n1 m0 m1 m2 p0 p1 p2
       clear ne
       clear d0 d1 d2 d3 d4 d5 hw9 HDO HFM HS HL HOK HG HLF HDD HSM HFA
       clear q0_0
       go_wp2_with (first
        | ((with_reducible (show wpList _ _ _ (Oper.mk _ (Op.load _ _) _ _ _ none :: _) _ _)); first | refine Fv.ldN F rfl rfl rfl (by repeat constructor) (by repeat constructor) ?_ | refine Fv.ld1 F rfl rfl rfl (by repeat constructor) (by repeat constructor) ?_)
        | ((with_reducible (show wpList _ _ _ (Oper.mk _ (Op.store _ _ _) _ _ _ none :: _) _ _)); (first | refine Fv.stN F rfl rfl rfl rfl rfl (by first | rfl | simp [Value.oneCell']) (by repeat constructor) ?_ | refine Fv.st1 F rfl rfl rfl (by first | exact (rfl : _ = Value.int _ _) | exact (rfl : _ = Value.slice _ _ _) | exact (rfl : _ = Value.bool _) | exact (rfl : _ = Value.string _)) (by rfl) (by repeat constructor) ?_); clear F; intro W F)
        | ((with_reducible (show wpList _ _ _ (Oper.mk _ (Op.alloc _) _ _ _ none :: _) _ _)); refine Fv.al F rfl rfl ?_; clear F; intro g W hs1 hs2 F; clear hs1 hs2)
        | ((with_reducible (show wpList _ _ _ (Oper.mk _ (Op.box _ _) _ _ _ none :: _) _ _)); refine Fv.wpL_box F rfl rfl rfl rfl ?_; clear F; intro gb W hs1 hs2 F; clear hs1 hs2))
       go_roundw
       case rel => exact ⟨q + 1, s2, _, _, _, _, _, _, _, _, _, _, _, _, _, _, _, by go_num, by omega, HO2, HPP2, (F.weak (fun _ _ h => ⟨trivial, h.2⟩)).tail.tail⟩
       case measure => simp [intOf]; omega
      ·skip
       go_upto_region 10 with (first
        | ((with_reducible (show wpList _ _ _ (Oper.mk _ (Op.load _ _) _ _ _ none :: _) _ _)); first | refine Fv.ldN F rfl rfl rfl (by repeat constructor) (by repeat constructor) ?_ | refine Fv.ld1 F rfl rfl rfl (by repeat constructor) (by repeat constructor) ?_)
        | ((with_reducible (show wpList _ _ _ (Oper.mk _ (Op.store _ _ _) _ _ _ none :: _) _ _)); (first | refine Fv.stN F rfl rfl rfl rfl rfl (by first | rfl | simp [Value.oneCell']) (by repeat constructor) ?_ | refine Fv.st1 F rfl rfl rfl (by first | exact (rfl : _ = Value.int _ _) | exact (rfl : _ = Value.slice _ _ _) | exact (rfl : _ = Value.bool _) | exact (rfl : _ = Value.string _)) (by rfl) (by repeat constructor) ?_); clear F; intro W F)
        | ((with_reducible (show wpList _ _ _ (Oper.mk _ (Op.alloc _) _ _ _ none :: _) _ _)); refine Fv.al F rfl rfl ?_; clear F; intro g W hs1 hs2 F; clear hs1 hs2)
        | ((with_reducible (show wpList _ _ _ (Oper.mk _ (Op.box _ _) _ _ _ none :: _) _ _)); refine Fv.wpL_box F rfl rfl rfl rfl ?_; clear F; intro gb W hs1 hs2 F; clear hs1 hs2))
       have q0_0 := Fv.Fr.cell F Fv.At.head 0
       simp only [List.getElem?_cons_zero, List.getElem?_cons_succ] at q0_0
       go_upto_region 12 with (first
        | ((with_reducible (show wpList _ _ _ (Oper.mk _ (Op.load _ _) _ _ _ none :: _) _ _)); first | refine Fv.ldN F rfl rfl rfl (by repeat constructor) (by repeat constructor) ?_ | refine Fv.ld1 F rfl rfl rfl (by repeat constructor) (by repeat constructor) ?_)
        | ((with_reducible (show wpList _ _ _ (Oper.mk _ (Op.store _ _ _) _ _ _ none :: _) _ _)); (first | refine Fv.stN F rfl rfl rfl rfl rfl (by first | rfl | simp [Value.oneCell']) (by repeat constructor) ?_ | refine Fv.st1 F rfl rfl rfl (by first | exact (rfl : _ = Value.int _ _) | exact (rfl : _ = Value.slice _ _ _) | exact (rfl : _ = Value.bool _) | exact (rfl : _ = Value.string _)) (by rfl) (by repeat constructor) ?_); clear F; intro W F)
        | ((with_reducible (show wpList _ _ _ (Oper.mk _ (Op.alloc _) _ _ _ none :: _) _ _)); refine Fv.al F rfl rfl ?_; clear F; intro g W hs1 hs2 F; clear hs1 hs2)
        | ((with_reducible (show wpList _ _ _ (Oper.mk _ (Op.box _ _) _ _ _ none :: _) _ _)); refine Fv.wpL_box F rfl rfl rfl rfl ?_; clear F; intro gb W hs1 hs2 F; clear hs1 hs2)
        | (go_at_call 14; refine (HDO.out _ _ _ (HT.out.below F.B) F.out.2.free).mono ?_; rintro e2 w2 ⟨v2, rfl, hS2, hv⟩; obtain ⟨A2, n2, c2, B2, m2, k2, dd2, lf2, ds2, Af2, cf2, Ad2, cd2, Ac2, cc2, rfl, hq2⟩ := hS2; have hS2 := (show IsSt _ _ _ _ from ⟨_, _, _, _, _, _, _, _, _, _, _, _, _, _, _, rfl, hq2⟩); clear hq2; have F2 := F.call hv; replace F := addSt F F2 hS2 HO2.out.d.n1 rfl; clear hv F2 hS2))
       have e1 := st_deeds F.out.1.2.st
       have e2 := st_deeds F.out.2.st
       obtain ⟨dn, hdn, hdm⟩ : ∃ dn : Nat, ds2 = ds1 + dn ∧ dn ≤ mostR s 3 := ⟨(ds2 - ds1).toNat, by have := HDD.out.1; omega, by have := HDD.out.2; omega⟩
       have hsd1 := HO.out.d.d1
       have hsd2 := HO.out.d.d2
       have hlf := HLF.out.1
       have hld := HLF.out.2
       have hp12 := HPP.out
       obtain rfl : dn = 0 := Nat.le_zero.1 hdm
       have ne : ds2 - ds1 = 0 := by omega
       clear e1 e2 hdn hdm hsd1 hsd2 hlf hld hp12
       have hw : wrap64 (ds2 - ds1) = 0 := wr_id _ _ (by decide) (by decide) ne
       clear ne
       clear d0 d1 d2 d3 d4 d5 hw9 HDO HFM HS HL HOK HG HLF HDD HSM HFA
       clear q0_0
       go_wp2_with (first
        | ((with_reducible (show wpList _ _ _ (Oper.mk _ (Op.load _ _) _ _ _ none :: _) _ _)); first | refine Fv.ldN F rfl rfl rfl (by repeat constructor) (by repeat constructor) ?_ | refine Fv.ld1 F rfl rfl rfl (by repeat constructor) (by repeat constructor) ?_)
        | ((with_reducible (show wpList _ _ _ (Oper.mk _ (Op.store _ _ _) _ _ _ none :: _) _ _)); (first | refine Fv.stN F rfl rfl rfl rfl rfl (by first | rfl | simp [Value.oneCell']) (by repeat constructor) ?_ | refine Fv.st1 F rfl rfl rfl (by first | exact (rfl : _ = Value.int _ _) | exact (rfl : _ = Value.slice _ _ _) | exact (rfl : _ = Value.bool _) | exact (rfl : _ = Value.string _)) (by rfl) (by repeat constructor) ?_); clear F; intro W F)
        | ((with_reducible (show wpList _ _ _ (Oper.mk _ (Op.alloc _) _ _ _ none :: _) _ _)); refine Fv.al F rfl rfl ?_; clear F; intro g W hs1 hs2 F; clear hs1 hs2)
        | ((with_reducible (show wpList _ _ _ (Oper.mk _ (Op.box _ _) _ _ _ none :: _) _ _)); refine Fv.wpL_box F rfl rfl rfl rfl ?_; clear F; intro gb W hs1 hs2 F; clear hs1 hs2))
       go_roundw
       case rel => exact ⟨q + 1, s2, _, _, _, _, _, _, _, _, _, _, _, _, _, _, _, by go_num, by omega, HO2, HPP2, (F.weak (fun _ _ h => ⟨trivial, h.2⟩)).tail.tail⟩
       case measure => simp [intOf]; omega
      ·skip
       go_upto_region 10 with (first
        | ((with_reducible (show wpList _ _ _ (Oper.mk _ (Op.load _ _) _ _ _ none :: _) _ _)); first | refine Fv.ldN F rfl rfl rfl (by repeat constructor) (by repeat constructor) ?_ | refine Fv.ld1 F rfl rfl rfl (by repeat constructor) (by repeat constructor) ?_)
        | ((with_reducible (show wpList _ _ _ (Oper.mk _ (Op.store _ _ _) _ _ _ none :: _) _ _)); (first | refine Fv.stN F rfl rfl rfl rfl rfl (by first | rfl | simp [Value.oneCell']) (by repeat constructor) ?_ | refine Fv.st1 F rfl rfl rfl (by first | exact (rfl : _ = Value.int _ _) | exact (rfl : _ = Value.slice _ _ _) | exact (rfl : _ = Value.bool _) | exact (rfl : _ = Value.string _)) (by rfl) (by repeat constructor) ?_); clear F; intro W F)
        | ((with_reducible (show wpList _ _ _ (Oper.mk _ (Op.alloc _) _ _ _ none :: _) _ _)); refine Fv.al F rfl rfl ?_; clear F; intro g W hs1 hs2 F; clear hs1 hs2)
        | ((with_reducible (show wpList _ _ _ (Oper.mk _ (Op.box _ _) _ _ _ none :: _) _ _)); refine Fv.wpL_box F rfl rfl rfl rfl ?_; clear F; intro gb W hs1 hs2 F; clear hs1 hs2))
       have q0_0 := Fv.Fr.cell F Fv.At.head 0
       simp only [List.getElem?_cons_zero, List.getElem?_cons_succ] at q0_0
       go_upto_region 12 with (first
        | ((with_reducible (show wpList _ _ _ (Oper.mk _ (Op.load _ _) _ _ _ none :: _) _ _)); first | refine Fv.ldN F rfl rfl rfl (by repeat constructor) (by repeat constructor) ?_ | refine Fv.ld1 F rfl rfl rfl (by repeat constructor) (by repeat constructor) ?_)
        | ((with_reducible (show wpList _ _ _ (Oper.mk _ (Op.store _ _ _) _ _ _ none :: _) _ _)); (first | refine Fv.stN F rfl rfl rfl rfl rfl (by first | rfl | simp [Value.oneCell']) (by repeat constructor) ?_ | refine Fv.st1 F rfl rfl rfl (by first | exact (rfl : _ = Value.int _ _) | exact (rfl : _ = Value.slice _ _ _) | exact (rfl : _ = Value.bool _) | exact (rfl : _ = Value.string _)) (by rfl) (by repeat constructor) ?_); clear F; intro W F)
        | ((with_reducible (show wpList _ _ _ (Oper.mk _ (Op.alloc _) _ _ _ none :: _) _ _)); refine Fv.al F rfl rfl ?_; clear F; intro g W hs1 hs2 F; clear hs1 hs2)
        | ((with_reducible (show wpList _ _ _ (Oper.mk _ (Op.box _ _) _ _ _ none :: _) _ _)); refine Fv.wpL_box F rfl rfl rfl rfl ?_; clear F; intro gb W hs1 hs2 F; clear hs1 hs2)
        | (go_at_call 14; refine (HDO.out _ _ _ (HT.out.below F.B) F.out.2.free).mono ?_; rintro e2 w2 ⟨v2, rfl, hS2, hv⟩; obtain ⟨A2, n2, c2, B2, m2, k2, dd2, lf2, ds2, Af2, cf2, Ad2, cd2, Ac2, cc2, rfl, hq2⟩ := hS2; have hS2 := (show IsSt _ _ _ _ from ⟨_, _, _, _, _, _, _, _, _, _, _, _, _, _, _, rfl, hq2⟩); clear hq2; have F2 := F.call hv; replace F := addSt F F2 hS2 HO2.out.d.n1 rfl; clear hv F2 hS2))
       have e1 := st_deeds F.out.1.2.st
       have e2 := st_deeds F.out.2.st
       obtain ⟨dn, hdn, hdm⟩ : ∃ dn : Nat, ds2 = ds1 + dn ∧ dn ≤ mostR s 4 := ⟨(ds2 - ds1).toNat, by have := HDD.out.1; omega, by have := HDD.out.2; omega⟩
       have hsd1 := HO.out.d.d1
       have hsd2 := HO.out.d.d2
       have hlf := HLF.out.1
       have hld := HLF.out.2
       have hp12 := HPP.out
       have n0 : (0 : Int) ≤ (dn : Int) := by omega
       have ne : ds2 - ds1 = (dn : Int) := by omega
       have hdm : dn ≤ 2 * s.fr.length + s.di.length + 8 := hdm
       have n1 : (dn : Int) ≤ 100000 := by omega
       have i2 : ¬ (dn : Int) < 0 := by omega
       have i3 : ¬ 2 * (s.fr.length : Int) + (s.di.length : Int) + 8 < (dn : Int) := by omega
       have m0 : (0 : Int) ≤ 2 * (s.fr.length : Int) := by omega
       have p0 : 2 * (s.fr.length : Int) ≤ 100000 := by omega
       have m1 : (0 : Int) ≤ 2 * (s.fr.length : Int) + (s.di.length : Int) := by omega
       have p1 : 2 * (s.fr.length : Int) + (s.di.length : Int) ≤ 100000 := by omega
       have m2 : (0 : Int) ≤ 2 * (s.fr.length : Int) + (s.di.length : Int) + 8 := by omega
       have p2 : 2 * (s.fr.length : Int) + (s.di.length : Int) + 8 ≤ 100000 := by omega
       clear e1 e2 hdn hdm hsd1 hsd2 hlf hld hp12
       have hw : wrap64 (ds2 - ds1) = (dn : Int) := wr_id _ _ n0 n1 ne
       have hv0 : wrap64 (2 * (s.fr.length : Int)) = 2 * (s.fr.length : Int) := wr_id _ _ m0 p0 rfl
       have hv1 : wrap64 (2 * (s.fr.length : Int) + (s.di.length : Int)) = 2 * (s.fr.length : Int) + (s.di.length : Int) := wr_id _ _ m1 p1 rfl
       have hv2 : wrap64 (2 * (s.fr.length : Int) + (s.di.length : Int) + 8) = 2 * (s.fr.length : Int) + (s.di.length : Int) + 8 := wr_id _ _ m2 p2 rfl
       clear n0 n1 m0 m1 m2 p0 p1 p2
       clear ne
       clear d0 d1 d2 d3 d4 d5 hw9 HDO HFM HS HL HOK HG HLF HDD HSM HFA
       clear q0_0
       go_wp2_with (first
        | ((with_reducible (show wpList _ _ _ (Oper.mk _ (Op.load _ _) _ _ _ none :: _) _ _)); first | refine Fv.ldN F rfl rfl rfl (by repeat constructor) (by repeat constructor) ?_ | refine Fv.ld1 F rfl rfl rfl (by repeat constructor) (by repeat constructor) ?_)
        | ((with_reducible (show wpList _ _ _ (Oper.mk _ (Op.store _ _ _) _ _ _ none :: _) _ _)); (first | refine Fv.stN F rfl rfl rfl rfl rfl (by first | rfl | simp [Value.oneCell']) (by repeat constructor) ?_ | refine Fv.st1 F rfl rfl rfl (by first | exact (rfl : _ = Value.int _ _) | exact (rfl : _ = Value.slice _ _ _) | exact (rfl : _ = Value.bool _) | exact (rfl : _ = Value.string _)) (by rfl) (by repeat constructor) ?_); clear F; intro W F)
        | ((with_reducible (show wpList _ _ _ (Oper.mk _ (Op.alloc _) _ _ _ none :: _) _ _)); refine Fv.al F rfl rfl ?_; clear F; intro g W hs1 hs2 F; clear hs1 hs2)
        | ((with_reducible (show wpList _ _ _ (Oper.mk _ (Op.box _ _) _ _ _ none :: _) _ _)); refine Fv.wpL_box F rfl rfl rfl rfl ?_; clear F; intro gb W hs1 hs2 F; clear hs1 hs2))
       go_roundw
       case rel => exact ⟨q + 1, s2, _, _, _, _, _, _, _, _, _, _, _, _, _, _, _, by go_num, by omega, HO2, HPP2, (F.weak (fun _ _ h => ⟨trivial, h.2⟩)).tail.tail⟩
       case measure => simp [intOf]; omega
     ·skip
      go_upto_region 10 with (first
       | ((with_reducible (show wpList _ _ _ (Oper.mk _ (Op.load _ _) _ _ _ none :: _) _ _)); first | refine Fv.ldN F rfl rfl rfl (by repeat constructor) (by repeat constructor) ?_ | refine Fv.ld1 F rfl rfl rfl (by repeat constructor) (by repeat constructor) ?_)
       | ((with_reducible (show wpList _ _ _ (Oper.mk _ (Op.store _ _ _) _ _ _ none :: _) _ _)); (first | refine Fv.stN F rfl rfl rfl rfl rfl (by first | rfl | simp [Value.oneCell']) (by repeat constructor) ?_ | refine Fv.st1 F rfl rfl rfl (by first | exact (rfl : _ = Value.int _ _) | exact (rfl : _ = Value.slice _ _ _) | exact (rfl : _ = Value.bool _) | exact (rfl : _ = Value.string _)) (by rfl) (by repeat constructor) ?_); clear F; intro W F)
       | ((with_reducible (show wpList _ _ _ (Oper.mk _ (Op.alloc _) _ _ _ none :: _) _ _)); refine Fv.al F rfl rfl ?_; clear F; intro g W hs1 hs2 F; clear hs1 hs2)
       | ((with_reducible (show wpList _ _ _ (Oper.mk _ (Op.box _ _) _ _ _ none :: _) _ _)); refine Fv.wpL_box F rfl rfl rfl rfl ?_; clear F; intro gb W hs1 hs2 F; clear hs1 hs2))
      have q0_0 := Fv.Fr.cell F Fv.At.head 0
      simp only [List.getElem?_cons_zero, List.getElem?_cons_succ] at q0_0
      go_wp2_with (first
       | ((with_reducible (show wpList _ _ _ (Oper.mk _ (Op.load _ _) _ _ _ none :: _) _ _)); first | refine Fv.ldN F rfl rfl rfl (by repeat constructor) (by repeat constructor) ?_ | refine Fv.ld1 F rfl rfl rfl (by repeat constructor) (by repeat constructor) ?_)
       | ((with_reducible (show wpList _ _ _ (Oper.mk _ (Op.store _ _ _) _ _ _ none :: _) _ _)); (first | refine Fv.stN F rfl rfl rfl rfl rfl (by first | rfl | simp [Value.oneCell']) (by repeat constructor) ?_ | refine Fv.st1 F rfl rfl rfl (by first | exact (rfl : _ = Value.int _ _) | exact (rfl : _ = Value.slice _ _ _) | exact (rfl : _ = Value.bool _) | exact (rfl : _ = Value.string _)) (by rfl) (by repeat constructor) ?_); clear F; intro W F)
       | ((with_reducible (show wpList _ _ _ (Oper.mk _ (Op.alloc _) _ _ _ none :: _) _ _)); refine Fv.al F rfl rfl ?_; clear F; intro g W hs1 hs2 F; clear hs1 hs2)
       | ((with_reducible (show wpList _ _ _ (Oper.mk _ (Op.box _ _) _ _ _ none :: _) _ _)); refine Fv.wpL_box F rfl rfl rfl rfl ?_; clear F; intro gb W hs1 hs2 F; clear hs1 hs2))
      go_roundw
      case rel => exact ⟨q + 1, s, _, _, _, _, _, _, _, _, _, _, _, _, _, _, _, by go_num, by omega, Lib.hid (HO.out.more (by omega)), HPP, F.tail⟩
      case measure => simp [intOf]; omega
    ·skip
     go_upto_region 10 with (first
      | ((with_reducible (show wpList _ _ _ (Oper.mk _ (Op.load _ _) _ _ _ none :: _) _ _)); first | refine Fv.ldN F rfl rfl rfl (by repeat constructor) (by repeat constructor) ?_ | refine Fv.ld1 F rfl rfl rfl (by repeat constructor) (by repeat constructor) ?_)
      | ((with_reducible (show wpList _ _ _ (Oper.mk _ (Op.store _ _ _) _ _ _ none :: _) _ _)); (first | refine Fv.stN F rfl rfl rfl rfl rfl (by first | rfl | simp [Value.oneCell']) (by repeat constructor) ?_ | refine Fv.st1 F rfl rfl rfl (by first | exact (rfl : _ = Value.int _ _) | exact (rfl : _ = Value.slice _ _ _) | exact (rfl : _ = Value.bool _) | exact (rfl : _ = Value.string _)) (by rfl) (by repeat constructor) ?_); clear F; intro W F)
      | ((with_reducible (show wpList _ _ _ (Oper.mk _ (Op.alloc _) _ _ _ none :: _) _ _)); refine Fv.al F rfl rfl ?_; clear F; intro g W hs1 hs2 F; clear hs1 hs2)
      | ((with_reducible (show wpList _ _ _ (Oper.mk _ (Op.box _ _) _ _ _ none :: _) _ _)); refine Fv.wpL_box F rfl rfl rfl rfl ?_; clear F; intro gb W hs1 hs2 F; clear hs1 hs2))
     have q0_0 := Fv.Fr.cell F Fv.At.head 0
     simp only [List.getElem?_cons_zero, List.getElem?_cons_succ] at q0_0
     go_wp2_with (first
      | ((with_reducible (show wpList _ _ _ (Oper.mk _ (Op.load _ _) _ _ _ none :: _) _ _)); first | refine Fv.ldN F rfl rfl rfl (by repeat constructor) (by repeat constructor) ?_ | refine Fv.ld1 F rfl rfl rfl (by repeat constructor) (by repeat constructor) ?_)
      | ((with_reducible (show wpList _ _ _ (Oper.mk _ (Op.store _ _ _) _ _ _ none :: _) _ _)); (first | refine Fv.stN F rfl rfl rfl rfl rfl (by first | rfl | simp [Value.oneCell']) (by repeat constructor) ?_ | refine Fv.st1 F rfl rfl rfl (by first | exact (rfl : _ = Value.int _ _) | exact (rfl : _ = Value.slice _ _ _) | exact (rfl : _ = Value.bool _) | exact (rfl : _ = Value.string _)) (by rfl) (by repeat constructor) ?_); clear F; intro W F)
      | ((with_reducible (show wpList _ _ _ (Oper.mk _ (Op.alloc _) _ _ _ none :: _) _ _)); refine Fv.al F rfl rfl ?_; clear F; intro g W hs1 hs2 F; clear hs1 hs2)
      | ((with_reducible (show wpList _ _ _ (Oper.mk _ (Op.box _ _) _ _ _ none :: _) _ _)); refine Fv.wpL_box F rfl rfl rfl rfl ?_; clear F; intro gb W hs1 hs2 F; clear hs1 hs2))
     go_roundw
     case rel => exact ⟨q + 1, s, _, _, _, _, _, _, _, _, _, _, _, _, _, _, _, by go_num, by omega, Lib.hid (HO.out.more (by omega)), HPP, F.tail⟩
     case measure => simp [intOf]; omega
   ·obtain rfl : n = q := by omega
    go_wp2_with (first
     | ((with_reducible (show wpList _ _ _ (Oper.mk _ (Op.load _ _) _ _ _ none :: _) _ _)); first | refine Fv.ldN F rfl rfl rfl (by repeat constructor) (by repeat constructor) ?_ | refine Fv.ld1 F rfl rfl rfl (by repeat constructor) (by repeat constructor) ?_)
     | ((with_reducible (show wpList _ _ _ (Oper.mk _ (Op.store _ _ _) _ _ _ none :: _) _ _)); (first | refine Fv.stN F rfl rfl rfl rfl rfl (by first | rfl | simp [Value.oneCell']) (by repeat constructor) ?_ | refine Fv.st1 F rfl rfl rfl (by first | exact (rfl : _ = Value.int _ _) | exact (rfl : _ = Value.slice _ _ _) | exact (rfl : _ = Value.bool _) | exact (rfl : _ = Value.string _)) (by rfl) (by repeat constructor) ?_); clear F; intro W F)
     | ((with_reducible (show wpList _ _ _ (Oper.mk _ (Op.alloc _) _ _ _ none :: _) _ _)); refine Fv.al F rfl rfl ?_; clear F; intro g W hs1 hs2 F; clear hs1 hs2)
     | ((with_reducible (show wpList _ _ _ (Oper.mk _ (Op.box _ _) _ _ _ none :: _) _ _)); refine Fv.wpL_box F rfl rfl rfl rfl ?_; clear F; intro gb W hs1 hs2 F; clear hs1 hs2)
     | (go_at_call 10; refine (awake_any _ (HT.out.below F.B)).mono ?_; rintro e w9 ⟨rfl, hv⟩; replace F := F.call hv; clear hv))
    rw [← HP.out]
    exact ⟨rfl, F.B⟩
 ·have HSM := Lib.hid hsm
  clear hsm
  have F := Fv.Fr.start w
  go_enter Tryz.func6, Tryz.ntmps6
  go_wp2_with (first
   | ((with_reducible (show wpList _ _ _ (Oper.mk _ (Op.load _ _) _ _ _ none :: _) _ _)); first | refine Fv.ldN F rfl rfl rfl (by repeat constructor) (by repeat constructor) ?_ | refine Fv.ld1 F rfl rfl rfl (by repeat constructor) (by repeat constructor) ?_)
   | ((with_reducible (show wpList _ _ _ (Oper.mk _ (Op.store _ _ _) _ _ _ none :: _) _ _)); (first | refine Fv.stN F rfl rfl rfl rfl rfl (by first | rfl | simp [Value.oneCell']) (by repeat constructor) ?_ | refine Fv.st1 F rfl rfl rfl (by first | exact (rfl : _ = Value.int _ _) | exact (rfl : _ = Value.slice _ _ _) | exact (rfl : _ = Value.bool _) | exact (rfl : _ = Value.string _)) (by rfl) (by repeat constructor) ?_); clear F; intro W F)
   | ((with_reducible (show wpList _ _ _ (Oper.mk _ (Op.alloc _) _ _ _ none :: _) _ _)); refine Fv.al F rfl rfl ?_; clear F; intro g W hs1 hs2 F; clear hs1 hs2)
   | ((with_reducible (show wpList _ _ _ (Oper.mk _ (Op.box _ _) _ _ _ none :: _) _ _)); refine Fv.wpL_box F rfl rfl rfl rfl ?_; clear F; intro gb W hs1 hs2 F; clear hs1 hs2)
   | (go_at_call 9; refine HS.out.mono ?_; rintro e w1 ⟨b, rfl, hb, hv⟩; obtain rfl : b = false := (by cases b; rfl; exact absurd (hb.1 rfl) HSM.out); clear hb; replace F := F.call hv; clear hv)
   | (go_at_call 10; refine (awake_any _ (HT.out.below F.B)).mono ?_; rintro e w9 ⟨rfl, hv⟩; replace F := F.call hv; clear hv))
  rw [← HP.out]
  exact ⟨rfl, F.B⟩
end
end Go.Proofs.YtfhopccbjlleoaaGreatDoor.St
