/- Stores: the law StoreAgain, walked. -/
import Derived.Test.YtcgkbcgpnlogoaaGreatDoorMgAL
import Derived.Test.YtcgkbcgpnlogoaaGreatDoorMgAF
namespace Go.Proofs.YtcgkbcgpnlogoaaGreatDoor.St
open Go.RowKit Go.Shelf Tal Sla Hd Fr Lf Lex
section
variable {D : Option Addr} {n cp : Nat} {l : List Ac} {w : World}
set_option maxRecDepth 20000 in
set_option maxHeartbeats 6400000 in
theorem again_any (lg tt : Int) (g0 : 0 ≤ lg) (g1 : lg < 256) (u0 : 0 ≤ tt) (u1 : tt < 256) (lo : Nat) (hl : HasA w lo D l) (hn : l.length = n) (h9 : n ≤ 9223372036854775807) (ho : ∀ a ∈ l, OkA a) (ht : Tab w) : Calls Tryz.prog 5 #[.int .u8 lg, .slice D n cp, .int .u8 tt] w (AwPost w) := by
 have HS := Lib.hid (show Calls Tryz.prog 15 #[.slice D n cp, .int .i64 40] w (BoolPost (SmallA 40 l) w) from small_any (cp := cp) 40 lo hl hn h9)
 have HL := Lib.hid (And.intro hl (And.intro hn ho))
 have HT := Lib.hid ht
 clear hl hn ho ht
 obtain ⟨post, hpost⟩ : ∃ post, AwPost w = post := ⟨_, rfl⟩
 rw [hpost]
 have HP := Lib.hid hpost
 clear hpost
 obtain ⟨tk, hk1, hk2, hk4⟩ : ∃ tk : Nat, tt.tmod 4 = (tk : Int) ∧ tt % 4 = (tk : Int) ∧ tk < 4 := ⟨(tt % 4).toNat, by rw [Int.tmod_eq_emod_of_nonneg u0]; omega, by omega, by omega⟩
 have hkw0 : wrap64 (tk : Int) = (tk : Int) := wr_small _ _ (by omega) (by omega) rfl
 have HKW := Lib.hid (And.intro hk1 (And.intro hk2 hkw0))
 clear hk1 hk2 hkw0 u0 u1
 by_cases hsm : SmallA 40 l
 ·have HSM := Lib.hid hsm
  have hn60 : n ≤ 40 := by rw [← HL.out.2.1]; exact hsm.len
  clear hsm
  obtain ⟨m, hm, hm4, hm12⟩ : ∃ m : Nat, (m : Int) = 4 + lg % 9 ∧ 4 ≤ m ∧ m ≤ 12 := ⟨(4 + lg % 9).toNat, by omega, by omega, by omega⟩
  obtain ⟨D0, V0, hf, hb0⟩ := been_new (p := 10) (l := (m : Int)) ⟨(show (8 : Int) ≤ 10 by decide), (show (10 : Int) ≤ 512 by decide), by show (4 : Int) ≤ m; omega, by show (m : Int) ≤ 512; omega, (show (1 : Int) ≤ 1 by decide), (show (1 : Int) < 2147483648 by decide)⟩
  have HFM := Lib.hid (fun W (ht : Tab W) => show Calls Tryz.prog 17 #[.int .i64 10, .int .i64 (4 + lg % 9)] W (FmtPost (some (⟨D0, ⟨10, (m : Int), 1⟩, 0, [], [], ⟨[], 0⟩⟩ : S), 0) W) by rw [← hm, ← hf]; exact format_any 10 m W ht)
  have HB0 := Lib.hid hb0
  have hw9 : wrap64 (4 + lg % 9) = 4 + lg % 9 := wr_small _ _ (by omega) (by omega) rfl
  clear hf hb0 hm hm4 hm12
  have F := Fv.Fr.start w
  go_enter Tryz.func5, Tryz.ntmps5
  go_upto_region 7 with (first
   | ((with_reducible (show wpList _ _ _ (Oper.mk _ (Op.load _ _) _ _ _ none :: _) _ _)); first | refine Fv.ldN F rfl rfl rfl (by repeat constructor) (by repeat constructor) ?_ | refine Fv.ld1 F rfl rfl rfl (by repeat constructor) (by repeat constructor) ?_)
   | ((with_reducible (show wpList _ _ _ (Oper.mk _ (Op.store _ _ _) _ _ _ none :: _) _ _)); (first | refine Fv.stN F rfl rfl rfl rfl rfl (by first | rfl | simp [Value.oneCell']) (by repeat constructor) ?_ | refine Fv.st1 F rfl rfl rfl (by first | exact (rfl : _ = Value.int _ _) | exact (rfl : _ = Value.slice _ _ _) | exact (rfl : _ = Value.bool _) | exact (rfl : _ = Value.string _)) (by rfl) (by repeat constructor) ?_); clear F; intro W F)
   | ((with_reducible (show wpList _ _ _ (Oper.mk _ (Op.alloc _) _ _ _ none :: _) _ _)); refine Fv.al F rfl rfl ?_; clear F; intro g W hs1 hs2 F; clear hs1 hs2)
   | ((with_reducible (show wpList _ _ _ (Oper.mk _ (Op.box _ _) _ _ _ none :: _) _ _)); refine Fv.wpL_box F rfl rfl rfl rfl ?_; clear F; intro gb W hs1 hs2 F; clear hs1 hs2)
   | (go_at_call 15; refine HS.out.mono ?_; rintro e w1 ⟨b, rfl, hb, hv⟩; obtain rfl : b = true := hb.2 HSM.out; clear hb; replace F := F.call hv; clear hv)
   | (go_at_call 17; refine (HFM.out _ (HT.out.below F.B)).mono ?_; rintro e2 w2 ⟨v0, rfl, hS0, _, hv⟩; replace hS0 := hS0 _ rfl; obtain ⟨A0, n0, c0, B0, m0, k0, dd0, lf0, ds0, Af0, cf0, Ad0, cd0, Ac0, cc0, rfl, hq0⟩ := hS0; have hS0 := (show IsSt _ _ _ _ from ⟨_, _, _, _, _, _, _, _, _, _, _, _, _, _, _, rfl, hq0⟩); clear hq0; have F2 := F.call hv; replace F := addSt (X := fun _ => False) F F2 (hS0.mono fun b hb => Or.inr hb) HB0.out.ok.d.n1 rfl; clear hv F2 hS0))
  clear hw9 g0 g1
  go_loopw [9] (fun s9 wr => ∃ (q : Nat) (s : S) (V su : Nat → ByteArray) (A1 : Option Addr) (n1 c1 : Nat) (B1 : Option Addr) (m1 k1 : Nat) (dd1 : Bool) (lf1 ds1 : Int) (Af1 : Option Addr) (cf1 : Nat) (Ad1 : Option Addr) (cd1 : Nat) (Ac1 : Option Addr) (cc1 : Nat), s9 = .int .i64 (q : Nat) ∧ q ≤ n ∧ Hid (Been s 10 m V su q) ∧ Fv.Fr w wr [(g, 37, [.slice A1 n1 c1, .slice B1 m1 k1, .bool dd1, .int .i64 lf1, .int .i64 ds1, .int .i64 s.h.p, .int .i64 s.h.l, .int .i64 s.h.e, .int .i64 (s.t : Nat), .slice Af1 s.fr.length cf1, .slice Ad1 s.di.length cd1, .slice Ac1 s.c.l.length cc1, .int .i64 (s.c.h : Nat)])] (fun L w2 => True ∧ StF (fun _ => False) w.heap.size (.agg #[.slice A1 n1 c1, .slice B1 m1 k1, .bool dd1, .int .i64 lf1, .int .i64 ds1, .int .i64 s.h.p, .int .i64 s.h.l, .int .i64 s.h.e, .int .i64 (s.t : Nat), .slice Af1 s.fr.length cf1, .slice Ad1 s.di.length cd1, .slice Ac1 s.c.l.length cc1, .int .i64 (s.c.h : Nat)]) s L w2)) (fun s9 _ => n - (intOf s9).toNat)
  case atStart => exact ⟨0, ⟨D0, ⟨10, (m : Int), 1⟩, 0, [], [], ⟨[], 0⟩⟩, V0, _, _, _, _, _, _, _, _, _, _, _, _, _, _, _, _, rfl, Nat.zero_le _, HB0, F⟩
  case round =>
   clear F
   obtain ⟨q, s, V, su, A1, n1, c1, B1, m1, k1, dd1, lf1, ds1, Af1, cf1, Ad1, cd1, Ac1, cc1, rfl, hq, HB, F⟩ := hrel
   by_cases hlt : q < n
   ·have hgt := List.getElem?_eq_getElem (l := l) (i := q) (by rw [HL.out.2.1]; exact hlt)
    generalize (l[q]'(by rw [HL.out.2.1]; exact hlt)) = x at hgt
    have HFA := Lib.hid (HSM.out.fine HL.out.2.2 x (List.mem_of_getElem? hgt))
    obtain ⟨bD, oD, hD, hRg⟩ := HasA.range HL.out.1 hgt
    obtain ⟨ak, aat, ad, ⟨fs, ft, fb⟩⟩ := x
    have d0 : World.cell? _ ⟨bD, oD + q * 6, none⟩ = some (.int .i64 ak) := hRg _ F.B 0 _ rfl
    have hR2 := Lib.hid hRg
    subst hD
    have i1 : (q : Int) < (n : Int) := by omega
    have i0 : (0 : Int) ≤ (q : Int) := by omega
    clear hgt hRg
    by_cases hk0 : 0 ≤ ak
    ·by_cases hk4 : ak ≤ 4
     ·obtain ⟨s2, t2, er, V2, su2, hR, hb2, _⟩ := HB.out.next (a := ⟨ak, aat, ad, ⟨fs, ft, fb⟩⟩) (by omega) (by decide) hk0 hk4
      have HB2 := Lib.hid hb2
      have HDO0 := fun Z W (v : Value) (ht : Tab W) (hi : IsSt Z W v s) => does_any v s ⟨ak, aat, ad, ⟨fs, ft, fb⟩⟩ W ht hi HB.out.ok (by omega) HFA.out
      rw [hR] at HDO0
      simp only [cellsA] at HDO0
      have HDO := Lib.hid HDO0
      clear HDO0 hR hb2
      go_upto_region 10 with (first
       | ((with_reducible (show wpList _ _ _ (Oper.mk _ (Op.load _ _) _ _ _ none :: _) _ _)); first | refine Fv.ldN F rfl rfl rfl (by repeat constructor) (by repeat constructor) ?_ | refine Fv.ld1 F rfl rfl rfl (by repeat constructor) (by repeat constructor) ?_)
       | ((with_reducible (show wpList _ _ _ (Oper.mk _ (Op.store _ _ _) _ _ _ none :: _) _ _)); (first | refine Fv.stN F rfl rfl rfl rfl rfl (by first | rfl | simp [Value.oneCell']) (by repeat constructor) ?_ | refine Fv.st1 F rfl rfl rfl (by first | exact (rfl : _ = Value.int _ _) | exact (rfl : _ = Value.slice _ _ _) | exact (rfl : _ = Value.bool _) | exact (rfl : _ = Value.string _)) (by rfl) (by repeat constructor) ?_); clear F; intro W F)
       | ((with_reducible (show wpList _ _ _ (Oper.mk _ (Op.alloc _) _ _ _ none :: _) _ _)); refine Fv.al F rfl rfl ?_; clear F; intro g W hs1 hs2 F; clear hs1 hs2))
      refine Lex.region_parts (ops := raraw) (ops1 := raops) (calls := racalls) 7 raord (Fv.FrS _ _ _) (by kernel_rfl) racut (by rw [rasize]; decide) (by kernel_rfl) (by kernel_rfl) (by kernel_rfl) rasel (by kernel_rfl) (by kernel_rfl) ralex F.drew ?_
      replace F := F.drew
      unfold raord
      refine Lex.step_take _ ra0 rfl (Lex.want_none rfl) (by intro Wx hSw; exact Fv.run_loadN hSw rfl rfl Fv.rt_Store (by repeat constructor) (by repeat constructor)) ?_
      simp only [Act.put, List.setIfInBounds_toArray, List.set_cons_zero, List.set_cons_succ]
      refine Lex.step_take _ ra1 rfl (Lex.want_none rfl) (by intro Wx hSw; clear hSw; go_simp; try (first | (with_reducible rfl) | rfl)) ?_
      simp only [Act.put, List.setIfInBounds_toArray, List.set_cons_zero, List.set_cons_succ]
      refine Lex.step_take _ ra2 rfl (Lex.want_none rfl) (by intro Wx hSw; clear hSw; go_simp; try (first | (with_reducible rfl) | rfl)) ?_
      simp only [Act.put, List.setIfInBounds_toArray, List.set_cons_zero, List.set_cons_succ]
      refine Lex.step_take _ ra3 rfl (Lex.want_none rfl) (by intro Wx hSw; clear hSw; go_simp; try (first | (with_reducible rfl) | rfl)) ?_
      simp only [Act.put, List.setIfInBounds_toArray, List.set_cons_zero, List.set_cons_succ]
      refine Lex.step_take _ ra4 rfl (Lex.want_none rfl) (by intro Wx hSw; exact Fv.run_loadR (hR2.out Wx hSw.B) rfl rfl rt_Act rfl) ?_
      simp only [Act.put, List.setIfInBounds_toArray, List.set_cons_zero, List.set_cons_succ]
      refine Lex.step_call ra5 rfl (Lex.want_none rfl) (fun K hK => ?_)
      go_simp
      refine (HDO.out _ _ _ (HT.out.below F.B) F.out.2.free).mono ?_
      rintro e2 w2 ⟨v2, rfl, hS2, hv⟩
      obtain ⟨A2, n2, c2, B2, m2, k2, dd2, lf2, ds2, Af2, cf2, Ad2, cd2, Ac2, cc2, rfl, hq2⟩ := hS2
      have hS2 := (show IsSt _ _ _ _ from ⟨_, _, _, _, _, _, _, _, _, _, _, _, _, _, _, rfl, hq2⟩)
      clear hq2
      have F2 := F.call hv
      replace F := addSt F F2 hS2 HB2.out.ok.d.n1 rfl
      clear hv F2 hS2
      refine hK.out (Fv.FrS _ _ _) _ _ (fun _ h => Fv.Fr.weak h (by intro L w h; first | exact h | exact h.1 | exact h.1.1)) F ?_
      clear hK K
      try simp only [Act.put, List.setIfInBounds_toArray, List.set_cons_zero, List.set_cons_succ]
      refine Lex.step_take _ ra6 rfl (Lex.want_none rfl) (by intro Wx hSw; clear hSw; go_simp; try (first | (with_reducible rfl) | rfl)) ?_
      simp only [Act.put, List.setIfInBounds_toArray, List.set_cons_zero, List.set_cons_succ]
      refine Lex.tail_lex (ops := raraw) (calls := [10]) (n := 7) [7, 8, 9, 10] (fun _ => True) rarsel (by rw [rasize]; rfl) (by kernel_rfl) ratlex trivial ?_
      refine Lex.step_take _ rat7 rfl (Lex.want_none rfl) (by intro Wx hSw; clear hSw; go_simp; try (first | (with_reducible rfl) | rfl)) ?_
      simp only [Act.put, List.setIfInBounds_toArray, List.set_cons_zero, List.set_cons_succ]
      refine Lex.step_take _ rat8 rfl (Lex.want_none rfl) (by intro Wx hSw; clear hSw; go_simp; try (first | (with_reducible rfl) | rfl)) ?_
      simp only [Act.put, List.setIfInBounds_toArray, List.set_cons_zero, List.set_cons_succ]
      refine Lex.step_take _ rat9 rfl (Lex.want_none rfl) (by intro Wx hSw; clear hSw; go_simp; try (first | (with_reducible rfl) | rfl)) ?_
      simp only [Act.put, List.setIfInBounds_toArray, List.set_cons_zero, List.set_cons_succ]
      refine Lex.step_call rat10 rfl (Lex.want_none rfl) (fun K hK => ?_)
      refine Fv.wp_storeN F rfl rfl rfl Fv.rt_Store rfl (by first | rfl | simp [Value.oneCell']) (by repeat constructor) ?_; clear F; intro W F
      refine hK.out _ _ _ (fun _ h => h) trivial ?_
      clear hK K
      try simp only [Act.put, List.setIfInBounds_toArray, List.set_cons_zero, List.set_cons_succ]
      refine NoPanic.normal ?_
      go_wp2_with (first
       | ((with_reducible (show wpList _ _ _ (Oper.mk _ (Op.load _ _) _ _ _ none :: _) _ _)); first | refine Fv.ldN F rfl rfl rfl (by repeat constructor) (by repeat constructor) ?_ | refine Fv.ld1 F rfl rfl rfl (by repeat constructor) (by repeat constructor) ?_)
       | ((with_reducible (show wpList _ _ _ (Oper.mk _ (Op.store _ _ _) _ _ _ none :: _) _ _)); (first | refine Fv.stN F rfl rfl rfl rfl rfl (by first | rfl | simp [Value.oneCell']) (by repeat constructor) ?_ | refine Fv.st1 F rfl rfl rfl (by first | exact (rfl : _ = Value.int _ _) | exact (rfl : _ = Value.slice _ _ _) | exact (rfl : _ = Value.bool _) | exact (rfl : _ = Value.string _)) (by rfl) (by repeat constructor) ?_); clear F; intro W F)
       | ((with_reducible (show wpList _ _ _ (Oper.mk _ (Op.alloc _) _ _ _ none :: _) _ _)); refine Fv.al F rfl rfl ?_; clear F; intro g W hs1 hs2 F; clear hs1 hs2))
      go_roundw
      case rel => exact ⟨q + 1, s2, V2, su2, _, _, _, _, _, _, _, _, _, _, _, _, _, _, _, by go_num, by omega, HB2, F.weak (fun _ _ h => ⟨trivial, h.2⟩)⟩
      case measure => simp [intOf]; omega
     ·skip
      go_wp2_with (first
       | ((with_reducible (show wpList _ _ _ (Oper.mk _ (Op.load _ _) _ _ _ none :: _) _ _)); first | refine Fv.ldN F rfl rfl rfl (by repeat constructor) (by repeat constructor) ?_ | refine Fv.ld1 F rfl rfl rfl (by repeat constructor) (by repeat constructor) ?_)
       | ((with_reducible (show wpList _ _ _ (Oper.mk _ (Op.store _ _ _) _ _ _ none :: _) _ _)); (first | refine Fv.stN F rfl rfl rfl rfl rfl (by first | rfl | simp [Value.oneCell']) (by repeat constructor) ?_ | refine Fv.st1 F rfl rfl rfl (by first | exact (rfl : _ = Value.int _ _) | exact (rfl : _ = Value.slice _ _ _) | exact (rfl : _ = Value.bool _) | exact (rfl : _ = Value.string _)) (by rfl) (by repeat constructor) ?_); clear F; intro W F)
       | ((with_reducible (show wpList _ _ _ (Oper.mk _ (Op.alloc _) _ _ _ none :: _) _ _)); refine Fv.al F rfl rfl ?_; clear F; intro g W hs1 hs2 F; clear hs1 hs2))
      go_roundw
      case rel => exact ⟨q + 1, s, V, su, _, _, _, _, _, _, _, _, _, _, _, _, _, _, _, by go_num, by omega, Lib.hid HB.out.more, F⟩
      case measure => simp [intOf]; omega
    ·skip
     go_wp2_with (first
      | ((with_reducible (show wpList _ _ _ (Oper.mk _ (Op.load _ _) _ _ _ none :: _) _ _)); first | refine Fv.ldN F rfl rfl rfl (by repeat constructor) (by repeat constructor) ?_ | refine Fv.ld1 F rfl rfl rfl (by repeat constructor) (by repeat constructor) ?_)
      | ((with_reducible (show wpList _ _ _ (Oper.mk _ (Op.store _ _ _) _ _ _ none :: _) _ _)); (first | refine Fv.stN F rfl rfl rfl rfl rfl (by first | rfl | simp [Value.oneCell']) (by repeat constructor) ?_ | refine Fv.st1 F rfl rfl rfl (by first | exact (rfl : _ = Value.int _ _) | exact (rfl : _ = Value.slice _ _ _) | exact (rfl : _ = Value.bool _) | exact (rfl : _ = Value.string _)) (by rfl) (by repeat constructor) ?_); clear F; intro W F)
      | ((with_reducible (show wpList _ _ _ (Oper.mk _ (Op.alloc _) _ _ _ none :: _) _ _)); refine Fv.al F rfl rfl ?_; clear F; intro g W hs1 hs2 F; clear hs1 hs2))
     go_roundw
     case rel => exact ⟨q + 1, s, V, su, _, _, _, _, _, _, _, _, _, _, _, _, _, _, _, by go_num, by omega, Lib.hid HB.out.more, F⟩
     case measure => simp [intOf]; omega
   ·obtain rfl : n = q := by omega
    clear hlt
    have HA5 := Lib.hid (fun Z W (v : Value) (ht : Tab W) (hi : IsSt Z W v s) => abort_any v s W hi)
    have HR0 := Lib.hid (HB.out.rest (by omega))
    obtain ⟨r0, hr0⟩ : ∃ r, abortR s = r := ⟨_, rfl⟩
    rw [hr0] at HA5 HR0
    clear hr0
    go_upto_region 13 with (first
     | ((with_reducible (show wpList _ _ _ (Oper.mk _ (Op.load _ _) _ _ _ none :: _) _ _)); first | refine Fv.ldN F rfl rfl rfl (by repeat constructor) (by repeat constructor) ?_ | refine Fv.ld1 F rfl rfl rfl (by repeat constructor) (by repeat constructor) ?_)
     | ((with_reducible (show wpList _ _ _ (Oper.mk _ (Op.store _ _ _) _ _ _ none :: _) _ _)); (first | refine Fv.stN F rfl rfl rfl rfl rfl (by first | rfl | simp [Value.oneCell']) (by repeat constructor) ?_ | refine Fv.st1 F rfl rfl rfl (by first | exact (rfl : _ = Value.int _ _) | exact (rfl : _ = Value.slice _ _ _) | exact (rfl : _ = Value.bool _) | exact (rfl : _ = Value.string _)) (by rfl) (by repeat constructor) ?_); clear F; intro W F)
     | ((with_reducible (show wpList _ _ _ (Oper.mk _ (Op.alloc _) _ _ _ none :: _) _ _)); refine Fv.al F rfl rfl ?_; clear F; intro g W hs1 hs2 F; clear hs1 hs2)
     | (go_at_call 25; refine (HA5.out _ _ _ (HT.out.below F.B) F.out.2.free).mono ?_; rintro e2 w2 ⟨v2, rfl, hS2, hv⟩; obtain ⟨A2, n2, c2, B2, m2, k2, dd2, lf2, ds2, Af2, cf2, Ad2, cd2, Ac2, cc2, rfl, hq2⟩ := hS2; have hS2 := (show IsSt _ _ _ _ from ⟨_, _, _, _, _, _, _, _, _, _, _, _, _, _, _, rfl, hq2⟩); clear hq2; have F2 := F.call hv; replace F := addSt F F2 hS2 HR0.out.ok.d.n1 rfl; clear hv F2 hS2))
    try (rename (∀ (a : Act) (w : World), Code.wp _ _ _ a w → _) => hz1; revert hz1; (try (rename (∀ (a : Act) (w : World), Code.wp _ _ _ a w → _) => hz2; clear hz2)); (try (rename (∀ (a : Act) (w : World), Code.wp _ _ _ a w → _) => hz2; clear hz2)); intro)
    go_loopw [10] (fun s10 wr => ∃ (q : Nat) (s : S) (V : Nat → ByteArray) (A3 : Option Addr) (n3 c3 : Nat) (B3 : Option Addr) (m3 k3 : Nat) (dd3 : Bool) (lf3 ds3 : Int) (Af3 : Option Addr) (cf3 : Nat) (Ad3 : Option Addr) (cd3 : Nat) (Ac3 : Option Addr) (cc3 : Nat), s10 = .int .i64 (q : Nat) ∧ q ≤ tk ∧ Hid (Rest s 10 m V su q) ∧ Fv.Fr w wr [(g, 37, [.slice A3 n3 c3, .slice B3 m3 k3, .bool dd3, .int .i64 lf3, .int .i64 ds3, .int .i64 s.h.p, .int .i64 s.h.l, .int .i64 s.h.e, .int .i64 (s.t : Nat), .slice Af3 s.fr.length cf3, .slice Ad3 s.di.length cd3, .slice Ac3 s.c.l.length cc3, .int .i64 (s.c.h : Nat)])] (fun L w2 => True ∧ StF (fun _ => False) w.heap.size (.agg #[.slice A3 n3 c3, .slice B3 m3 k3, .bool dd3, .int .i64 lf3, .int .i64 ds3, .int .i64 s.h.p, .int .i64 s.h.l, .int .i64 s.h.e, .int .i64 (s.t : Nat), .slice Af3 s.fr.length cf3, .slice Ad3 s.di.length cd3, .slice Ac3 s.c.l.length cc3, .int .i64 (s.c.h : Nat)]) s L w2)) (fun s10 _ => tk - (intOf s10).toNat)
    case atStart => exact ⟨0, r0, V, _, _, _, _, _, _, _, _, _, _, _, _, _, _, _, rfl, Nat.zero_le _, HR0, F.weak (fun _ _ h => ⟨trivial, h.2⟩)⟩
    case round =>
     clear F
     obtain ⟨q, s, V, A3, n3, c3, B3, m3, k3, dd3, lf3, ds3, Af3, cf3, Ad3, cd3, Ac3, cc3, rfl, hq, HB, F⟩ := hrel
     have hk1 := HKW.out.1
     have hk2 := HKW.out.2.1
     have hkw := HKW.out.2.2
     by_cases hlt : q < tk
     ·have i1 : (q : Int) < (tk : Int) := Int.ofNat_lt.2 hlt
      go_upto_region 15 with (first
       | ((with_reducible (show wpList _ _ _ (Oper.mk _ (Op.load _ _) _ _ _ none :: _) _ _)); first | refine Fv.ldN F rfl rfl rfl (by repeat constructor) (by repeat constructor) ?_ | refine Fv.ld1 F rfl rfl rfl (by repeat constructor) (by repeat constructor) ?_)
       | ((with_reducible (show wpList _ _ _ (Oper.mk _ (Op.store _ _ _) _ _ _ none :: _) _ _)); (first | refine Fv.stN F rfl rfl rfl rfl rfl (by first | rfl | simp [Value.oneCell']) (by repeat constructor) ?_ | refine Fv.st1 F rfl rfl rfl (by first | exact (rfl : _ = Value.int _ _) | exact (rfl : _ = Value.slice _ _ _) | exact (rfl : _ = Value.bool _) | exact (rfl : _ = Value.string _)) (by rfl) (by repeat constructor) ?_); clear F; intro W F)
       | ((with_reducible (show wpList _ _ _ (Oper.mk _ (Op.alloc _) _ _ _ none :: _) _ _)); refine Fv.al F rfl rfl ?_; clear F; intro g W hs1 hs2 F; clear hs1 hs2))
      clear hk1 hk2 hkw i1
      obtain ⟨u, V2, hop, hu, hnew⟩ := HB.out.opened (by omega) (⟨0, -1, 0⟩ : Fat)
      have HU := Lib.hid hu
      have hwe : wrap64 (s.h.e + 1) = u.h.e := wr_small _ _ (by have := hnew.e; have := HB.out.ok.h.e0; omega) (by have := hnew.e; have := HB.out.e; omega) hnew.e.symm
      have HWE := Lib.hid hwe
      have hso := HB.out.ok.d.started (⟨0, -1, 0⟩ : Fat)
      have HST := Lib.hid (fun W (v : Value) (hd : IsDev W v s.d) => refStart_any v s.d (⟨0, -1, 0⟩ : Fat) W hd HB.out.ok.d (by omega) (by decide) (by decide))
      have hn2 : 2 ≤ (s.d.started (⟨0, -1, 0⟩ : Fat)).n := by show 2 ≤ s.d.n; have := HB.out.ok.n; omega
      have HOP0 := fun W (v : Value) (ht : Tab W) (hd : IsDev W v (s.d.started (⟨0, -1, 0⟩ : Fat))) => open_any v (s.d.started (⟨0, -1, 0⟩ : Fat)) W ht hd hso (by decide) hn2
      rw [hop] at HOP0
      have HOP := Lib.hid HOP0
      obtain ⟨D7, hD7⟩ : ∃ D, s.d.started (⟨0, -1, 0⟩ : Fat) = D := ⟨_, rfl⟩
      rw [hD7] at HST HOP hn2
      have HND := Lib.hid (show 1 ≤ D7.n by omega)
      have HNW := Lib.hid hnew
      clear HOP0 hso hn2 hD7 hop hwe hu hnew
      go_upto_region 16 with (first
       | ((with_reducible (show wpList _ _ _ (Oper.mk _ (Op.alloc 37) _ _ _ none :: _) _ _)); refine Fv.al F rfl rfl ?_; clear F; intro GU W hs1 hs2 F; clear hs1 hs2)
       | ((with_reducible (show wpList _ _ _ (Oper.mk _ (Op.alloc 28) _ _ _ none :: _) _ _)); refine Fv.al F rfl rfl ?_; clear F; intro GD W hs1 hs2 F; clear hs1 hs2)
       | ((with_reducible (show wpList _ _ _ (Oper.mk _ (Op.load _ _) _ _ _ none :: _) _ _)); first | refine Fv.ldN F rfl rfl rfl (by repeat constructor) (by repeat constructor) ?_ | refine Fv.ld1 F rfl rfl rfl (by repeat constructor) (by repeat constructor) ?_)
       | ((with_reducible (show wpList _ _ _ (Oper.mk _ (Op.store _ _ _) _ _ _ none :: _) _ _)); (first | refine Fv.stN F rfl rfl rfl rfl rfl (by first | rfl | simp [Value.oneCell']) (by repeat constructor) ?_ | refine Fv.st1 F rfl rfl rfl (by first | exact (rfl : _ = Value.int _ _) | exact (rfl : _ = Value.slice _ _ _) | exact (rfl : _ = Value.bool _) | exact (rfl : _ = Value.string _)) (by rfl) (by repeat constructor) ?_); clear F; intro W F)
       | ((with_reducible (show wpList _ _ _ (Oper.mk _ (Op.alloc _) _ _ _ none :: _) _ _)); refine Fv.al F rfl rfl ?_; clear F; intro g W hs1 hs2 F; clear hs1 hs2)
       | (go_at_call 27; refine (HST.out _ _ (st_five F.out.2.st)).mono ?_; rintro e7 w7 ⟨v7, rfl, hD7, hv⟩; replace F := F.call hv; clear hv; obtain ⟨A7, n7, c7, B7, m7, k7, dd7, lf7, ds7, rfl⟩ := dev_form hD7; replace F := addDev F hD7 HND.out rfl; clear hD7)
       | (go_at_call 26; refine (HOP.out _ _ (HT.out.below F.B) F.out.2.dev).mono ?_; rintro e8 w8 ⟨v8, vd9, rfl, hS8, _, hD9, hv⟩; replace hS8 := hS8 _ rfl; obtain ⟨A8, n8, c8, B8, m8, k8, dd8, lf8, ds8, Af8, cf8, Ad8, cd8, Ac8, cc8, rfl, hq8⟩ := hS8; have hS8 := (show IsSt _ _ _ _ from ⟨_, _, _, _, _, _, _, _, _, _, _, _, _, _, _, rfl, hq8⟩); clear hq8; have F2 := F.call hv; replace F := addSt (X := fun _ => False) F F2 (hS8.mono fun b hb => Or.inr hb) HU.out.ok.d.n1 rfl; clear hv F2 hS8; obtain ⟨A9, n9, c9, B9, m9, k9, dd9, lf9, ds9, rfl⟩ := dev_form hD9; replace F := addDev F hD9 HU.out.ok.d.n1 rfl; clear hD9))
      clear HOP HST HND
      have ht0 : (u.t : Int) = 0 := by rw [HNW.out.t]; rfl
      have hf0 := HNW.out.fr
      have hd0 := HNW.out.di
      have hc0 : u.c.l = [] := by rw [HNW.out.c]
      have hwe := HWE.out
      have q1_0 := Fv.Fr.cell F (Fv.At.tail Fv.At.head) 0
      simp only [List.getElem?_cons_zero] at q1_0
      have q1_1 := Fv.Fr.cell F (Fv.At.tail Fv.At.head) 1
      simp only [List.getElem?_cons_zero, List.getElem?_cons_succ] at q1_1
      have q1_2 := Fv.Fr.cell F (Fv.At.tail Fv.At.head) 2
      simp only [List.getElem?_cons_zero, List.getElem?_cons_succ] at q1_2
      have q1_3 := Fv.Fr.cell F (Fv.At.tail Fv.At.head) 3
      simp only [List.getElem?_cons_zero, List.getElem?_cons_succ] at q1_3
      have q1_4 := Fv.Fr.cell F (Fv.At.tail Fv.At.head) 4
      simp only [List.getElem?_cons_zero, List.getElem?_cons_succ] at q1_4
      have q1_7 := Fv.Fr.cell F (Fv.At.tail Fv.At.head) 7
      simp only [List.getElem?_cons_zero, List.getElem?_cons_succ] at q1_7
      have q1_8 := Fv.Fr.cell F (Fv.At.tail Fv.At.head) 8
      simp only [List.getElem?_cons_zero, List.getElem?_cons_succ] at q1_8
      have q1_9 := Fv.Fr.cell F (Fv.At.tail Fv.At.head) 9
      simp only [List.getElem?_cons_zero, List.getElem?_cons_succ] at q1_9
      have q1_10 := Fv.Fr.cell F (Fv.At.tail Fv.At.head) 10
      simp only [List.getElem?_cons_zero, List.getElem?_cons_succ] at q1_10
      have q1_11 := Fv.Fr.cell F (Fv.At.tail Fv.At.head) 11
      simp only [List.getElem?_cons_zero, List.getElem?_cons_succ] at q1_11
      have q2_7 := Fv.Fr.cell F (Fv.At.tail (Fv.At.tail Fv.At.head)) 7
      simp only [List.getElem?_cons_zero, List.getElem?_cons_succ] at q2_7
      have q0_0 := Fv.Fr.cell F Fv.At.head 0
      simp only [List.getElem?_cons_zero] at q0_0
      have q0_1 := Fv.Fr.cell F Fv.At.head 1
      simp only [List.getElem?_cons_zero, List.getElem?_cons_succ] at q0_1
      have q0_2 := Fv.Fr.cell F Fv.At.head 2
      simp only [List.getElem?_cons_zero, List.getElem?_cons_succ] at q0_2
      have q0_3 := Fv.Fr.cell F Fv.At.head 3
      simp only [List.getElem?_cons_zero, List.getElem?_cons_succ] at q0_3
      have q0_4 := Fv.Fr.cell F Fv.At.head 4
      simp only [List.getElem?_cons_zero, List.getElem?_cons_succ] at q0_4
      go_upto_region 18 with (first
       | ((with_reducible (show wpList _ _ _ (Oper.mk _ (Op.load _ _) _ _ _ none :: _) _ _)); first | refine Fv.ldN F rfl rfl rfl (by repeat constructor) (by repeat constructor) ?_ | refine Fv.ld1 F rfl rfl rfl (by repeat constructor) (by repeat constructor) ?_)
       | ((with_reducible (show wpList _ _ _ (Oper.mk _ (Op.store _ _ _) _ _ _ none :: _) _ _)); (first | refine Fv.stN F rfl rfl rfl rfl rfl (by first | rfl | simp [Value.oneCell']) (by repeat constructor) ?_ | refine Fv.st1 F rfl rfl rfl (by first | exact (rfl : _ = Value.int _ _) | exact (rfl : _ = Value.slice _ _ _) | exact (rfl : _ = Value.bool _) | exact (rfl : _ = Value.string _)) (by rfl) (by repeat constructor) ?_); clear F; intro W F)
       | ((with_reducible (show wpList _ _ _ (Oper.mk _ (Op.alloc _) _ _ _ none :: _) _ _)); refine Fv.al F rfl rfl ?_; clear F; intro g W hs1 hs2 F; clear hs1 hs2)
       | (go_at_call 28; refine (sameDev_any F.out.2.dev (st_five F.out.1.2.st) HU.out.c.c.m HU.out.ok.d.n2).mono ?_; rintro e1 w1 ⟨rfl, hv⟩; clear q1_0 q1_1 q1_2 q1_3 q1_4 q1_7 q1_8 q1_9 q1_10 q1_11 q2_7 q0_0 q0_1 q0_2 q0_3 q0_4; replace F := F.call hv; clear hv))
      clear ht0 hf0 hd0 hc0 hwe
      replace F := F.drew
      refine Lex.region_tree (ops := yzops) yztree (Fv.ClsB _ _) (by kernel_rfl) (by kernel_rfl) yzsel yzlex ⟨F.B, F.cls (Fv.Inc.cons (Fv.VIn.tail (Fv.VIn.tail Fv.VIn.head)) (Fv.Inc.cons (Fv.VIn.tail Fv.VIn.head) Fv.Inc.nil))⟩ ?_
      unfold yztree
      refine Lex.tree_take _ yz0 (Lex.want_none rfl) (by intro Wx hSw; exact Fv.run_loadNC hSw.2 rfl rfl Fv.rt_Store (by repeat constructor) (by repeat constructor)) ?_
      simp only [Act.put, List.setIfInBounds_toArray, List.set_cons_zero, List.set_cons_succ]
      refine Lex.tree_take _ yz1 (Lex.want_none rfl) (by intro Wx hSw; exact Fv.run_loadNC hSw.2 rfl rfl Fv.rt_Store (by repeat constructor) (by repeat constructor)) ?_
      simp only [Act.put, List.setIfInBounds_toArray, List.set_cons_zero, List.set_cons_succ]
      refine Lex.tree_call yz2 (Lex.want_none rfl) (fun K hK => ?_) ?_
      ·refine Fv.wp_alloc F rfl (by first | exact Fv.zt_Slab | exact Fv.zt_Head | exact Fv.zt_Frame | exact Fv.zt_Clock | exact Fv.zt_Page | exact Fv.zt_Image | exact Fv.zt_Store) ?_; clear F; intro GY W hs1 hs2 F; clear hs1 hs2
       refine hK.out _ _ _ (fun _ h => h) ⟨F.B, F.cls (by (repeat (first | exact Fv.Inc.nil | apply Fv.Inc.cons | exact Fv.VIn.head | apply Fv.VIn.tail)); done)⟩ ?_
       clear hK K
       try simp only [Act.put, List.setIfInBounds_toArray, List.set_cons_zero, List.set_cons_succ]
       refine Lex.tree_call yz3 (Lex.want_none rfl) (fun K hK => ?_) Lex.tree_no
       refine Fv.wp_alloc F rfl (by first | exact Fv.zt_Slab | exact Fv.zt_Head | exact Fv.zt_Frame | exact Fv.zt_Clock | exact Fv.zt_Page | exact Fv.zt_Image | exact Fv.zt_Store) ?_; clear F; intro GZ W hs1 hs2 F; clear hs1 hs2
       refine hK.out _ _ _ (fun _ h => h) ⟨F.B, F.cls (by (repeat (first | exact Fv.Inc.nil | apply Fv.Inc.cons | exact Fv.VIn.head | apply Fv.VIn.tail)); done)⟩ ?_
       clear hK K
       try simp only [Act.put, List.setIfInBounds_toArray, List.set_cons_zero, List.set_cons_succ]
       refine Lex.tree_call yz4 (Lex.want_none rfl) (fun K hK => ?_) Lex.tree_no
       refine Fv.wp_storeN F rfl rfl rfl Fv.rt_Store rfl (by first | rfl | simp [Value.oneCell']) (by repeat constructor) ?_; clear F; intro W F
       refine hK.out _ _ _ (fun _ h => h) ⟨F.B, F.cls (by (repeat (first | exact Fv.Inc.nil | apply Fv.Inc.cons | exact Fv.VIn.head | apply Fv.VIn.tail)); done)⟩ ?_
       clear hK K
       try simp only [Act.put, List.setIfInBounds_toArray, List.set_cons_zero, List.set_cons_succ]
       refine Lex.tree_call yz5 (Lex.want_none rfl) (fun K hK => ?_) Lex.tree_no
       refine Fv.wp_storeN F rfl rfl rfl Fv.rt_Store rfl (by first | rfl | simp [Value.oneCell']) (by repeat constructor) ?_; clear F; intro W F
       refine hK.out _ _ _ (fun _ h => h) ⟨F.B, F.cls (by (repeat (first | exact Fv.Inc.nil | apply Fv.Inc.cons | exact Fv.VIn.head | apply Fv.VIn.tail)); done)⟩ ?_
       clear hK K
       try simp only [Act.put, List.setIfInBounds_toArray, List.set_cons_zero, List.set_cons_succ]
       refine Lex.tree_end ?_
       refine NoPanic.normal ?_
       go_upto_region 20 with (first
        | ((with_reducible (show wpList _ _ _ (Oper.mk _ (Op.load _ _) _ _ _ none :: _) _ _)); first | refine Fv.ldN F rfl rfl rfl (by repeat constructor) (by repeat constructor) ?_ | refine Fv.ld1 F rfl rfl rfl (by repeat constructor) (by repeat constructor) ?_)
        | ((with_reducible (show wpList _ _ _ (Oper.mk _ (Op.store _ _ _) _ _ _ none :: _) _ _)); (first | refine Fv.stN F rfl rfl rfl rfl rfl (by first | rfl | simp [Value.oneCell']) (by repeat constructor) ?_ | refine Fv.st1 F rfl rfl rfl (by first | exact (rfl : _ = Value.int _ _) | exact (rfl : _ = Value.slice _ _ _) | exact (rfl : _ = Value.bool _) | exact (rfl : _ = Value.string _)) (by rfl) (by repeat constructor) ?_); clear F; intro W F)
        | ((with_reducible (show wpList _ _ _ (Oper.mk _ (Op.alloc _) _ _ _ none :: _) _ _)); refine Fv.al F rfl rfl ?_; clear F; intro g W hs1 hs2 F; clear hs1 hs2))
       go_loopw [16] (fun s16 wr => ∃ (q2 : Nat) (y z : S) (A5 : Option Addr) (n5 c5 : Nat) (B5 : Option Addr) (m5 k5 : Nat) (dd5 : Bool) (lf5 ds5 : Int) (Af5 : Option Addr) (cf5 : Nat) (Ad5 : Option Addr) (cd5 : Nat) (Ac5 : Option Addr) (cc5 : Nat) (A6 : Option Addr) (n6 c6 : Nat) (B6 : Option Addr) (m6 k6 : Nat) (dd6 : Bool) (lf6 ds6 : Int) (Af6 : Option Addr) (cf6 : Nat) (Ad6 : Option Addr) (cd6 : Nat) (Ac6 : Option Addr) (cc6 : Nat), s16 = .int .i64 (q2 : Nat) ∧ q2 ≤ 10 ∧ Hid (Alike s y V su (90000 + q2)) ∧ Hid (Alike u z V2 su (90000 + q2)) ∧ Fv.Fr w wr [(GZ, 37, [.slice A6 n6 c6, .slice B6 m6 k6, .bool dd6, .int .i64 lf6, .int .i64 ds6, .int .i64 z.h.p, .int .i64 z.h.l, .int .i64 z.h.e, .int .i64 (z.t : Nat), .slice Af6 z.fr.length cf6, .slice Ad6 z.di.length cd6, .slice Ac6 z.c.l.length cc6, .int .i64 (z.c.h : Nat)]), (GY, 37, [.slice A5 n5 c5, .slice B5 m5 k5, .bool dd5, .int .i64 lf5, .int .i64 ds5, .int .i64 y.h.p, .int .i64 y.h.l, .int .i64 y.h.e, .int .i64 (y.t : Nat), .slice Af5 y.fr.length cf5, .slice Ad5 y.di.length cd5, .slice Ac5 y.c.l.length cc5, .int .i64 (y.c.h : Nat)]), (GD, 28, [.slice A9 n9 c9, .slice B9 m9 k9, .bool dd9, .int .i64 lf9, .int .i64 ds9]), (GU, 37, [.slice A8 n8 c8, .slice B8 m8 k8, .bool dd8, .int .i64 lf8, .int .i64 ds8, .int .i64 u.h.p, .int .i64 u.h.l, .int .i64 u.h.e, .int .i64 (u.t : Nat), .slice Af8 u.fr.length cf8, .slice Ad8 u.di.length cd8, .slice Ac8 u.c.l.length cc8, .int .i64 (u.c.h : Nat)]), (g, 37, [.slice A3 n3 c3, .slice B3 m3 k3, .bool dd3, .int .i64 lf3, .int .i64 ds3, .int .i64 s.h.p, .int .i64 s.h.l, .int .i64 s.h.e, .int .i64 (s.t : Nat), .slice Af3 s.fr.length cf3, .slice Ad3 s.di.length cd3, .slice Ac3 s.c.l.length cc3, .int .i64 (s.c.h : Nat)])] (fun L w2 => (((True ∧ StF (fun _ => False) w.heap.size (.agg #[.slice A3 n3 c3, .slice B3 m3 k3, .bool dd3, .int .i64 lf3, .int .i64 ds3, .int .i64 s.h.p, .int .i64 s.h.l, .int .i64 s.h.e, .int .i64 (s.t : Nat), .slice Af3 s.fr.length cf3, .slice Ad3 s.di.length cd3, .slice Ac3 s.c.l.length cc3, .int .i64 (s.c.h : Nat)]) s L w2) ∧ StF (fun _ => False) w.heap.size (.agg #[.slice A8 n8 c8, .slice B8 m8 k8, .bool dd8, .int .i64 lf8, .int .i64 ds8, .int .i64 u.h.p, .int .i64 u.h.l, .int .i64 u.h.e, .int .i64 (u.t : Nat), .slice Af8 u.fr.length cf8, .slice Ad8 u.di.length cd8, .slice Ac8 u.c.l.length cc8, .int .i64 (u.c.h : Nat)]) u L w2) ∧ StF (fun _ => False) w.heap.size (.agg #[.slice A5 n5 c5, .slice B5 m5 k5, .bool dd5, .int .i64 lf5, .int .i64 ds5, .int .i64 y.h.p, .int .i64 y.h.l, .int .i64 y.h.e, .int .i64 (y.t : Nat), .slice Af5 y.fr.length cf5, .slice Ad5 y.di.length cd5, .slice Ac5 y.c.l.length cc5, .int .i64 (y.c.h : Nat)]) y L w2) ∧ StF (fun _ => False) w.heap.size (.agg #[.slice A6 n6 c6, .slice B6 m6 k6, .bool dd6, .int .i64 lf6, .int .i64 ds6, .int .i64 z.h.p, .int .i64 z.h.l, .int .i64 z.h.e, .int .i64 (z.t : Nat), .slice Af6 z.fr.length cf6, .slice Ad6 z.di.length cd6, .slice Ac6 z.c.l.length cc6, .int .i64 (z.c.h : Nat)]) z L w2)) (fun s16 _ => 10 - (intOf s16).toNat)
       case atStart => exact ⟨0, s, u, _, _, _, _, _, _, _, _, _, _, _, _, _, _, _, _, _, _, _, _, _, _, _, _, _, _, _, _, _, _, rfl, Nat.zero_le _, Lib.hid ⟨HB.out.ok.more (by omega), HB.out.c, rfl, rfl, rfl⟩, Lib.hid ⟨HU.out.ok.more (by omega), HU.out.c, rfl, rfl, rfl⟩, F.weak (fun _ _ h => ⟨⟨⟨⟨trivial, h.1.1.1.2⟩, h.1.2⟩, h.1.1.1.2⟩, h.1.2⟩)⟩
       case round =>
        clear F
        obtain ⟨q2, y, z, A5, n5, c5, B5, m5, k5, dd5, lf5, ds5, Af5, cf5, Ad5, cd5, Ac5, cc5, A6, n6, c6, B6, m6, k6, dd6, lf6, ds6, Af6, cf6, Ad6, cd6, Ac6, cc6, rfl, hq2, HY, HZ, F⟩ := hrel
        by_cases hl2 : q2 < 10
        ·obtain ⟨y2, hry, hy2⟩ := HY.out.read (no := q2) (by rw [HB.out.p]; exact hl2)
         obtain ⟨z2, hrz, hz2⟩ := HZ.out.read (no := q2) (by rw [HU.out.p]; exact hl2)
         rw [HB.out.now] at hry
         rw [HU.out.now] at hrz
         have HY2 := Lib.hid hy2
         have HZ2 := Lib.hid hz2
         have HRY0 := fun Z W (v : Value) (ht : Tab W) (hi : IsSt Z W v y) => read_any v y q2 W ht hi HY.out.ok (by omega)
         rw [hry] at HRY0
         have HRY := Lib.hid HRY0
         have HRZ0 := fun Z W (v : Value) (ht : Tab W) (hi : IsSt Z W v z) => read_any v z q2 W ht hi HZ.out.ok (by omega)
         rw [hrz] at HRZ0
         have HRZ := Lib.hid HRZ0
         obtain ⟨d, hd⟩ : ∃ d, su q2 = d := ⟨_, rfl⟩
         rw [hd] at HRY HRZ
         have i1 : (q2 : Int) < 10 := by omega
         have i0 : (0 : Int) ≤ (q2 : Int) := by omega
         clear HRY0 HRZ0 hry hrz hy2 hz2 hd
         go_upto_region 23 with (first
          | ((with_reducible (show wpList _ _ _ (Oper.mk _ (Op.load _ _) _ _ _ none :: _) _ _)); first | refine Fv.ldN F rfl rfl rfl (by repeat constructor) (by repeat constructor) ?_ | refine Fv.ld1 F rfl rfl rfl (by repeat constructor) (by repeat constructor) ?_)
          | ((with_reducible (show wpList _ _ _ (Oper.mk _ (Op.store _ _ _) _ _ _ none :: _) _ _)); (first | refine Fv.stN F rfl rfl rfl rfl rfl (by first | rfl | simp [Value.oneCell']) (by repeat constructor) ?_ | refine Fv.st1 F rfl rfl rfl (by first | exact (rfl : _ = Value.int _ _) | exact (rfl : _ = Value.slice _ _ _) | exact (rfl : _ = Value.bool _) | exact (rfl : _ = Value.string _)) (by rfl) (by repeat constructor) ?_); clear F; intro W F)
          | ((with_reducible (show wpList _ _ _ (Oper.mk _ (Op.alloc _) _ _ _ none :: _) _ _)); refine Fv.al F rfl rfl ?_; clear F; intro g W hs1 hs2 F; clear hs1 hs2)
          | (go_at_call 24; refine (HRY.out _ _ _ (HT.out.below F.B) F.out.1.2.free).mono ?_; rintro ea wa ⟨va, rfl, hSa, hv⟩; obtain ⟨Aa, na, ca, Ba, ma, ka, dda, lfa, dsa, Afa, cfa, Ada, cda, Aca, cca, rfl, hqa⟩ := hSa; have hSa := (show IsSt _ _ _ _ from ⟨_, _, _, _, _, _, _, _, _, _, _, _, _, _, _, rfl, hqa⟩); clear hqa; have F2 := F.call hv; replace F := addSt F F2 hSa HY2.out.ok.d.n1 rfl; clear hv F2 hSa))
         go_upto_region 24 with (first
          | ((with_reducible (show wpList _ _ _ (Oper.mk _ (Op.load _ _) _ _ _ none :: _) _ _)); first | refine Fv.ldN F rfl rfl rfl (by repeat constructor) (by repeat constructor) ?_ | refine Fv.ld1 F rfl rfl rfl (by repeat constructor) (by repeat constructor) ?_)
          | ((with_reducible (show wpList _ _ _ (Oper.mk _ (Op.store _ _ _) _ _ _ none :: _) _ _)); (first | refine Fv.stN F rfl rfl rfl rfl rfl (by first | rfl | simp [Value.oneCell']) (by repeat constructor) ?_ | refine Fv.st1 F rfl rfl rfl (by first | exact (rfl : _ = Value.int _ _) | exact (rfl : _ = Value.slice _ _ _) | exact (rfl : _ = Value.bool _) | exact (rfl : _ = Value.string _)) (by rfl) (by repeat constructor) ?_); clear F; intro W F)
          | ((with_reducible (show wpList _ _ _ (Oper.mk _ (Op.alloc _) _ _ _ none :: _) _ _)); refine Fv.al F rfl rfl ?_; clear F; intro g W hs1 hs2 F; clear hs1 hs2)
          | (go_at_call 24; refine (HRZ.out _ _ _ (HT.out.below F.B) F.out.1.2.free).mono ?_; rintro eb wb ⟨vb, rfl, hSb, hv⟩; obtain ⟨Ab, nb, cb, Bb, mb, kb, ddb, lfb, dsb, Afb, cfb, Adb, cdb, Acb, ccb, rfl, hqb⟩ := hSb; have hSb := (show IsSt _ _ _ _ from ⟨_, _, _, _, _, _, _, _, _, _, _, _, _, _, _, rfl, hqb⟩); clear hqb; have F2 := F.call hv; replace F := addSt F F2 hSb HZ2.out.ok.d.n1 rfl; clear hv F2 hSb))
         replace F := F.drew
         refine Lex.region_tree (ops := uvops) uvtree (Fv.ClsB _ _) (by kernel_rfl) (by kernel_rfl) uvsel uvlex ⟨F.B, F.cls (Fv.Inc.cons Fv.VIn.head (Fv.Inc.cons (Fv.VIn.tail Fv.VIn.head) Fv.Inc.nil))⟩ ?_
         unfold uvtree
         refine Lex.tree_take _ uv0 (Lex.want_none rfl) (by intro Wx hSw; exact Fv.run_loadNC hSw.2 rfl rfl Fv.rt_Store (by repeat constructor) (by repeat constructor)) ?_
         simp only [Act.put, List.setIfInBounds_toArray, List.set_cons_zero, List.set_cons_succ]
         refine Lex.tree_take _ uv1 (Lex.want_none rfl) (by intro Wx hSw; exact Fv.run_loadNC hSw.2 rfl rfl Fv.rt_Store (by repeat constructor) (by repeat constructor)) ?_
         simp only [Act.put, List.setIfInBounds_toArray, List.set_cons_zero, List.set_cons_succ]
         refine Lex.tree_call uv2 (Lex.want_none rfl) (fun K hK => ?_) Lex.tree_no
         refine Fv.wp_storeN F rfl rfl rfl Fv.rt_Store rfl (by first | rfl | simp [Value.oneCell']) (by repeat constructor) ?_; clear F; intro W F
         refine hK.out _ _ _ (fun _ h => h) ⟨F.B, F.cls (by (repeat (first | exact Fv.Inc.nil | apply Fv.Inc.cons | exact Fv.VIn.head | apply Fv.VIn.tail)); done)⟩ ?_
         clear hK K
         try simp only [Act.put, List.setIfInBounds_toArray, List.set_cons_zero, List.set_cons_succ]
         refine Lex.tree_call uv3 (Lex.want_none rfl) (fun K hK => ?_) Lex.tree_no
         refine Fv.wp_storeN F rfl rfl rfl Fv.rt_Store rfl (by first | rfl | simp [Value.oneCell']) (by repeat constructor) ?_; clear F; intro W F
         refine hK.out _ _ _ (fun _ h => h) ⟨F.B, F.cls (by (repeat (first | exact Fv.Inc.nil | apply Fv.Inc.cons | exact Fv.VIn.head | apply Fv.VIn.tail)); done)⟩ ?_
         clear hK K
         try simp only [Act.put, List.setIfInBounds_toArray, List.set_cons_zero, List.set_cons_succ]
         refine Lex.tree_end ?_
         refine NoPanic.normal ?_
         go_wp2_with (first
          | ((with_reducible (show wpList _ _ _ (Oper.mk _ (Op.load _ _) _ _ _ none :: _) _ _)); first | refine Fv.ldN F rfl rfl rfl (by repeat constructor) (by repeat constructor) ?_ | refine Fv.ld1 F rfl rfl rfl (by repeat constructor) (by repeat constructor) ?_)
          | ((with_reducible (show wpList _ _ _ (Oper.mk _ (Op.store _ _ _) _ _ _ none :: _) _ _)); (first | refine Fv.stN F rfl rfl rfl rfl rfl (by first | rfl | simp [Value.oneCell']) (by repeat constructor) ?_ | refine Fv.st1 F rfl rfl rfl (by first | exact (rfl : _ = Value.int _ _) | exact (rfl : _ = Value.slice _ _ _) | exact (rfl : _ = Value.bool _) | exact (rfl : _ = Value.string _)) (by rfl) (by repeat constructor) ?_); clear F; intro W F)
          | ((with_reducible (show wpList _ _ _ (Oper.mk _ (Op.alloc _) _ _ _ none :: _) _ _)); refine Fv.al F rfl rfl ?_; clear F; intro g W hs1 hs2 F; clear hs1 hs2))
         go_roundw
         case rel => exact ⟨q2 + 1, y2, z2, _, _, _, _, _, _, _, _, _, _, _, _, _, _, _, _, _, _, _, _, _, _, _, _, _, _, _, _, _, _, by go_num, by omega, HY2, HZ2, (F.weak (fun _ _ h => ⟨⟨⟨⟨trivial, h.1.1.1.1.1.2⟩, h.1.1.1.1.2⟩, h.1.2⟩, h.2⟩)).tail.tail⟩
         case measure => simp [intOf]; omega
        ·obtain rfl : q2 = 10 := by omega
         clear hl2 hq2
         go_wp2_with (first
          | ((with_reducible (show wpList _ _ _ (Oper.mk _ (Op.load _ _) _ _ _ none :: _) _ _)); first | refine Fv.ldN F rfl rfl rfl (by repeat constructor) (by repeat constructor) ?_ | refine Fv.ld1 F rfl rfl rfl (by repeat constructor) (by repeat constructor) ?_)
          | ((with_reducible (show wpList _ _ _ (Oper.mk _ (Op.store _ _ _) _ _ _ none :: _) _ _)); (first | refine Fv.stN F rfl rfl rfl rfl rfl (by first | rfl | simp [Value.oneCell']) (by repeat constructor) ?_ | refine Fv.st1 F rfl rfl rfl (by first | exact (rfl : _ = Value.int _ _) | exact (rfl : _ = Value.slice _ _ _) | exact (rfl : _ = Value.bool _) | exact (rfl : _ = Value.string _)) (by rfl) (by repeat constructor) ?_); clear F; intro W F)
          | ((with_reducible (show wpList _ _ _ (Oper.mk _ (Op.alloc _) _ _ _ none :: _) _ _)); refine Fv.al F rfl rfl ?_; clear F; intro g W hs1 hs2 F; clear hs1 hs2))
         go_roundw
         case rel => exact ⟨q + 1, u, V2, _, _, _, _, _, _, _, _, _, _, _, _, _, _, _, by go_num, by omega, HU, (F.weak (fun _ _ h => ⟨trivial, h.1.1.2⟩)).tail.tail.tail.tail⟩
         case measure => simp [intOf]; omega
      refine Lex.tree_call yz3 (Lex.want_none rfl) (fun K hK => ?_) Lex.tree_no
      refine Fv.wp_alloc F rfl (by first | exact Fv.zt_Slab | exact Fv.zt_Head | exact Fv.zt_Frame | exact Fv.zt_Clock | exact Fv.zt_Page | exact Fv.zt_Image | exact Fv.zt_Store) ?_; clear F; intro GZ W hs1 hs2 F; clear hs1 hs2
      refine hK.out _ _ _ (fun _ h => h) ⟨F.B, F.cls (by (repeat (first | exact Fv.Inc.nil | apply Fv.Inc.cons | exact Fv.VIn.head | apply Fv.VIn.tail)); done)⟩ ?_
      clear hK K
      try simp only [Act.put, List.setIfInBounds_toArray, List.set_cons_zero, List.set_cons_succ]
      refine Lex.tree_call yz2 (Lex.want_none rfl) (fun K hK => ?_) Lex.tree_no
      refine Fv.wp_alloc F rfl (by first | exact Fv.zt_Slab | exact Fv.zt_Head | exact Fv.zt_Frame | exact Fv.zt_Clock | exact Fv.zt_Page | exact Fv.zt_Image | exact Fv.zt_Store) ?_; clear F; intro GY W hs1 hs2 F; clear hs1 hs2
      refine hK.out _ _ _ (fun _ h => h) ⟨F.B, F.cls (by (repeat (first | exact Fv.Inc.nil | apply Fv.Inc.cons | exact Fv.VIn.head | apply Fv.VIn.tail)); done)⟩ ?_
      clear hK K
      try simp only [Act.put, List.setIfInBounds_toArray, List.set_cons_zero, List.set_cons_succ]
      refine Lex.tree_call yz4 (Lex.want_none rfl) (fun K hK => ?_) Lex.tree_no
      refine Fv.wp_storeN F rfl rfl rfl Fv.rt_Store rfl (by first | rfl | simp [Value.oneCell']) (by repeat constructor) ?_; clear F; intro W F
      refine hK.out _ _ _ (fun _ h => h) ⟨F.B, F.cls (by (repeat (first | exact Fv.Inc.nil | apply Fv.Inc.cons | exact Fv.VIn.head | apply Fv.VIn.tail)); done)⟩ ?_
      clear hK K
      try simp only [Act.put, List.setIfInBounds_toArray, List.set_cons_zero, List.set_cons_succ]
      refine Lex.tree_call yz5 (Lex.want_none rfl) (fun K hK => ?_) Lex.tree_no
      refine Fv.wp_storeN F rfl rfl rfl Fv.rt_Store rfl (by first | rfl | simp [Value.oneCell']) (by repeat constructor) ?_; clear F; intro W F
      refine hK.out _ _ _ (fun _ h => h) ⟨F.B, F.cls (by (repeat (first | exact Fv.Inc.nil | apply Fv.Inc.cons | exact Fv.VIn.head | apply Fv.VIn.tail)); done)⟩ ?_
      clear hK K
      try simp only [Act.put, List.setIfInBounds_toArray, List.set_cons_zero, List.set_cons_succ]
      refine Lex.tree_end ?_
      refine NoPanic.normal ?_
      go_upto_region 20 with (first
       | ((with_reducible (show wpList _ _ _ (Oper.mk _ (Op.load _ _) _ _ _ none :: _) _ _)); first | refine Fv.ldN F rfl rfl rfl (by repeat constructor) (by repeat constructor) ?_ | refine Fv.ld1 F rfl rfl rfl (by repeat constructor) (by repeat constructor) ?_)
       | ((with_reducible (show wpList _ _ _ (Oper.mk _ (Op.store _ _ _) _ _ _ none :: _) _ _)); (first | refine Fv.stN F rfl rfl rfl rfl rfl (by first | rfl | simp [Value.oneCell']) (by repeat constructor) ?_ | refine Fv.st1 F rfl rfl rfl (by first | exact (rfl : _ = Value.int _ _) | exact (rfl : _ = Value.slice _ _ _) | exact (rfl : _ = Value.bool _) | exact (rfl : _ = Value.string _)) (by rfl) (by repeat constructor) ?_); clear F; intro W F)
       | ((with_reducible (show wpList _ _ _ (Oper.mk _ (Op.alloc _) _ _ _ none :: _) _ _)); refine Fv.al F rfl rfl ?_; clear F; intro g W hs1 hs2 F; clear hs1 hs2))
      go_loopw [16] (fun s16 wr => ∃ (q2 : Nat) (y z : S) (A5 : Option Addr) (n5 c5 : Nat) (B5 : Option Addr) (m5 k5 : Nat) (dd5 : Bool) (lf5 ds5 : Int) (Af5 : Option Addr) (cf5 : Nat) (Ad5 : Option Addr) (cd5 : Nat) (Ac5 : Option Addr) (cc5 : Nat) (A6 : Option Addr) (n6 c6 : Nat) (B6 : Option Addr) (m6 k6 : Nat) (dd6 : Bool) (lf6 ds6 : Int) (Af6 : Option Addr) (cf6 : Nat) (Ad6 : Option Addr) (cd6 : Nat) (Ac6 : Option Addr) (cc6 : Nat), s16 = .int .i64 (q2 : Nat) ∧ q2 ≤ 10 ∧ Hid (Alike s y V su (90000 + q2)) ∧ Hid (Alike u z V2 su (90000 + q2)) ∧ Fv.Fr w wr [(GY, 37, [.slice A5 n5 c5, .slice B5 m5 k5, .bool dd5, .int .i64 lf5, .int .i64 ds5, .int .i64 y.h.p, .int .i64 y.h.l, .int .i64 y.h.e, .int .i64 (y.t : Nat), .slice Af5 y.fr.length cf5, .slice Ad5 y.di.length cd5, .slice Ac5 y.c.l.length cc5, .int .i64 (y.c.h : Nat)]), (GZ, 37, [.slice A6 n6 c6, .slice B6 m6 k6, .bool dd6, .int .i64 lf6, .int .i64 ds6, .int .i64 z.h.p, .int .i64 z.h.l, .int .i64 z.h.e, .int .i64 (z.t : Nat), .slice Af6 z.fr.length cf6, .slice Ad6 z.di.length cd6, .slice Ac6 z.c.l.length cc6, .int .i64 (z.c.h : Nat)]), (GD, 28, [.slice A9 n9 c9, .slice B9 m9 k9, .bool dd9, .int .i64 lf9, .int .i64 ds9]), (GU, 37, [.slice A8 n8 c8, .slice B8 m8 k8, .bool dd8, .int .i64 lf8, .int .i64 ds8, .int .i64 u.h.p, .int .i64 u.h.l, .int .i64 u.h.e, .int .i64 (u.t : Nat), .slice Af8 u.fr.length cf8, .slice Ad8 u.di.length cd8, .slice Ac8 u.c.l.length cc8, .int .i64 (u.c.h : Nat)]), (g, 37, [.slice A3 n3 c3, .slice B3 m3 k3, .bool dd3, .int .i64 lf3, .int .i64 ds3, .int .i64 s.h.p, .int .i64 s.h.l, .int .i64 s.h.e, .int .i64 (s.t : Nat), .slice Af3 s.fr.length cf3, .slice Ad3 s.di.length cd3, .slice Ac3 s.c.l.length cc3, .int .i64 (s.c.h : Nat)])] (fun L w2 => (((True ∧ StF (fun _ => False) w.heap.size (.agg #[.slice A3 n3 c3, .slice B3 m3 k3, .bool dd3, .int .i64 lf3, .int .i64 ds3, .int .i64 s.h.p, .int .i64 s.h.l, .int .i64 s.h.e, .int .i64 (s.t : Nat), .slice Af3 s.fr.length cf3, .slice Ad3 s.di.length cd3, .slice Ac3 s.c.l.length cc3, .int .i64 (s.c.h : Nat)]) s L w2) ∧ StF (fun _ => False) w.heap.size (.agg #[.slice A8 n8 c8, .slice B8 m8 k8, .bool dd8, .int .i64 lf8, .int .i64 ds8, .int .i64 u.h.p, .int .i64 u.h.l, .int .i64 u.h.e, .int .i64 (u.t : Nat), .slice Af8 u.fr.length cf8, .slice Ad8 u.di.length cd8, .slice Ac8 u.c.l.length cc8, .int .i64 (u.c.h : Nat)]) u L w2) ∧ StF (fun _ => False) w.heap.size (.agg #[.slice A5 n5 c5, .slice B5 m5 k5, .bool dd5, .int .i64 lf5, .int .i64 ds5, .int .i64 y.h.p, .int .i64 y.h.l, .int .i64 y.h.e, .int .i64 (y.t : Nat), .slice Af5 y.fr.length cf5, .slice Ad5 y.di.length cd5, .slice Ac5 y.c.l.length cc5, .int .i64 (y.c.h : Nat)]) y L w2) ∧ StF (fun _ => False) w.heap.size (.agg #[.slice A6 n6 c6, .slice B6 m6 k6, .bool dd6, .int .i64 lf6, .int .i64 ds6, .int .i64 z.h.p, .int .i64 z.h.l, .int .i64 z.h.e, .int .i64 (z.t : Nat), .slice Af6 z.fr.length cf6, .slice Ad6 z.di.length cd6, .slice Ac6 z.c.l.length cc6, .int .i64 (z.c.h : Nat)]) z L w2)) (fun s16 _ => 10 - (intOf s16).toNat)
      case atStart => exact ⟨0, s, u, _, _, _, _, _, _, _, _, _, _, _, _, _, _, _, _, _, _, _, _, _, _, _, _, _, _, _, _, _, _, rfl, Nat.zero_le _, Lib.hid ⟨HB.out.ok.more (by omega), HB.out.c, rfl, rfl, rfl⟩, Lib.hid ⟨HU.out.ok.more (by omega), HU.out.c, rfl, rfl, rfl⟩, F.weak (fun _ _ h => ⟨⟨⟨⟨trivial, h.1.1.1.2⟩, h.1.2⟩, h.1.1.1.2⟩, h.1.2⟩)⟩
      case round =>
       clear F
       obtain ⟨q2, y, z, A5, n5, c5, B5, m5, k5, dd5, lf5, ds5, Af5, cf5, Ad5, cd5, Ac5, cc5, A6, n6, c6, B6, m6, k6, dd6, lf6, ds6, Af6, cf6, Ad6, cd6, Ac6, cc6, rfl, hq2, HY, HZ, F⟩ := hrel
       by_cases hl2 : q2 < 10
       ·obtain ⟨y2, hry, hy2⟩ := HY.out.read (no := q2) (by rw [HB.out.p]; exact hl2)
        obtain ⟨z2, hrz, hz2⟩ := HZ.out.read (no := q2) (by rw [HU.out.p]; exact hl2)
        rw [HB.out.now] at hry
        rw [HU.out.now] at hrz
        have HY2 := Lib.hid hy2
        have HZ2 := Lib.hid hz2
        have HRY0 := fun Z W (v : Value) (ht : Tab W) (hi : IsSt Z W v y) => read_any v y q2 W ht hi HY.out.ok (by omega)
        rw [hry] at HRY0
        have HRY := Lib.hid HRY0
        have HRZ0 := fun Z W (v : Value) (ht : Tab W) (hi : IsSt Z W v z) => read_any v z q2 W ht hi HZ.out.ok (by omega)
        rw [hrz] at HRZ0
        have HRZ := Lib.hid HRZ0
        obtain ⟨d, hd⟩ : ∃ d, su q2 = d := ⟨_, rfl⟩
        rw [hd] at HRY HRZ
        have i1 : (q2 : Int) < 10 := by omega
        have i0 : (0 : Int) ≤ (q2 : Int) := by omega
        clear HRY0 HRZ0 hry hrz hy2 hz2 hd
        go_upto_region 23 with (first
         | ((with_reducible (show wpList _ _ _ (Oper.mk _ (Op.load _ _) _ _ _ none :: _) _ _)); first | refine Fv.ldN F rfl rfl rfl (by repeat constructor) (by repeat constructor) ?_ | refine Fv.ld1 F rfl rfl rfl (by repeat constructor) (by repeat constructor) ?_)
         | ((with_reducible (show wpList _ _ _ (Oper.mk _ (Op.store _ _ _) _ _ _ none :: _) _ _)); (first | refine Fv.stN F rfl rfl rfl rfl rfl (by first | rfl | simp [Value.oneCell']) (by repeat constructor) ?_ | refine Fv.st1 F rfl rfl rfl (by first | exact (rfl : _ = Value.int _ _) | exact (rfl : _ = Value.slice _ _ _) | exact (rfl : _ = Value.bool _) | exact (rfl : _ = Value.string _)) (by rfl) (by repeat constructor) ?_); clear F; intro W F)
         | ((with_reducible (show wpList _ _ _ (Oper.mk _ (Op.alloc _) _ _ _ none :: _) _ _)); refine Fv.al F rfl rfl ?_; clear F; intro g W hs1 hs2 F; clear hs1 hs2)
         | (go_at_call 24; refine (HRY.out _ _ _ (HT.out.below F.B) F.out.1.2.free).mono ?_; rintro ea wa ⟨va, rfl, hSa, hv⟩; obtain ⟨Aa, na, ca, Ba, ma, ka, dda, lfa, dsa, Afa, cfa, Ada, cda, Aca, cca, rfl, hqa⟩ := hSa; have hSa := (show IsSt _ _ _ _ from ⟨_, _, _, _, _, _, _, _, _, _, _, _, _, _, _, rfl, hqa⟩); clear hqa; have F2 := F.call hv; replace F := addSt F F2 hSa HY2.out.ok.d.n1 rfl; clear hv F2 hSa))
        go_upto_region 24 with (first
         | ((with_reducible (show wpList _ _ _ (Oper.mk _ (Op.load _ _) _ _ _ none :: _) _ _)); first | refine Fv.ldN F rfl rfl rfl (by repeat constructor) (by repeat constructor) ?_ | refine Fv.ld1 F rfl rfl rfl (by repeat constructor) (by repeat constructor) ?_)
         | ((with_reducible (show wpList _ _ _ (Oper.mk _ (Op.store _ _ _) _ _ _ none :: _) _ _)); (first | refine Fv.stN F rfl rfl rfl rfl rfl (by first | rfl | simp [Value.oneCell']) (by repeat constructor) ?_ | refine Fv.st1 F rfl rfl rfl (by first | exact (rfl : _ = Value.int _ _) | exact (rfl : _ = Value.slice _ _ _) | exact (rfl : _ = Value.bool _) | exact (rfl : _ = Value.string _)) (by rfl) (by repeat constructor) ?_); clear F; intro W F)
         | ((with_reducible (show wpList _ _ _ (Oper.mk _ (Op.alloc _) _ _ _ none :: _) _ _)); refine Fv.al F rfl rfl ?_; clear F; intro g W hs1 hs2 F; clear hs1 hs2)
         | (go_at_call 24; refine (HRZ.out _ _ _ (HT.out.below F.B) F.out.1.2.free).mono ?_; rintro eb wb ⟨vb, rfl, hSb, hv⟩; obtain ⟨Ab, nb, cb, Bb, mb, kb, ddb, lfb, dsb, Afb, cfb, Adb, cdb, Acb, ccb, rfl, hqb⟩ := hSb; have hSb := (show IsSt _ _ _ _ from ⟨_, _, _, _, _, _, _, _, _, _, _, _, _, _, _, rfl, hqb⟩); clear hqb; have F2 := F.call hv; replace F := addSt F F2 hSb HZ2.out.ok.d.n1 rfl; clear hv F2 hSb))
        replace F := F.drew
        refine Lex.region_tree (ops := uvops) uvtree (Fv.ClsB _ _) (by kernel_rfl) (by kernel_rfl) uvsel uvlex ⟨F.B, F.cls (Fv.Inc.cons Fv.VIn.head (Fv.Inc.cons (Fv.VIn.tail Fv.VIn.head) Fv.Inc.nil))⟩ ?_
        unfold uvtree
        refine Lex.tree_take _ uv0 (Lex.want_none rfl) (by intro Wx hSw; exact Fv.run_loadNC hSw.2 rfl rfl Fv.rt_Store (by repeat constructor) (by repeat constructor)) ?_
        simp only [Act.put, List.setIfInBounds_toArray, List.set_cons_zero, List.set_cons_succ]
        refine Lex.tree_take _ uv1 (Lex.want_none rfl) (by intro Wx hSw; exact Fv.run_loadNC hSw.2 rfl rfl Fv.rt_Store (by repeat constructor) (by repeat constructor)) ?_
        simp only [Act.put, List.setIfInBounds_toArray, List.set_cons_zero, List.set_cons_succ]
        refine Lex.tree_call uv2 (Lex.want_none rfl) (fun K hK => ?_) Lex.tree_no
        refine Fv.wp_storeN F rfl rfl rfl Fv.rt_Store rfl (by first | rfl | simp [Value.oneCell']) (by repeat constructor) ?_; clear F; intro W F
        refine hK.out _ _ _ (fun _ h => h) ⟨F.B, F.cls (by (repeat (first | exact Fv.Inc.nil | apply Fv.Inc.cons | exact Fv.VIn.head | apply Fv.VIn.tail)); done)⟩ ?_
        clear hK K
        try simp only [Act.put, List.setIfInBounds_toArray, List.set_cons_zero, List.set_cons_succ]
        refine Lex.tree_call uv3 (Lex.want_none rfl) (fun K hK => ?_) Lex.tree_no
        refine Fv.wp_storeN F rfl rfl rfl Fv.rt_Store rfl (by first | rfl | simp [Value.oneCell']) (by repeat constructor) ?_; clear F; intro W F
        refine hK.out _ _ _ (fun _ h => h) ⟨F.B, F.cls (by (repeat (first | exact Fv.Inc.nil | apply Fv.Inc.cons | exact Fv.VIn.head | apply Fv.VIn.tail)); done)⟩ ?_
        clear hK K
        try simp only [Act.put, List.setIfInBounds_toArray, List.set_cons_zero, List.set_cons_succ]
        refine Lex.tree_end ?_
        refine NoPanic.normal ?_
        go_wp2_with (first
         | ((with_reducible (show wpList _ _ _ (Oper.mk _ (Op.load _ _) _ _ _ none :: _) _ _)); first | refine Fv.ldN F rfl rfl rfl (by repeat constructor) (by repeat constructor) ?_ | refine Fv.ld1 F rfl rfl rfl (by repeat constructor) (by repeat constructor) ?_)
         | ((with_reducible (show wpList _ _ _ (Oper.mk _ (Op.store _ _ _) _ _ _ none :: _) _ _)); (first | refine Fv.stN F rfl rfl rfl rfl rfl (by first | rfl | simp [Value.oneCell']) (by repeat constructor) ?_ | refine Fv.st1 F rfl rfl rfl (by first | exact (rfl : _ = Value.int _ _) | exact (rfl : _ = Value.slice _ _ _) | exact (rfl : _ = Value.bool _) | exact (rfl : _ = Value.string _)) (by rfl) (by repeat constructor) ?_); clear F; intro W F)
         | ((with_reducible (show wpList _ _ _ (Oper.mk _ (Op.alloc _) _ _ _ none :: _) _ _)); refine Fv.al F rfl rfl ?_; clear F; intro g W hs1 hs2 F; clear hs1 hs2))
        go_roundw
        case rel => exact ⟨q2 + 1, y2, z2, _, _, _, _, _, _, _, _, _, _, _, _, _, _, _, _, _, _, _, _, _, _, _, _, _, _, _, _, _, _, by go_num, by omega, HY2, HZ2, (F.weak (fun _ _ h => ⟨⟨⟨⟨trivial, h.1.1.1.1.1.2⟩, h.1.1.1.1.2⟩, h.1.2⟩, h.2⟩)).tail.tail⟩
        case measure => simp [intOf]; omega
       ·obtain rfl : q2 = 10 := by omega
        clear hl2 hq2
        go_wp2_with (first
         | ((with_reducible (show wpList _ _ _ (Oper.mk _ (Op.load _ _) _ _ _ none :: _) _ _)); first | refine Fv.ldN F rfl rfl rfl (by repeat constructor) (by repeat constructor) ?_ | refine Fv.ld1 F rfl rfl rfl (by repeat constructor) (by repeat constructor) ?_)
         | ((with_reducible (show wpList _ _ _ (Oper.mk _ (Op.store _ _ _) _ _ _ none :: _) _ _)); (first | refine Fv.stN F rfl rfl rfl rfl rfl (by first | rfl | simp [Value.oneCell']) (by repeat constructor) ?_ | refine Fv.st1 F rfl rfl rfl (by first | exact (rfl : _ = Value.int _ _) | exact (rfl : _ = Value.slice _ _ _) | exact (rfl : _ = Value.bool _) | exact (rfl : _ = Value.string _)) (by rfl) (by repeat constructor) ?_); clear F; intro W F)
         | ((with_reducible (show wpList _ _ _ (Oper.mk _ (Op.alloc _) _ _ _ none :: _) _ _)); refine Fv.al F rfl rfl ?_; clear F; intro g W hs1 hs2 F; clear hs1 hs2))
        go_roundw
        case rel => exact ⟨q + 1, u, V2, _, _, _, _, _, _, _, _, _, _, _, _, _, _, _, by go_num, by omega, HU, (F.weak (fun _ _ h => ⟨trivial, h.1.1.2⟩)).tail.tail.tail.tail⟩
        case measure => simp [intOf]; omega
     ·obtain rfl : tk = q := by omega
      have i1 : ¬ (tk : Int) < (tk : Int) := by omega
      go_wp2_with (first
       | ((with_reducible (show wpList _ _ _ (Oper.mk _ (Op.load _ _) _ _ _ none :: _) _ _)); first | refine Fv.ldN F rfl rfl rfl (by repeat constructor) (by repeat constructor) ?_ | refine Fv.ld1 F rfl rfl rfl (by repeat constructor) (by repeat constructor) ?_)
       | ((with_reducible (show wpList _ _ _ (Oper.mk _ (Op.store _ _ _) _ _ _ none :: _) _ _)); (first | refine Fv.stN F rfl rfl rfl rfl rfl (by first | rfl | simp [Value.oneCell']) (by repeat constructor) ?_ | refine Fv.st1 F rfl rfl rfl (by first | exact (rfl : _ = Value.int _ _) | exact (rfl : _ = Value.slice _ _ _) | exact (rfl : _ = Value.bool _) | exact (rfl : _ = Value.string _)) (by rfl) (by repeat constructor) ?_); clear F; intro W F)
       | ((with_reducible (show wpList _ _ _ (Oper.mk _ (Op.alloc _) _ _ _ none :: _) _ _)); refine Fv.al F rfl rfl ?_; clear F; intro g W hs1 hs2 F; clear hs1 hs2)
       | (go_at_call 16; refine (awake_any _ (HT.out.below F.B)).mono ?_; rintro e w9 ⟨rfl, hv⟩; replace F := F.call hv; clear hv))
      rw [← HP.out]
      exact ⟨rfl, F.B⟩
 ·have HSM := Lib.hid hsm
  clear hsm
  have F := Fv.Fr.start w
  go_enter Tryz.func5, Tryz.ntmps5
  go_wp2_with (first
   | ((with_reducible (show wpList _ _ _ (Oper.mk _ (Op.load _ _) _ _ _ none :: _) _ _)); first | refine Fv.ldN F rfl rfl rfl (by repeat constructor) (by repeat constructor) ?_ | refine Fv.ld1 F rfl rfl rfl (by repeat constructor) (by repeat constructor) ?_)
   | ((with_reducible (show wpList _ _ _ (Oper.mk _ (Op.store _ _ _) _ _ _ none :: _) _ _)); (first | refine Fv.stN F rfl rfl rfl rfl rfl (by first | rfl | simp [Value.oneCell']) (by repeat constructor) ?_ | refine Fv.st1 F rfl rfl rfl (by first | exact (rfl : _ = Value.int _ _) | exact (rfl : _ = Value.slice _ _ _) | exact (rfl : _ = Value.bool _) | exact (rfl : _ = Value.string _)) (by rfl) (by repeat constructor) ?_); clear F; intro W F)
   | ((with_reducible (show wpList _ _ _ (Oper.mk _ (Op.alloc _) _ _ _ none :: _) _ _)); refine Fv.al F rfl rfl ?_; clear F; intro g W hs1 hs2 F; clear hs1 hs2)
   | ((with_reducible (show wpList _ _ _ (Oper.mk _ (Op.box _ _) _ _ _ none :: _) _ _)); refine Fv.wpL_box F rfl rfl rfl rfl ?_; clear F; intro gb W hs1 hs2 F; clear hs1 hs2)
   | (go_at_call 15; refine HS.out.mono ?_; rintro e w1 ⟨b, rfl, hb, hv⟩; obtain rfl : b = false := (by cases b; rfl; exact absurd (hb.1 rfl) HSM.out); clear hb; replace F := F.call hv; clear hv)
   | (go_at_call 16; refine (awake_any _ (HT.out.below F.B)).mono ?_; rintro e w9 ⟨rfl, hv⟩; replace F := F.call hv; clear hv))
  rw [← HP.out]
  exact ⟨rfl, F.B⟩
end
end Go.Proofs.YtcgkbcgpnlogoaaGreatDoor.St
