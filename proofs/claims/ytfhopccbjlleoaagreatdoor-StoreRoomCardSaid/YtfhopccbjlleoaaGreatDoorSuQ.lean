/- Stores: the law StoreRoom, walked. -/
import Derived.Test.YtfhopccbjlleoaaGreatDoorMgAM
namespace Go.Proofs.YtfhopccbjlleoaaGreatDoor.St
open Go.RowKit Go.Shelf Tal Sla Hd Fr Lf Lex
section
variable {D : Option Addr} {n cp : Nat} {l : List Ac} {w : World}
set_option maxRecDepth 20000 in
set_option maxHeartbeats 6400000 in
theorem room_any (lg : Int) (g0 : 0 ≤ lg) (g1 : lg < 256) (lo : Nat) (hl : HasA w lo D l) (hn : l.length = n) (h9 : n ≤ 9223372036854775807) (ho : ∀ a ∈ l, OkA a) (ht : Tab w) : Calls Tryz.prog 5 #[.int .u8 lg, .slice D n cp] w (AwPost w) := by
 have HS := Lib.hid (show Calls Tryz.prog 9 #[.slice D n cp, .int .i64 60] w (BoolPost (SmallA 60 l) w) from small_any (cp := cp) 60 lo hl hn h9)
 have HL := Lib.hid (And.intro hl (And.intro hn ho))
 have HT := Lib.hid ht
 clear hl hn ho ht
 obtain ⟨post, hpost⟩ : ∃ post, AwPost w = post := ⟨_, rfl⟩
 rw [hpost]
 have HP := Lib.hid hpost
 clear hpost
 by_cases hsm : SmallA 60 l
 ·have HSM := Lib.hid hsm
  have hn60 : n ≤ 60 := by rw [← HL.out.2.1]; exact hsm.len
  clear hsm
  obtain ⟨m, hm, hm4, hm12⟩ : ∃ m : Nat, (m : Int) = 4 + lg % 6 ∧ 4 ≤ m ∧ m ≤ 12 := ⟨(4 + lg % 6).toNat, by omega, by omega, by omega⟩
  obtain ⟨D0, V0, hf, hb0⟩ := been_new (p := 12) (l := (m : Int)) ⟨(show (8 : Int) ≤ 12 by decide), (show (12 : Int) ≤ 512 by decide), by show (4 : Int) ≤ m; omega, by show (m : Int) ≤ 512; omega, (show (1 : Int) ≤ 1 by decide), (show (1 : Int) < 2147483648 by decide)⟩
  have HFM := Lib.hid (fun W (ht : Tab W) => show Calls Tryz.prog 11 #[.int .i64 12, .int .i64 (4 + lg % 6)] W (FmtPost (some (⟨D0, ⟨12, (m : Int), 1⟩, 0, [], [], ⟨[], 0⟩⟩ : S), 0) W) by rw [← hm, ← hf]; exact format_any 12 m W ht)
  have HB0 := Lib.hid hb0
  have HM := Lib.hid hm
  have hw9 : wrap64 (4 + lg % 6) = 4 + lg % 6 := wr_small _ _ (by omega) (by omega) rfl
  clear hf hb0 hm hm4 hm12
  have F := Fv.Fr.start w
  go_enter Tryz.func5, Tryz.ntmps5
  go_upto_region 8 with (first
   | ((with_reducible (show wpList _ _ _ (Oper.mk _ (Op.load _ _) _ _ _ none :: _) _ _)); first | refine Fv.ldN F rfl rfl rfl (by repeat constructor) (by repeat constructor) ?_ | refine Fv.ld1 F rfl rfl rfl (by repeat constructor) (by repeat constructor) ?_)
   | ((with_reducible (show wpList _ _ _ (Oper.mk _ (Op.store _ _ _) _ _ _ none :: _) _ _)); (first | refine Fv.stN F rfl rfl rfl rfl rfl (by first | rfl | simp [Value.oneCell']) (by repeat constructor) ?_ | refine Fv.st1 F rfl rfl rfl (by first | exact (rfl : _ = Value.int _ _) | exact (rfl : _ = Value.slice _ _ _) | exact (rfl : _ = Value.bool _) | exact (rfl : _ = Value.string _)) (by rfl) (by repeat constructor) ?_); clear F; intro W F)
   | ((with_reducible (show wpList _ _ _ (Oper.mk _ (Op.alloc _) _ _ _ none :: _) _ _)); refine Fv.al F rfl rfl ?_; clear F; intro g W hs1 hs2 F; clear hs1 hs2)
   | ((with_reducible (show wpList _ _ _ (Oper.mk _ (Op.box _ _) _ _ _ none :: _) _ _)); refine Fv.wpL_box F rfl rfl rfl rfl ?_; clear F; intro gb W hs1 hs2 F; clear hs1 hs2)
   | (go_at_call 9; refine HS.out.mono ?_; rintro e w1 ⟨b, rfl, hb, hv⟩; obtain rfl : b = true := hb.2 HSM.out; clear hb; replace F := F.call hv; clear hv)
   | (go_at_call 11; refine (HFM.out _ (HT.out.below F.B)).mono ?_; rintro e2 w2 ⟨v0, rfl, hS0, _, hv⟩; replace hS0 := hS0 _ rfl; obtain ⟨A0, n0, c0, B0, m0, k0, dd0, lf0, ds0, Af0, cf0, Ad0, cd0, Ac0, cc0, rfl, hq0⟩ := hS0; have hS0 := (show IsSt _ _ _ _ from ⟨_, _, _, _, _, _, _, _, _, _, _, _, _, _, _, rfl, hq0⟩); clear hq0; have F2 := F.call hv; replace F := addSt (X := fun _ => False) F F2 (hS0.mono fun b hb => Or.inr hb) HB0.out.ok.d.n1 rfl; clear hv F2 hS0))
  clear hw9
  go_loopw [8] (fun s8 wr => ∃ (q : Nat) (s : S) (V su : Nat → ByteArray) (A1 : Option Addr) (n1 c1 : Nat) (B1 : Option Addr) (m1 k1 : Nat) (dd1 : Bool) (lf1 ds1 : Int) (Af1 : Option Addr) (cf1 : Nat) (Ad1 : Option Addr) (cd1 : Nat) (Ac1 : Option Addr) (cc1 : Nat), s8 = .int .i64 (q : Nat) ∧ q ≤ n ∧ Hid (Been s 12 m V su q) ∧ Fv.Fr w wr [(g, 37, [.slice A1 n1 c1, .slice B1 m1 k1, .bool dd1, .int .i64 lf1, .int .i64 ds1, .int .i64 s.h.p, .int .i64 s.h.l, .int .i64 s.h.e, .int .i64 (s.t : Nat), .slice Af1 s.fr.length cf1, .slice Ad1 s.di.length cd1, .slice Ac1 s.c.l.length cc1, .int .i64 (s.c.h : Nat)])] (fun L w2 => True ∧ StF (fun _ => False) w.heap.size (.agg #[.slice A1 n1 c1, .slice B1 m1 k1, .bool dd1, .int .i64 lf1, .int .i64 ds1, .int .i64 s.h.p, .int .i64 s.h.l, .int .i64 s.h.e, .int .i64 (s.t : Nat), .slice Af1 s.fr.length cf1, .slice Ad1 s.di.length cd1, .slice Ac1 s.c.l.length cc1, .int .i64 (s.c.h : Nat)]) s L w2)) (fun s8 _ => n - (intOf s8).toNat)
  case atStart => exact ⟨0, ⟨D0, ⟨12, (m : Int), 1⟩, 0, [], [], ⟨[], 0⟩⟩, V0, _, _, _, _, _, _, _, _, _, _, _, _, _, _, _, _, rfl, Nat.zero_le _, HB0, F⟩
  case round =>
   clear F
   obtain ⟨q, s, V, su, A1, n1, c1, B1, m1, k1, dd1, lf1, ds1, Af1, cf1, Ad1, cd1, Ac1, cc1, rfl, hq, HB, F⟩ := hrel
   by_cases hlt : q < n
   ·have hgt := List.getElem?_eq_getElem (l := l) (i := q) (by rw [HL.out.2.1]; exact hlt)
    generalize (l[q]'(by rw [HL.out.2.1]; exact hlt)) = x at hgt
    have HFA := Lib.hid (HSM.out.fine HL.out.2.2 x (List.mem_of_getElem? hgt))
    obtain ⟨bD, oD, hD, hlb, d0, d1, d2, d3, d4, d5⟩ := HasA.at (HL.out.1.below F.B (Nat.le_refl _)) hgt
    obtain ⟨ak, aat, ad, ⟨fs, ft, fb⟩⟩ := x
    simp only at d0 d1 d2 d3 d4 d5
    subst hD
    have i1 : (q : Int) < (n : Int) := by omega
    have i0 : (0 : Int) ≤ (q : Int) := by omega
    clear hgt hlb
    by_cases hk4 : ak ≤ 4
    ·by_cases hk0 : 0 ≤ ak
     ·obtain ⟨s2, t2, er, V2, su2, hR, hb2, hdid⟩ := HB.out.next (a := ⟨ak, aat, ad, ⟨fs, ft, fb⟩⟩) (by omega) (by decide) hk0 hk4
      have HB2 := Lib.hid hb2
      have HDO0 := fun Z W (v : Value) (ht : Tab W) (hi : IsSt Z W v s) => does_any v s ⟨ak, aat, ad, ⟨fs, ft, fb⟩⟩ W ht hi HB.out.ok (by omega) HFA.out
      rw [hR] at HDO0
      simp only [cellsA] at HDO0
      have HDO := Lib.hid HDO0
      have hxt0 := hb2.ok.t
      have hxl := hb2.l
      have hxt : ¬ 4 + lg % 6 < (s2.t : Int) := by have := HM.out; omega
      have hxc0 := hb2.ok.c.len
      have hxc : ¬ (8 : Int) < (s2.c.l.length : Int) := by omega
      have hl0 := HB.out.l
      have hdl := HB.out.ok.dl
      clear HDO0 hR hb2 hxt0 hxl hxc0
      rcases calm_cases hk0 hk4 with e | e | e | e | e <;> subst e
      ·skip
       clear hdid hl0 hdl
       go_upto_region 11 with (first
        | ((with_reducible (show wpList _ _ _ (Oper.mk _ (Op.load _ _) _ _ _ none :: _) _ _)); first | refine Fv.ldN F rfl rfl rfl (by repeat constructor) (by repeat constructor) ?_ | refine Fv.ld1 F rfl rfl rfl (by repeat constructor) (by repeat constructor) ?_)
        | ((with_reducible (show wpList _ _ _ (Oper.mk _ (Op.store _ _ _) _ _ _ none :: _) _ _)); (first | refine Fv.stN F rfl rfl rfl rfl rfl (by first | rfl | simp [Value.oneCell']) (by repeat constructor) ?_ | refine Fv.st1 F rfl rfl rfl (by first | exact (rfl : _ = Value.int _ _) | exact (rfl : _ = Value.slice _ _ _) | exact (rfl : _ = Value.bool _) | exact (rfl : _ = Value.string _)) (by rfl) (by repeat constructor) ?_); clear F; intro W F)
        | ((with_reducible (show wpList _ _ _ (Oper.mk _ (Op.alloc _) _ _ _ none :: _) _ _)); refine Fv.al F rfl rfl ?_; clear F; intro g W hs1 hs2 F; clear hs1 hs2))
       have q0_0 := Fv.Fr.cell F Fv.At.head 0
       simp only [List.getElem?_cons_zero, List.getElem?_cons_succ] at q0_0
       go_upto_region 13 with (first
        | ((with_reducible (show wpList _ _ _ (Oper.mk _ (Op.load _ _) _ _ _ none :: _) _ _)); first | refine Fv.ldN F rfl rfl rfl (by repeat constructor) (by repeat constructor) ?_ | refine Fv.ld1 F rfl rfl rfl (by repeat constructor) (by repeat constructor) ?_)
        | ((with_reducible (show wpList _ _ _ (Oper.mk _ (Op.store _ _ _) _ _ _ none :: _) _ _)); (first | refine Fv.stN F rfl rfl rfl rfl rfl (by first | rfl | simp [Value.oneCell']) (by repeat constructor) ?_ | refine Fv.st1 F rfl rfl rfl (by first | exact (rfl : _ = Value.int _ _) | exact (rfl : _ = Value.slice _ _ _) | exact (rfl : _ = Value.bool _) | exact (rfl : _ = Value.string _)) (by rfl) (by repeat constructor) ?_); clear F; intro W F)
        | ((with_reducible (show wpList _ _ _ (Oper.mk _ (Op.alloc _) _ _ _ none :: _) _ _)); refine Fv.al F rfl rfl ?_; clear F; intro g W hs1 hs2 F; clear hs1 hs2)
        | (go_at_call 14; refine (HDO.out _ _ _ (HT.out.below F.B) F.out.2.free).mono ?_; rintro e2 w2 ⟨v2, rfl, hS2, hv⟩; obtain ⟨A2, n2, c2, B2, m2, k2, dd2, lf2, ds2, Af2, cf2, Ad2, cd2, Ac2, cc2, rfl, hq2⟩ := hS2; have hS2 := (show IsSt _ _ _ _ from ⟨_, _, _, _, _, _, _, _, _, _, _, _, _, _, _, rfl, hq2⟩); clear hq2; have F2 := F.call hv; replace F := addSt F F2 hS2 HB2.out.ok.d.n1 rfl; clear hv F2 hS2))
       simp only [List.append_eq, List.cons_append, List.nil_append]
       clear q0_0 d0 d1 d2 d3 d4 d5
       have q0_8 := Fv.Fr.cell F Fv.At.head 8
       simp only [List.getElem?_cons_zero, List.getElem?_cons_succ] at q0_8
       have q0_9 := Fv.Fr.cell F Fv.At.head 9
       simp only [List.getElem?_cons_zero, List.getElem?_cons_succ] at q0_9
       have q0_11 := Fv.Fr.cell F Fv.At.head 11
       simp only [List.getElem?_cons_zero, List.getElem?_cons_succ] at q0_11
       have q1_0 := Fv.Fr.cell F (Fv.At.tail Fv.At.head) 0
       simp only [List.getElem?_cons_zero, List.getElem?_cons_succ] at q1_0
       have q2_10 := Fv.Fr.cell F (Fv.At.tail (Fv.At.tail Fv.At.head)) 10
       simp only [List.getElem?_cons_zero, List.getElem?_cons_succ] at q2_10
       go_wp2_with (first
        | ((with_reducible (show wpList _ _ _ (Oper.mk _ (Op.load _ _) _ _ _ none :: _) _ _)); first | refine Fv.ldN F rfl rfl rfl (by repeat constructor) (by repeat constructor) ?_ | refine Fv.ld1 F rfl rfl rfl (by repeat constructor) (by repeat constructor) ?_)
        | ((with_reducible (show wpList _ _ _ (Oper.mk _ (Op.store _ _ _) _ _ _ none :: _) _ _)); (first | refine Fv.stN F rfl rfl rfl rfl rfl (by first | rfl | simp [Value.oneCell']) (by repeat constructor) ?_ | refine Fv.st1 F rfl rfl rfl (by first | exact (rfl : _ = Value.int _ _) | exact (rfl : _ = Value.slice _ _ _) | exact (rfl : _ = Value.bool _) | exact (rfl : _ = Value.string _)) (by rfl) (by repeat constructor) ?_); clear F; intro W F)
        | ((with_reducible (show wpList _ _ _ (Oper.mk _ (Op.alloc _) _ _ _ none :: _) _ _)); refine Fv.al F rfl rfl ?_; clear F; intro g W hs1 hs2 F; clear hs1 hs2))
       go_roundw
       case rel => exact ⟨q + 1, s2, V2, su2, _, _, _, _, _, _, _, _, _, _, _, _, _, _, _, by go_num, by omega, HB2, (F.weak (fun _ _ h => ⟨trivial, h.2⟩)).tail.tail⟩
       case measure => simp [intOf]; omega
      ·skip
       clear hdid hl0 hdl
       go_upto_region 11 with (first
        | ((with_reducible (show wpList _ _ _ (Oper.mk _ (Op.load _ _) _ _ _ none :: _) _ _)); first | refine Fv.ldN F rfl rfl rfl (by repeat constructor) (by repeat constructor) ?_ | refine Fv.ld1 F rfl rfl rfl (by repeat constructor) (by repeat constructor) ?_)
        | ((with_reducible (show wpList _ _ _ (Oper.mk _ (Op.store _ _ _) _ _ _ none :: _) _ _)); (first | refine Fv.stN F rfl rfl rfl rfl rfl (by first | rfl | simp [Value.oneCell']) (by repeat constructor) ?_ | refine Fv.st1 F rfl rfl rfl (by first | exact (rfl : _ = Value.int _ _) | exact (rfl : _ = Value.slice _ _ _) | exact (rfl : _ = Value.bool _) | exact (rfl : _ = Value.string _)) (by rfl) (by repeat constructor) ?_); clear F; intro W F)
        | ((with_reducible (show wpList _ _ _ (Oper.mk _ (Op.alloc _) _ _ _ none :: _) _ _)); refine Fv.al F rfl rfl ?_; clear F; intro g W hs1 hs2 F; clear hs1 hs2))
       have q0_0 := Fv.Fr.cell F Fv.At.head 0
       simp only [List.getElem?_cons_zero, List.getElem?_cons_succ] at q0_0
       go_upto_region 13 with (first
        | ((with_reducible (show wpList _ _ _ (Oper.mk _ (Op.load _ _) _ _ _ none :: _) _ _)); first | refine Fv.ldN F rfl rfl rfl (by repeat constructor) (by repeat constructor) ?_ | refine Fv.ld1 F rfl rfl rfl (by repeat constructor) (by repeat constructor) ?_)
        | ((with_reducible (show wpList _ _ _ (Oper.mk _ (Op.store _ _ _) _ _ _ none :: _) _ _)); (first | refine Fv.stN F rfl rfl rfl rfl rfl (by first | rfl | simp [Value.oneCell']) (by repeat constructor) ?_ | refine Fv.st1 F rfl rfl rfl (by first | exact (rfl : _ = Value.int _ _) | exact (rfl : _ = Value.slice _ _ _) | exact (rfl : _ = Value.bool _) | exact (rfl : _ = Value.string _)) (by rfl) (by repeat constructor) ?_); clear F; intro W F)
        | ((with_reducible (show wpList _ _ _ (Oper.mk _ (Op.alloc _) _ _ _ none :: _) _ _)); refine Fv.al F rfl rfl ?_; clear F; intro g W hs1 hs2 F; clear hs1 hs2)
        | (go_at_call 14; refine (HDO.out _ _ _ (HT.out.below F.B) F.out.2.free).mono ?_; rintro e2 w2 ⟨v2, rfl, hS2, hv⟩; obtain ⟨A2, n2, c2, B2, m2, k2, dd2, lf2, ds2, Af2, cf2, Ad2, cd2, Ac2, cc2, rfl, hq2⟩ := hS2; have hS2 := (show IsSt _ _ _ _ from ⟨_, _, _, _, _, _, _, _, _, _, _, _, _, _, _, rfl, hq2⟩); clear hq2; have F2 := F.call hv; replace F := addSt F F2 hS2 HB2.out.ok.d.n1 rfl; clear hv F2 hS2))
       simp only [List.append_eq, List.cons_append, List.nil_append]
       clear q0_0 d0 d1 d2 d3 d4 d5
       have q0_8 := Fv.Fr.cell F Fv.At.head 8
       simp only [List.getElem?_cons_zero, List.getElem?_cons_succ] at q0_8
       have q0_9 := Fv.Fr.cell F Fv.At.head 9
       simp only [List.getElem?_cons_zero, List.getElem?_cons_succ] at q0_9
       have q0_11 := Fv.Fr.cell F Fv.At.head 11
       simp only [List.getElem?_cons_zero, List.getElem?_cons_succ] at q0_11
       have q1_0 := Fv.Fr.cell F (Fv.At.tail Fv.At.head) 0
       simp only [List.getElem?_cons_zero, List.getElem?_cons_succ] at q1_0
       have q2_10 := Fv.Fr.cell F (Fv.At.tail (Fv.At.tail Fv.At.head)) 10
       simp only [List.getElem?_cons_zero, List.getElem?_cons_succ] at q2_10
       go_wp2_with (first
        | ((with_reducible (show wpList _ _ _ (Oper.mk _ (Op.load _ _) _ _ _ none :: _) _ _)); first | refine Fv.ldN F rfl rfl rfl (by repeat constructor) (by repeat constructor) ?_ | refine Fv.ld1 F rfl rfl rfl (by repeat constructor) (by repeat constructor) ?_)
        | ((with_reducible (show wpList _ _ _ (Oper.mk _ (Op.store _ _ _) _ _ _ none :: _) _ _)); (first | refine Fv.stN F rfl rfl rfl rfl rfl (by first | rfl | simp [Value.oneCell']) (by repeat constructor) ?_ | refine Fv.st1 F rfl rfl rfl (by first | exact (rfl : _ = Value.int _ _) | exact (rfl : _ = Value.slice _ _ _) | exact (rfl : _ = Value.bool _) | exact (rfl : _ = Value.string _)) (by rfl) (by repeat constructor) ?_); clear F; intro W F)
        | ((with_reducible (show wpList _ _ _ (Oper.mk _ (Op.alloc _) _ _ _ none :: _) _ _)); refine Fv.al F rfl rfl ?_; clear F; intro g W hs1 hs2 F; clear hs1 hs2))
       go_roundw
       case rel => exact ⟨q + 1, s2, V2, su2, _, _, _, _, _, _, _, _, _, _, _, _, _, _, _, by go_num, by omega, HB2, (F.weak (fun _ _ h => ⟨trivial, h.2⟩)).tail.tail⟩
       case measure => simp [intOf]; omega
      ·obtain ⟨hk1, hk2⟩ := hdid.k2 rfl
       have w0 : (0 : Int) ≤ (s.di.length : Int) + 1 := by omega
       have w1 : (s.di.length : Int) + 1 ≤ 100000 := by omega
       clear hdid
       by_cases hd : s.di = []
       ·obtain rfl : er = 0 := hk1.2 (Or.inl hd)
        have hd1 : (s.di.length : Int) = 0 := by rw [hd]; rfl
        clear hk1 hk2 hd hl0 hdl w0 w1
        go_upto_region 11 with (first
         | ((with_reducible (show wpList _ _ _ (Oper.mk _ (Op.load _ _) _ _ _ none :: _) _ _)); first | refine Fv.ldN F rfl rfl rfl (by repeat constructor) (by repeat constructor) ?_ | refine Fv.ld1 F rfl rfl rfl (by repeat constructor) (by repeat constructor) ?_)
         | ((with_reducible (show wpList _ _ _ (Oper.mk _ (Op.store _ _ _) _ _ _ none :: _) _ _)); (first | refine Fv.stN F rfl rfl rfl rfl rfl (by first | rfl | simp [Value.oneCell']) (by repeat constructor) ?_ | refine Fv.st1 F rfl rfl rfl (by first | exact (rfl : _ = Value.int _ _) | exact (rfl : _ = Value.slice _ _ _) | exact (rfl : _ = Value.bool _) | exact (rfl : _ = Value.string _)) (by rfl) (by repeat constructor) ?_); clear F; intro W F)
         | ((with_reducible (show wpList _ _ _ (Oper.mk _ (Op.alloc _) _ _ _ none :: _) _ _)); refine Fv.al F rfl rfl ?_; clear F; intro g W hs1 hs2 F; clear hs1 hs2))
        have q0_0 := Fv.Fr.cell F Fv.At.head 0
        simp only [List.getElem?_cons_zero, List.getElem?_cons_succ] at q0_0
        go_upto_region 13 with (first
         | ((with_reducible (show wpList _ _ _ (Oper.mk _ (Op.load _ _) _ _ _ none :: _) _ _)); first | refine Fv.ldN F rfl rfl rfl (by repeat constructor) (by repeat constructor) ?_ | refine Fv.ld1 F rfl rfl rfl (by repeat constructor) (by repeat constructor) ?_)
         | ((with_reducible (show wpList _ _ _ (Oper.mk _ (Op.store _ _ _) _ _ _ none :: _) _ _)); (first | refine Fv.stN F rfl rfl rfl rfl rfl (by first | rfl | simp [Value.oneCell']) (by repeat constructor) ?_ | refine Fv.st1 F rfl rfl rfl (by first | exact (rfl : _ = Value.int _ _) | exact (rfl : _ = Value.slice _ _ _) | exact (rfl : _ = Value.bool _) | exact (rfl : _ = Value.string _)) (by rfl) (by repeat constructor) ?_); clear F; intro W F)
         | ((with_reducible (show wpList _ _ _ (Oper.mk _ (Op.alloc _) _ _ _ none :: _) _ _)); refine Fv.al F rfl rfl ?_; clear F; intro g W hs1 hs2 F; clear hs1 hs2)
         | (go_at_call 14; refine (HDO.out _ _ _ (HT.out.below F.B) F.out.2.free).mono ?_; rintro e2 w2 ⟨v2, rfl, hS2, hv⟩; obtain ⟨A2, n2, c2, B2, m2, k2, dd2, lf2, ds2, Af2, cf2, Ad2, cd2, Ac2, cc2, rfl, hq2⟩ := hS2; have hS2 := (show IsSt _ _ _ _ from ⟨_, _, _, _, _, _, _, _, _, _, _, _, _, _, _, rfl, hq2⟩); clear hq2; have F2 := F.call hv; replace F := addSt F F2 hS2 HB2.out.ok.d.n1 rfl; clear hv F2 hS2))
        simp only [List.append_eq, List.cons_append, List.nil_append]
        clear q0_0 d0 d1 d2 d3 d4 d5
        have q0_8 := Fv.Fr.cell F Fv.At.head 8
        simp only [List.getElem?_cons_zero, List.getElem?_cons_succ] at q0_8
        have q0_9 := Fv.Fr.cell F Fv.At.head 9
        simp only [List.getElem?_cons_zero, List.getElem?_cons_succ] at q0_9
        have q0_11 := Fv.Fr.cell F Fv.At.head 11
        simp only [List.getElem?_cons_zero, List.getElem?_cons_succ] at q0_11
        have q1_0 := Fv.Fr.cell F (Fv.At.tail Fv.At.head) 0
        simp only [List.getElem?_cons_zero, List.getElem?_cons_succ] at q1_0
        have q2_10 := Fv.Fr.cell F (Fv.At.tail (Fv.At.tail Fv.At.head)) 10
        simp only [List.getElem?_cons_zero, List.getElem?_cons_succ] at q2_10
        go_wp2_with (first
         | ((with_reducible (show wpList _ _ _ (Oper.mk _ (Op.load _ _) _ _ _ none :: _) _ _)); first | refine Fv.ldN F rfl rfl rfl (by repeat constructor) (by repeat constructor) ?_ | refine Fv.ld1 F rfl rfl rfl (by repeat constructor) (by repeat constructor) ?_)
         | ((with_reducible (show wpList _ _ _ (Oper.mk _ (Op.store _ _ _) _ _ _ none :: _) _ _)); (first | refine Fv.stN F rfl rfl rfl rfl rfl (by first | rfl | simp [Value.oneCell']) (by repeat constructor) ?_ | refine Fv.st1 F rfl rfl rfl (by first | exact (rfl : _ = Value.int _ _) | exact (rfl : _ = Value.slice _ _ _) | exact (rfl : _ = Value.bool _) | exact (rfl : _ = Value.string _)) (by rfl) (by repeat constructor) ?_); clear F; intro W F)
         | ((with_reducible (show wpList _ _ _ (Oper.mk _ (Op.alloc _) _ _ _ none :: _) _ _)); refine Fv.al F rfl rfl ?_; clear F; intro g W hs1 hs2 F; clear hs1 hs2))
        go_roundw
        case rel => exact ⟨q + 1, s2, V2, su2, _, _, _, _, _, _, _, _, _, _, _, _, _, _, _, by go_num, by omega, HB2, (F.weak (fun _ _ h => ⟨trivial, h.2⟩)).tail.tail⟩
        case measure => simp [intOf]; omega
       ·have hd1 : ¬ (s.di.length : Int) = 0 := fun h => hd (List.length_eq_zero_iff.1 (by omega))
        by_cases hle : (s.di.length : Int) + 1 ≤ s.h.l
        ·obtain rfl : er = 0 := hk1.2 (Or.inr hle)
         have hle2 : (s.di.length : Int) + 1 ≤ 4 + lg % 6 := by have := HM.out; omega
         have hle3 : (s.di.length : Int) < 4 + lg % 6 := by omega
         have hwl : wrap64 ((s.di.length : Int) + 1) = (s.di.length : Int) + 1 := wr_small _ _ w0 w1 rfl
         clear hk1 hk2 hd1 hl0 hdl hle w0 w1
         go_upto_region 11 with (first
          | ((with_reducible (show wpList _ _ _ (Oper.mk _ (Op.load _ _) _ _ _ none :: _) _ _)); first | refine Fv.ldN F rfl rfl rfl (by repeat constructor) (by repeat constructor) ?_ | refine Fv.ld1 F rfl rfl rfl (by repeat constructor) (by repeat constructor) ?_)
          | ((with_reducible (show wpList _ _ _ (Oper.mk _ (Op.store _ _ _) _ _ _ none :: _) _ _)); (first | refine Fv.stN F rfl rfl rfl rfl rfl (by first | rfl | simp [Value.oneCell']) (by repeat constructor) ?_ | refine Fv.st1 F rfl rfl rfl (by first | exact (rfl : _ = Value.int _ _) | exact (rfl : _ = Value.slice _ _ _) | exact (rfl : _ = Value.bool _) | exact (rfl : _ = Value.string _)) (by rfl) (by repeat constructor) ?_); clear F; intro W F)
          | ((with_reducible (show wpList _ _ _ (Oper.mk _ (Op.alloc _) _ _ _ none :: _) _ _)); refine Fv.al F rfl rfl ?_; clear F; intro g W hs1 hs2 F; clear hs1 hs2))
         have q0_0 := Fv.Fr.cell F Fv.At.head 0
         simp only [List.getElem?_cons_zero, List.getElem?_cons_succ] at q0_0
         go_upto_region 13 with (first
          | ((with_reducible (show wpList _ _ _ (Oper.mk _ (Op.load _ _) _ _ _ none :: _) _ _)); first | refine Fv.ldN F rfl rfl rfl (by repeat constructor) (by repeat constructor) ?_ | refine Fv.ld1 F rfl rfl rfl (by repeat constructor) (by repeat constructor) ?_)
          | ((with_reducible (show wpList _ _ _ (Oper.mk _ (Op.store _ _ _) _ _ _ none :: _) _ _)); (first | refine Fv.stN F rfl rfl rfl rfl rfl (by first | rfl | simp [Value.oneCell']) (by repeat constructor) ?_ | refine Fv.st1 F rfl rfl rfl (by first | exact (rfl : _ = Value.int _ _) | exact (rfl : _ = Value.slice _ _ _) | exact (rfl : _ = Value.bool _) | exact (rfl : _ = Value.string _)) (by rfl) (by repeat constructor) ?_); clear F; intro W F)
          | ((with_reducible (show wpList _ _ _ (Oper.mk _ (Op.alloc _) _ _ _ none :: _) _ _)); refine Fv.al F rfl rfl ?_; clear F; intro g W hs1 hs2 F; clear hs1 hs2)
          | (go_at_call 14; refine (HDO.out _ _ _ (HT.out.below F.B) F.out.2.free).mono ?_; rintro e2 w2 ⟨v2, rfl, hS2, hv⟩; obtain ⟨A2, n2, c2, B2, m2, k2, dd2, lf2, ds2, Af2, cf2, Ad2, cd2, Ac2, cc2, rfl, hq2⟩ := hS2; have hS2 := (show IsSt _ _ _ _ from ⟨_, _, _, _, _, _, _, _, _, _, _, _, _, _, _, rfl, hq2⟩); clear hq2; have F2 := F.call hv; replace F := addSt F F2 hS2 HB2.out.ok.d.n1 rfl; clear hv F2 hS2))
         simp only [List.append_eq, List.cons_append, List.nil_append]
         clear q0_0 d0 d1 d2 d3 d4 d5
         have q0_8 := Fv.Fr.cell F Fv.At.head 8
         simp only [List.getElem?_cons_zero, List.getElem?_cons_succ] at q0_8
         have q0_9 := Fv.Fr.cell F Fv.At.head 9
         simp only [List.getElem?_cons_zero, List.getElem?_cons_succ] at q0_9
         have q0_11 := Fv.Fr.cell F Fv.At.head 11
         simp only [List.getElem?_cons_zero, List.getElem?_cons_succ] at q0_11
         have q1_0 := Fv.Fr.cell F (Fv.At.tail Fv.At.head) 0
         simp only [List.getElem?_cons_zero, List.getElem?_cons_succ] at q1_0
         have q2_10 := Fv.Fr.cell F (Fv.At.tail (Fv.At.tail Fv.At.head)) 10
         simp only [List.getElem?_cons_zero, List.getElem?_cons_succ] at q2_10
         go_wp2_with (first
          | ((with_reducible (show wpList _ _ _ (Oper.mk _ (Op.load _ _) _ _ _ none :: _) _ _)); first | refine Fv.ldN F rfl rfl rfl (by repeat constructor) (by repeat constructor) ?_ | refine Fv.ld1 F rfl rfl rfl (by repeat constructor) (by repeat constructor) ?_)
          | ((with_reducible (show wpList _ _ _ (Oper.mk _ (Op.store _ _ _) _ _ _ none :: _) _ _)); (first | refine Fv.stN F rfl rfl rfl rfl rfl (by first | rfl | simp [Value.oneCell']) (by repeat constructor) ?_ | refine Fv.st1 F rfl rfl rfl (by first | exact (rfl : _ = Value.int _ _) | exact (rfl : _ = Value.slice _ _ _) | exact (rfl : _ = Value.bool _) | exact (rfl : _ = Value.string _)) (by rfl) (by repeat constructor) ?_); clear F; intro W F)
          | ((with_reducible (show wpList _ _ _ (Oper.mk _ (Op.alloc _) _ _ _ none :: _) _ _)); refine Fv.al F rfl rfl ?_; clear F; intro g W hs1 hs2 F; clear hs1 hs2))
         go_roundw
         case rel => exact ⟨q + 1, s2, V2, su2, _, _, _, _, _, _, _, _, _, _, _, _, _, _, _, by go_num, by omega, HB2, (F.weak (fun _ _ h => ⟨trivial, h.2⟩)).tail.tail⟩
         case measure => simp [intOf]; omega
        ·obtain ⟨he, hs⟩ := hk2 (fun h => by rcases hk1.1 h with h | h; exact hd h; exact hle h)
         subst he
         subst hs
         have hle2 : ¬ (s2.di.length : Int) + 1 ≤ 4 + lg % 6 := by have := HM.out; omega
         have hle3 : ¬ (s2.di.length : Int) < 4 + lg % 6 := by omega
         have hwl : wrap64 ((s2.di.length : Int) + 1) = (s2.di.length : Int) + 1 := wr_small _ _ w0 w1 rfl
         clear hk1 hk2 hd1 hl0 hdl hle w0 w1
         go_upto_region 11 with (first
          | ((with_reducible (show wpList _ _ _ (Oper.mk _ (Op.load _ _) _ _ _ none :: _) _ _)); first | refine Fv.ldN F rfl rfl rfl (by repeat constructor) (by repeat constructor) ?_ | refine Fv.ld1 F rfl rfl rfl (by repeat constructor) (by repeat constructor) ?_)
          | ((with_reducible (show wpList _ _ _ (Oper.mk _ (Op.store _ _ _) _ _ _ none :: _) _ _)); (first | refine Fv.stN F rfl rfl rfl rfl rfl (by first | rfl | simp [Value.oneCell']) (by repeat constructor) ?_ | refine Fv.st1 F rfl rfl rfl (by first | exact (rfl : _ = Value.int _ _) | exact (rfl : _ = Value.slice _ _ _) | exact (rfl : _ = Value.bool _) | exact (rfl : _ = Value.string _)) (by rfl) (by repeat constructor) ?_); clear F; intro W F)
          | ((with_reducible (show wpList _ _ _ (Oper.mk _ (Op.alloc _) _ _ _ none :: _) _ _)); refine Fv.al F rfl rfl ?_; clear F; intro g W hs1 hs2 F; clear hs1 hs2))
         have q0_0 := Fv.Fr.cell F Fv.At.head 0
         simp only [List.getElem?_cons_zero, List.getElem?_cons_succ] at q0_0
         go_upto_region 13 with (first
          | ((with_reducible (show wpList _ _ _ (Oper.mk _ (Op.load _ _) _ _ _ none :: _) _ _)); first | refine Fv.ldN F rfl rfl rfl (by repeat constructor) (by repeat constructor) ?_ | refine Fv.ld1 F rfl rfl rfl (by repeat constructor) (by repeat constructor) ?_)
          | ((with_reducible (show wpList _ _ _ (Oper.mk _ (Op.store _ _ _) _ _ _ none :: _) _ _)); (first | refine Fv.stN F rfl rfl rfl rfl rfl (by first | rfl | simp [Value.oneCell']) (by repeat constructor) ?_ | refine Fv.st1 F rfl rfl rfl (by first | exact (rfl : _ = Value.int _ _) | exact (rfl : _ = Value.slice _ _ _) | exact (rfl : _ = Value.bool _) | exact (rfl : _ = Value.string _)) (by rfl) (by repeat constructor) ?_); clear F; intro W F)
          | ((with_reducible (show wpList _ _ _ (Oper.mk _ (Op.alloc _) _ _ _ none :: _) _ _)); refine Fv.al F rfl rfl ?_; clear F; intro g W hs1 hs2 F; clear hs1 hs2)
          | (go_at_call 14; refine (HDO.out _ _ _ (HT.out.below F.B) F.out.2.free).mono ?_; rintro e2 w2 ⟨v2, rfl, hS2, hv⟩; obtain ⟨A2, n2, c2, B2, m2, k2, dd2, lf2, ds2, Af2, cf2, Ad2, cd2, Ac2, cc2, rfl, hq2⟩ := hS2; have hS2 := (show IsSt _ _ _ _ from ⟨_, _, _, _, _, _, _, _, _, _, _, _, _, _, _, rfl, hq2⟩); clear hq2; have F2 := F.call hv; replace F := addSt F F2 hS2 HB2.out.ok.d.n1 rfl; clear hv F2 hS2))
         simp only [List.append_eq, List.cons_append, List.nil_append]
         clear q0_0 d0 d1 d2 d3 d4 d5
         have q0_0 := Fv.Fr.cell F Fv.At.head 0
         simp only [List.getElem?_cons_zero, List.getElem?_cons_succ] at q0_0
         have q0_1 := Fv.Fr.cell F Fv.At.head 1
         simp only [List.getElem?_cons_zero, List.getElem?_cons_succ] at q0_1
         have q0_2 := Fv.Fr.cell F Fv.At.head 2
         simp only [List.getElem?_cons_zero, List.getElem?_cons_succ] at q0_2
         have q0_3 := Fv.Fr.cell F Fv.At.head 3
         simp only [List.getElem?_cons_zero, List.getElem?_cons_succ] at q0_3
         have q0_4 := Fv.Fr.cell F Fv.At.head 4
         simp only [List.getElem?_cons_zero, List.getElem?_cons_succ] at q0_4
         have q0_5 := Fv.Fr.cell F Fv.At.head 5
         simp only [List.getElem?_cons_zero, List.getElem?_cons_succ] at q0_5
         have q0_6 := Fv.Fr.cell F Fv.At.head 6
         simp only [List.getElem?_cons_zero, List.getElem?_cons_succ] at q0_6
         have q0_7 := Fv.Fr.cell F Fv.At.head 7
         simp only [List.getElem?_cons_zero, List.getElem?_cons_succ] at q0_7
         have q0_8 := Fv.Fr.cell F Fv.At.head 8
         simp only [List.getElem?_cons_zero, List.getElem?_cons_succ] at q0_8
         have q0_9 := Fv.Fr.cell F Fv.At.head 9
         simp only [List.getElem?_cons_zero, List.getElem?_cons_succ] at q0_9
         have q0_10 := Fv.Fr.cell F Fv.At.head 10
         simp only [List.getElem?_cons_zero, List.getElem?_cons_succ] at q0_10
         have q0_11 := Fv.Fr.cell F Fv.At.head 11
         simp only [List.getElem?_cons_zero, List.getElem?_cons_succ] at q0_11
         have q0_12 := Fv.Fr.cell F Fv.At.head 12
         simp only [List.getElem?_cons_zero, List.getElem?_cons_succ] at q0_12
         have q2_0 := Fv.Fr.cell F (Fv.At.tail (Fv.At.tail Fv.At.head)) 0
         simp only [List.getElem?_cons_zero, List.getElem?_cons_succ] at q2_0
         have q2_1 := Fv.Fr.cell F (Fv.At.tail (Fv.At.tail Fv.At.head)) 1
         simp only [List.getElem?_cons_zero, List.getElem?_cons_succ] at q2_1
         have q2_2 := Fv.Fr.cell F (Fv.At.tail (Fv.At.tail Fv.At.head)) 2
         simp only [List.getElem?_cons_zero, List.getElem?_cons_succ] at q2_2
         have q2_3 := Fv.Fr.cell F (Fv.At.tail (Fv.At.tail Fv.At.head)) 3
         simp only [List.getElem?_cons_zero, List.getElem?_cons_succ] at q2_3
         have q2_4 := Fv.Fr.cell F (Fv.At.tail (Fv.At.tail Fv.At.head)) 4
         simp only [List.getElem?_cons_zero, List.getElem?_cons_succ] at q2_4
         have q2_5 := Fv.Fr.cell F (Fv.At.tail (Fv.At.tail Fv.At.head)) 5
         simp only [List.getElem?_cons_zero, List.getElem?_cons_succ] at q2_5
         have q2_6 := Fv.Fr.cell F (Fv.At.tail (Fv.At.tail Fv.At.head)) 6
         simp only [List.getElem?_cons_zero, List.getElem?_cons_succ] at q2_6
         have q2_7 := Fv.Fr.cell F (Fv.At.tail (Fv.At.tail Fv.At.head)) 7
         simp only [List.getElem?_cons_zero, List.getElem?_cons_succ] at q2_7
         have q2_8 := Fv.Fr.cell F (Fv.At.tail (Fv.At.tail Fv.At.head)) 8
         simp only [List.getElem?_cons_zero, List.getElem?_cons_succ] at q2_8
         have q2_9 := Fv.Fr.cell F (Fv.At.tail (Fv.At.tail Fv.At.head)) 9
         simp only [List.getElem?_cons_zero, List.getElem?_cons_succ] at q2_9
         have q2_10 := Fv.Fr.cell F (Fv.At.tail (Fv.At.tail Fv.At.head)) 10
         simp only [List.getElem?_cons_zero, List.getElem?_cons_succ] at q2_10
         have q2_11 := Fv.Fr.cell F (Fv.At.tail (Fv.At.tail Fv.At.head)) 11
         simp only [List.getElem?_cons_zero, List.getElem?_cons_succ] at q2_11
         have q2_12 := Fv.Fr.cell F (Fv.At.tail (Fv.At.tail Fv.At.head)) 12
         simp only [List.getElem?_cons_zero, List.getElem?_cons_succ] at q2_12
         have q1_0 := Fv.Fr.cell F (Fv.At.tail Fv.At.head) 0
         simp only [List.getElem?_cons_zero, List.getElem?_cons_succ] at q1_0
         go_wp2_with (first
          | ((with_reducible (show wpList _ _ _ (Oper.mk _ (Op.load _ _) _ _ _ none :: _) _ _)); first | refine Fv.ldN F rfl rfl rfl (by repeat constructor) (by repeat constructor) ?_ | refine Fv.ld1 F rfl rfl rfl (by repeat constructor) (by repeat constructor) ?_)
          | ((with_reducible (show wpList _ _ _ (Oper.mk _ (Op.store _ _ _) _ _ _ none :: _) _ _)); (first | refine Fv.stN F rfl rfl rfl rfl rfl (by first | rfl | simp [Value.oneCell']) (by repeat constructor) ?_ | refine Fv.st1 F rfl rfl rfl (by first | exact (rfl : _ = Value.int _ _) | exact (rfl : _ = Value.slice _ _ _) | exact (rfl : _ = Value.bool _) | exact (rfl : _ = Value.string _)) (by rfl) (by repeat constructor) ?_); clear F; intro W F)
          | ((with_reducible (show wpList _ _ _ (Oper.mk _ (Op.alloc _) _ _ _ none :: _) _ _)); refine Fv.al F rfl rfl ?_; clear F; intro g W hs1 hs2 F; clear hs1 hs2)
          | (go_at_call 13; refine (sameSt_any _ _ s2 _ F.out.2.st F.out.1.2.st HB2.out.ok HB2.out.c.c.m).mono ?_; rintro e8 w8 ⟨rfl, hv⟩; clear q0_0 q0_1 q0_2 q0_3 q0_4 q0_5 q0_6 q0_7 q0_8 q0_9 q0_10 q0_11 q0_12 q2_0 q2_1 q2_2 q2_3 q2_4 q2_5 q2_6 q2_7 q2_8 q2_9 q2_10 q2_11 q2_12 q1_0; replace F := F.call hv; clear hv; have q0_8 := Fv.Fr.cell F Fv.At.head 8; have q0_9 := Fv.Fr.cell F Fv.At.head 9; have q0_11 := Fv.Fr.cell F Fv.At.head 11; have q1_0 := Fv.Fr.cell F (Fv.At.tail Fv.At.head) 0; have q2_10 := Fv.Fr.cell F (Fv.At.tail (Fv.At.tail Fv.At.head)) 10; simp only [List.getElem?_cons_zero, List.getElem?_cons_succ] at q0_8 q0_9 q0_11 q1_0 q2_10))
         ·exfalso; rename_i hbad; rcases hbad with ((h | h) | h) | h <;> first | omega | exact hd (List.length_eq_zero_iff.1 (by have := eq_of_beq h; omega))
         go_roundw
         case rel => exact ⟨q + 1, s2, V2, su2, _, _, _, _, _, _, _, _, _, _, _, _, _, _, _, by go_num, by omega, HB2, (F.weak (fun _ _ h => ⟨trivial, h.2⟩)).tail.tail⟩
         case measure => simp [intOf]; omega
      ·skip
       clear hdid hl0 hdl
       go_upto_region 11 with (first
        | ((with_reducible (show wpList _ _ _ (Oper.mk _ (Op.load _ _) _ _ _ none :: _) _ _)); first | refine Fv.ldN F rfl rfl rfl (by repeat constructor) (by repeat constructor) ?_ | refine Fv.ld1 F rfl rfl rfl (by repeat constructor) (by repeat constructor) ?_)
        | ((with_reducible (show wpList _ _ _ (Oper.mk _ (Op.store _ _ _) _ _ _ none :: _) _ _)); (first | refine Fv.stN F rfl rfl rfl rfl rfl (by first | rfl | simp [Value.oneCell']) (by repeat constructor) ?_ | refine Fv.st1 F rfl rfl rfl (by first | exact (rfl : _ = Value.int _ _) | exact (rfl : _ = Value.slice _ _ _) | exact (rfl : _ = Value.bool _) | exact (rfl : _ = Value.string _)) (by rfl) (by repeat constructor) ?_); clear F; intro W F)
        | ((with_reducible (show wpList _ _ _ (Oper.mk _ (Op.alloc _) _ _ _ none :: _) _ _)); refine Fv.al F rfl rfl ?_; clear F; intro g W hs1 hs2 F; clear hs1 hs2))
       have q0_0 := Fv.Fr.cell F Fv.At.head 0
       simp only [List.getElem?_cons_zero, List.getElem?_cons_succ] at q0_0
       go_upto_region 13 with (first
        | ((with_reducible (show wpList _ _ _ (Oper.mk _ (Op.load _ _) _ _ _ none :: _) _ _)); first | refine Fv.ldN F rfl rfl rfl (by repeat constructor) (by repeat constructor) ?_ | refine Fv.ld1 F rfl rfl rfl (by repeat constructor) (by repeat constructor) ?_)
        | ((with_reducible (show wpList _ _ _ (Oper.mk _ (Op.store _ _ _) _ _ _ none :: _) _ _)); (first | refine Fv.stN F rfl rfl rfl rfl rfl (by first | rfl | simp [Value.oneCell']) (by repeat constructor) ?_ | refine Fv.st1 F rfl rfl rfl (by first | exact (rfl : _ = Value.int _ _) | exact (rfl : _ = Value.slice _ _ _) | exact (rfl : _ = Value.bool _) | exact (rfl : _ = Value.string _)) (by rfl) (by repeat constructor) ?_); clear F; intro W F)
        | ((with_reducible (show wpList _ _ _ (Oper.mk _ (Op.alloc _) _ _ _ none :: _) _ _)); refine Fv.al F rfl rfl ?_; clear F; intro g W hs1 hs2 F; clear hs1 hs2)
        | (go_at_call 14; refine (HDO.out _ _ _ (HT.out.below F.B) F.out.2.free).mono ?_; rintro e2 w2 ⟨v2, rfl, hS2, hv⟩; obtain ⟨A2, n2, c2, B2, m2, k2, dd2, lf2, ds2, Af2, cf2, Ad2, cd2, Ac2, cc2, rfl, hq2⟩ := hS2; have hS2 := (show IsSt _ _ _ _ from ⟨_, _, _, _, _, _, _, _, _, _, _, _, _, _, _, rfl, hq2⟩); clear hq2; have F2 := F.call hv; replace F := addSt F F2 hS2 HB2.out.ok.d.n1 rfl; clear hv F2 hS2))
       simp only [List.append_eq, List.cons_append, List.nil_append]
       clear q0_0 d0 d1 d2 d3 d4 d5
       have q0_8 := Fv.Fr.cell F Fv.At.head 8
       simp only [List.getElem?_cons_zero, List.getElem?_cons_succ] at q0_8
       have q0_9 := Fv.Fr.cell F Fv.At.head 9
       simp only [List.getElem?_cons_zero, List.getElem?_cons_succ] at q0_9
       have q0_11 := Fv.Fr.cell F Fv.At.head 11
       simp only [List.getElem?_cons_zero, List.getElem?_cons_succ] at q0_11
       have q1_0 := Fv.Fr.cell F (Fv.At.tail Fv.At.head) 0
       simp only [List.getElem?_cons_zero, List.getElem?_cons_succ] at q1_0
       have q2_10 := Fv.Fr.cell F (Fv.At.tail (Fv.At.tail Fv.At.head)) 10
       simp only [List.getElem?_cons_zero, List.getElem?_cons_succ] at q2_10
       go_wp2_with (first
        | ((with_reducible (show wpList _ _ _ (Oper.mk _ (Op.load _ _) _ _ _ none :: _) _ _)); first | refine Fv.ldN F rfl rfl rfl (by repeat constructor) (by repeat constructor) ?_ | refine Fv.ld1 F rfl rfl rfl (by repeat constructor) (by repeat constructor) ?_)
        | ((with_reducible (show wpList _ _ _ (Oper.mk _ (Op.store _ _ _) _ _ _ none :: _) _ _)); (first | refine Fv.stN F rfl rfl rfl rfl rfl (by first | rfl | simp [Value.oneCell']) (by repeat constructor) ?_ | refine Fv.st1 F rfl rfl rfl (by first | exact (rfl : _ = Value.int _ _) | exact (rfl : _ = Value.slice _ _ _) | exact (rfl : _ = Value.bool _) | exact (rfl : _ = Value.string _)) (by rfl) (by repeat constructor) ?_); clear F; intro W F)
        | ((with_reducible (show wpList _ _ _ (Oper.mk _ (Op.alloc _) _ _ _ none :: _) _ _)); refine Fv.al F rfl rfl ?_; clear F; intro g W hs1 hs2 F; clear hs1 hs2))
       go_roundw
       case rel => exact ⟨q + 1, s2, V2, su2, _, _, _, _, _, _, _, _, _, _, _, _, _, _, _, by go_num, by omega, HB2, (F.weak (fun _ _ h => ⟨trivial, h.2⟩)).tail.tail⟩
       case measure => simp [intOf]; omega
      ·obtain ⟨he, ht0, hf0⟩ := hdid.k4 rfl
       subst he
       clear hdid hl0 hdl
       obtain ⟨e2d, e2h, e2t, e2f, e2i, e2c⟩ := s2
       simp only at ht0 hf0 hxt hxc
       subst ht0 hf0
       go_upto_region 11 with (first
        | ((with_reducible (show wpList _ _ _ (Oper.mk _ (Op.load _ _) _ _ _ none :: _) _ _)); first | refine Fv.ldN F rfl rfl rfl (by repeat constructor) (by repeat constructor) ?_ | refine Fv.ld1 F rfl rfl rfl (by repeat constructor) (by repeat constructor) ?_)
        | ((with_reducible (show wpList _ _ _ (Oper.mk _ (Op.store _ _ _) _ _ _ none :: _) _ _)); (first | refine Fv.stN F rfl rfl rfl rfl rfl (by first | rfl | simp [Value.oneCell']) (by repeat constructor) ?_ | refine Fv.st1 F rfl rfl rfl (by first | exact (rfl : _ = Value.int _ _) | exact (rfl : _ = Value.slice _ _ _) | exact (rfl : _ = Value.bool _) | exact (rfl : _ = Value.string _)) (by rfl) (by repeat constructor) ?_); clear F; intro W F)
        | ((with_reducible (show wpList _ _ _ (Oper.mk _ (Op.alloc _) _ _ _ none :: _) _ _)); refine Fv.al F rfl rfl ?_; clear F; intro g W hs1 hs2 F; clear hs1 hs2))
       have q0_0 := Fv.Fr.cell F Fv.At.head 0
       simp only [List.getElem?_cons_zero, List.getElem?_cons_succ] at q0_0
       go_upto_region 13 with (first
        | ((with_reducible (show wpList _ _ _ (Oper.mk _ (Op.load _ _) _ _ _ none :: _) _ _)); first | refine Fv.ldN F rfl rfl rfl (by repeat constructor) (by repeat constructor) ?_ | refine Fv.ld1 F rfl rfl rfl (by repeat constructor) (by repeat constructor) ?_)
        | ((with_reducible (show wpList _ _ _ (Oper.mk _ (Op.store _ _ _) _ _ _ none :: _) _ _)); (first | refine Fv.stN F rfl rfl rfl rfl rfl (by first | rfl | simp [Value.oneCell']) (by repeat constructor) ?_ | refine Fv.st1 F rfl rfl rfl (by first | exact (rfl : _ = Value.int _ _) | exact (rfl : _ = Value.slice _ _ _) | exact (rfl : _ = Value.bool _) | exact (rfl : _ = Value.string _)) (by rfl) (by repeat constructor) ?_); clear F; intro W F)
        | ((with_reducible (show wpList _ _ _ (Oper.mk _ (Op.alloc _) _ _ _ none :: _) _ _)); refine Fv.al F rfl rfl ?_; clear F; intro g W hs1 hs2 F; clear hs1 hs2)
        | (go_at_call 14; refine (HDO.out _ _ _ (HT.out.below F.B) F.out.2.free).mono ?_; rintro e2 w2 ⟨v2, rfl, hS2, hv⟩; obtain ⟨A2, n2, c2, B2, m2, k2, dd2, lf2, ds2, Af2, cf2, Ad2, cd2, Ac2, cc2, rfl, hq2⟩ := hS2; have hS2 := (show IsSt _ _ _ _ from ⟨_, _, _, _, _, _, _, _, _, _, _, _, _, _, _, rfl, hq2⟩); clear hq2; have F2 := F.call hv; replace F := addSt F F2 hS2 HB2.out.ok.d.n1 rfl; clear hv F2 hS2))
       simp only [List.append_eq, List.cons_append, List.nil_append]
       clear q0_0 d0 d1 d2 d3 d4 d5
       have q0_8 := Fv.Fr.cell F Fv.At.head 8
       simp only [List.getElem?_cons_zero, List.getElem?_cons_succ] at q0_8
       have q0_9 := Fv.Fr.cell F Fv.At.head 9
       simp only [List.getElem?_cons_zero, List.getElem?_cons_succ] at q0_9
       have q0_11 := Fv.Fr.cell F Fv.At.head 11
       simp only [List.getElem?_cons_zero, List.getElem?_cons_succ] at q0_11
       have q1_0 := Fv.Fr.cell F (Fv.At.tail Fv.At.head) 0
       simp only [List.getElem?_cons_zero, List.getElem?_cons_succ] at q1_0
       have q2_10 := Fv.Fr.cell F (Fv.At.tail (Fv.At.tail Fv.At.head)) 10
       simp only [List.getElem?_cons_zero, List.getElem?_cons_succ] at q2_10
       go_wp2_with (first
        | ((with_reducible (show wpList _ _ _ (Oper.mk _ (Op.load _ _) _ _ _ none :: _) _ _)); first | refine Fv.ldN F rfl rfl rfl (by repeat constructor) (by repeat constructor) ?_ | refine Fv.ld1 F rfl rfl rfl (by repeat constructor) (by repeat constructor) ?_)
        | ((with_reducible (show wpList _ _ _ (Oper.mk _ (Op.store _ _ _) _ _ _ none :: _) _ _)); (first | refine Fv.stN F rfl rfl rfl rfl rfl (by first | rfl | simp [Value.oneCell']) (by repeat constructor) ?_ | refine Fv.st1 F rfl rfl rfl (by first | exact (rfl : _ = Value.int _ _) | exact (rfl : _ = Value.slice _ _ _) | exact (rfl : _ = Value.bool _) | exact (rfl : _ = Value.string _)) (by rfl) (by repeat constructor) ?_); clear F; intro W F)
        | ((with_reducible (show wpList _ _ _ (Oper.mk _ (Op.alloc _) _ _ _ none :: _) _ _)); refine Fv.al F rfl rfl ?_; clear F; intro g W hs1 hs2 F; clear hs1 hs2))
       go_roundw
       case rel => exact ⟨q + 1, _, V2, su2, _, _, _, _, _, _, _, _, _, _, _, _, _, _, _, by go_num, by omega, HB2, (F.weak (fun _ _ h => ⟨trivial, h.2⟩)).tail.tail⟩
       case measure => simp [intOf]; omega
     ·skip
      go_upto_region 11 with (first
       | ((with_reducible (show wpList _ _ _ (Oper.mk _ (Op.load _ _) _ _ _ none :: _) _ _)); first | refine Fv.ldN F rfl rfl rfl (by repeat constructor) (by repeat constructor) ?_ | refine Fv.ld1 F rfl rfl rfl (by repeat constructor) (by repeat constructor) ?_)
       | ((with_reducible (show wpList _ _ _ (Oper.mk _ (Op.store _ _ _) _ _ _ none :: _) _ _)); (first | refine Fv.stN F rfl rfl rfl rfl rfl (by first | rfl | simp [Value.oneCell']) (by repeat constructor) ?_ | refine Fv.st1 F rfl rfl rfl (by first | exact (rfl : _ = Value.int _ _) | exact (rfl : _ = Value.slice _ _ _) | exact (rfl : _ = Value.bool _) | exact (rfl : _ = Value.string _)) (by rfl) (by repeat constructor) ?_); clear F; intro W F)
       | ((with_reducible (show wpList _ _ _ (Oper.mk _ (Op.alloc _) _ _ _ none :: _) _ _)); refine Fv.al F rfl rfl ?_; clear F; intro g W hs1 hs2 F; clear hs1 hs2))
      have q0_0 := Fv.Fr.cell F Fv.At.head 0
      simp only [List.getElem?_cons_zero, List.getElem?_cons_succ] at q0_0
      go_wp2_with (first
       | ((with_reducible (show wpList _ _ _ (Oper.mk _ (Op.load _ _) _ _ _ none :: _) _ _)); first | refine Fv.ldN F rfl rfl rfl (by repeat constructor) (by repeat constructor) ?_ | refine Fv.ld1 F rfl rfl rfl (by repeat constructor) (by repeat constructor) ?_)
       | ((with_reducible (show wpList _ _ _ (Oper.mk _ (Op.store _ _ _) _ _ _ none :: _) _ _)); (first | refine Fv.stN F rfl rfl rfl rfl rfl (by first | rfl | simp [Value.oneCell']) (by repeat constructor) ?_ | refine Fv.st1 F rfl rfl rfl (by first | exact (rfl : _ = Value.int _ _) | exact (rfl : _ = Value.slice _ _ _) | exact (rfl : _ = Value.bool _) | exact (rfl : _ = Value.string _)) (by rfl) (by repeat constructor) ?_); clear F; intro W F)
       | ((with_reducible (show wpList _ _ _ (Oper.mk _ (Op.alloc _) _ _ _ none :: _) _ _)); refine Fv.al F rfl rfl ?_; clear F; intro g W hs1 hs2 F; clear hs1 hs2))
      go_roundw
      case rel => exact ⟨q + 1, s, V, su, _, _, _, _, _, _, _, _, _, _, _, _, _, _, _, by go_num, by omega, Lib.hid HB.out.more, F.tail⟩
      case measure => simp [intOf]; omega
    ·skip
     go_upto_region 11 with (first
      | ((with_reducible (show wpList _ _ _ (Oper.mk _ (Op.load _ _) _ _ _ none :: _) _ _)); first | refine Fv.ldN F rfl rfl rfl (by repeat constructor) (by repeat constructor) ?_ | refine Fv.ld1 F rfl rfl rfl (by repeat constructor) (by repeat constructor) ?_)
      | ((with_reducible (show wpList _ _ _ (Oper.mk _ (Op.store _ _ _) _ _ _ none :: _) _ _)); (first | refine Fv.stN F rfl rfl rfl rfl rfl (by first | rfl | simp [Value.oneCell']) (by repeat constructor) ?_ | refine Fv.st1 F rfl rfl rfl (by first | exact (rfl : _ = Value.int _ _) | exact (rfl : _ = Value.slice _ _ _) | exact (rfl : _ = Value.bool _) | exact (rfl : _ = Value.string _)) (by rfl) (by repeat constructor) ?_); clear F; intro W F)
      | ((with_reducible (show wpList _ _ _ (Oper.mk _ (Op.alloc _) _ _ _ none :: _) _ _)); refine Fv.al F rfl rfl ?_; clear F; intro g W hs1 hs2 F; clear hs1 hs2))
     have q0_0 := Fv.Fr.cell F Fv.At.head 0
     simp only [List.getElem?_cons_zero, List.getElem?_cons_succ] at q0_0
     go_wp2_with (first
      | ((with_reducible (show wpList _ _ _ (Oper.mk _ (Op.load _ _) _ _ _ none :: _) _ _)); first | refine Fv.ldN F rfl rfl rfl (by repeat constructor) (by repeat constructor) ?_ | refine Fv.ld1 F rfl rfl rfl (by repeat constructor) (by repeat constructor) ?_)
      | ((with_reducible (show wpList _ _ _ (Oper.mk _ (Op.store _ _ _) _ _ _ none :: _) _ _)); (first | refine Fv.stN F rfl rfl rfl rfl rfl (by first | rfl | simp [Value.oneCell']) (by repeat constructor) ?_ | refine Fv.st1 F rfl rfl rfl (by first | exact (rfl : _ = Value.int _ _) | exact (rfl : _ = Value.slice _ _ _) | exact (rfl : _ = Value.bool _) | exact (rfl : _ = Value.string _)) (by rfl) (by repeat constructor) ?_); clear F; intro W F)
      | ((with_reducible (show wpList _ _ _ (Oper.mk _ (Op.alloc _) _ _ _ none :: _) _ _)); refine Fv.al F rfl rfl ?_; clear F; intro g W hs1 hs2 F; clear hs1 hs2))
     go_roundw
     case rel => exact ⟨q + 1, s, V, su, _, _, _, _, _, _, _, _, _, _, _, _, _, _, _, by go_num, by omega, Lib.hid HB.out.more, F.tail⟩
     case measure => simp [intOf]; omega
   ·obtain rfl : n = q := by omega
    go_wp2_with (first
     | ((with_reducible (show wpList _ _ _ (Oper.mk _ (Op.load _ _) _ _ _ none :: _) _ _)); first | refine Fv.ldN F rfl rfl rfl (by repeat constructor) (by repeat constructor) ?_ | refine Fv.ld1 F rfl rfl rfl (by repeat constructor) (by repeat constructor) ?_)
     | ((with_reducible (show wpList _ _ _ (Oper.mk _ (Op.store _ _ _) _ _ _ none :: _) _ _)); (first | refine Fv.stN F rfl rfl rfl rfl rfl (by first | rfl | simp [Value.oneCell']) (by repeat constructor) ?_ | refine Fv.st1 F rfl rfl rfl (by first | exact (rfl : _ = Value.int _ _) | exact (rfl : _ = Value.slice _ _ _) | exact (rfl : _ = Value.bool _) | exact (rfl : _ = Value.string _)) (by rfl) (by repeat constructor) ?_); clear F; intro W F)
     | ((with_reducible (show wpList _ _ _ (Oper.mk _ (Op.alloc _) _ _ _ none :: _) _ _)); refine Fv.al F rfl rfl ?_; clear F; intro g W hs1 hs2 F; clear hs1 hs2)
     | (go_at_call 10; refine (awake_any _ (HT.out.below F.B)).mono ?_; rintro e w9 ⟨rfl, hv⟩; replace F := F.call hv; clear hv))
    rw [← HP.out]
    exact ⟨rfl, F.B⟩
 ·have HSM := Lib.hid hsm
  clear hsm
  have F := Fv.Fr.start w
  go_enter Tryz.func5, Tryz.ntmps5
  go_wp2_with (first
   | ((with_reducible (show wpList _ _ _ (Oper.mk _ (Op.load _ _) _ _ _ none :: _) _ _)); first | refine Fv.ldN F rfl rfl rfl (by repeat constructor) (by repeat constructor) ?_ | refine Fv.ld1 F rfl rfl rfl (by repeat constructor) (by repeat constructor) ?_)
   | ((with_reducible (show wpList _ _ _ (Oper.mk _ (Op.store _ _ _) _ _ _ none :: _) _ _)); (first | refine Fv.stN F rfl rfl rfl rfl rfl (by first | rfl | simp [Value.oneCell']) (by repeat constructor) ?_ | refine Fv.st1 F rfl rfl rfl (by first | exact (rfl : _ = Value.int _ _) | exact (rfl : _ = Value.slice _ _ _) | exact (rfl : _ = Value.bool _) | exact (rfl : _ = Value.string _)) (by rfl) (by repeat constructor) ?_); clear F; intro W F)
   | ((with_reducible (show wpList _ _ _ (Oper.mk _ (Op.alloc _) _ _ _ none :: _) _ _)); refine Fv.al F rfl rfl ?_; clear F; intro g W hs1 hs2 F; clear hs1 hs2)
   | ((with_reducible (show wpList _ _ _ (Oper.mk _ (Op.box _ _) _ _ _ none :: _) _ _)); refine Fv.wpL_box F rfl rfl rfl rfl ?_; clear F; intro gb W hs1 hs2 F; clear hs1 hs2)
   | (go_at_call 9; refine HS.out.mono ?_; rintro e w1 ⟨b, rfl, hb, hv⟩; obtain rfl : b = false := (by cases b; rfl; exact absurd (hb.1 rfl) HSM.out); clear hb; replace F := F.call hv; clear hv)
   | (go_at_call 10; refine (awake_any _ (HT.out.below F.B)).mono ?_; rintro e w9 ⟨rfl, hv⟩; replace F := F.call hv; clear hv))
  rw [← HP.out]
  exact ⟨rfl, F.B⟩
end
end Go.Proofs.YtfhopccbjlleoaaGreatDoor.St
