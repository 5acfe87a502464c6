/- Stores: the program's Format. -/
import Derived.Test.YtcgkbcgpnlogoaaGreatDoorStM
namespace Go.Proofs.YtcgkbcgpnlogoaaGreatDoor.St
open Go.RowKit Go.Shelf Tal Sla Hd Fr Lf Lex
def zSt : Value := .agg #[.slice none 0 0, .slice none 0 0, .bool false, .int .i64 0, .int .i64 0, .int .i64 0, .int .i64 0, .int .i64 0, .int .i64 0, .slice none 0 0, .slice none 0 0, .slice none 0 0, .int .i64 0]
def FmtPost (R : Option S × Int) (w : World) (e : Ending) (w' : World) : Prop := ∃ v, e = .returned (.tuple #[v, .int .i64 R.2]) ∧ (∀ s, R.1 = some s → IsSt (fun b => w.heap.size ≤ b) w' v s) ∧ (R.1 = none → v = zSt) ∧ Below w.heap.size w w'
section
variable {p l : Int} {D : Dev} {er : Int}
theorem formatR_arg (h : ¬ RightH ⟨p, l, 1⟩) : formatR p l = (none, 1) := by unfold formatR; rw [if_pos h]
theorem formatR_err (h : RightH ⟨p, l, 1⟩) (hp : putH (fresh (2 + p + l).toNat) ⟨p, l, 1⟩ = (D, er)) (he : er ≠ 0) : formatR p l = (none, er) := by
 unfold formatR
 rw [if_neg (fun hn => hn h), hp, if_pos he]
theorem formatR_good (h : RightH ⟨p, l, 1⟩) (hp : putH (fresh (2 + p + l).toNat) ⟨p, l, 1⟩ = (D, 0)) : formatR p l = (some ⟨D, ⟨p, l, 1⟩, 0, [], [], ⟨[], 0⟩⟩, 0) := by
 unfold formatR
 rw [if_neg (fun hn => hn h), hp, if_neg (by simp)]
end
set_option maxRecDepth 20000 in
set_option maxHeartbeats 6400000 in
theorem format_any (p l : Int) (w : World) (ht : Tab w) : Calls Tryz.prog 17 #[.int .i64 p, .int .i64 l] w (FmtPost (formatR p l) w) := by
 have HT := Lib.hid ht
 clear ht
 obtain ⟨post, hpost⟩ : ∃ post, FmtPost (formatR p l) w = post := ⟨_, rfl⟩
 rw [hpost]
 have HP := Lib.hid hpost
 clear hpost
 have HRT := Lib.hid (fun W => right_any ⟨p, l, 1⟩ W)
 have F := Fv.Fr.start w
 go_enter Tryz.func17, Tryz.ntmps17
 go_upto_region 2 with (first
  | ((with_reducible (show wpList _ _ _ (Oper.mk _ (Op.load _ _) _ _ _ none :: _) _ _)); first | refine Fv.ldN F rfl rfl rfl (by repeat constructor) (by repeat constructor) ?_ | refine Fv.ld1 F rfl rfl rfl (by repeat constructor) (by repeat constructor) ?_)
  | ((with_reducible (show wpList _ _ _ (Oper.mk _ (Op.store _ _ _) _ _ _ none :: _) _ _)); (first | refine Fv.stN F rfl rfl rfl rfl rfl (by first | rfl | simp [Value.oneCell']) (by repeat constructor) ?_ | refine Fv.st1 F rfl rfl rfl (by first | exact (rfl : _ = Value.int _ _) | exact (rfl : _ = Value.slice _ _ _) | exact (rfl : _ = Value.bool _) | exact (rfl : _ = Value.string _)) (by rfl) (by repeat constructor) ?_); clear F; intro W F)
  | ((with_reducible (show wpList _ _ _ (Oper.mk _ (Op.alloc _) _ _ _ none :: _) _ _)); refine Fv.al F rfl rfl ?_; clear F; intro g W hs1 hs2 F; clear hs1 hs2)
  | ((with_reducible (show wpList _ _ _ (Oper.mk _ (Op.box _ _) _ _ _ none :: _) _ _)); refine Fv.wpL_box F rfl rfl rfl rfl ?_; clear F; intro gb W hs1 hs2 F; clear hs1 hs2))
 by_cases hr : RightH ⟨p, l, 1⟩
 ·have HR := Lib.hid hr
  have p0 := hr.p0
  have p1 := hr.p1
  have l0 := hr.l0
  have l1 := hr.l1
  simp only at p0 p1 l0 l1
  obtain ⟨n, hn⟩ : ∃ n : Nat, n = (2 + p + l).toNat := ⟨_, rfl⟩
  have hw : wrap64 (wrap64 (2 + p) + l) = (n : Nat) := by unfold wrap64; omega
  have HSZ := Lib.hid (fun W => (show Calls Tryz.prog 67 #[.agg #[.int .i64 p, .int .i64 l, .int .i64 1]] W fun e w' => e = .returned (.int .i64 (n : Nat)) ∧ Below W.heap.size W w' by rw [← hw]; exact size_any ⟨p, l, 1⟩ W))
  have HNW := Lib.hid (fun W => Sla.new_any n W (by omega) (by omega))
  have hfo := fresh_ok n (by omega) (by omega)
  have HPT := Lib.hid (fun W (v : Value) (ht : Tab W) (hd : IsDev W v (fresh n)) => headPut (K := 0) v (fresh n) ⟨p, l, 1⟩ W ht hd hfo (by omega) (by show 2 ≤ n; omega))
  have hpn := putH_n (fresh n) ⟨p, l, 1⟩
  have hE1 := fun D er => formatR_err (D := D) (er := er) hr
  have hE2 := fun D => formatR_good (D := D) hr
  rw [← hn] at hE1 hE2
  have HE := Lib.hid (And.intro hE1 hE2)
  obtain ⟨R, hR⟩ : ∃ R, putH (fresh n) ⟨p, l, 1⟩ = R := ⟨_, rfl⟩
  rw [hR] at HPT hpn
  obtain ⟨D, er⟩ := R
  have HN0 := Lib.hid (show 1 ≤ (fresh n).n by show 1 ≤ n; omega)
  have HN1 := Lib.hid (show 1 ≤ D.n by rw [show D.n = n from hpn]; omega)
  have HRR := Lib.hid hR
  unfold cellsH at HPT
  clear hR hpn hE1 hE2 hfo hw hr p0 p1 l0 l1 hn
  go_upto_region 8 with (first
   | ((with_reducible (show wpList _ _ _ (Oper.mk _ (Op.load _ _) _ _ _ none :: _) _ _)); first | refine Fv.ldN F rfl rfl rfl (by repeat constructor) (by repeat constructor) ?_ | refine Fv.ld1 F rfl rfl rfl (by repeat constructor) (by repeat constructor) ?_)
   | ((with_reducible (show wpList _ _ _ (Oper.mk _ (Op.store _ _ _) _ _ _ none :: _) _ _)); (first | refine Fv.stN F rfl rfl rfl rfl rfl (by first | rfl | simp [Value.oneCell']) (by repeat constructor) ?_ | refine Fv.st1 F rfl rfl rfl (by first | exact (rfl : _ = Value.int _ _) | exact (rfl : _ = Value.slice _ _ _) | exact (rfl : _ = Value.bool _) | exact (rfl : _ = Value.string _)) (by rfl) (by repeat constructor) ?_); clear F; intro W F)
   | ((with_reducible (show wpList _ _ _ (Oper.mk _ (Op.alloc _) _ _ _ none :: _) _ _)); refine Fv.al F rfl rfl ?_; clear F; intro g W hs1 hs2 F; clear hs1 hs2)
   | (go_at_call 65; refine (HRT.out _).mono ?_; rintro e1 w1 ⟨b, rfl, hb, hv⟩; replace F := F.call hv; clear hv; obtain rfl : b = true := hb.2 HR.out; clear hb)
   | (go_at_call 67; refine (HSZ.out _).mono ?_; rintro e2 w2 ⟨rfl, hv⟩; replace F := F.call hv; clear hv)
   | (go_at_call 66; refine (HNW.out _).mono ?_; rintro e3 w3 ⟨v0, rfl, hD0, hv⟩; replace F := F.call hv; clear hv; obtain ⟨A0, n0, c0, B0, m0, k0, dd0, lf0, ds0, rfl⟩ := dev_form hD0; replace F := addDev F hD0 HN0.out rfl; clear hD0)
   | (go_at_call 68; refine (HPT.out _ _ (HT.out.below F.B) F.out.2.dev).mono ?_; rintro e4 w4 ⟨v1, rfl, hD1, hv⟩; replace F := F.call hv; clear hv; obtain ⟨A1, n1, c1, B1, m1, k1, dd1, lf1, ds1, rfl⟩ := dev_form hD1; replace F := addDev F hD1 HN1.out rfl; clear hD1))
  by_cases he : er = 0
  ·subst he
   go_wp2_with (first
    | ((with_reducible (show wpList _ _ _ (Oper.mk _ (Op.load _ _) _ _ _ none :: _) _ _)); first | refine Fv.ldN F rfl rfl rfl (by repeat constructor) (by repeat constructor) ?_ | refine Fv.ld1 F rfl rfl rfl (by repeat constructor) (by repeat constructor) ?_)
    | ((with_reducible (show wpList _ _ _ (Oper.mk _ (Op.store _ _ _) _ _ _ none :: _) _ _)); (first | refine Fv.stN F rfl rfl rfl rfl rfl (by first | rfl | simp [Value.oneCell']) (by repeat constructor) ?_ | refine Fv.st1 F rfl rfl rfl (by first | exact (rfl : _ = Value.int _ _) | exact (rfl : _ = Value.slice _ _ _) | exact (rfl : _ = Value.bool _) | exact (rfl : _ = Value.string _)) (by rfl) (by repeat constructor) ?_); clear F; intro W F)
    | ((with_reducible (show wpList _ _ _ (Oper.mk _ (Op.alloc _) _ _ _ none :: _) _ _)); refine Fv.al F rfl rfl ?_; clear F; intro g W hs1 hs2 F; clear hs1 hs2))
   refine bodyPost_ret (res_cT F rfl rfl Fv.rt_Store (by repeat constructor) rfl) rfl ?_
   rw [← HP.out, HE.out.2 _ HRR.out]
   exact ⟨_, rfl, (fun s hs => by injection hs with hs; rw [← hs]; exact ⟨_, _, _, _, _, _, _, _, _, _, _, _, _, _, _, rfl, F.out.2.dev, HasX.nil, HasX.nil, Cl.px_none _ _, Nat.le_refl _⟩), (fun h => by cases h), F.B⟩
  ·skip
   go_wp2_with (first
    | ((with_reducible (show wpList _ _ _ (Oper.mk _ (Op.load _ _) _ _ _ none :: _) _ _)); first | refine Fv.ldN F rfl rfl rfl (by repeat constructor) (by repeat constructor) ?_ | refine Fv.ld1 F rfl rfl rfl (by repeat constructor) (by repeat constructor) ?_)
    | ((with_reducible (show wpList _ _ _ (Oper.mk _ (Op.store _ _ _) _ _ _ none :: _) _ _)); (first | refine Fv.stN F rfl rfl rfl rfl rfl (by first | rfl | simp [Value.oneCell']) (by repeat constructor) ?_ | refine Fv.st1 F rfl rfl rfl (by first | exact (rfl : _ = Value.int _ _) | exact (rfl : _ = Value.slice _ _ _) | exact (rfl : _ = Value.bool _) | exact (rfl : _ = Value.string _)) (by rfl) (by repeat constructor) ?_); clear F; intro W F)
    | ((with_reducible (show wpList _ _ _ (Oper.mk _ (Op.alloc _) _ _ _ none :: _) _ _)); refine Fv.al F rfl rfl ?_; clear F; intro g W hs1 hs2 F; clear hs1 hs2))
   refine bodyPost_ret (res_cT F rfl rfl Fv.rt_Store (by repeat constructor) rfl) rfl ?_
   rw [← HP.out, HE.out.1 _ _ HRR.out he]
   exact ⟨_, rfl, (fun s hs => by cases hs), (fun _ => rfl), F.B⟩
 ·have HR := Lib.hid hr
  have HE := Lib.hid (formatR_arg hr)
  clear hr
  go_wp2_with (first
   | ((with_reducible (show wpList _ _ _ (Oper.mk _ (Op.load _ _) _ _ _ none :: _) _ _)); first | refine Fv.ldN F rfl rfl rfl (by repeat constructor) (by repeat constructor) ?_ | refine Fv.ld1 F rfl rfl rfl (by repeat constructor) (by repeat constructor) ?_)
   | ((with_reducible (show wpList _ _ _ (Oper.mk _ (Op.store _ _ _) _ _ _ none :: _) _ _)); (first | refine Fv.stN F rfl rfl rfl rfl rfl (by first | rfl | simp [Value.oneCell']) (by repeat constructor) ?_ | refine Fv.st1 F rfl rfl rfl (by first | exact (rfl : _ = Value.int _ _) | exact (rfl : _ = Value.slice _ _ _) | exact (rfl : _ = Value.bool _) | exact (rfl : _ = Value.string _)) (by rfl) (by repeat constructor) ?_); clear F; intro W F)
   | ((with_reducible (show wpList _ _ _ (Oper.mk _ (Op.alloc _) _ _ _ none :: _) _ _)); refine Fv.al F rfl rfl ?_; clear F; intro g W hs1 hs2 F; clear hs1 hs2)
   | (go_at_call 65; refine (HRT.out _).mono ?_; rintro e1 w1 ⟨b, rfl, hb, hv⟩; replace F := F.call hv; clear hv; obtain rfl : b = false := by cases b; rfl; exact absurd (hb.1 rfl) HR.out))
  refine bodyPost_ret (res_cT F rfl rfl Fv.rt_Store (by repeat constructor) rfl) rfl ?_
  rw [← HP.out, HE.out]
  exact ⟨_, rfl, (fun s hs => by cases hs), (fun _ => rfl), F.B⟩
end Go.Proofs.YtcgkbcgpnlogoaaGreatDoor.St
