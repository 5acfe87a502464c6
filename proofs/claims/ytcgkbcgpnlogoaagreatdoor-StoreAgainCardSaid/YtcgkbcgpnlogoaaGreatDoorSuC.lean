/- Stores: the law's awake, walked. -/
import Derived.Test.YtcgkbcgpnlogoaaGreatDoorMgAJ
import Derived.Test.YtcgkbcgpnlogoaaGreatDoorMgAK
namespace Go.Proofs.YtcgkbcgpnlogoaaGreatDoor.St
open Go.RowKit Go.Shelf Tal Sla Hd Fr Lf Lex
def AwPost (w : World) (e : Ending) (w' : World) : Prop := e = .returned (.bool true) ∧ Below w.heap.size w w'
theorem pad_two {d : ByteArray} (h : d.size = 2) : (padP d).extract 0 2 = d := by
 unfold padP
 apply ByteArray.ext
 obtain ⟨⟨l⟩⟩ := d
 have h : l.length = 2 := h
 simp [ByteArray.data_append, ByteArray.data_extract, h]
 exact List.take_of_length_le (by omega)
set_option maxRecDepth 20000 in
set_option maxHeartbeats 6400000 in
theorem awake_any (w : World) (ht : Tab w) : Calls Tryz.prog 16 #[] w (AwPost w) := by
 obtain ⟨s0, s1, s2, s3, s4, s5, s6, u, u1, u2, E⟩ := examples
 have HE := Lib.hid E
 clear E
 have HT := Lib.hid ht
 clear ht
 have HFM0 := fun W (ht : Tab W) => format_any 8 4 W ht
 rw [HE.out.f0] at HFM0
 have HFM := Lib.hid HFM0
 clear HFM0
 have HFN0 := fun W (ht : Tab W) => format_any 7 4 W ht
 rw [HE.out.f9] at HFN0
 have HFN := Lib.hid HFN0
 clear HFN0
 have HW10 := fun Z W (v : Value) (ht : Tab W) (hi : IsSt Z W v s0) => write_any v s0 3 bAB W ht hi HE.out.k0 (by decide) (by decide)
 rw [HE.out.w1] at HW10
 have HW1 := Lib.hid HW10
 clear HW10
 have HC20 := fun Z W (v : Value) (ht : Tab W) (hi : IsSt Z W v s1) => commit_any v s1 W ht hi HE.out.k1 (by decide)
 rw [HE.out.c2] at HC20
 have HC2 := Lib.hid HC20
 clear HC20
 have HW30 := fun Z W (v : Value) (ht : Tab W) (hi : IsSt Z W v s2) => write_any v s2 3 bXY W ht hi HE.out.k2 (by decide) (by decide)
 rw [HE.out.w3] at HW30
 have HW3 := Lib.hid HW30
 clear HW30
 have HR40 := fun Z W (v : Value) (ht : Tab W) (hi : IsSt Z W v s3) => read_any v s3 3 W ht hi HE.out.k3 (by decide)
 rw [HE.out.r4] at HR40
 have HR4 := Lib.hid HR40
 clear HR40
 have HA50 := fun Z W (v : Value) (ht : Tab W) (hi : IsSt Z W v s3) => abort_any v s3 W hi
 rw [HE.out.a5] at HA50
 have HA5 := Lib.hid HA50
 clear HA50
 have HR60 := fun Z W (v : Value) (ht : Tab W) (hi : IsSt Z W v s5) => read_any v s5 3 W ht hi HE.out.k5 (by decide)
 rw [HE.out.r6] at HR60
 have HR6 := Lib.hid HR60
 clear HR60
 have HR10 := fun Z W (v : Value) (ht : Tab W) (hi : IsSt Z W v u) => read_any v u 3 W ht hi HE.out.ku (by decide)
 rw [HE.out.r1] at HR10
 have HR1 := Lib.hid HR10
 clear HR10
 have HR20 := fun Z W (v : Value) (ht : Tab W) (hi : IsSt Z W v u) => read_any v u 4 W ht hi HE.out.ku (by decide)
 rw [HE.out.r2] at HR20
 have HR2 := Lib.hid HR20
 clear HR20
 have HW80 := fun Z W (v : Value) (ht : Tab W) (hi : IsSt Z W v s3) => write_any v s3 8 ⟨#[]⟩ W ht hi HE.out.k3 (by decide) (by decide)
 rw [HE.out.w8] at HW80
 have HW8 := Lib.hid HW80
 clear HW80
 have hso := HE.out.k3.d.started (⟨0, -1, 0⟩ : Fat)
 have HST := Lib.hid (fun W (v : Value) (hd : IsDev W v s3.d) => refStart_any v s3.d (⟨0, -1, 0⟩ : Fat) W hd HE.out.k3.d (by decide) (by decide) (by decide))
 have hn2 : 2 ≤ (s3.d.started (⟨0, -1, 0⟩ : Fat)).n := by show 2 ≤ s3.d.n; have := HE.out.k3.n; omega
 have HOP0 := fun W (v : Value) (ht : Tab W) (hd : IsDev W v (s3.d.started (⟨0, -1, 0⟩ : Fat))) => open_any v (s3.d.started (⟨0, -1, 0⟩ : Fat)) W ht hd hso (by decide) hn2
 rw [HE.out.op] at HOP0
 have HOP := Lib.hid HOP0
 obtain ⟨D7, hD7⟩ : ∃ D, s3.d.started (⟨0, -1, 0⟩ : Fat) = D := ⟨_, rfl⟩
 rw [hD7] at HST HOP hn2
 have HND := Lib.hid (show 1 ≤ D7.n by omega)
 clear HOP0 hso hn2 hD7
 have HN0 := Lib.hid HE.out.k0.d.n1
 have HN1 := Lib.hid HE.out.k1.d.n1
 have HN2 := Lib.hid HE.out.k2.d.n1
 have HN3 := Lib.hid HE.out.k3.d.n1
 have HN4 := Lib.hid HE.out.k4.d.n1
 have HN5 := Lib.hid HE.out.k5.d.n1
 have HN6 := Lib.hid HE.out.k6.d.n1
 have HNu := Lib.hid HE.out.ku.d.n1
 have HN7 := Lib.hid HE.out.k7.d.n1
 have HN8 := Lib.hid HE.out.k8.d.n1
 have hxy : (padP bXY).size = 200 := padP_size (by decide)
 have hxy2 := pad_two (d := bXY) rfl
 have hab : (padP bAB).size = 200 := padP_size (by decide)
 have hab2 := pad_two (d := bAB) rfl
 have hze : (zeros 200).size = 200 ∧ ∀ h : 0 < (zeros 200).size, ((zeros 200)[0]'h).toNat = 0 := ⟨zeros_size 200, fun h => rfl⟩
 generalize padP bXY = pxy at *
 generalize padP bAB = pab at *
 generalize zeros 200 = pz at *
 unfold bAB bXY at *
 obtain ⟨post, hpost⟩ : ∃ post, AwPost w = post := ⟨_, rfl⟩
 rw [hpost]
 have HP := Lib.hid hpost
 clear hpost
 have HXY := Lib.hid (And.intro hxy hxy2)
 have HAB := Lib.hid (And.intro hab hab2)
 have HZE := Lib.hid hze
 clear hxy hxy2 hab hab2 hze
 have F := Fv.Fr.start w
 go_enter Tryz.func16, Tryz.ntmps16
 go_upto_region 2 with (first
  | ((with_reducible (show wpList _ _ _ (Oper.mk _ (Op.load _ _) _ _ _ none :: _) _ _)); first | refine Fv.ldN F rfl rfl rfl (by repeat constructor) (by repeat constructor) ?_ | refine Fv.ld1 F rfl rfl rfl (by repeat constructor) (by repeat constructor) ?_)
  | ((with_reducible (show wpList _ _ _ (Oper.mk _ (Op.store _ _ _) _ _ _ none :: _) _ _)); (first | refine Fv.stN F rfl rfl rfl rfl rfl (by first | rfl | simp [Value.oneCell']) (by repeat constructor) ?_ | refine Fv.st1 F rfl rfl rfl (by first | exact (rfl : _ = Value.int _ _) | exact (rfl : _ = Value.slice _ _ _) | exact (rfl : _ = Value.bool _) | exact (rfl : _ = Value.string _)) (by rfl) (by repeat constructor) ?_); clear F; intro W F)
  | ((with_reducible (show wpList _ _ _ (Oper.mk _ (Op.alloc _) _ _ _ none :: _) _ _)); refine Fv.al F rfl rfl ?_; clear F; intro g W hs1 hs2 F; clear hs1 hs2)
  | ((with_reducible (show wpList _ _ _ (Oper.mk _ (Op.box _ _) _ _ _ none :: _) _ _)); refine Fv.wpL_box F rfl rfl rfl rfl ?_; clear F; intro gb W hs1 hs2 F; clear hs1 hs2)
  | (go_at_call 17; refine (HFM.out _ (HT.out.below F.B)).mono ?_; rintro e0 w1 ⟨v0, rfl, hS0, _, hv⟩; replace hS0 := hS0 _ rfl; obtain ⟨A0, n0, c0, B0, m0, k0, dd0, lf0, ds0, Af0, cf0, Ad0, cd0, Ac0, cc0, rfl, hq0⟩ := hS0; have hS0 := (show IsSt _ _ _ _ from ⟨_, _, _, _, _, _, _, _, _, _, _, _, _, _, _, rfl, hq0⟩); clear hq0; have F2 := F.call hv; replace F := addSt (X := fun _ => False) F F2 (hS0.mono fun b hb => Or.inr hb) HN0.out rfl; clear hv F2 hS0))
 go_upto_region 3 with (first
  | ((with_reducible (show wpList _ _ _ (Oper.mk _ (Op.load _ _) _ _ _ none :: _) _ _)); first | refine Fv.ldN F rfl rfl rfl (by repeat constructor) (by repeat constructor) ?_ | refine Fv.ld1 F rfl rfl rfl (by repeat constructor) (by repeat constructor) ?_)
  | ((with_reducible (show wpList _ _ _ (Oper.mk _ (Op.store _ _ _) _ _ _ none :: _) _ _)); (first | refine Fv.stN F rfl rfl rfl rfl rfl (by first | rfl | simp [Value.oneCell']) (by repeat constructor) ?_ | refine Fv.st1 F rfl rfl rfl (by first | exact (rfl : _ = Value.int _ _) | exact (rfl : _ = Value.slice _ _ _) | exact (rfl : _ = Value.bool _) | exact (rfl : _ = Value.string _)) (by rfl) (by repeat constructor) ?_); clear F; intro W F)
  | ((with_reducible (show wpList _ _ _ (Oper.mk _ (Op.alloc _) _ _ _ none :: _) _ _)); refine Fv.al F rfl rfl ?_; clear F; intro g W hs1 hs2 F; clear hs1 hs2)
  | (go_at_call 63; refine (HW1.out _ _ _ (HT.out.below F.B) F.out.2.free).mono ?_; rintro e1 w1 ⟨v1, rfl, hS1, hv⟩; obtain ⟨A1, n1, c1, B1, m1, k1, dd1, lf1, ds1, Af1, cf1, Ad1, cd1, Ac1, cc1, rfl, hq1⟩ := hS1; have hS1 := (show IsSt _ _ _ _ from ⟨_, _, _, _, _, _, _, _, _, _, _, _, _, _, _, rfl, hq1⟩); clear hq1; have F2 := F.call hv; replace F := addSt F F2 hS1 HN1.out rfl; clear hv F2 hS1))
 go_upto_region 4 with (first
  | ((with_reducible (show wpList _ _ _ (Oper.mk _ (Op.load _ _) _ _ _ none :: _) _ _)); first | refine Fv.ldN F rfl rfl rfl (by repeat constructor) (by repeat constructor) ?_ | refine Fv.ld1 F rfl rfl rfl (by repeat constructor) (by repeat constructor) ?_)
  | ((with_reducible (show wpList _ _ _ (Oper.mk _ (Op.store _ _ _) _ _ _ none :: _) _ _)); (first | refine Fv.stN F rfl rfl rfl rfl rfl (by first | rfl | simp [Value.oneCell']) (by repeat constructor) ?_ | refine Fv.st1 F rfl rfl rfl (by first | exact (rfl : _ = Value.int _ _) | exact (rfl : _ = Value.slice _ _ _) | exact (rfl : _ = Value.bool _) | exact (rfl : _ = Value.string _)) (by rfl) (by repeat constructor) ?_); clear F; intro W F)
  | ((with_reducible (show wpList _ _ _ (Oper.mk _ (Op.alloc _) _ _ _ none :: _) _ _)); refine Fv.al F rfl rfl ?_; clear F; intro g W hs1 hs2 F; clear hs1 hs2)
  | (go_at_call 64; refine (HC2.out _ _ _ (HT.out.below F.B) F.out.2.free).mono ?_; rintro e2 w2 ⟨v2, rfl, hS2, hv⟩; obtain ⟨A2, n2, c2, B2, m2, k2, dd2, lf2, ds2, Af2, cf2, Ad2, cd2, Ac2, cc2, rfl, hq2⟩ := hS2; have hS2 := (show IsSt _ _ _ _ from ⟨_, _, _, _, _, _, _, _, _, _, _, _, _, _, _, rfl, hq2⟩); clear hq2; have F2 := F.call hv; replace F := addSt F F2 hS2 HN2.out rfl; clear hv F2 hS2))
 go_upto_region 5 with (first
  | ((with_reducible (show wpList _ _ _ (Oper.mk _ (Op.load _ _) _ _ _ none :: _) _ _)); first | refine Fv.ldN F rfl rfl rfl (by repeat constructor) (by repeat constructor) ?_ | refine Fv.ld1 F rfl rfl rfl (by repeat constructor) (by repeat constructor) ?_)
  | ((with_reducible (show wpList _ _ _ (Oper.mk _ (Op.store _ _ _) _ _ _ none :: _) _ _)); (first | refine Fv.stN F rfl rfl rfl rfl rfl (by first | rfl | simp [Value.oneCell']) (by repeat constructor) ?_ | refine Fv.st1 F rfl rfl rfl (by first | exact (rfl : _ = Value.int _ _) | exact (rfl : _ = Value.slice _ _ _) | exact (rfl : _ = Value.bool _) | exact (rfl : _ = Value.string _)) (by rfl) (by repeat constructor) ?_); clear F; intro W F)
  | ((with_reducible (show wpList _ _ _ (Oper.mk _ (Op.alloc _) _ _ _ none :: _) _ _)); refine Fv.al F rfl rfl ?_; clear F; intro g W hs1 hs2 F; clear hs1 hs2)
  | (go_at_call 63; refine (HW3.out _ _ _ (HT.out.below F.B) F.out.2.free).mono ?_; rintro e3 w3 ⟨v3, rfl, hS3, hv⟩; obtain ⟨A3, n3, c3, B3, m3, k3, dd3, lf3, ds3, Af3, cf3, Ad3, cd3, Ac3, cc3, rfl, hq3⟩ := hS3; have hS3 := (show IsSt _ _ _ _ from ⟨_, _, _, _, _, _, _, _, _, _, _, _, _, _, _, rfl, hq3⟩); clear hq3; have F2 := F.call hv; replace F := addSt F F2 hS3 HN3.out rfl; clear hv F2 hS3))
 go_upto_region 6 with (first
  | ((with_reducible (show wpList _ _ _ (Oper.mk _ (Op.load _ _) _ _ _ none :: _) _ _)); first | refine Fv.ldN F rfl rfl rfl (by repeat constructor) (by repeat constructor) ?_ | refine Fv.ld1 F rfl rfl rfl (by repeat constructor) (by repeat constructor) ?_)
  | ((with_reducible (show wpList _ _ _ (Oper.mk _ (Op.store _ _ _) _ _ _ none :: _) _ _)); (first | refine Fv.stN F rfl rfl rfl rfl rfl (by first | rfl | simp [Value.oneCell']) (by repeat constructor) ?_ | refine Fv.st1 F rfl rfl rfl (by first | exact (rfl : _ = Value.int _ _) | exact (rfl : _ = Value.slice _ _ _) | exact (rfl : _ = Value.bool _) | exact (rfl : _ = Value.string _)) (by rfl) (by repeat constructor) ?_); clear F; intro W F)
  | ((with_reducible (show wpList _ _ _ (Oper.mk _ (Op.alloc _) _ _ _ none :: _) _ _)); refine Fv.al F rfl rfl ?_; clear F; intro g W hs1 hs2 F; clear hs1 hs2)
  | (go_at_call 24; refine (HR4.out _ _ _ (HT.out.below F.B) F.out.2.free).mono ?_; rintro e4 w4 ⟨v4, rfl, hS4, hv⟩; obtain ⟨A4, n4, c4, B4, m4, k4, dd4, lf4, ds4, Af4, cf4, Ad4, cd4, Ac4, cc4, rfl, hq4⟩ := hS4; have hS4 := (show IsSt _ _ _ _ from ⟨_, _, _, _, _, _, _, _, _, _, _, _, _, _, _, rfl, hq4⟩); clear hq4; have F2 := F.call hv; replace F := addSt F F2 hS4 HN4.out rfl; clear hv F2 hS4))
 go_upto_region 7 with (first
  | ((with_reducible (show wpList _ _ _ (Oper.mk _ (Op.load _ _) _ _ _ none :: _) _ _)); first | refine Fv.ldN F rfl rfl rfl (by repeat constructor) (by repeat constructor) ?_ | refine Fv.ld1 F rfl rfl rfl (by repeat constructor) (by repeat constructor) ?_)
  | ((with_reducible (show wpList _ _ _ (Oper.mk _ (Op.store _ _ _) _ _ _ none :: _) _ _)); (first | refine Fv.stN F rfl rfl rfl rfl rfl (by first | rfl | simp [Value.oneCell']) (by repeat constructor) ?_ | refine Fv.st1 F rfl rfl rfl (by first | exact (rfl : _ = Value.int _ _) | exact (rfl : _ = Value.slice _ _ _) | exact (rfl : _ = Value.bool _) | exact (rfl : _ = Value.string _)) (by rfl) (by repeat constructor) ?_); clear F; intro W F)
  | ((with_reducible (show wpList _ _ _ (Oper.mk _ (Op.alloc _) _ _ _ none :: _) _ _)); refine Fv.al F rfl rfl ?_; clear F; intro g W hs1 hs2 F; clear hs1 hs2)
  | (go_at_call 25; refine (HA5.out _ _ _ (HT.out.below F.B) F.out.1.2.free).mono ?_; rintro e5 w5 ⟨v5, rfl, hS5, hv⟩; obtain ⟨A5, n5, c5, B5, m5, k5, dd5, lf5, ds5, Af5, cf5, Ad5, cd5, Ac5, cc5, rfl, hq5⟩ := hS5; have hS5 := (show IsSt _ _ _ _ from ⟨_, _, _, _, _, _, _, _, _, _, _, _, _, _, _, rfl, hq5⟩); clear hq5; have F2 := F.call hv; replace F := addSt F F2 hS5 HN5.out rfl; clear hv F2 hS5)
  | (go_at_call 24; refine (HR6.out _ _ _ (HT.out.below F.B) F.out.2.free).mono ?_; rintro e6 w6 ⟨v6, rfl, hS6, hv⟩; obtain ⟨A6, n6, c6, B6, m6, k6, dd6, lf6, ds6, Af6, cf6, Ad6, cd6, Ac6, cc6, rfl, hq6⟩ := hS6; have hS6 := (show IsSt _ _ _ _ from ⟨_, _, _, _, _, _, _, _, _, _, _, _, _, _, _, rfl, hq6⟩); clear hq6; have F2 := F.call hv; replace F := addSt F F2 hS6 HN6.out rfl; clear hv F2 hS6))
 go_upto_region 8 with (first
  | ((with_reducible (show wpList _ _ _ (Oper.mk _ (Op.load _ _) _ _ _ none :: _) _ _)); first | refine Fv.ldN F rfl rfl rfl (by repeat constructor) (by repeat constructor) ?_ | refine Fv.ld1 F rfl rfl rfl (by repeat constructor) (by repeat constructor) ?_)
  | ((with_reducible (show wpList _ _ _ (Oper.mk _ (Op.store _ _ _) _ _ _ none :: _) _ _)); (first | refine Fv.stN F rfl rfl rfl rfl rfl (by first | rfl | simp [Value.oneCell']) (by repeat constructor) ?_ | refine Fv.st1 F rfl rfl rfl (by first | exact (rfl : _ = Value.int _ _) | exact (rfl : _ = Value.slice _ _ _) | exact (rfl : _ = Value.bool _) | exact (rfl : _ = Value.string _)) (by rfl) (by repeat constructor) ?_); clear F; intro W F)
  | ((with_reducible (show wpList _ _ _ (Oper.mk _ (Op.alloc _) _ _ _ none :: _) _ _)); refine Fv.al F rfl rfl ?_; clear F; intro g W hs1 hs2 F; clear hs1 hs2)
  | (go_at_call 27; refine (HST.out _ _ (st_five F.out.1.1.1.2.st)).mono ?_; rintro e7 w7 ⟨v7, rfl, hD7, hv⟩; replace F := F.call hv; clear hv; obtain ⟨A7, n7, c7, B7, m7, k7, dd7, lf7, ds7, rfl⟩ := dev_form hD7; replace F := addDev F hD7 HND.out rfl; clear hD7)
  | (go_at_call 26; refine (HOP.out _ _ (HT.out.below F.B) F.out.2.dev).mono ?_; rintro e8 w8 ⟨v8, vd9, rfl, hS8, _, hD9, hv⟩; replace hS8 := hS8 _ rfl; obtain ⟨A8, n8, c8, B8, m8, k8, dd8, lf8, ds8, Af8, cf8, Ad8, cd8, Ac8, cc8, rfl, hq8⟩ := hS8; have hS8 := (show IsSt _ _ _ _ from ⟨_, _, _, _, _, _, _, _, _, _, _, _, _, _, _, rfl, hq8⟩); clear hq8; have F2 := F.call hv; replace F := addSt (X := fun _ => False) F F2 (hS8.mono fun b hb => Or.inr hb) HNu.out rfl; clear hv F2 hS8; obtain ⟨A9, n9, c9, B9, m9, k9, dd9, lf9, ds9, rfl⟩ := dev_form hD9; replace F := addDev F hD9 HNu.out rfl; clear hD9))
 go_upto_region 9 with (first
  | ((with_reducible (show wpList _ _ _ (Oper.mk _ (Op.load _ _) _ _ _ none :: _) _ _)); first | refine Fv.ldN F rfl rfl rfl (by repeat constructor) (by repeat constructor) ?_ | refine Fv.ld1 F rfl rfl rfl (by repeat constructor) (by repeat constructor) ?_)
  | ((with_reducible (show wpList _ _ _ (Oper.mk _ (Op.store _ _ _) _ _ _ none :: _) _ _)); (first | refine Fv.stN F rfl rfl rfl rfl rfl (by first | rfl | simp [Value.oneCell']) (by repeat constructor) ?_ | refine Fv.st1 F rfl rfl rfl (by first | exact (rfl : _ = Value.int _ _) | exact (rfl : _ = Value.slice _ _ _) | exact (rfl : _ = Value.bool _) | exact (rfl : _ = Value.string _)) (by rfl) (by repeat constructor) ?_); clear F; intro W F)
  | ((with_reducible (show wpList _ _ _ (Oper.mk _ (Op.alloc _) _ _ _ none :: _) _ _)); refine Fv.al F rfl rfl ?_; clear F; intro g W hs1 hs2 F; clear hs1 hs2)
  | (go_at_call 24; refine (HR1.out _ _ _ (HT.out.below F.B) F.out.1.2.free).mono ?_; rintro ea wa ⟨va, rfl, hSa, hv⟩; obtain ⟨Aa, na, ca, Ba, ma, ka, dda, lfa, dsa, Afa, cfa, Ada, cda, Aca, cca, rfl, hqa⟩ := hSa; have hSa := (show IsSt _ _ _ _ from ⟨_, _, _, _, _, _, _, _, _, _, _, _, _, _, _, rfl, hqa⟩); clear hqa; have F2 := F.call hv; replace F := addSt F F2 hSa HN7.out rfl; clear hv F2 hSa))
 go_upto_region 10 with (first
  | ((with_reducible (show wpList _ _ _ (Oper.mk _ (Op.load _ _) _ _ _ none :: _) _ _)); first | refine Fv.ldN F rfl rfl rfl (by repeat constructor) (by repeat constructor) ?_ | refine Fv.ld1 F rfl rfl rfl (by repeat constructor) (by repeat constructor) ?_)
  | ((with_reducible (show wpList _ _ _ (Oper.mk _ (Op.store _ _ _) _ _ _ none :: _) _ _)); (first | refine Fv.stN F rfl rfl rfl rfl rfl (by first | rfl | simp [Value.oneCell']) (by repeat constructor) ?_ | refine Fv.st1 F rfl rfl rfl (by first | exact (rfl : _ = Value.int _ _) | exact (rfl : _ = Value.slice _ _ _) | exact (rfl : _ = Value.bool _) | exact (rfl : _ = Value.string _)) (by rfl) (by repeat constructor) ?_); clear F; intro W F)
  | ((with_reducible (show wpList _ _ _ (Oper.mk _ (Op.alloc _) _ _ _ none :: _) _ _)); refine Fv.al F rfl rfl ?_; clear F; intro g W hs1 hs2 F; clear hs1 hs2)
  | (go_at_call 24; refine (HR2.out _ _ _ (HT.out.below F.B) F.out.1.1.2.free).mono ?_; rintro eb wb ⟨vb, rfl, hSb, hv⟩; obtain ⟨Ab, nb, cb, Bb, mb, kb, ddb, lfb, dsb, Afb, cfb, Adb, cdb, Acb, ccb, rfl, hqb⟩ := hSb; have hSb := (show IsSt _ _ _ _ from ⟨_, _, _, _, _, _, _, _, _, _, _, _, _, _, _, rfl, hqb⟩); clear hqb; have F2 := F.call hv; replace F := addSt F F2 hSb HN8.out rfl; clear hv F2 hSb))
 go_upto_region 11 with (first
  | ((with_reducible (show wpList _ _ _ (Oper.mk _ (Op.load _ _) _ _ _ none :: _) _ _)); first | refine Fv.ldN F rfl rfl rfl (by repeat constructor) (by repeat constructor) ?_ | refine Fv.ld1 F rfl rfl rfl (by repeat constructor) (by repeat constructor) ?_)
  | ((with_reducible (show wpList _ _ _ (Oper.mk _ (Op.store _ _ _) _ _ _ none :: _) _ _)); (first | refine Fv.stN F rfl rfl rfl rfl rfl (by first | rfl | simp [Value.oneCell']) (by repeat constructor) ?_ | refine Fv.st1 F rfl rfl rfl (by first | exact (rfl : _ = Value.int _ _) | exact (rfl : _ = Value.slice _ _ _) | exact (rfl : _ = Value.bool _) | exact (rfl : _ = Value.string _)) (by rfl) (by repeat constructor) ?_); clear F; intro W F)
  | ((with_reducible (show wpList _ _ _ (Oper.mk _ (Op.alloc _) _ _ _ none :: _) _ _)); refine Fv.al F rfl rfl ?_; clear F; intro g W hs1 hs2 F; clear hs1 hs2)
  | (go_at_call 63; refine (HW8.out _ _ _ (HT.out.below F.B) F.out.1.1.1.1.1.1.1.1.2.free).mono ?_; rintro ec wc ⟨vc, rfl, hSc, hv⟩; obtain ⟨Ac, nc, cc, Bc, mc, kc, ddc, lfc, dsc, Afc, cfc, Adc, cdc, Acc, ccc, rfl, hqc⟩ := hSc; have hSc := (show IsSt _ _ _ _ from ⟨_, _, _, _, _, _, _, _, _, _, _, _, _, _, _, rfl, hqc⟩); clear hqc; have F2 := F.call hv; replace F := addSt F F2 hSc HN3.out rfl; clear hv F2 hSc))
 go_upto_region 12 with (first
  | ((with_reducible (show wpList _ _ _ (Oper.mk _ (Op.load _ _) _ _ _ none :: _) _ _)); first | refine Fv.ldN F rfl rfl rfl (by repeat constructor) (by repeat constructor) ?_ | refine Fv.ld1 F rfl rfl rfl (by repeat constructor) (by repeat constructor) ?_)
  | ((with_reducible (show wpList _ _ _ (Oper.mk _ (Op.store _ _ _) _ _ _ none :: _) _ _)); (first | refine Fv.stN F rfl rfl rfl rfl rfl (by first | rfl | simp [Value.oneCell']) (by repeat constructor) ?_ | refine Fv.st1 F rfl rfl rfl (by first | exact (rfl : _ = Value.int _ _) | exact (rfl : _ = Value.slice _ _ _) | exact (rfl : _ = Value.bool _) | exact (rfl : _ = Value.string _)) (by rfl) (by repeat constructor) ?_); clear F; intro W F)
  | ((with_reducible (show wpList _ _ _ (Oper.mk _ (Op.alloc _) _ _ _ none :: _) _ _)); refine Fv.al F rfl rfl ?_; clear F; intro g W hs1 hs2 F; clear hs1 hs2)
  | (go_at_call 17; refine (HFN.out _ (HT.out.below F.B)).mono ?_; rintro ed wd ⟨vd, rfl, _, hz, hv⟩; obtain rfl : vd = .agg #[.slice none 0 0, .slice none 0 0, .bool false, .int .i64 0, .int .i64 0, .int .i64 0, .int .i64 0, .int .i64 0, .int .i64 0, .slice none 0 0, .slice none 0 0, .slice none 0 0, .int .i64 0] := hz rfl; clear hz; replace F := F.call hv; clear hv))
 have hxy : (pxy.size : Int) = 200 := by rw [HXY.out.1]; rfl
 have hab : (pab.size : Int) = 200 := by rw [HAB.out.1]; rfl
 have hze : (pz.size : Int) = 200 := by rw [HZE.out.1]; rfl
 go_upto_region 14 with (first
  | ((with_reducible (show wpList _ _ _ (Oper.mk _ (Op.load _ _) _ _ _ none :: _) _ _)); first | refine Fv.ldN F rfl rfl rfl (by repeat constructor) (by repeat constructor) ?_ | refine Fv.ld1 F rfl rfl rfl (by repeat constructor) (by repeat constructor) ?_)
  | ((with_reducible (show wpList _ _ _ (Oper.mk _ (Op.store _ _ _) _ _ _ none :: _) _ _)); (first | refine Fv.stN F rfl rfl rfl rfl rfl (by first | rfl | simp [Value.oneCell']) (by repeat constructor) ?_ | refine Fv.st1 F rfl rfl rfl (by first | exact (rfl : _ = Value.int _ _) | exact (rfl : _ = Value.slice _ _ _) | exact (rfl : _ = Value.bool _) | exact (rfl : _ = Value.string _)) (by rfl) (by repeat constructor) ?_); clear F; intro W F)
  | ((with_reducible (show wpList _ _ _ (Oper.mk _ (Op.alloc _) _ _ _ none :: _) _ _)); refine Fv.al F rfl rfl ?_; clear F; intro g W hs1 hs2 F; clear hs1 hs2))
 have hxy2 := HXY.out.2
 have hab2 := HAB.out.2
 have hz6 : (s6.di.length : Int) = 0 := by rw [HE.out.z6]; rfl
 have hue := HE.out.eu
 have hz0 := HZE.out.2
 clear HFM HFN HW1 HC2 HW3 HR4 HA5 HR6 HR1 HR2 HW8 HST HOP HN0 HN1 HN2 HN3 HN4 HN5 HN6 HNu HN7 HN8 HND
 have q6_10 := Fv.Fr.cell F (Fv.At.tail (Fv.At.tail (Fv.At.tail (Fv.At.tail (Fv.At.tail (Fv.At.tail Fv.At.head)))))) 10
 simp only [List.getElem?_cons_zero, List.getElem?_cons_succ] at q6_10
 have q5_7 := Fv.Fr.cell F (Fv.At.tail (Fv.At.tail (Fv.At.tail (Fv.At.tail (Fv.At.tail Fv.At.head))))) 7
 simp only [List.getElem?_cons_zero, List.getElem?_cons_succ] at q5_7
 go_wp2_with (first
  | ((with_reducible (show wpList _ _ _ (Oper.mk _ (Op.load _ _) _ _ _ none :: _) _ _)); first | refine Fv.ldN F rfl rfl rfl (by repeat constructor) (by repeat constructor) ?_ | refine Fv.ld1 F rfl rfl rfl (by repeat constructor) (by repeat constructor) ?_)
  | ((with_reducible (show wpList _ _ _ (Oper.mk _ (Op.store _ _ _) _ _ _ none :: _) _ _)); (first | refine Fv.stN F rfl rfl rfl rfl rfl (by first | rfl | simp [Value.oneCell']) (by repeat constructor) ?_ | refine Fv.st1 F rfl rfl rfl (by first | exact (rfl : _ = Value.int _ _) | exact (rfl : _ = Value.slice _ _ _) | exact (rfl : _ = Value.bool _) | exact (rfl : _ = Value.string _)) (by rfl) (by repeat constructor) ?_); clear F; intro W F)
  | ((with_reducible (show wpList _ _ _ (Oper.mk _ (Op.alloc _) _ _ _ none :: _) _ _)); refine Fv.al F rfl rfl ?_; clear F; intro g W hs1 hs2 F; clear hs1 hs2))
 rw [← HP.out]
 exact ⟨rfl, F.B⟩
end Go.Proofs.YtcgkbcgpnlogoaaGreatDoor.St
