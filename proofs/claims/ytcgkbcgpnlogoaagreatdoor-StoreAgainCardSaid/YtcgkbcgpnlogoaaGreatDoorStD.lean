/- The program's has, follows, need, atLog, atHome. -/
import Derived.Test.YtcgkbcgpnlogoaaGreatDoorStC
import Derived.Test.YtcgkbcgpnlogoaaGreatDoorMgAF
import Derived.Test.YtcgkbcgpnlogoaaGreatDoorMgAD
namespace Go.Proofs.YtcgkbcgpnlogoaaGreatDoor.St
open Go.RowKit Go.Shelf Tal Sla Hd Fr Lf Lex
def hasB (h : H) (no : Int) : Bool := decide (0 ≤ no) && decide (no < h.p)
theorem hasB_iff {h : H} {no : Int} : hasB h no = true ↔ HasNo h no := by unfold hasB HasNo; simp
theorem frameR_n (D : Dev) (h : H) (i : Nat) : (frameR D h i).1.n = D.n := by
 unfold frameR
 have := getR_n D (logN h i)
 split
 ·exact this
 ·split
  ·exact this
  ·split <;> exact this
theorem frameR_ok {D : Dev} {K : Nat} (hok : D.Ok K) (h : H) (i : Nat) : (frameR D h i).1.Ok (K + 1) := by
 unfold frameR
 have := getR_ok hok (logN h i)
 split
 ·exact this
 ·split
  ·exact this
  ·split <;> exact this
section
variable {D D1 : Dev} {h : H} {m : Im} {f : F} {er : Int} {no : Nat} {t : ByteArray}
theorem logR_err (hg : frameR D h m.at_ = (D1, f, er)) (he : er ≠ 0) : logR D h m = (D1, ⟨#[]⟩, er) := by
 unfold logR
 rw [hg, if_pos he]
theorem logR_form (hg : frameR D h m.at_ = (D1, f, 0)) (hc : f.c = true ∨ f.p ≠ m.pg) : logR D h m = (D1, ⟨#[]⟩, 2) := by
 unfold logR
 rw [hg, if_neg (by simp), if_pos hc]
theorem logR_good (hg : frameR D h m.at_ = (D1, f, 0)) (hc : ¬ (f.c = true ∨ f.p ≠ m.pg)) : logR D h m = (D1, f.d, 0) := by
 unfold logR
 rw [hg, if_neg (by simp), if_neg hc]
theorem homeR_err (hg : getR D (homeN no) = (D1, t, er)) (he : er ≠ 0) : homeR D no = (D1, ⟨#[]⟩, er) := by
 unfold homeR
 rw [hg, if_pos he]
theorem homeR_good (hg : getR D (homeN no) = (D1, t, 0)) : homeR D no = (D1, (parseL t no).getD (zeros 200), 0) := by
 unfold homeR
 rw [hg, if_neg (by simp)]
end
theorem logR_n (D : Dev) (h : H) (m : Im) : (logR D h m).1.n = D.n := by
 unfold logR
 have := frameR_n D h m.at_
 split
 ·exact this
 ·split <;> exact this
theorem logR_ok {D : Dev} {K : Nat} (hok : D.Ok K) (h : H) (m : Im) : (logR D h m).1.Ok (K + 1) := by
 unfold logR
 have := frameR_ok hok h m.at_
 split
 ·exact this
 ·split <;> exact this
theorem homeR_n (D : Dev) (no : Nat) : (homeR D no).1.n = D.n := by
 unfold homeR
 have := getR_n D (homeN no)
 split <;> exact this
theorem homeR_ok {D : Dev} {K : Nat} (hok : D.Ok K) (no : Nat) : (homeR D no).1.Ok (K + 1) := by
 unfold homeR
 have := getR_ok hok (homeN no)
 split <;> exact this
theorem homeN_any (no : Nat) (w : World) (h : no < 1000) :
  Calls Tryz.prog 214 #[.int .i64 no] w fun e w' => e = .returned (.int .i64 (homeN no : Nat)) ∧ Below w.heap.size w w' := by
 refine (home_any no w).mono ?_
 rintro e w' ⟨rfl, rfl⟩
 refine ⟨?_, Below.refl _ _⟩
 have e1 : wrap64 (2 + (no : Int)) = ((homeN no : Nat) : Int) := by unfold wrap64 homeN; omega
 rw [e1]
set_option maxRecDepth 20000 in
set_option maxHeartbeats 6400000 in
theorem has_any (h : H) (no : Int) (w : World) : Calls Tryz.prog 84 #[.agg #[.int .i64 h.p, .int .i64 h.l, .int .i64 h.e], .int .i64 no] w fun e w' => e = .returned (.bool (hasB h no)) ∧ Below w.heap.size w w' := by
 obtain ⟨b, hb⟩ : ∃ b, hasB h no = b := ⟨_, rfl⟩
 rw [hb]
 unfold hasB at hb
 have HB := Lib.hid hb
 clear hb
 have F := Fv.Fr.start w
 go_enter Tryz.func84, Tryz.ntmps84
 go_upto_region 1 with (first
  | ((with_reducible (show wpList _ _ _ (Oper.mk _ (Op.load _ _) _ _ _ none :: _) _ _)); first | refine Fv.ldN F rfl rfl rfl (by repeat constructor) (by repeat constructor) ?_ | refine Fv.ld1 F rfl rfl rfl (by repeat constructor) (by repeat constructor) ?_)
  | ((with_reducible (show wpList _ _ _ (Oper.mk _ (Op.store _ _ _) _ _ _ none :: _) _ _)); (first | refine Fv.stN F rfl rfl rfl rfl rfl (by first | rfl | simp [Value.oneCell']) (by repeat constructor) ?_ | refine Fv.st1 F rfl rfl rfl (by first | exact (rfl : _ = Value.int _ _) | exact (rfl : _ = Value.slice _ _ _) | exact (rfl : _ = Value.bool _) | exact (rfl : _ = Value.string _)) (by rfl) (by repeat constructor) ?_); clear F; intro W F)
  | ((with_reducible (show wpList _ _ _ (Oper.mk _ (Op.alloc _) _ _ _ none :: _) _ _)); refine Fv.al F rfl rfl ?_; clear F; intro g W hs1 hs2 F; clear hs1 hs2)
  | ((with_reducible (show wpList _ _ _ (Oper.mk _ (Op.box _ _) _ _ _ none :: _) _ _)); refine Fv.wpL_box F rfl rfl rfl rfl ?_; clear F; intro g W hs1 hs2 F; clear hs1 hs2))
 have q0_0 := Fv.Fr.cell F Fv.At.head 0
 simp only [List.getElem?_cons_zero] at q0_0
 by_cases h0 : 0 ≤ no
 ·by_cases h1 : no < h.p
  ·obtain rfl : true = b := by rw [← HB.out]; simp [h0, h1]
   go_wp2_with (first
    | ((with_reducible (show wpList _ _ _ (Oper.mk _ (Op.load _ _) _ _ _ none :: _) _ _)); first | refine Fv.ldN F rfl rfl rfl (by repeat constructor) (by repeat constructor) ?_ | refine Fv.ld1 F rfl rfl rfl (by repeat constructor) (by repeat constructor) ?_)
    | ((with_reducible (show wpList _ _ _ (Oper.mk _ (Op.store _ _ _) _ _ _ none :: _) _ _)); (first | refine Fv.stN F rfl rfl rfl rfl rfl (by first | rfl | simp [Value.oneCell']) (by repeat constructor) ?_ | refine Fv.st1 F rfl rfl rfl (by first | exact (rfl : _ = Value.int _ _) | exact (rfl : _ = Value.slice _ _ _) | exact (rfl : _ = Value.bool _) | exact (rfl : _ = Value.string _)) (by rfl) (by repeat constructor) ?_); clear F; intro W F)
    | ((with_reducible (show wpList _ _ _ (Oper.mk _ (Op.alloc _) _ _ _ none :: _) _ _)); refine Fv.al F rfl rfl ?_; clear F; intro g W hs1 hs2 F; clear hs1 hs2))
   go_ret
   exact ⟨rfl, F.B⟩
  ·obtain rfl : false = b := by rw [← HB.out]; simp [h0, h1]
   go_wp2_with (first
    | ((with_reducible (show wpList _ _ _ (Oper.mk _ (Op.load _ _) _ _ _ none :: _) _ _)); first | refine Fv.ldN F rfl rfl rfl (by repeat constructor) (by repeat constructor) ?_ | refine Fv.ld1 F rfl rfl rfl (by repeat constructor) (by repeat constructor) ?_)
    | ((with_reducible (show wpList _ _ _ (Oper.mk _ (Op.store _ _ _) _ _ _ none :: _) _ _)); (first | refine Fv.stN F rfl rfl rfl rfl rfl (by first | rfl | simp [Value.oneCell']) (by repeat constructor) ?_ | refine Fv.st1 F rfl rfl rfl (by first | exact (rfl : _ = Value.int _ _) | exact (rfl : _ = Value.slice _ _ _) | exact (rfl : _ = Value.bool _) | exact (rfl : _ = Value.string _)) (by rfl) (by repeat constructor) ?_); clear F; intro W F)
    | ((with_reducible (show wpList _ _ _ (Oper.mk _ (Op.alloc _) _ _ _ none :: _) _ _)); refine Fv.al F rfl rfl ?_; clear F; intro g W hs1 hs2 F; clear hs1 hs2))
   go_ret
   exact ⟨rfl, F.B⟩
 ·obtain rfl : false = b := by rw [← HB.out]; simp [h0]
  go_wp2_with (first
   | ((with_reducible (show wpList _ _ _ (Oper.mk _ (Op.load _ _) _ _ _ none :: _) _ _)); first | refine Fv.ldN F rfl rfl rfl (by repeat constructor) (by repeat constructor) ?_ | refine Fv.ld1 F rfl rfl rfl (by repeat constructor) (by repeat constructor) ?_)
   | ((with_reducible (show wpList _ _ _ (Oper.mk _ (Op.store _ _ _) _ _ _ none :: _) _ _)); (first | refine Fv.stN F rfl rfl rfl rfl rfl (by first | rfl | simp [Value.oneCell']) (by repeat constructor) ?_ | refine Fv.st1 F rfl rfl rfl (by first | exact (rfl : _ = Value.int _ _) | exact (rfl : _ = Value.slice _ _ _) | exact (rfl : _ = Value.bool _) | exact (rfl : _ = Value.string _)) (by rfl) (by repeat constructor) ?_); clear F; intro W F)
   | ((with_reducible (show wpList _ _ _ (Oper.mk _ (Op.alloc _) _ _ _ none :: _) _ _)); refine Fv.al F rfl rfl ?_; clear F; intro g W hs1 hs2 F; clear hs1 hs2))
  go_ret
  exact ⟨rfl, F.B⟩
set_option maxRecDepth 20000 in
set_option maxHeartbeats 6400000 in
theorem need_any (A0 : Option Addr) (n0 c0 : Nat) (B0 : Option Addr) (m0 k0 : Nat) (dd0 : Bool) (lf0 ds0 : Int) (h : H) (t : Int) (Af : Option Addr) (nf cf : Nat) (Ad : Option Addr) (nd cd : Nat) (Ac : Option Addr) (nc cc : Nat) (hand : Int) (w : World) (hd : nd ≤ 100000) : Calls Tryz.prog 134 #[.agg #[.slice A0 n0 c0, .slice B0 m0 k0, .bool dd0, .int .i64 lf0, .int .i64 ds0, .int .i64 h.p, .int .i64 h.l, .int .i64 h.e, .int .i64 t, .slice Af nf cf, .slice Ad nd cd, .slice Ac nc cc, .int .i64 hand]] w fun e w' => e = .returned (.int .i64 ((nd : Int) + 1)) ∧ Below w.heap.size w w' := by
 have F := Fv.Fr.start w
 go_enter Tryz.func134, Tryz.ntmps134
 go_wp2_with (first
  | ((with_reducible (show wpList _ _ _ (Oper.mk _ (Op.load _ _) _ _ _ none :: _) _ _)); first | refine Fv.ldN F rfl rfl rfl (by repeat constructor) (by repeat constructor) ?_ | refine Fv.ld1 F rfl rfl rfl (by repeat constructor) (by repeat constructor) ?_)
  | ((with_reducible (show wpList _ _ _ (Oper.mk _ (Op.store _ _ _) _ _ _ none :: _) _ _)); (first | refine Fv.stN F rfl rfl rfl rfl rfl (by first | rfl | simp [Value.oneCell']) (by repeat constructor) ?_ | refine Fv.st1 F rfl rfl rfl (by first | exact (rfl : _ = Value.int _ _) | exact (rfl : _ = Value.slice _ _ _) | exact (rfl : _ = Value.bool _) | exact (rfl : _ = Value.string _)) (by rfl) (by repeat constructor) ?_); clear F; intro W F)
  | ((with_reducible (show wpList _ _ _ (Oper.mk _ (Op.alloc _) _ _ _ none :: _) _ _)); refine Fv.al F rfl rfl ?_; clear F; intro g W hs1 hs2 F; clear hs1 hs2)
  | ((with_reducible (show wpList _ _ _ (Oper.mk _ (Op.box _ _) _ _ _ none :: _) _ _)); refine Fv.wpL_box F rfl rfl rfl rfl ?_; clear F; intro g W hs1 hs2 F; clear hs1 hs2))
 go_ret
 exact ⟨rfl, F.B⟩
def followsB (h : H) (f : F) (wait : Nat) : Bool := if f.c then decide (f.p = wait) else hasB h f.p
set_option maxRecDepth 20000 in
set_option maxHeartbeats 6400000 in
theorem follows_any (h : H) (f : F) (wait : Nat) (w : World) : Calls Tryz.prog 171 #[.agg #[.int .i64 h.p, .int .i64 h.l, .int .i64 h.e], .agg (cellsF f), .int .i64 wait] w fun e w' => e = .returned (.bool (followsB h f wait)) ∧ Below w.heap.size w w' := by
 obtain ⟨fe, fi, fc, fp, fd⟩ := f
 have HH := Lib.hid (fun W => has_any h fp W)
 unfold followsB cellsF
 simp only
 generalize hasB h fp = b at HH ⊢
 cases fc with
 | true =>
  have F := Fv.Fr.start w
  go_enter Tryz.func171, Tryz.ntmps171
  go_wp2_with (first
   | ((with_reducible (show wpList _ _ _ (Oper.mk _ (Op.load _ _) _ _ _ none :: _) _ _)); first | refine Fv.ldN F rfl rfl rfl (by repeat constructor) (by repeat constructor) ?_ | refine Fv.ld1 F rfl rfl rfl (by repeat constructor) (by repeat constructor) ?_)
   | ((with_reducible (show wpList _ _ _ (Oper.mk _ (Op.store _ _ _) _ _ _ none :: _) _ _)); (first | refine Fv.stN F rfl rfl rfl rfl rfl (by first | rfl | simp [Value.oneCell']) (by repeat constructor) ?_ | refine Fv.st1 F rfl rfl rfl (by first | exact (rfl : _ = Value.int _ _) | exact (rfl : _ = Value.slice _ _ _) | exact (rfl : _ = Value.bool _) | exact (rfl : _ = Value.string _)) (by rfl) (by repeat constructor) ?_); clear F; intro W F)
   | ((with_reducible (show wpList _ _ _ (Oper.mk _ (Op.alloc _) _ _ _ none :: _) _ _)); refine Fv.al F rfl rfl ?_; clear F; intro g W hs1 hs2 F; clear hs1 hs2)
   | ((with_reducible (show wpList _ _ _ (Oper.mk _ (Op.box _ _) _ _ _ none :: _) _ _)); refine Fv.wpL_box F rfl rfl rfl rfl ?_; clear F; intro g W hs1 hs2 F; clear hs1 hs2))
  go_ret
  exact ⟨rfl, F.B⟩
 | false =>
  have F := Fv.Fr.start w
  go_enter Tryz.func171, Tryz.ntmps171
  go_wp2_with (first
   | ((with_reducible (show wpList _ _ _ (Oper.mk _ (Op.load _ _) _ _ _ none :: _) _ _)); first | refine Fv.ldN F rfl rfl rfl (by repeat constructor) (by repeat constructor) ?_ | refine Fv.ld1 F rfl rfl rfl (by repeat constructor) (by repeat constructor) ?_)
   | ((with_reducible (show wpList _ _ _ (Oper.mk _ (Op.store _ _ _) _ _ _ none :: _) _ _)); (first | refine Fv.stN F rfl rfl rfl rfl rfl (by first | rfl | simp [Value.oneCell']) (by repeat constructor) ?_ | refine Fv.st1 F rfl rfl rfl (by first | exact (rfl : _ = Value.int _ _) | exact (rfl : _ = Value.slice _ _ _) | exact (rfl : _ = Value.bool _) | exact (rfl : _ = Value.string _)) (by rfl) (by repeat constructor) ?_); clear F; intro W F)
   | ((with_reducible (show wpList _ _ _ (Oper.mk _ (Op.alloc _) _ _ _ none :: _) _ _)); refine Fv.al F rfl rfl ?_; clear F; intro g W hs1 hs2 F; clear hs1 hs2)
   | ((with_reducible (show wpList _ _ _ (Oper.mk _ (Op.box _ _) _ _ _ none :: _) _ _)); refine Fv.wpL_box F rfl rfl rfl rfl ?_; clear F; intro g W hs1 hs2 F; clear hs1 hs2)
   | (go_at_call 84; refine (HH.out _).mono ?_; rintro e w1 ⟨rfl, hv⟩; replace F := F.call hv; clear hv))
  go_ret
  exact ⟨rfl, F.B⟩
set_option maxRecDepth 20000 in
set_option maxHeartbeats 6400000 in
theorem atLog_any {K : Nat} (D : Dev) (A0 : Option Addr) (n0 c0 : Nat) (B0 : Option Addr) (m0 k0 : Nat) (dd0 : Bool) (lf0 ds0 : Int) (h : H) (t : Int) (Af : Option Addr) (nf cf : Nat) (Ad : Option Addr) (nd cd : Nat) (Ac : Option Addr) (nc cc : Nat) (hand : Int) (m : Im) (w : World) (ht : Tab w) (hD : IsDev w (.agg #[.slice A0 n0 c0, .slice B0 m0 k0, .bool dd0, .int .i64 lf0, .int .i64 ds0]) D) (hok : D.Ok K) (hK : K ≤ 99990) (hr : RightH h) (hn : D.n = 2 + h.p.toNat + h.l.toNat) (hi : m.at_ < h.l.toNat) :
  Calls Tryz.prog 164 #[.agg #[.slice A0 n0 c0, .slice B0 m0 k0, .bool dd0, .int .i64 lf0, .int .i64 ds0, .int .i64 h.p, .int .i64 h.l, .int .i64 h.e, .int .i64 t, .slice Af nf cf, .slice Ad nd cd, .slice Ac nc cc, .int .i64 hand], .agg #[.int .i64 m.pg, .int .i64 m.at_]] w (GetErr (logR D h m).1 (logR D h m).2.1 (logR D h m).2.2 w) := by
 have HFR := Lib.hid (fun W (ht : Tab W) (hd : IsDev W (.agg #[.slice A0 n0 c0, .slice B0 m0 k0, .bool dd0, .int .i64 lf0, .int .i64 ds0]) D) => frameAt_any _ D h m.at_ W ht hd hok hK hr hn hi)
 have HD := Lib.hid (And.intro ht hD)
 have hn1 := hok.n1
 have hfn := frameR_n D h m.at_
 clear ht hD hok hK hr hn hi
 obtain ⟨post, hpost⟩ : ∃ post, GetErr (logR D h m).1 (logR D h m).2.1 (logR D h m).2.2 w = post := ⟨_, rfl⟩
 rw [hpost]
 have HP := Lib.hid hpost
 clear hpost
 generalize hfr : frameR D h m.at_ = FR at HFR hfn
 obtain ⟨D1, f, er⟩ := FR
 have HGR := Lib.hid hfr
 have HN1 := Lib.hid (show 1 ≤ D1.n by rw [show D1.n = D.n from hfn]; exact hn1)
 clear hfr hn1 hfn
 obtain ⟨fe, fi, fc, fp, fd⟩ := f
 unfold cellsH FramePost cellsF at HFR
 simp only at HFR
 have F := Fv.Fr.start w
 go_enter Tryz.func164, Tryz.ntmps164
 go_upto_region 2 with (first
  | ((with_reducible (show wpList _ _ _ (Oper.mk _ (Op.load _ _) _ _ _ none :: _) _ _)); first | refine Fv.ldN F rfl rfl rfl (by repeat constructor) (by repeat constructor) ?_ | refine Fv.ld1 F rfl rfl rfl (by repeat constructor) (by repeat constructor) ?_)
  | ((with_reducible (show wpList _ _ _ (Oper.mk _ (Op.store _ _ _) _ _ _ none :: _) _ _)); (first | refine Fv.stN F rfl rfl rfl rfl rfl (by first | rfl | simp [Value.oneCell']) (by repeat constructor) ?_ | refine Fv.st1 F rfl rfl rfl (by first | exact (rfl : _ = Value.int _ _) | exact (rfl : _ = Value.slice _ _ _) | exact (rfl : _ = Value.bool _) | exact (rfl : _ = Value.string _)) (by rfl) (by repeat constructor) ?_); clear F; intro W F)
  | ((with_reducible (show wpList _ _ _ (Oper.mk _ (Op.alloc _) _ _ _ none :: _) _ _)); refine Fv.al F rfl rfl ?_; clear F; intro g W hs1 hs2 F; clear hs1 hs2)
  | ((with_reducible (show wpList _ _ _ (Oper.mk _ (Op.box _ _) _ _ _ none :: _) _ _)); refine Fv.wpL_box F rfl rfl rfl rfl ?_; clear F; intro g W hs1 hs2 F; clear hs1 hs2)
  | (go_at_call 170; refine (HFR.out _ (HD.out.1.below F.B) (HD.out.2.below F.B (Nat.le_refl _))).mono ?_; rintro e w1 ⟨v1, rfl, hD1, hv⟩; replace F := F.call hv; clear hv; obtain ⟨A1, n1, c1, B1, m1, k1, dd1, lf1, ds1, rfl⟩ := dev_form hD1; replace F := addDev F hD1 HN1.out rfl; clear hD1))
 by_cases he : er = 0
 ·subst he
  go_upto_region 4 with (first
   | ((with_reducible (show wpList _ _ _ (Oper.mk _ (Op.load _ _) _ _ _ none :: _) _ _)); first | refine Fv.ldN F rfl rfl rfl (by repeat constructor) (by repeat constructor) ?_ | refine Fv.ld1 F rfl rfl rfl (by repeat constructor) (by repeat constructor) ?_)
   | ((with_reducible (show wpList _ _ _ (Oper.mk _ (Op.store _ _ _) _ _ _ none :: _) _ _)); (first | refine Fv.stN F rfl rfl rfl rfl rfl (by first | rfl | simp [Value.oneCell']) (by repeat constructor) ?_ | refine Fv.st1 F rfl rfl rfl (by first | exact (rfl : _ = Value.int _ _) | exact (rfl : _ = Value.slice _ _ _) | exact (rfl : _ = Value.bool _) | exact (rfl : _ = Value.string _)) (by rfl) (by repeat constructor) ?_); clear F; intro W F)
   | ((with_reducible (show wpList _ _ _ (Oper.mk _ (Op.alloc _) _ _ _ none :: _) _ _)); refine Fv.al F rfl rfl ?_; clear F; intro g W hs1 hs2 F; clear hs1 hs2))
  have q0_2 := Fv.Fr.cell F Fv.At.head 2
  simp only [List.getElem?_cons_zero, List.getElem?_cons_succ] at q0_2
  have q0_3 := Fv.Fr.cell F Fv.At.head 3
  simp only [List.getElem?_cons_zero, List.getElem?_cons_succ] at q0_3
  have q3_0 := Fv.Fr.cell F (Fv.At.tail (Fv.At.tail (Fv.At.tail Fv.At.head))) 0
  simp only [List.getElem?_cons_zero] at q3_0
  cases fc with
  | true =>
   have HE := Lib.hid (logR_form HGR.out (Or.inl rfl))
   go_wp2_with (first
    | ((with_reducible (show wpList _ _ _ (Oper.mk _ (Op.load _ _) _ _ _ none :: _) _ _)); first | refine Fv.ldN F rfl rfl rfl (by repeat constructor) (by repeat constructor) ?_ | refine Fv.ld1 F rfl rfl rfl (by repeat constructor) (by repeat constructor) ?_)
    | ((with_reducible (show wpList _ _ _ (Oper.mk _ (Op.store _ _ _) _ _ _ none :: _) _ _)); (first | refine Fv.stN F rfl rfl rfl rfl rfl (by first | rfl | simp [Value.oneCell']) (by repeat constructor) ?_ | refine Fv.st1 F rfl rfl rfl (by first | exact (rfl : _ = Value.int _ _) | exact (rfl : _ = Value.slice _ _ _) | exact (rfl : _ = Value.bool _) | exact (rfl : _ = Value.string _)) (by rfl) (by repeat constructor) ?_); clear F; intro W F)
    | ((with_reducible (show wpList _ _ _ (Oper.mk _ (Op.alloc _) _ _ _ none :: _) _ _)); refine Fv.al F rfl rfl ?_; clear F; intro g W hs1 hs2 F; clear hs1 hs2))
   refine bodyPost_ret (res_cTT F rfl rfl Fv.rt_Slab (by repeat constructor) rfl) rfl ?_
   rw [← HP.out, HE.out]
   exact ⟨_, rfl, F.out.2.dev, F.B⟩
  | false =>
   by_cases hp : fp = m.pg
   ·subst hp
    have HE := Lib.hid (logR_good HGR.out (by simp))
    go_upto_region 6 with (first
     | ((with_reducible (show wpList _ _ _ (Oper.mk _ (Op.load _ _) _ _ _ none :: _) _ _)); first | refine Fv.ldN F rfl rfl rfl (by repeat constructor) (by repeat constructor) ?_ | refine Fv.ld1 F rfl rfl rfl (by repeat constructor) (by repeat constructor) ?_)
     | ((with_reducible (show wpList _ _ _ (Oper.mk _ (Op.store _ _ _) _ _ _ none :: _) _ _)); (first | refine Fv.stN F rfl rfl rfl rfl rfl (by first | rfl | simp [Value.oneCell']) (by repeat constructor) ?_ | refine Fv.st1 F rfl rfl rfl (by first | exact (rfl : _ = Value.int _ _) | exact (rfl : _ = Value.slice _ _ _) | exact (rfl : _ = Value.bool _) | exact (rfl : _ = Value.string _)) (by rfl) (by repeat constructor) ?_); clear F; intro W F)
     | ((with_reducible (show wpList _ _ _ (Oper.mk _ (Op.alloc _) _ _ _ none :: _) _ _)); refine Fv.al F rfl rfl ?_; clear F; intro g W hs1 hs2 F; clear hs1 hs2))
    replace F := F.drew
    refine Lex.region_lex (ops := laops) (calls := lacalls) laord (Fv.ClsB _ _) (by kernel_rfl) (by kernel_rfl) lasel (by kernel_rfl) (by kernel_rfl) lalex ⟨F.B, F.cls (Fv.Inc.cons (Fv.VIn.tail Fv.VIn.head) (Fv.Inc.cons Fv.VIn.head Fv.Inc.nil))⟩ ?_
    unfold laord
    refine Lex.step_take _ la0 rfl (Lex.want_none rfl) (by intro Wx hSw; exact Fv.run_loadNC hSw.2 rfl rfl Fv.rt_Slab (by repeat constructor) (by repeat constructor)) ?_
    simp only [Act.put, List.setIfInBounds_toArray, List.set_cons_zero, List.set_cons_succ]
    refine Lex.step_take _ la1 rfl (Lex.want_none rfl) (by intro Wx hSw; clear hSw; go_simp; try (first | (with_reducible rfl) | rfl)) ?_
    simp only [Act.put, List.setIfInBounds_toArray, List.set_cons_zero, List.set_cons_succ]
    refine Lex.step_take _ la2 rfl (Lex.want_none rfl) (by intro Wx hSw; exact Fv.run_load1C hSw.2 rfl rfl Fv.ot_string (by repeat constructor) (by repeat constructor)) ?_
    simp only [Act.put, List.setIfInBounds_toArray, List.set_cons_zero, List.set_cons_succ]
    refine Lex.step_call la3 rfl (Lex.want_none rfl) (fun K hK => ?_)
    refine Fv.wp_storeN F rfl rfl rfl Fv.rt_Slab rfl (by first | rfl | simp [Value.oneCell']) (by repeat constructor) ?_; clear F; intro W F
    refine hK.out _ _ _ (fun _ h => h) ⟨F.B, F.cls (by (repeat (first | exact Fv.Inc.nil | apply Fv.Inc.cons | exact Fv.VIn.head | apply Fv.VIn.tail)); done)⟩ ?_
    clear hK K
    try simp only [Act.put, List.setIfInBounds_toArray, List.set_cons_zero, List.set_cons_succ]
    refine Lex.step_take _ la4 rfl (Lex.want_none rfl) (by intro Wx hSw; clear hSw; go_simp; try (first | (with_reducible rfl) | rfl)) ?_
    simp only [Act.put, List.setIfInBounds_toArray, List.set_cons_zero, List.set_cons_succ]
    refine Lex.step_take _ la5 rfl (Lex.want_none rfl) (by intro Wx hSw; clear hSw; go_simp; try (first | (with_reducible rfl) | rfl)) ?_
    simp only [Act.put, List.setIfInBounds_toArray, List.set_cons_zero, List.set_cons_succ]
    refine NoPanic.normal ?_
    go_wp2_with (first
     | ((with_reducible (show wpList _ _ _ (Oper.mk _ (Op.load _ _) _ _ _ none :: _) _ _)); first | refine Fv.ldN F rfl rfl rfl (by repeat constructor) (by repeat constructor) ?_ | refine Fv.ld1 F rfl rfl rfl (by repeat constructor) (by repeat constructor) ?_)
     | ((with_reducible (show wpList _ _ _ (Oper.mk _ (Op.store _ _ _) _ _ _ none :: _) _ _)); (first | refine Fv.stN F rfl rfl rfl rfl rfl (by first | rfl | simp [Value.oneCell']) (by repeat constructor) ?_ | refine Fv.st1 F rfl rfl rfl (by first | exact (rfl : _ = Value.int _ _) | exact (rfl : _ = Value.slice _ _ _) | exact (rfl : _ = Value.bool _) | exact (rfl : _ = Value.string _)) (by rfl) (by repeat constructor) ?_); clear F; intro W F)
     | ((with_reducible (show wpList _ _ _ (Oper.mk _ (Op.alloc _) _ _ _ none :: _) _ _)); refine Fv.al F rfl rfl ?_; clear F; intro g W hs1 hs2 F; clear hs1 hs2))
    refine bodyPost_ret (res_cTT F rfl rfl Fv.rt_Slab (by repeat constructor) rfl) rfl ?_
    rw [← HP.out, HE.out]
    exact ⟨_, rfl, F.out.2.dev, F.B⟩
   ·have HE := Lib.hid (logR_form HGR.out (Or.inr hp))
    go_wp2_with (first
     | ((with_reducible (show wpList _ _ _ (Oper.mk _ (Op.load _ _) _ _ _ none :: _) _ _)); first | refine Fv.ldN F rfl rfl rfl (by repeat constructor) (by repeat constructor) ?_ | refine Fv.ld1 F rfl rfl rfl (by repeat constructor) (by repeat constructor) ?_)
     | ((with_reducible (show wpList _ _ _ (Oper.mk _ (Op.store _ _ _) _ _ _ none :: _) _ _)); (first | refine Fv.stN F rfl rfl rfl rfl rfl (by first | rfl | simp [Value.oneCell']) (by repeat constructor) ?_ | refine Fv.st1 F rfl rfl rfl (by first | exact (rfl : _ = Value.int _ _) | exact (rfl : _ = Value.slice _ _ _) | exact (rfl : _ = Value.bool _) | exact (rfl : _ = Value.string _)) (by rfl) (by repeat constructor) ?_); clear F; intro W F)
     | ((with_reducible (show wpList _ _ _ (Oper.mk _ (Op.alloc _) _ _ _ none :: _) _ _)); refine Fv.al F rfl rfl ?_; clear F; intro g W hs1 hs2 F; clear hs1 hs2))
    refine bodyPost_ret (res_cTT F rfl rfl Fv.rt_Slab (by repeat constructor) rfl) rfl ?_
    rw [← HP.out, HE.out]
    exact ⟨_, rfl, F.out.2.dev, F.B⟩
 ·have HE := Lib.hid (logR_err HGR.out he)
  go_wp2_with (first
   | ((with_reducible (show wpList _ _ _ (Oper.mk _ (Op.load _ _) _ _ _ none :: _) _ _)); first | refine Fv.ldN F rfl rfl rfl (by repeat constructor) (by repeat constructor) ?_ | refine Fv.ld1 F rfl rfl rfl (by repeat constructor) (by repeat constructor) ?_)
   | ((with_reducible (show wpList _ _ _ (Oper.mk _ (Op.store _ _ _) _ _ _ none :: _) _ _)); (first | refine Fv.stN F rfl rfl rfl rfl rfl (by first | rfl | simp [Value.oneCell']) (by repeat constructor) ?_ | refine Fv.st1 F rfl rfl rfl (by first | exact (rfl : _ = Value.int _ _) | exact (rfl : _ = Value.slice _ _ _) | exact (rfl : _ = Value.bool _) | exact (rfl : _ = Value.string _)) (by rfl) (by repeat constructor) ?_); clear F; intro W F)
   | ((with_reducible (show wpList _ _ _ (Oper.mk _ (Op.alloc _) _ _ _ none :: _) _ _)); refine Fv.al F rfl rfl ?_; clear F; intro g W hs1 hs2 F; clear hs1 hs2))
  refine bodyPost_ret (res_cTT F rfl rfl Fv.rt_Slab (by repeat constructor) rfl) rfl ?_
  rw [← HP.out, HE.out]
  exact ⟨_, rfl, F.out.2.dev, F.B⟩
set_option maxRecDepth 20000 in
set_option maxHeartbeats 6400000 in
theorem atHome_any {K : Nat} (D : Dev) (A0 : Option Addr) (n0 c0 : Nat) (B0 : Option Addr) (m0 k0 : Nat) (dd0 : Bool) (lf0 ds0 : Int) (h : H) (t : Int) (Af : Option Addr) (nf cf : Nat) (Ad : Option Addr) (nd cd : Nat) (Ac : Option Addr) (nc cc : Nat) (hand : Int) (no : Nat) (w : World) (ht : Tab w) (hD : IsDev w (.agg #[.slice A0 n0 c0, .slice B0 m0 k0, .bool dd0, .int .i64 lf0, .int .i64 ds0]) D) (hok : D.Ok K) (hK : K ≤ 99990) (hr : RightH h) (hn : D.n = 2 + h.p.toNat + h.l.toNat) (hi : no < h.p.toNat) :
  Calls Tryz.prog 165 #[.agg #[.slice A0 n0 c0, .slice B0 m0 k0, .bool dd0, .int .i64 lf0, .int .i64 ds0, .int .i64 h.p, .int .i64 h.l, .int .i64 h.e, .int .i64 t, .slice Af nf cf, .slice Ad nd cd, .slice Ac nc cc, .int .i64 hand], .int .i64 no] w (GetErr (homeR D no).1 (homeR D no).2.1 (homeR D no).2.2 w) := by
 have hp9 := hr.p1
 have hlt : homeN no < D.n := by unfold homeN; omega
 have hhas : D.has ((homeN no : Nat) : Int) = true := by
  unfold Dev.has
  exact decide_eq_true (by omega)
 have HG := Lib.hid (fun W (hd : IsDev W (.agg #[.slice A0 n0 c0, .slice B0 m0 k0, .bool dd0, .int .i64 lf0, .int .i64 ds0]) D) => slabGet _ D (homeN no) W hd hok (by omega) hhas)
 have HL := Lib.hid (fun W => homeN_any no W (by omega))
 have HD := Lib.hid (And.intro ht hD)
 have HSZ := Lib.hid (fun D1 t => get_size (D1 := D1) (t := t) hok hlt)
 have hno : no < 512 := by omega
 have hn1 := hok.n1
 clear ht hD hhas hlt hok hK hr hn hi hp9
 obtain ⟨post, hpost⟩ : ∃ post, GetErr (homeR D no).1 (homeR D no).2.1 (homeR D no).2.2 w = post := ⟨_, rfl⟩
 rw [hpost]
 have HP := Lib.hid hpost
 clear hpost
 generalize hgr : getR D (homeN no) = GR at HG
 obtain ⟨D1, tx, er⟩ := GR
 have HGR := Lib.hid hgr
 have HN1 := Lib.hid (show 1 ≤ D1.n by rw [get_n hgr]; exact hn1)
 clear hgr hn1
 have F := Fv.Fr.start w
 go_enter Tryz.func165, Tryz.ntmps165
 go_upto_region 1 with (first
  | ((with_reducible (show wpList _ _ _ (Oper.mk _ (Op.load _ _) _ _ _ none :: _) _ _)); first | refine Fv.ldN F rfl rfl rfl (by repeat constructor) (by repeat constructor) ?_ | refine Fv.ld1 F rfl rfl rfl (by repeat constructor) (by repeat constructor) ?_)
  | ((with_reducible (show wpList _ _ _ (Oper.mk _ (Op.store _ _ _) _ _ _ none :: _) _ _)); (first | refine Fv.stN F rfl rfl rfl rfl rfl (by first | rfl | simp [Value.oneCell']) (by repeat constructor) ?_ | refine Fv.st1 F rfl rfl rfl (by first | exact (rfl : _ = Value.int _ _) | exact (rfl : _ = Value.slice _ _ _) | exact (rfl : _ = Value.bool _) | exact (rfl : _ = Value.string _)) (by rfl) (by repeat constructor) ?_); clear F; intro W F)
  | ((with_reducible (show wpList _ _ _ (Oper.mk _ (Op.alloc _) _ _ _ none :: _) _ _)); refine Fv.al F rfl rfl ?_; clear F; intro g W hs1 hs2 F; clear hs1 hs2)
  | ((with_reducible (show wpList _ _ _ (Oper.mk _ (Op.box _ _) _ _ _ none :: _) _ _)); refine Fv.wpL_box F rfl rfl rfl rfl ?_; clear F; intro g W hs1 hs2 F; clear hs1 hs2))
 replace F := F.drew
 refine Lex.region_tree (ops := lhops) lhtree (Fv.ClsB _ _) (by kernel_rfl) (by kernel_rfl) lhsel lhlex ⟨F.B, F.cls (Fv.Inc.cons (Fv.VIn.tail Fv.VIn.head) Fv.Inc.nil)⟩ ?_
 unfold lhtree
 refine Lex.tree_take _ lh0 (Lex.want_none rfl) (by intro Wx hSw; clear hSw; go_simp; try (first | (with_reducible rfl) | rfl)) ?_
 simp only [Act.put, List.setIfInBounds_toArray, List.set_cons_zero, List.set_cons_succ]
 refine Lex.tree_take _ lh1 (Lex.want_none rfl) (by intro Wx hSw; exact Fv.run_loadNC hSw.2 rfl rfl Fv.rt_Slab (by repeat constructor) (by repeat constructor)) ?_
 simp only [Act.put, List.setIfInBounds_toArray, List.set_cons_zero, List.set_cons_succ]
 refine Lex.tree_take _ lh2 (Lex.want_none rfl) (by intro Wx hSw; clear hSw; go_simp; try (first | (with_reducible rfl) | rfl)) ?_
 simp only [Act.put, List.setIfInBounds_toArray, List.set_cons_zero, List.set_cons_succ]
 refine Lex.tree_call lh3 (Lex.want_none rfl) (fun K hK => ?_) ?_
 ·go_simp
  refine (HL.out _).mono ?_
  rintro e w1 ⟨rfl, hv⟩
  replace F := F.call hv
  clear hv
  refine hK.out _ _ _ (fun _ h => h) ⟨F.B, F.cls (by (repeat (first | exact Fv.Inc.nil | apply Fv.Inc.cons | exact Fv.VIn.head | apply Fv.VIn.tail)); done)⟩ ?_
  clear hK K
  try simp only [Act.put, List.setIfInBounds_toArray, List.set_cons_zero, List.set_cons_succ]
  refine Lex.tree_call lh4 (Lex.want_none rfl) (fun K hK => ?_) ?_
  ·go_simp
   refine (HG.out _ (HD.out.2.below F.B (Nat.le_refl _))).mono ?_
   rintro e w1 ⟨v1, rfl, hD1, hv⟩
   replace F := F.call hv
   clear hv
   obtain ⟨A1, n1, c1, B1, m1, k1, dd1, lf1, ds1, rfl⟩ := dev_form hD1
   replace F := addDev F hD1 HN1.out rfl
   clear hD1
   refine hK.out _ _ _ (fun _ h => h) ⟨F.B, F.cls (by (repeat (first | exact Fv.Inc.nil | apply Fv.Inc.cons | exact Fv.VIn.head | apply Fv.VIn.tail)); done)⟩ ?_
   clear hK K
   try simp only [Act.put, List.setIfInBounds_toArray, List.set_cons_zero, List.set_cons_succ]
   refine Lex.tree_take _ lh5 (Lex.want_none rfl) (by intro Wx hSw; clear hSw; go_simp; try (first | (with_reducible rfl) | rfl)) ?_
   simp only [Act.put, List.setIfInBounds_toArray, List.set_cons_zero, List.set_cons_succ]
   refine Lex.tree_take _ lh6 (Lex.want_none rfl) (by intro Wx hSw; clear hSw; go_simp; try (first | (with_reducible rfl) | rfl)) ?_
   simp only [Act.put, List.setIfInBounds_toArray, List.set_cons_zero, List.set_cons_succ]
   refine Lex.tree_take _ lh7 (Lex.want_none rfl) (by intro Wx hSw; clear hSw; go_simp; try (first | (with_reducible rfl) | rfl)) ?_
   simp only [Act.put, List.setIfInBounds_toArray, List.set_cons_zero, List.set_cons_succ]
   refine Lex.tree_take _ lh8 (Lex.want_none rfl) (by intro Wx hSw; clear hSw; go_simp; try (first | (with_reducible rfl) | rfl)) ?_
   simp only [Act.put, List.setIfInBounds_toArray, List.set_cons_zero, List.set_cons_succ]
   refine Lex.tree_call lh9 (Lex.want_none rfl) (fun K hK => ?_) Lex.tree_no
   refine Fv.wp_alloc F rfl (by first | exact Fv.zt_Slab | exact Fv.zt_Head | exact Fv.zt_Frame | exact Fv.zt_Clock | exact Fv.zt_Page | exact Fv.zt_Image | exact Fv.zt_Store) ?_; clear F; intro g W hs1 hs2 F; clear hs1 hs2
   refine hK.out _ _ _ (fun _ h => h) ⟨F.B, F.cls (by (repeat (first | exact Fv.Inc.nil | apply Fv.Inc.cons | exact Fv.VIn.head | apply Fv.VIn.tail)); done)⟩ ?_
   clear hK K
   try simp only [Act.put, List.setIfInBounds_toArray, List.set_cons_zero, List.set_cons_succ]
   refine Lex.tree_call lh10 (Lex.want_none rfl) (fun K hK => ?_) Lex.tree_no
   refine Fv.wp_storeN F rfl rfl rfl Fv.rt_Slab rfl (by first | rfl | simp [Value.oneCell']) (by repeat constructor) ?_; clear F; intro W F
   refine hK.out _ _ _ (fun _ h => h) ⟨F.B, F.cls (by (repeat (first | exact Fv.Inc.nil | apply Fv.Inc.cons | exact Fv.VIn.head | apply Fv.VIn.tail)); done)⟩ ?_
   clear hK K
   try simp only [Act.put, List.setIfInBounds_toArray, List.set_cons_zero, List.set_cons_succ]
   refine Lex.tree_take _ lh11 (Lex.want_none rfl) (by intro Wx hSw; clear hSw; go_simp; try (first | (with_reducible rfl) | rfl)) ?_
   simp only [Act.put, List.setIfInBounds_toArray, List.set_cons_zero, List.set_cons_succ]
   refine Lex.tree_take _ lh12 (Lex.want_none rfl) (by intro Wx hSw; clear hSw; go_simp; try (first | (with_reducible rfl) | rfl)) ?_
   simp only [Act.put, List.setIfInBounds_toArray, List.set_cons_zero, List.set_cons_succ]
   refine Lex.tree_end ?_
   refine NoPanic.normal ?_
   by_cases he : er = 0
   ·subst he
    have hsz := HSZ.out _ _ HGR.out
    have HPR := Lib.hid (fun W (ht : Tab W) => Lf.parse_any tx no W ht hno (by omega))
    have HE := Lib.hid (homeR_good HGR.out)
    clear hsz
    cases hpf : parseL tx no with
    | none =>
     rw [hpf] at HPR HE
     simp only [Option.getD_none, Option.isSome_none] at HPR HE
     clear hpf
     go_wp2_with (first
      | ((with_reducible (show wpList _ _ _ (Oper.mk _ (Op.load _ _) _ _ _ none :: _) _ _)); first | refine Fv.ldN F rfl rfl rfl (by repeat constructor) (by repeat constructor) ?_ | refine Fv.ld1 F rfl rfl rfl (by repeat constructor) (by repeat constructor) ?_)
      | ((with_reducible (show wpList _ _ _ (Oper.mk _ (Op.store _ _ _) _ _ _ none :: _) _ _)); (first | refine Fv.stN F rfl rfl rfl rfl rfl (by first | rfl | simp [Value.oneCell']) (by repeat constructor) ?_ | refine Fv.st1 F rfl rfl rfl (by first | exact (rfl : _ = Value.int _ _) | exact (rfl : _ = Value.slice _ _ _) | exact (rfl : _ = Value.bool _) | exact (rfl : _ = Value.string _)) (by rfl) (by repeat constructor) ?_); clear F; intro W F)
      | ((with_reducible (show wpList _ _ _ (Oper.mk _ (Op.alloc _) _ _ _ none :: _) _ _)); refine Fv.al F rfl rfl ?_; clear F; intro g W hs1 hs2 F; clear hs1 hs2)
      | (go_at_call 220; refine (HPR.out _ (HD.out.1.below F.B)).mono ?_; rintro e w1 ⟨rfl, hv⟩; replace F := F.call hv; clear hv)
      | (go_at_call 133; refine (Lf.blank_any _).mono ?_; rintro e w1 ⟨rfl, hv⟩; replace F := F.call hv; clear hv))
     refine bodyPost_ret (res_cTT F rfl rfl Fv.rt_Slab (by repeat constructor) rfl) rfl ?_
     rw [← HP.out, HE.out]
     exact ⟨_, rfl, F.out.2.dev, F.B⟩
    | some d =>
     rw [hpf] at HPR HE
     simp only [Option.getD_some, Option.isSome_some] at HPR HE
     clear hpf
     go_wp2_with (first
      | ((with_reducible (show wpList _ _ _ (Oper.mk _ (Op.load _ _) _ _ _ none :: _) _ _)); first | refine Fv.ldN F rfl rfl rfl (by repeat constructor) (by repeat constructor) ?_ | refine Fv.ld1 F rfl rfl rfl (by repeat constructor) (by repeat constructor) ?_)
      | ((with_reducible (show wpList _ _ _ (Oper.mk _ (Op.store _ _ _) _ _ _ none :: _) _ _)); (first | refine Fv.stN F rfl rfl rfl rfl rfl (by first | rfl | simp [Value.oneCell']) (by repeat constructor) ?_ | refine Fv.st1 F rfl rfl rfl (by first | exact (rfl : _ = Value.int _ _) | exact (rfl : _ = Value.slice _ _ _) | exact (rfl : _ = Value.bool _) | exact (rfl : _ = Value.string _)) (by rfl) (by repeat constructor) ?_); clear F; intro W F)
      | ((with_reducible (show wpList _ _ _ (Oper.mk _ (Op.alloc _) _ _ _ none :: _) _ _)); refine Fv.al F rfl rfl ?_; clear F; intro g W hs1 hs2 F; clear hs1 hs2)
      | (go_at_call 220; refine (HPR.out _ (HD.out.1.below F.B)).mono ?_; rintro e w1 ⟨rfl, hv⟩; replace F := F.call hv; clear hv)
      | (go_at_call 133; refine (Lf.blank_any _).mono ?_; rintro e w1 ⟨rfl, hv⟩; replace F := F.call hv; clear hv))
     refine bodyPost_ret (res_cTT F rfl rfl Fv.rt_Slab (by repeat constructor) rfl) rfl ?_
     rw [← HP.out, HE.out]
     exact ⟨_, rfl, F.out.2.dev, F.B⟩
   ·have HE := Lib.hid (homeR_err HGR.out he)
    go_wp2_with (first
     | ((with_reducible (show wpList _ _ _ (Oper.mk _ (Op.load _ _) _ _ _ none :: _) _ _)); first | refine Fv.ldN F rfl rfl rfl (by repeat constructor) (by repeat constructor) ?_ | refine Fv.ld1 F rfl rfl rfl (by repeat constructor) (by repeat constructor) ?_)
     | ((with_reducible (show wpList _ _ _ (Oper.mk _ (Op.store _ _ _) _ _ _ none :: _) _ _)); (first | refine Fv.stN F rfl rfl rfl rfl rfl (by first | rfl | simp [Value.oneCell']) (by repeat constructor) ?_ | refine Fv.st1 F rfl rfl rfl (by first | exact (rfl : _ = Value.int _ _) | exact (rfl : _ = Value.slice _ _ _) | exact (rfl : _ = Value.bool _) | exact (rfl : _ = Value.string _)) (by rfl) (by repeat constructor) ?_); clear F; intro W F)
     | ((with_reducible (show wpList _ _ _ (Oper.mk _ (Op.alloc _) _ _ _ none :: _) _ _)); refine Fv.al F rfl rfl ?_; clear F; intro g W hs1 hs2 F; clear hs1 hs2))
    refine bodyPost_ret (res_cTT F rfl rfl Fv.rt_Slab (by repeat constructor) rfl) rfl ?_
    rw [← HP.out, HE.out]
    exact ⟨_, rfl, F.out.2.dev, F.B⟩
  refine Lex.tree_call lh9 (Lex.want_none rfl) (fun K hK => ?_) Lex.tree_no
  refine Fv.wp_alloc F rfl (by first | exact Fv.zt_Slab | exact Fv.zt_Head | exact Fv.zt_Frame | exact Fv.zt_Clock | exact Fv.zt_Page | exact Fv.zt_Image | exact Fv.zt_Store) ?_; clear F; intro g W hs1 hs2 F; clear hs1 hs2
  refine hK.out _ _ _ (fun _ h => h) ⟨F.B, F.cls (by (repeat (first | exact Fv.Inc.nil | apply Fv.Inc.cons | exact Fv.VIn.head | apply Fv.VIn.tail)); done)⟩ ?_
  clear hK K
  try simp only [Act.put, List.setIfInBounds_toArray, List.set_cons_zero, List.set_cons_succ]
  refine Lex.tree_call lh4 (Lex.want_none rfl) (fun K hK => ?_) Lex.tree_no
  go_simp
  refine (HG.out _ (HD.out.2.below F.B (Nat.le_refl _))).mono ?_
  rintro e w1 ⟨v1, rfl, hD1, hv⟩
  replace F := F.call hv
  clear hv
  obtain ⟨A1, n1, c1, B1, m1, k1, dd1, lf1, ds1, rfl⟩ := dev_form hD1
  replace F := addDev F hD1 HN1.out rfl
  clear hD1
  refine hK.out _ _ _ (fun _ h => h) ⟨F.B, F.cls (by (repeat (first | exact Fv.Inc.nil | apply Fv.Inc.cons | exact Fv.VIn.head | apply Fv.VIn.tail)); done)⟩ ?_
  clear hK K
  try simp only [Act.put, List.setIfInBounds_toArray, List.set_cons_zero, List.set_cons_succ]
  refine Lex.tree_take _ lh5 (Lex.want_none rfl) (by intro Wx hSw; clear hSw; go_simp; try (first | (with_reducible rfl) | rfl)) ?_
  simp only [Act.put, List.setIfInBounds_toArray, List.set_cons_zero, List.set_cons_succ]
  refine Lex.tree_take _ lh6 (Lex.want_none rfl) (by intro Wx hSw; clear hSw; go_simp; try (first | (with_reducible rfl) | rfl)) ?_
  simp only [Act.put, List.setIfInBounds_toArray, List.set_cons_zero, List.set_cons_succ]
  refine Lex.tree_take _ lh7 (Lex.want_none rfl) (by intro Wx hSw; clear hSw; go_simp; try (first | (with_reducible rfl) | rfl)) ?_
  simp only [Act.put, List.setIfInBounds_toArray, List.set_cons_zero, List.set_cons_succ]
  refine Lex.tree_take _ lh8 (Lex.want_none rfl) (by intro Wx hSw; clear hSw; go_simp; try (first | (with_reducible rfl) | rfl)) ?_
  simp only [Act.put, List.setIfInBounds_toArray, List.set_cons_zero, List.set_cons_succ]
  refine Lex.tree_call lh10 (Lex.want_none rfl) (fun K hK => ?_) Lex.tree_no
  refine Fv.wp_storeN F rfl rfl rfl Fv.rt_Slab rfl (by first | rfl | simp [Value.oneCell']) (by repeat constructor) ?_; clear F; intro W F
  refine hK.out _ _ _ (fun _ h => h) ⟨F.B, F.cls (by (repeat (first | exact Fv.Inc.nil | apply Fv.Inc.cons | exact Fv.VIn.head | apply Fv.VIn.tail)); done)⟩ ?_
  clear hK K
  try simp only [Act.put, List.setIfInBounds_toArray, List.set_cons_zero, List.set_cons_succ]
  refine Lex.tree_take _ lh11 (Lex.want_none rfl) (by intro Wx hSw; clear hSw; go_simp; try (first | (with_reducible rfl) | rfl)) ?_
  simp only [Act.put, List.setIfInBounds_toArray, List.set_cons_zero, List.set_cons_succ]
  refine Lex.tree_take _ lh12 (Lex.want_none rfl) (by intro Wx hSw; clear hSw; go_simp; try (first | (with_reducible rfl) | rfl)) ?_
  simp only [Act.put, List.setIfInBounds_toArray, List.set_cons_zero, List.set_cons_succ]
  refine Lex.tree_end ?_
  refine NoPanic.normal ?_
  by_cases he : er = 0
  ·subst he
   have hsz := HSZ.out _ _ HGR.out
   have HPR := Lib.hid (fun W (ht : Tab W) => Lf.parse_any tx no W ht hno (by omega))
   have HE := Lib.hid (homeR_good HGR.out)
   clear hsz
   cases hpf : parseL tx no with
   | none =>
    rw [hpf] at HPR HE
    simp only [Option.getD_none, Option.isSome_none] at HPR HE
    clear hpf
    go_wp2_with (first
     | ((with_reducible (show wpList _ _ _ (Oper.mk _ (Op.load _ _) _ _ _ none :: _) _ _)); first | refine Fv.ldN F rfl rfl rfl (by repeat constructor) (by repeat constructor) ?_ | refine Fv.ld1 F rfl rfl rfl (by repeat constructor) (by repeat constructor) ?_)
     | ((with_reducible (show wpList _ _ _ (Oper.mk _ (Op.store _ _ _) _ _ _ none :: _) _ _)); (first | refine Fv.stN F rfl rfl rfl rfl rfl (by first | rfl | simp [Value.oneCell']) (by repeat constructor) ?_ | refine Fv.st1 F rfl rfl rfl (by first | exact (rfl : _ = Value.int _ _) | exact (rfl : _ = Value.slice _ _ _) | exact (rfl : _ = Value.bool _) | exact (rfl : _ = Value.string _)) (by rfl) (by repeat constructor) ?_); clear F; intro W F)
     | ((with_reducible (show wpList _ _ _ (Oper.mk _ (Op.alloc _) _ _ _ none :: _) _ _)); refine Fv.al F rfl rfl ?_; clear F; intro g W hs1 hs2 F; clear hs1 hs2)
     | (go_at_call 220; refine (HPR.out _ (HD.out.1.below F.B)).mono ?_; rintro e w1 ⟨rfl, hv⟩; replace F := F.call hv; clear hv)
     | (go_at_call 133; refine (Lf.blank_any _).mono ?_; rintro e w1 ⟨rfl, hv⟩; replace F := F.call hv; clear hv))
    refine bodyPost_ret (res_cTT F rfl rfl Fv.rt_Slab (by repeat constructor) rfl) rfl ?_
    rw [← HP.out, HE.out]
    exact ⟨_, rfl, F.out.2.dev, F.B⟩
   | some d =>
    rw [hpf] at HPR HE
    simp only [Option.getD_some, Option.isSome_some] at HPR HE
    clear hpf
    go_wp2_with (first
     | ((with_reducible (show wpList _ _ _ (Oper.mk _ (Op.load _ _) _ _ _ none :: _) _ _)); first | refine Fv.ldN F rfl rfl rfl (by repeat constructor) (by repeat constructor) ?_ | refine Fv.ld1 F rfl rfl rfl (by repeat constructor) (by repeat constructor) ?_)
     | ((with_reducible (show wpList _ _ _ (Oper.mk _ (Op.store _ _ _) _ _ _ none :: _) _ _)); (first | refine Fv.stN F rfl rfl rfl rfl rfl (by first | rfl | simp [Value.oneCell']) (by repeat constructor) ?_ | refine Fv.st1 F rfl rfl rfl (by first | exact (rfl : _ = Value.int _ _) | exact (rfl : _ = Value.slice _ _ _) | exact (rfl : _ = Value.bool _) | exact (rfl : _ = Value.string _)) (by rfl) (by repeat constructor) ?_); clear F; intro W F)
     | ((with_reducible (show wpList _ _ _ (Oper.mk _ (Op.alloc _) _ _ _ none :: _) _ _)); refine Fv.al F rfl rfl ?_; clear F; intro g W hs1 hs2 F; clear hs1 hs2)
     | (go_at_call 220; refine (HPR.out _ (HD.out.1.below F.B)).mono ?_; rintro e w1 ⟨rfl, hv⟩; replace F := F.call hv; clear hv)
     | (go_at_call 133; refine (Lf.blank_any _).mono ?_; rintro e w1 ⟨rfl, hv⟩; replace F := F.call hv; clear hv))
    refine bodyPost_ret (res_cTT F rfl rfl Fv.rt_Slab (by repeat constructor) rfl) rfl ?_
    rw [← HP.out, HE.out]
    exact ⟨_, rfl, F.out.2.dev, F.B⟩
  ·have HE := Lib.hid (homeR_err HGR.out he)
   go_wp2_with (first
    | ((with_reducible (show wpList _ _ _ (Oper.mk _ (Op.load _ _) _ _ _ none :: _) _ _)); first | refine Fv.ldN F rfl rfl rfl (by repeat constructor) (by repeat constructor) ?_ | refine Fv.ld1 F rfl rfl rfl (by repeat constructor) (by repeat constructor) ?_)
    | ((with_reducible (show wpList _ _ _ (Oper.mk _ (Op.store _ _ _) _ _ _ none :: _) _ _)); (first | refine Fv.stN F rfl rfl rfl rfl rfl (by first | rfl | simp [Value.oneCell']) (by repeat constructor) ?_ | refine Fv.st1 F rfl rfl rfl (by first | exact (rfl : _ = Value.int _ _) | exact (rfl : _ = Value.slice _ _ _) | exact (rfl : _ = Value.bool _) | exact (rfl : _ = Value.string _)) (by rfl) (by repeat constructor) ?_); clear F; intro W F)
    | ((with_reducible (show wpList _ _ _ (Oper.mk _ (Op.alloc _) _ _ _ none :: _) _ _)); refine Fv.al F rfl rfl ?_; clear F; intro g W hs1 hs2 F; clear hs1 hs2))
   refine bodyPost_ret (res_cTT F rfl rfl Fv.rt_Slab (by repeat constructor) rfl) rfl ?_
   rw [← HP.out, HE.out]
   exact ⟨_, rfl, F.out.2.dev, F.B⟩
 refine Lex.tree_call lh9 (Lex.want_none rfl) (fun K hK => ?_) Lex.tree_no
 refine Fv.wp_alloc F rfl (by first | exact Fv.zt_Slab | exact Fv.zt_Head | exact Fv.zt_Frame | exact Fv.zt_Clock | exact Fv.zt_Page | exact Fv.zt_Image | exact Fv.zt_Store) ?_; clear F; intro g W hs1 hs2 F; clear hs1 hs2
 refine hK.out _ _ _ (fun _ h => h) ⟨F.B, F.cls (by (repeat (first | exact Fv.Inc.nil | apply Fv.Inc.cons | exact Fv.VIn.head | apply Fv.VIn.tail)); done)⟩ ?_
 clear hK K
 try simp only [Act.put, List.setIfInBounds_toArray, List.set_cons_zero, List.set_cons_succ]
 refine Lex.tree_call lh3 (Lex.want_none rfl) (fun K hK => ?_) Lex.tree_no
 go_simp
 refine (HL.out _).mono ?_
 rintro e w1 ⟨rfl, hv⟩
 replace F := F.call hv
 clear hv
 refine hK.out _ _ _ (fun _ h => h) ⟨F.B, F.cls (by (repeat (first | exact Fv.Inc.nil | apply Fv.Inc.cons | exact Fv.VIn.head | apply Fv.VIn.tail)); done)⟩ ?_
 clear hK K
 try simp only [Act.put, List.setIfInBounds_toArray, List.set_cons_zero, List.set_cons_succ]
 refine Lex.tree_call lh4 (Lex.want_none rfl) (fun K hK => ?_) Lex.tree_no
 go_simp
 refine (HG.out _ (HD.out.2.below F.B (Nat.le_refl _))).mono ?_
 rintro e w1 ⟨v1, rfl, hD1, hv⟩
 replace F := F.call hv
 clear hv
 obtain ⟨A1, n1, c1, B1, m1, k1, dd1, lf1, ds1, rfl⟩ := dev_form hD1
 replace F := addDev F hD1 HN1.out rfl
 clear hD1
 refine hK.out _ _ _ (fun _ h => h) ⟨F.B, F.cls (by (repeat (first | exact Fv.Inc.nil | apply Fv.Inc.cons | exact Fv.VIn.head | apply Fv.VIn.tail)); done)⟩ ?_
 clear hK K
 try simp only [Act.put, List.setIfInBounds_toArray, List.set_cons_zero, List.set_cons_succ]
 refine Lex.tree_take _ lh5 (Lex.want_none rfl) (by intro Wx hSw; clear hSw; go_simp; try (first | (with_reducible rfl) | rfl)) ?_
 simp only [Act.put, List.setIfInBounds_toArray, List.set_cons_zero, List.set_cons_succ]
 refine Lex.tree_take _ lh6 (Lex.want_none rfl) (by intro Wx hSw; clear hSw; go_simp; try (first | (with_reducible rfl) | rfl)) ?_
 simp only [Act.put, List.setIfInBounds_toArray, List.set_cons_zero, List.set_cons_succ]
 refine Lex.tree_take _ lh7 (Lex.want_none rfl) (by intro Wx hSw; clear hSw; go_simp; try (first | (with_reducible rfl) | rfl)) ?_
 simp only [Act.put, List.setIfInBounds_toArray, List.set_cons_zero, List.set_cons_succ]
 refine Lex.tree_take _ lh8 (Lex.want_none rfl) (by intro Wx hSw; clear hSw; go_simp; try (first | (with_reducible rfl) | rfl)) ?_
 simp only [Act.put, List.setIfInBounds_toArray, List.set_cons_zero, List.set_cons_succ]
 refine Lex.tree_call lh10 (Lex.want_none rfl) (fun K hK => ?_) Lex.tree_no
 refine Fv.wp_storeN F rfl rfl rfl Fv.rt_Slab rfl (by first | rfl | simp [Value.oneCell']) (by repeat constructor) ?_; clear F; intro W F
 refine hK.out _ _ _ (fun _ h => h) ⟨F.B, F.cls (by (repeat (first | exact Fv.Inc.nil | apply Fv.Inc.cons | exact Fv.VIn.head | apply Fv.VIn.tail)); done)⟩ ?_
 clear hK K
 try simp only [Act.put, List.setIfInBounds_toArray, List.set_cons_zero, List.set_cons_succ]
 refine Lex.tree_take _ lh11 (Lex.want_none rfl) (by intro Wx hSw; clear hSw; go_simp; try (first | (with_reducible rfl) | rfl)) ?_
 simp only [Act.put, List.setIfInBounds_toArray, List.set_cons_zero, List.set_cons_succ]
 refine Lex.tree_take _ lh12 (Lex.want_none rfl) (by intro Wx hSw; clear hSw; go_simp; try (first | (with_reducible rfl) | rfl)) ?_
 simp only [Act.put, List.setIfInBounds_toArray, List.set_cons_zero, List.set_cons_succ]
 refine Lex.tree_end ?_
 refine NoPanic.normal ?_
 by_cases he : er = 0
 ·subst he
  have hsz := HSZ.out _ _ HGR.out
  have HPR := Lib.hid (fun W (ht : Tab W) => Lf.parse_any tx no W ht hno (by omega))
  have HE := Lib.hid (homeR_good HGR.out)
  clear hsz
  cases hpf : parseL tx no with
  | none =>
   rw [hpf] at HPR HE
   simp only [Option.getD_none, Option.isSome_none] at HPR HE
   clear hpf
   go_wp2_with (first
    | ((with_reducible (show wpList _ _ _ (Oper.mk _ (Op.load _ _) _ _ _ none :: _) _ _)); first | refine Fv.ldN F rfl rfl rfl (by repeat constructor) (by repeat constructor) ?_ | refine Fv.ld1 F rfl rfl rfl (by repeat constructor) (by repeat constructor) ?_)
    | ((with_reducible (show wpList _ _ _ (Oper.mk _ (Op.store _ _ _) _ _ _ none :: _) _ _)); (first | refine Fv.stN F rfl rfl rfl rfl rfl (by first | rfl | simp [Value.oneCell']) (by repeat constructor) ?_ | refine Fv.st1 F rfl rfl rfl (by first | exact (rfl : _ = Value.int _ _) | exact (rfl : _ = Value.slice _ _ _) | exact (rfl : _ = Value.bool _) | exact (rfl : _ = Value.string _)) (by rfl) (by repeat constructor) ?_); clear F; intro W F)
    | ((with_reducible (show wpList _ _ _ (Oper.mk _ (Op.alloc _) _ _ _ none :: _) _ _)); refine Fv.al F rfl rfl ?_; clear F; intro g W hs1 hs2 F; clear hs1 hs2)
    | (go_at_call 220; refine (HPR.out _ (HD.out.1.below F.B)).mono ?_; rintro e w1 ⟨rfl, hv⟩; replace F := F.call hv; clear hv)
    | (go_at_call 133; refine (Lf.blank_any _).mono ?_; rintro e w1 ⟨rfl, hv⟩; replace F := F.call hv; clear hv))
   refine bodyPost_ret (res_cTT F rfl rfl Fv.rt_Slab (by repeat constructor) rfl) rfl ?_
   rw [← HP.out, HE.out]
   exact ⟨_, rfl, F.out.2.dev, F.B⟩
  | some d =>
   rw [hpf] at HPR HE
   simp only [Option.getD_some, Option.isSome_some] at HPR HE
   clear hpf
   go_wp2_with (first
    | ((with_reducible (show wpList _ _ _ (Oper.mk _ (Op.load _ _) _ _ _ none :: _) _ _)); first | refine Fv.ldN F rfl rfl rfl (by repeat constructor) (by repeat constructor) ?_ | refine Fv.ld1 F rfl rfl rfl (by repeat constructor) (by repeat constructor) ?_)
    | ((with_reducible (show wpList _ _ _ (Oper.mk _ (Op.store _ _ _) _ _ _ none :: _) _ _)); (first | refine Fv.stN F rfl rfl rfl rfl rfl (by first | rfl | simp [Value.oneCell']) (by repeat constructor) ?_ | refine Fv.st1 F rfl rfl rfl (by first | exact (rfl : _ = Value.int _ _) | exact (rfl : _ = Value.slice _ _ _) | exact (rfl : _ = Value.bool _) | exact (rfl : _ = Value.string _)) (by rfl) (by repeat constructor) ?_); clear F; intro W F)
    | ((with_reducible (show wpList _ _ _ (Oper.mk _ (Op.alloc _) _ _ _ none :: _) _ _)); refine Fv.al F rfl rfl ?_; clear F; intro g W hs1 hs2 F; clear hs1 hs2)
    | (go_at_call 220; refine (HPR.out _ (HD.out.1.below F.B)).mono ?_; rintro e w1 ⟨rfl, hv⟩; replace F := F.call hv; clear hv)
    | (go_at_call 133; refine (Lf.blank_any _).mono ?_; rintro e w1 ⟨rfl, hv⟩; replace F := F.call hv; clear hv))
   refine bodyPost_ret (res_cTT F rfl rfl Fv.rt_Slab (by repeat constructor) rfl) rfl ?_
   rw [← HP.out, HE.out]
   exact ⟨_, rfl, F.out.2.dev, F.B⟩
 ·have HE := Lib.hid (homeR_err HGR.out he)
  go_wp2_with (first
   | ((with_reducible (show wpList _ _ _ (Oper.mk _ (Op.load _ _) _ _ _ none :: _) _ _)); first | refine Fv.ldN F rfl rfl rfl (by repeat constructor) (by repeat constructor) ?_ | refine Fv.ld1 F rfl rfl rfl (by repeat constructor) (by repeat constructor) ?_)
   | ((with_reducible (show wpList _ _ _ (Oper.mk _ (Op.store _ _ _) _ _ _ none :: _) _ _)); (first | refine Fv.stN F rfl rfl rfl rfl rfl (by first | rfl | simp [Value.oneCell']) (by repeat constructor) ?_ | refine Fv.st1 F rfl rfl rfl (by first | exact (rfl : _ = Value.int _ _) | exact (rfl : _ = Value.slice _ _ _) | exact (rfl : _ = Value.bool _) | exact (rfl : _ = Value.string _)) (by rfl) (by repeat constructor) ?_); clear F; intro W F)
   | ((with_reducible (show wpList _ _ _ (Oper.mk _ (Op.alloc _) _ _ _ none :: _) _ _)); refine Fv.al F rfl rfl ?_; clear F; intro g W hs1 hs2 F; clear hs1 hs2))
  refine bodyPost_ret (res_cTT F rfl rfl Fv.rt_Slab (by repeat constructor) rfl) rfl ?_
  rw [← HP.out, HE.out]
  exact ⟨_, rfl, F.out.2.dev, F.B⟩
end Go.Proofs.YtcgkbcgpnlogoaaGreatDoor.St
