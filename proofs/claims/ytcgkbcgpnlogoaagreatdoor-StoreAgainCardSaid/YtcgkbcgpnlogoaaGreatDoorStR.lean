/- Stores: the law's does. -/
import Derived.Test.YtcgkbcgpnlogoaaGreatDoorMgAJ
import Derived.Test.YtcgkbcgpnlogoaaGreatDoorMgAE
namespace Go.Proofs.YtcgkbcgpnlogoaaGreatDoor.St
open Go.RowKit Go.Shelf Tal Sla Hd Fr Lf Lex
structure Ac where
 k : Int
 at_ : Int
 data : ByteArray
 fate : Fat
def cellsA (a : Ac) : List Value := [.int .i64 a.k, .int .i64 a.at_, .string a.data, .int .u64 a.fate.stay, .int .i64 a.fate.torn, .int .i64 a.fate.bytes]
structure FineAc (a : Ac) : Prop where
 d : a.data.size ≤ 300
 x : a.at_ ≤ 9223372036854775807
 f0 : 0 ≤ a.fate.stay
 f1 : a.fate.stay < 18446744073709551616
/-- A store behind a deed; what was read, and the error. -/
noncomputable def doR (s : S) (a : Ac) : S × ByteArray × Int :=
 if a.k = 0 then ((writeR s a.at_ a.data).1, ⟨#[]⟩, (writeR s a.at_ a.data).2)
 else if a.k = 1 then readR s a.at_
 else if a.k = 2 then ((commitR s).1, ⟨#[]⟩, (commitR s).2)
 else if a.k = 3 then (abortR s, ⟨#[]⟩, 0)
 else if a.k = 4 then ((checkR s).1, ⟨#[]⟩, (checkR s).2)
 else if a.k = 5 then ({ s with d := armed s.d a.at_ }, ⟨#[]⟩, 0)
 else if a.k = 6 then ((openR (s.d.started a.fate)).1.getD { s with d := (openR (s.d.started a.fate)).2.1 }, ⟨#[]⟩, (openR (s.d.started a.fate)).2.2)
 else (s, ⟨#[]⟩, 0)
theorem open_cases (D : Dev) : (∃ s D2, openR D = (some s, D2, 0)) ∨ ∃ D2 er, er ≠ 0 ∧ openR D = (none, D2, er) := by
 unfold openR
 split
 ·rename_i h
  exact Or.inr ⟨_, _, h, rfl⟩
 ·split
  ·exact Or.inr ⟨_, 2, by decide, rfl⟩
  ·split
   ·rename_i h
    exact Or.inr ⟨_, _, h, rfl⟩
   ·split
    ·rename_i h
     exact Or.inr ⟨_, _, h, rfl⟩
    ·exact Or.inl ⟨_, _, rfl⟩
section
variable {s : S} {x k : Int} {d : ByteArray} {f : Fat}
theorem doR_0 : doR s ⟨0, x, d, f⟩ = ((writeR s x d).1, ⟨#[]⟩, (writeR s x d).2) := by
 unfold doR
 rw [if_pos rfl]
theorem doR_1 : doR s ⟨1, x, d, f⟩ = readR s x := by
 unfold doR
 rw [if_neg (show ¬ (1 : Int) = 0 by decide), if_pos rfl]
theorem doR_2 : doR s ⟨2, x, d, f⟩ = ((commitR s).1, ⟨#[]⟩, (commitR s).2) := by
 unfold doR
 rw [if_neg (show ¬ (2 : Int) = 0 by decide), if_neg (show ¬ (2 : Int) = 1 by decide), if_pos rfl]
theorem doR_3 : doR s ⟨3, x, d, f⟩ = (abortR s, ⟨#[]⟩, 0) := by
 unfold doR
 rw [if_neg (show ¬ (3 : Int) = 0 by decide), if_neg (show ¬ (3 : Int) = 1 by decide), if_neg (show ¬ (3 : Int) = 2 by decide), if_pos rfl]
theorem doR_4 : doR s ⟨4, x, d, f⟩ = ((checkR s).1, ⟨#[]⟩, (checkR s).2) := by
 unfold doR
 rw [if_neg (show ¬ (4 : Int) = 0 by decide), if_neg (show ¬ (4 : Int) = 1 by decide), if_neg (show ¬ (4 : Int) = 2 by decide), if_neg (show ¬ (4 : Int) = 3 by decide), if_pos rfl]
theorem doR_5 : doR s ⟨5, x, d, f⟩ = ({ s with d := armed s.d x }, ⟨#[]⟩, 0) := by
 unfold doR
 rw [if_neg (show ¬ (5 : Int) = 0 by decide), if_neg (show ¬ (5 : Int) = 1 by decide), if_neg (show ¬ (5 : Int) = 2 by decide), if_neg (show ¬ (5 : Int) = 3 by decide), if_neg (show ¬ (5 : Int) = 4 by decide), if_pos rfl]
theorem doR_6 : doR s ⟨6, x, d, f⟩ = ((openR (s.d.started f)).1.getD { s with d := (openR (s.d.started f)).2.1 }, ⟨#[]⟩, (openR (s.d.started f)).2.2) := by
 unfold doR
 rw [if_neg (show ¬ (6 : Int) = 0 by decide), if_neg (show ¬ (6 : Int) = 1 by decide), if_neg (show ¬ (6 : Int) = 2 by decide), if_neg (show ¬ (6 : Int) = 3 by decide), if_neg (show ¬ (6 : Int) = 4 by decide), if_neg (show ¬ (6 : Int) = 5 by decide), if_pos rfl]
theorem doR_no (h0 : ¬ k = 0) (h1 : ¬ k = 1) (h2 : ¬ k = 2) (h3 : ¬ k = 3) (h4 : ¬ k = 4) (h5 : ¬ k = 5) (h6 : ¬ k = 6) : doR s ⟨k, x, d, f⟩ = (s, ⟨#[]⟩, 0) := by
 unfold doR
 rw [if_neg h0, if_neg h1, if_neg h2, if_neg h3, if_neg h4, if_neg h5, if_neg h6]
end
instance rt_Fate : Fv.RowTy Tryz.prog 46 3 := ⟨⟨_, Tryz.underlying46, rfl⟩, by kernel_rfl⟩
theorem open_n (D : Dev) {K : Nat} (hok : D.Ok K) (hn : 2 ≤ D.n) : 1 ≤ (openR D).2.1.n ∧ ∀ s, (openR D).1 = some s → 1 ≤ s.d.n := by
 have h1 := newest_ok hok
 unfold openR
 split
 ·exact ⟨by show 1 ≤ (newestR D).1.n; rw [h1.2]; omega, fun s hs => (by cases hs)⟩
 ·rename_i h0
  split
  ·exact ⟨by show 1 ≤ (newestR D).1.n; rw [h1.2]; omega, fun s hs => (by cases hs)⟩
  ·rename_i hs
   have hr : RightH (newestR D).2.1 := newest_right (D := D) (D1 := (newestR D).1) (by
    have : (newestR D).2.2 = 0 := Decidable.byContradiction h0
    rw [← this])
   have hs : (D.n : Int) = sizeN (newestR D).2.1 := Decidable.byContradiction hs
   unfold sizeN at hs
   have ho := recalled_ok h1.1 hr (by rw [h1.2]; have := hr.p0; have := hr.l0; omega)
   split
   ·exact ⟨ho.d.n1, fun s hs => (by cases hs)⟩
   ·split
    ·exact ⟨(checkR_ok ho).d.n1, fun s hs => (by cases hs)⟩
    ·exact ⟨(checkR_ok ho).d.n1, fun s hs => by injection hs with hs; rw [← hs]; exact (checkR_ok ho).d.n1⟩
set_option maxRecDepth 20000 in
set_option maxHeartbeats 6400000 in
theorem does_any {X : Nat → Prop} {K : Nat} (v : Value) (s : S) (a : Ac) (w : World) (ht : Tab w) (hS : IsSt X w v s) (hok : OkS s K) (hK : K ≤ 80000) (ha : FineAc a) : Calls Tryz.prog 20 #[v, .agg (cellsA a).toArray] w (StRead X (doR s a).1 (doR s a).2.1 (doR s a).2.2 w) := by
 have HI := Lib.hid hS
 obtain ⟨A0, n0, c0, B0, m0, k0, dd0, lf0, ds0, Af, cf, Ad, cd, Ac, cc, rfl, hdev, hfr, hdi, hck, hcc⟩ := hS
 have HS := Lib.hid (And.intro hdev (And.intro hfr (And.intro hdi (And.intro hck hcc))))
 have HT := Lib.hid ht
 have HK := Lib.hid (And.intro hok hK)
 clear hdev hfr hdi hck hcc ht hok hK
 obtain ⟨ak, aat, ad, ⟨fs, ft, fb⟩⟩ := a
 have HA := Lib.hid ha
 clear ha
 simp only [cellsA]
 obtain ⟨post, hpost⟩ : ∃ post, StRead X (doR s ⟨ak, aat, ad, ⟨fs, ft, fb⟩⟩).1 (doR s ⟨ak, aat, ad, ⟨fs, ft, fb⟩⟩).2.1 (doR s ⟨ak, aat, ad, ⟨fs, ft, fb⟩⟩).2.2 w = post := ⟨_, rfl⟩
 rw [hpost]
 have HP := Lib.hid hpost
 clear hpost
 by_cases k0 : ak = 0
 ·subst k0
  have hko := writeR_ok HK.out.1 aat ad
  have HC := Lib.hid (fun Z W (v : Value) (ht : Tab W) (hi : IsSt Z W v s) => write_any v s aat ad W ht hi HK.out.1 (by have := HK.out.2; omega) HA.out.d)
  obtain ⟨R, hR⟩ : ∃ R, writeR s aat ad = R := ⟨_, rfl⟩
  rw [hR] at HC hko
  obtain ⟨s2, er⟩ := R
  have HN2 := Lib.hid (show 1 ≤ s2.d.n from hko.d.n1)
  have HR := Lib.hid hR
  clear hR hko
  have F := Fv.Fr.start w
  go_enter Tryz.func20, Tryz.ntmps20
  go_wp2_with (first
   | ((with_reducible (show wpList _ _ _ (Oper.mk _ (Op.load _ _) _ _ _ none :: _) _ _)); first | refine Fv.ldN F rfl rfl rfl (by repeat constructor) (by repeat constructor) ?_ | refine Fv.ld1 F rfl rfl rfl (by repeat constructor) (by repeat constructor) ?_)
   | ((with_reducible (show wpList _ _ _ (Oper.mk _ (Op.store _ _ _) _ _ _ none :: _) _ _)); (first | refine Fv.stN F rfl rfl rfl rfl rfl (by first | rfl | simp [Value.oneCell']) (by repeat constructor) ?_ | refine Fv.st1 F rfl rfl rfl (by first | exact (rfl : _ = Value.int _ _) | exact (rfl : _ = Value.slice _ _ _) | exact (rfl : _ = Value.bool _) | exact (rfl : _ = Value.string _)) (by rfl) (by repeat constructor) ?_); clear F; intro W F)
   | ((with_reducible (show wpList _ _ _ (Oper.mk _ (Op.alloc _) _ _ _ none :: _) _ _)); refine Fv.al F rfl rfl ?_; clear F; intro g W hs1 hs2 F; clear hs1 hs2)
   | ((with_reducible (show wpList _ _ _ (Oper.mk _ (Op.box _ _) _ _ _ none :: _) _ _)); refine Fv.wpL_box F rfl rfl rfl rfl ?_; clear F; intro gb W hs1 hs2 F; clear hs1 hs2)
   | (go_at_call 63; refine (HC.out _ _ _ (HT.out.below F.B) (Fv.Fr.st F HI.out)).mono ?_; rintro e2 w2 ⟨v2, rfl, hS2, hv⟩; obtain ⟨A2, n2, c2, B2, m2, k2, dd2, lf2, ds2, Af2, cf2, Ad2, cd2, Ac2, cc2, rfl, hq2⟩ := hS2; have hS2 := (show IsSt _ _ _ _ from ⟨_, _, _, _, _, _, _, _, _, _, _, _, _, _, _, rfl, hq2⟩); clear hq2; have F2 := F.call hv; replace F := addSt F F2 hS2 HN2.out rfl; clear hv F2 hS2))
  refine bodyPost_ret (res_cTT F rfl rfl Fv.rt_Store (by repeat constructor) rfl) rfl ?_
  rw [← HP.out, doR_0, HR.out]
  exact ⟨_, rfl, F.out.2.st, F.B⟩
 ·skip
  by_cases k1 : ak = 1
  ·subst k1
   have hko := readR_ok HK.out.1 aat
   have HC := Lib.hid (fun Z W (v : Value) (ht : Tab W) (hi : IsSt Z W v s) => read_any v s aat W ht hi HK.out.1 (by have := HK.out.2; omega))
   obtain ⟨R, hR⟩ : ∃ R, readR s aat = R := ⟨_, rfl⟩
   rw [hR] at HC hko
   obtain ⟨s2, t2, er⟩ := R
   have HN2 := Lib.hid (show 1 ≤ s2.d.n from hko.d.n1)
   have HR := Lib.hid hR
   clear hR hko
   have F := Fv.Fr.start w
   go_enter Tryz.func20, Tryz.ntmps20
   go_wp2_with (first
    | ((with_reducible (show wpList _ _ _ (Oper.mk _ (Op.load _ _) _ _ _ none :: _) _ _)); first | refine Fv.ldN F rfl rfl rfl (by repeat constructor) (by repeat constructor) ?_ | refine Fv.ld1 F rfl rfl rfl (by repeat constructor) (by repeat constructor) ?_)
    | ((with_reducible (show wpList _ _ _ (Oper.mk _ (Op.store _ _ _) _ _ _ none :: _) _ _)); (first | refine Fv.stN F rfl rfl rfl rfl rfl (by first | rfl | simp [Value.oneCell']) (by repeat constructor) ?_ | refine Fv.st1 F rfl rfl rfl (by first | exact (rfl : _ = Value.int _ _) | exact (rfl : _ = Value.slice _ _ _) | exact (rfl : _ = Value.bool _) | exact (rfl : _ = Value.string _)) (by rfl) (by repeat constructor) ?_); clear F; intro W F)
    | ((with_reducible (show wpList _ _ _ (Oper.mk _ (Op.alloc _) _ _ _ none :: _) _ _)); refine Fv.al F rfl rfl ?_; clear F; intro g W hs1 hs2 F; clear hs1 hs2)
    | ((with_reducible (show wpList _ _ _ (Oper.mk _ (Op.box _ _) _ _ _ none :: _) _ _)); refine Fv.wpL_box F rfl rfl rfl rfl ?_; clear F; intro gb W hs1 hs2 F; clear hs1 hs2)
    | (go_at_call 24; refine (HC.out _ _ _ (HT.out.below F.B) (Fv.Fr.st F HI.out)).mono ?_; rintro e2 w2 ⟨v2, rfl, hS2, hv⟩; obtain ⟨A2, n2, c2, B2, m2, k2, dd2, lf2, ds2, Af2, cf2, Ad2, cd2, Ac2, cc2, rfl, hq2⟩ := hS2; have hS2 := (show IsSt _ _ _ _ from ⟨_, _, _, _, _, _, _, _, _, _, _, _, _, _, _, rfl, hq2⟩); clear hq2; have F2 := F.call hv; replace F := addSt F F2 hS2 HN2.out rfl; clear hv F2 hS2))
   refine bodyPost_ret (res_cTT F rfl rfl Fv.rt_Store (by repeat constructor) rfl) rfl ?_
   rw [← HP.out, doR_1, HR.out]
   exact ⟨_, rfl, F.out.2.st, F.B⟩
  ·skip
   by_cases k2 : ak = 2
   ·subst k2
    have hko := commitR_ok HK.out.1
    have HC := Lib.hid (fun Z W (v : Value) (ht : Tab W) (hi : IsSt Z W v s) => commit_any v s W ht hi HK.out.1 HK.out.2)
    obtain ⟨R, hR⟩ : ∃ R, commitR s = R := ⟨_, rfl⟩
    rw [hR] at HC hko
    obtain ⟨s2, er⟩ := R
    have HN2 := Lib.hid (show 1 ≤ s2.d.n from hko.d.n1)
    have HR := Lib.hid hR
    clear hR hko
    have F := Fv.Fr.start w
    go_enter Tryz.func20, Tryz.ntmps20
    go_wp2_with (first
     | ((with_reducible (show wpList _ _ _ (Oper.mk _ (Op.load _ _) _ _ _ none :: _) _ _)); first | refine Fv.ldN F rfl rfl rfl (by repeat constructor) (by repeat constructor) ?_ | refine Fv.ld1 F rfl rfl rfl (by repeat constructor) (by repeat constructor) ?_)
     | ((with_reducible (show wpList _ _ _ (Oper.mk _ (Op.store _ _ _) _ _ _ none :: _) _ _)); (first | refine Fv.stN F rfl rfl rfl rfl rfl (by first | rfl | simp [Value.oneCell']) (by repeat constructor) ?_ | refine Fv.st1 F rfl rfl rfl (by first | exact (rfl : _ = Value.int _ _) | exact (rfl : _ = Value.slice _ _ _) | exact (rfl : _ = Value.bool _) | exact (rfl : _ = Value.string _)) (by rfl) (by repeat constructor) ?_); clear F; intro W F)
     | ((with_reducible (show wpList _ _ _ (Oper.mk _ (Op.alloc _) _ _ _ none :: _) _ _)); refine Fv.al F rfl rfl ?_; clear F; intro g W hs1 hs2 F; clear hs1 hs2)
     | ((with_reducible (show wpList _ _ _ (Oper.mk _ (Op.box _ _) _ _ _ none :: _) _ _)); refine Fv.wpL_box F rfl rfl rfl rfl ?_; clear F; intro gb W hs1 hs2 F; clear hs1 hs2)
     | (go_at_call 64; refine (HC.out _ _ _ (HT.out.below F.B) (Fv.Fr.st F HI.out)).mono ?_; rintro e2 w2 ⟨v2, rfl, hS2, hv⟩; obtain ⟨A2, n2, c2, B2, m2, k2, dd2, lf2, ds2, Af2, cf2, Ad2, cd2, Ac2, cc2, rfl, hq2⟩ := hS2; have hS2 := (show IsSt _ _ _ _ from ⟨_, _, _, _, _, _, _, _, _, _, _, _, _, _, _, rfl, hq2⟩); clear hq2; have F2 := F.call hv; replace F := addSt F F2 hS2 HN2.out rfl; clear hv F2 hS2))
    refine bodyPost_ret (res_cTT F rfl rfl Fv.rt_Store (by repeat constructor) rfl) rfl ?_
    rw [← HP.out, doR_2, HR.out]
    exact ⟨_, rfl, F.out.2.st, F.B⟩
   ·skip
    by_cases k3 : ak = 3
    ·subst k3
     have hko := abortR_ok HK.out.1
     have HC := Lib.hid (fun Z W (v : Value) (ht : Tab W) (hi : IsSt Z W v s) => abort_any v s W hi)
     obtain ⟨s2, hR⟩ : ∃ R, abortR s = R := ⟨_, rfl⟩
     rw [hR] at HC hko
     have HN2 := Lib.hid (show 1 ≤ s2.d.n from hko.d.n1)
     have HR := Lib.hid hR
     clear hR hko
     have F := Fv.Fr.start w
     go_enter Tryz.func20, Tryz.ntmps20
     go_wp2_with (first
      | ((with_reducible (show wpList _ _ _ (Oper.mk _ (Op.load _ _) _ _ _ none :: _) _ _)); first | refine Fv.ldN F rfl rfl rfl (by repeat constructor) (by repeat constructor) ?_ | refine Fv.ld1 F rfl rfl rfl (by repeat constructor) (by repeat constructor) ?_)
      | ((with_reducible (show wpList _ _ _ (Oper.mk _ (Op.store _ _ _) _ _ _ none :: _) _ _)); (first | refine Fv.stN F rfl rfl rfl rfl rfl (by first | rfl | simp [Value.oneCell']) (by repeat constructor) ?_ | refine Fv.st1 F rfl rfl rfl (by first | exact (rfl : _ = Value.int _ _) | exact (rfl : _ = Value.slice _ _ _) | exact (rfl : _ = Value.bool _) | exact (rfl : _ = Value.string _)) (by rfl) (by repeat constructor) ?_); clear F; intro W F)
      | ((with_reducible (show wpList _ _ _ (Oper.mk _ (Op.alloc _) _ _ _ none :: _) _ _)); refine Fv.al F rfl rfl ?_; clear F; intro g W hs1 hs2 F; clear hs1 hs2)
      | ((with_reducible (show wpList _ _ _ (Oper.mk _ (Op.box _ _) _ _ _ none :: _) _ _)); refine Fv.wpL_box F rfl rfl rfl rfl ?_; clear F; intro gb W hs1 hs2 F; clear hs1 hs2)
      | (go_at_call 25; refine (HC.out _ _ _ (HT.out.below F.B) (Fv.Fr.st F HI.out)).mono ?_; rintro e2 w2 ⟨v2, rfl, hS2, hv⟩; obtain ⟨A2, n2, c2, B2, m2, k2, dd2, lf2, ds2, Af2, cf2, Ad2, cd2, Ac2, cc2, rfl, hq2⟩ := hS2; have hS2 := (show IsSt _ _ _ _ from ⟨_, _, _, _, _, _, _, _, _, _, _, _, _, _, _, rfl, hq2⟩); clear hq2; have F2 := F.call hv; replace F := addSt F F2 hS2 HN2.out rfl; clear hv F2 hS2))
     refine bodyPost_ret (res_cTT F rfl rfl Fv.rt_Store (by repeat constructor) rfl) rfl ?_
     rw [← HP.out, doR_3, HR.out]
     exact ⟨_, rfl, F.out.2.st, F.B⟩
    ·skip
     by_cases k4 : ak = 4
     ·subst k4
      have hko := checkR_ok HK.out.1
      have HC := Lib.hid (fun Z W (v : Value) (ht : Tab W) (hi : IsSt Z W v s) => check_any v s W ht hi HK.out.1 (by have := HK.out.2; omega))
      obtain ⟨R, hR⟩ : ∃ R, checkR s = R := ⟨_, rfl⟩
      rw [hR] at HC hko
      obtain ⟨s2, er⟩ := R
      have HN2 := Lib.hid (show 1 ≤ s2.d.n from hko.d.n1)
      have HR := Lib.hid hR
      clear hR hko
      have F := Fv.Fr.start w
      go_enter Tryz.func20, Tryz.ntmps20
      go_wp2_with (first
       | ((with_reducible (show wpList _ _ _ (Oper.mk _ (Op.load _ _) _ _ _ none :: _) _ _)); first | refine Fv.ldN F rfl rfl rfl (by repeat constructor) (by repeat constructor) ?_ | refine Fv.ld1 F rfl rfl rfl (by repeat constructor) (by repeat constructor) ?_)
       | ((with_reducible (show wpList _ _ _ (Oper.mk _ (Op.store _ _ _) _ _ _ none :: _) _ _)); (first | refine Fv.stN F rfl rfl rfl rfl rfl (by first | rfl | simp [Value.oneCell']) (by repeat constructor) ?_ | refine Fv.st1 F rfl rfl rfl (by first | exact (rfl : _ = Value.int _ _) | exact (rfl : _ = Value.slice _ _ _) | exact (rfl : _ = Value.bool _) | exact (rfl : _ = Value.string _)) (by rfl) (by repeat constructor) ?_); clear F; intro W F)
       | ((with_reducible (show wpList _ _ _ (Oper.mk _ (Op.alloc _) _ _ _ none :: _) _ _)); refine Fv.al F rfl rfl ?_; clear F; intro g W hs1 hs2 F; clear hs1 hs2)
       | ((with_reducible (show wpList _ _ _ (Oper.mk _ (Op.box _ _) _ _ _ none :: _) _ _)); refine Fv.wpL_box F rfl rfl rfl rfl ?_; clear F; intro gb W hs1 hs2 F; clear hs1 hs2)
       | (go_at_call 74; refine (HC.out _ _ _ (HT.out.below F.B) (Fv.Fr.st F HI.out)).mono ?_; rintro e2 w2 ⟨v2, rfl, hS2, hv⟩; obtain ⟨A2, n2, c2, B2, m2, k2, dd2, lf2, ds2, Af2, cf2, Ad2, cd2, Ac2, cc2, rfl, hq2⟩ := hS2; have hS2 := (show IsSt _ _ _ _ from ⟨_, _, _, _, _, _, _, _, _, _, _, _, _, _, _, rfl, hq2⟩); clear hq2; have F2 := F.call hv; replace F := addSt F F2 hS2 HN2.out rfl; clear hv F2 hS2))
      refine bodyPost_ret (res_cTT F rfl rfl Fv.rt_Store (by repeat constructor) rfl) rfl ?_
      rw [← HP.out, doR_4, HR.out]
      exact ⟨_, rfl, F.out.2.st, F.B⟩
     ·skip
      by_cases k5 : ak = 5
      ·subst k5
       have HC := Lib.hid (fun W (v : Value) (hd : IsDev W v s.d) => refArm_dev v s.d aat W hd)
       obtain ⟨D2, hR⟩ : ∃ R, armed s.d aat = R := ⟨_, rfl⟩
       have hn2 : 1 ≤ D2.n := by rw [← hR]; exact HK.out.1.d.n1
       rw [hR] at HC
       have HN2 := Lib.hid hn2
       have HR := Lib.hid hR
       clear hR hn2
       have F := Fv.Fr.start w
       go_enter Tryz.func20, Tryz.ntmps20
       go_wp2_with (first
        | ((with_reducible (show wpList _ _ _ (Oper.mk _ (Op.load _ _) _ _ _ none :: _) _ _)); first | refine Fv.ldN F rfl rfl rfl (by repeat constructor) (by repeat constructor) ?_ | refine Fv.ld1 F rfl rfl rfl (by repeat constructor) (by repeat constructor) ?_)
        | ((with_reducible (show wpList _ _ _ (Oper.mk _ (Op.store _ _ _) _ _ _ none :: _) _ _)); (first | refine Fv.stN F rfl rfl rfl rfl rfl (by first | rfl | simp [Value.oneCell']) (by repeat constructor) ?_ | refine Fv.st1 F rfl rfl rfl (by first | exact (rfl : _ = Value.int _ _) | exact (rfl : _ = Value.slice _ _ _) | exact (rfl : _ = Value.bool _) | exact (rfl : _ = Value.string _)) (by rfl) (by repeat constructor) ?_); clear F; intro W F)
        | ((with_reducible (show wpList _ _ _ (Oper.mk _ (Op.alloc _) _ _ _ none :: _) _ _)); refine Fv.al F rfl rfl ?_; clear F; intro g W hs1 hs2 F; clear hs1 hs2)
        | ((with_reducible (show wpList _ _ _ (Oper.mk _ (Op.box _ _) _ _ _ none :: _) _ _)); refine Fv.wpL_box F rfl rfl rfl rfl ?_; clear F; intro gb W hs1 hs2 F; clear hs1 hs2)
        | (go_at_call 75; refine (HC.out _ _ (HS.out.1.below F.B (Nat.le_refl _))).mono ?_; rintro e2 w2 ⟨v2, rfl, hD2, hv⟩; replace F := F.call hv; clear hv; obtain ⟨A2, n2, c2, B2, m2, k2, dd2, lf2, ds2, rfl⟩ := dev_form hD2; replace F := addDev F hD2 HN2.out rfl; clear hD2))
       refine bodyPost_ret (res_cTT F rfl rfl Fv.rt_Store (by repeat constructor) rfl) rfl ?_
       rw [← HP.out, doR_5, HR.out]
       exact ⟨_, rfl, ⟨_, _, _, _, _, _, _, _, _, _, _, _, _, _, _, rfl, F.out.2.dev, (HS.out.2.1.below F.B (Nat.le_refl _)).mono (fun _ h => Or.inl h), (HS.out.2.2.1.below F.B (Nat.le_refl _)).mono (fun _ h => Or.inl h), (HS.out.2.2.2.1.below F.B (Nat.le_refl _)).mono (fun _ h => Or.inl h), HS.out.2.2.2.2⟩, F.B⟩
      ·skip
       by_cases k6 : ak = 6
       ·subst k6
        have hso := HK.out.1.d.started (⟨fs, ft, fb⟩ : Fat)
        have HST := Lib.hid (fun W (v : Value) (hd : IsDev W v s.d) => refStart_any v s.d ⟨fs, ft, fb⟩ W hd HK.out.1.d (by have := HK.out.2; omega) HA.out.f0 HA.out.f1)
        have hn2 : 2 ≤ (s.d.started ⟨fs, ft, fb⟩).n := by show 2 ≤ s.d.n; have := HK.out.1.n; omega
        obtain ⟨D2, hD2e⟩ : ∃ R, s.d.started ⟨fs, ft, fb⟩ = R := ⟨_, rfl⟩
        rw [hD2e] at HST hso hn2
        have HOP := Lib.hid (fun W (v : Value) (ht : Tab W) (hd : IsDev W v D2) => open_any v D2 W ht hd hso (by decide) hn2)
        have HN2 := Lib.hid (show 1 ≤ D2.n by omega)
        have hon := open_n D2 hso hn2
        have HDE := Lib.hid hD2e
        clear hso hn2 hD2e
        rcases open_cases D2 with ⟨s3, D3, hR⟩ | ⟨D3, er, he, hR⟩
        ·rw [hR] at HOP hon
         have HN3 := Lib.hid (show 1 ≤ s3.d.n ∧ 1 ≤ D3.n from ⟨hon.2 _ rfl, hon.1⟩)
         have HR := Lib.hid hR
         clear hR hon
         have F := Fv.Fr.start w
         go_enter Tryz.func20, Tryz.ntmps20
         go_wp2_with (first
          | ((with_reducible (show wpList _ _ _ (Oper.mk _ (Op.load _ _) _ _ _ none :: _) _ _)); first | refine Fv.ldN F rfl rfl rfl (by repeat constructor) (by repeat constructor) ?_ | refine Fv.ld1 F rfl rfl rfl (by repeat constructor) (by repeat constructor) ?_)
          | ((with_reducible (show wpList _ _ _ (Oper.mk _ (Op.store _ _ _) _ _ _ none :: _) _ _)); (first | refine Fv.stN F rfl rfl rfl rfl rfl (by first | rfl | simp [Value.oneCell']) (by repeat constructor) ?_ | refine Fv.st1 F rfl rfl rfl (by first | exact (rfl : _ = Value.int _ _) | exact (rfl : _ = Value.slice _ _ _) | exact (rfl : _ = Value.bool _) | exact (rfl : _ = Value.string _)) (by rfl) (by repeat constructor) ?_); clear F; intro W F)
          | ((with_reducible (show wpList _ _ _ (Oper.mk _ (Op.alloc _) _ _ _ none :: _) _ _)); refine Fv.al F rfl rfl ?_; clear F; intro g W hs1 hs2 F; clear hs1 hs2)
          | ((with_reducible (show wpList _ _ _ (Oper.mk _ (Op.box _ _) _ _ _ none :: _) _ _)); refine Fv.wpL_box F rfl rfl rfl rfl ?_; clear F; intro gb W hs1 hs2 F; clear hs1 hs2)
          | (go_at_call 27; refine (HST.out _ _ (HS.out.1.below F.B (Nat.le_refl _))).mono ?_; rintro e2 w2 ⟨v2, rfl, hD2, hv⟩; replace F := F.call hv; clear hv; obtain ⟨A2, n2, c2, B2, m2, k2, dd2, lf2, ds2, rfl⟩ := dev_form hD2; replace F := addDev F hD2 HN2.out rfl; clear hD2)
          | (go_at_call 26; refine (HOP.out _ _ (HT.out.below F.B) F.out.2.dev).mono ?_; rintro e3 w3 ⟨v3, vd3, rfl, hS3, _, hD3, hv⟩; replace hS3 := hS3 _ rfl; obtain ⟨A3, n3, c3, B3, m3, k3, dd3, lf3, ds3, Af3, cf3, Ad3, cd3, Ac3, cc3, rfl, hq3⟩ := hS3; have hS3 := (show IsSt _ _ _ _ from ⟨_, _, _, _, _, _, _, _, _, _, _, _, _, _, _, rfl, hq3⟩); clear hq3; have F2 := F.call hv; replace F := addSt (X := X) F F2 (hS3.mono fun b hb => Or.inr hb) HN3.out.1 rfl; clear hv F2 hS3; obtain ⟨A4, n4, c4, B4, m4, k4, dd4, lf4, ds4, rfl⟩ := dev_form hD3; replace F := addDev F hD3 HN3.out.2 rfl; clear hD3))
         refine bodyPost_ret (res_cTT F rfl rfl Fv.rt_Store (by repeat constructor) rfl) rfl ?_
         rw [← HP.out, doR_6, HDE.out, HR.out]
         exact ⟨_, rfl, F.out.1.2.st, F.B⟩
        ·rw [hR] at HOP hon
         have HN3 := Lib.hid (show 1 ≤ D3.n from hon.1)
         have HR := Lib.hid hR
         clear hR hon
         have F := Fv.Fr.start w
         go_enter Tryz.func20, Tryz.ntmps20
         go_wp2_with (first
          | ((with_reducible (show wpList _ _ _ (Oper.mk _ (Op.load _ _) _ _ _ none :: _) _ _)); first | refine Fv.ldN F rfl rfl rfl (by repeat constructor) (by repeat constructor) ?_ | refine Fv.ld1 F rfl rfl rfl (by repeat constructor) (by repeat constructor) ?_)
          | ((with_reducible (show wpList _ _ _ (Oper.mk _ (Op.store _ _ _) _ _ _ none :: _) _ _)); (first | refine Fv.stN F rfl rfl rfl rfl rfl (by first | rfl | simp [Value.oneCell']) (by repeat constructor) ?_ | refine Fv.st1 F rfl rfl rfl (by first | exact (rfl : _ = Value.int _ _) | exact (rfl : _ = Value.slice _ _ _) | exact (rfl : _ = Value.bool _) | exact (rfl : _ = Value.string _)) (by rfl) (by repeat constructor) ?_); clear F; intro W F)
          | ((with_reducible (show wpList _ _ _ (Oper.mk _ (Op.alloc _) _ _ _ none :: _) _ _)); refine Fv.al F rfl rfl ?_; clear F; intro g W hs1 hs2 F; clear hs1 hs2)
          | ((with_reducible (show wpList _ _ _ (Oper.mk _ (Op.box _ _) _ _ _ none :: _) _ _)); refine Fv.wpL_box F rfl rfl rfl rfl ?_; clear F; intro gb W hs1 hs2 F; clear hs1 hs2)
          | (go_at_call 27; refine (HST.out _ _ (HS.out.1.below F.B (Nat.le_refl _))).mono ?_; rintro e2 w2 ⟨v2, rfl, hD2, hv⟩; replace F := F.call hv; clear hv; obtain ⟨A2, n2, c2, B2, m2, k2, dd2, lf2, ds2, rfl⟩ := dev_form hD2; replace F := addDev F hD2 HN2.out rfl; clear hD2)
          | (go_at_call 26; refine (HOP.out _ _ (HT.out.below F.B) F.out.2.dev).mono ?_; rintro e3 w3 ⟨v3, vd3, rfl, _, hz3, hD3, hv⟩; obtain rfl : v3 = .agg #[.slice none 0 0, .slice none 0 0, .bool false, .int .i64 0, .int .i64 0, .int .i64 0, .int .i64 0, .int .i64 0, .int .i64 0, .slice none 0 0, .slice none 0 0, .slice none 0 0, .int .i64 0] := hz3 rfl; clear hz3; replace F := F.call hv; clear hv; obtain ⟨A4, n4, c4, B4, m4, k4, dd4, lf4, ds4, rfl⟩ := dev_form hD3; replace F := addDev F hD3 HN3.out rfl; clear hD3))
         refine bodyPost_ret (res_cTT F rfl rfl Fv.rt_Store (by repeat constructor) rfl) rfl ?_
         rw [← HP.out, doR_6, HDE.out, HR.out]
         exact ⟨_, rfl, ⟨_, _, _, _, _, _, _, _, _, _, _, _, _, _, _, rfl, F.out.2.dev, (HS.out.2.1.below F.B (Nat.le_refl _)).mono (fun _ h => Or.inl h), (HS.out.2.2.1.below F.B (Nat.le_refl _)).mono (fun _ h => Or.inl h), (HS.out.2.2.2.1.below F.B (Nat.le_refl _)).mono (fun _ h => Or.inl h), HS.out.2.2.2.2⟩, F.B⟩
       ·have HE := Lib.hid (doR_no (s := s) (x := aat) (d := ad) (f := ⟨fs, ft, fb⟩) k0 k1 k2 k3 k4 k5 k6)
        have F := Fv.Fr.start w
        go_enter Tryz.func20, Tryz.ntmps20
        go_wp2_with (first
         | ((with_reducible (show wpList _ _ _ (Oper.mk _ (Op.load _ _) _ _ _ none :: _) _ _)); first | refine Fv.ldN F rfl rfl rfl (by repeat constructor) (by repeat constructor) ?_ | refine Fv.ld1 F rfl rfl rfl (by repeat constructor) (by repeat constructor) ?_)
         | ((with_reducible (show wpList _ _ _ (Oper.mk _ (Op.store _ _ _) _ _ _ none :: _) _ _)); (first | refine Fv.stN F rfl rfl rfl rfl rfl (by first | rfl | simp [Value.oneCell']) (by repeat constructor) ?_ | refine Fv.st1 F rfl rfl rfl (by first | exact (rfl : _ = Value.int _ _) | exact (rfl : _ = Value.slice _ _ _) | exact (rfl : _ = Value.bool _) | exact (rfl : _ = Value.string _)) (by rfl) (by repeat constructor) ?_); clear F; intro W F)
         | ((with_reducible (show wpList _ _ _ (Oper.mk _ (Op.alloc _) _ _ _ none :: _) _ _)); refine Fv.al F rfl rfl ?_; clear F; intro g W hs1 hs2 F; clear hs1 hs2)
         | ((with_reducible (show wpList _ _ _ (Oper.mk _ (Op.box _ _) _ _ _ none :: _) _ _)); refine Fv.wpL_box F rfl rfl rfl rfl ?_; clear F; intro gb W hs1 hs2 F; clear hs1 hs2))
        refine bodyPost_ret (res_cTT F rfl rfl Fv.rt_Store (by repeat constructor) rfl) rfl ?_
        rw [← HP.out, HE.out]
        exact ⟨_, rfl, ⟨_, _, _, _, _, _, _, _, _, _, _, _, _, _, _, rfl, HS.out.1.below F.B (Nat.le_refl _), (HS.out.2.1.below F.B (Nat.le_refl _)).mono (fun _ h => Or.inl h), (HS.out.2.2.1.below F.B (Nat.le_refl _)).mono (fun _ h => Or.inl h), (HS.out.2.2.2.1.below F.B (Nat.le_refl _)).mono (fun _ h => Or.inl h), HS.out.2.2.2.2⟩, F.B⟩
end Go.Proofs.YtcgkbcgpnlogoaaGreatDoor.St
