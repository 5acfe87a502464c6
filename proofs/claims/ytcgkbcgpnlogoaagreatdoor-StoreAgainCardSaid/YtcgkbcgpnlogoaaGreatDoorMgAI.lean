/- Texts StI, StJ, one behind the other. -/
import Derived.Test.YtcgkbcgpnlogoaaGreatDoorStH
/- Stores: the program's Check. -/
namespace Go.Proofs.YtcgkbcgpnlogoaaGreatDoor.St
open Go.RowKit Go.Shelf Tal Sla Hd Fr Lf Lex
section
variable {s : S} {D D2 : Dev} {er : Int}
theorem checkR_down (hd : s.d.dead = true) : checkR s = (s, 10) := by unfold checkR; rw [if_pos hd]
theorem checkR_err (hd : s.d.dead = false) (h : broughtR s = (D, er)) (he : er ≠ 0) : checkR s = ({ s with d := D }, er) := by
 unfold checkR
 rw [if_neg (by rw [hd]; simp), h, if_pos he]
theorem checkR_put (hd : s.d.dead = false) (h : broughtR s = (D, 0)) (h2 : putH D (nextH s.h) = (D2, er)) (he : er ≠ 0) : checkR s = ({ s with d := D2 }, er) := by
 unfold checkR
 rw [if_neg (by rw [hd]; simp), h, if_neg (by simp)]
 simp only [h2]
 rw [if_pos he]
theorem checkR_good (hd : s.d.dead = false) (h : broughtR s = (D, 0)) (h2 : putH D (nextH s.h) = (D2, 0)) : checkR s = ({ s with d := D2, h := nextH s.h, t := 0, fr := [] }, 0) := by
 unfold checkR
 rw [if_neg (by rw [hd]; simp), h, if_neg (by simp)]
 simp only [h2]
 rw [if_neg (by simp)]
end
theorem homesR_ok {h : H} (hp : h.p ≤ 512) : ∀ (l : List Im) {D : Dev} {K : Nat}, D.Ok K → (∀ m ∈ l, m.pg < h.p.toNat) → D.n = 2 + h.p.toNat + h.l.toNat → (homesR h D l).1.Ok (K + 2 * l.length)
 | [], D, K, hok, _, _ => hok
 | m :: l, D, K, hok, hm, hn => by
  have h1 := logR_ok hok h m
  have hn1 := logR_n D h m
  unfold homesR
  split
  ·exact h1.more (by rw [List.length_cons]; omega)
  ·rename_i h2
   have hhas : (logR D h m).1.has ((homeN m.pg : Nat) : Int) = true := by
    unfold Dev.has homeN
    have := hm m List.mem_cons_self
    exact decide_eq_true (by omega)
   have hfull : (logR D h m).2.1.size = 200 := logR_full (D1 := (logR D h m).1) (by
    have : (logR D h m).2.2 = 0 := Decidable.byContradiction fun e => h2 e
    rw [← this])
   have h3 := putR_ok h1 (leafB m.pg (logR D h m).2.1) hhas (by rw [leafB_size hfull]; decide)
   split
   ·exact h3.more (by rw [List.length_cons]; omega)
   ·have h4 := homesR_ok hp l h3 (fun x hx => hm x (List.mem_cons_of_mem _ hx)) ((putR_n _ _ _).trans (hn1.trans hn))
    exact h4.more (by rw [List.length_cons]; omega)
theorem broughtR_ok {s : S} {K : Nat} (hok : OkS s K) : (broughtR s).1.Ok (K + 2 * s.fr.length + 1) := by
 have h := homesR_ok hok.h.p1 s.fr hok.d (fun m hm => (hok.fi m hm).1) hok.n
 unfold broughtR
 split
 ·exact h.more (by omega)
 ·exact flushR_ok h
theorem putH_n (D : Dev) (h : H) : (putH D h).1.n = D.n := by
 unfold putH
 split
 ·split
  ·exact (flushR_n _).trans (putR_n _ _ _)
  ·exact putR_n _ _ _
 ·rfl
set_option maxRecDepth 20000 in
set_option maxHeartbeats 6400000 in
theorem check_any {X : Nat → Prop} {K : Nat} (v : Value) (s : S) (w : World) (ht : Tab w) (hS : IsSt X w v s) (hok : OkS s K) (hK : K ≤ 90000) :
  Calls Tryz.prog 74 #[v] w (StErr X (checkR s).1 (checkR s).2 w) := by
 have HI := Lib.hid hS
 obtain ⟨A0, n0, c0, B0, m0, k0, dd0, lf0, ds0, Af, cf, Ad, cd, Ac, cc, rfl, hdev, hfr, hdi, hck, hcc⟩ := hS
 have HS := Lib.hid (And.intro hdev (And.intro hfr (And.intro hdi (And.intro hck hcc))))
 have HT := Lib.hid ht
 have HK := Lib.hid (And.intro hok hK)
 clear hdev hfr hdi hck hcc ht hok hK
 obtain ⟨post, hpost⟩ : ∃ post, StErr X (checkR s).1 (checkR s).2 w = post := ⟨_, rfl⟩
 rw [hpost]
 have HP := Lib.hid hpost
 clear hpost
 have hdd := (dev_eq HS.out.1).1
 cases dd0 with
 | true =>
  have HE := Lib.hid (checkR_down hdd.symm)
  clear hdd
  have F := Fv.Fr.start w
  go_enter Tryz.func74, Tryz.ntmps74
  go_wp2_with (first
   | ((with_reducible (show wpList _ _ _ (Oper.mk _ (Op.load _ _) _ _ _ none :: _) _ _)); first | refine Fv.ldN F rfl rfl rfl (by repeat constructor) (by repeat constructor) ?_ | refine Fv.ld1 F rfl rfl rfl (by repeat constructor) (by repeat constructor) ?_)
   | ((with_reducible (show wpList _ _ _ (Oper.mk _ (Op.store _ _ _) _ _ _ none :: _) _ _)); (first | refine Fv.stN F rfl rfl rfl rfl rfl (by first | rfl | simp [Value.oneCell']) (by repeat constructor) ?_ | refine Fv.st1 F rfl rfl rfl (by first | exact (rfl : _ = Value.int _ _) | exact (rfl : _ = Value.slice _ _ _) | exact (rfl : _ = Value.bool _) | exact (rfl : _ = Value.string _)) (by rfl) (by repeat constructor) ?_); clear F; intro W F)
   | ((with_reducible (show wpList _ _ _ (Oper.mk _ (Op.alloc _) _ _ _ none :: _) _ _)); refine Fv.al F rfl rfl ?_; clear F; intro g W hs1 hs2 F; clear hs1 hs2)
   | ((with_reducible (show wpList _ _ _ (Oper.mk _ (Op.box _ _) _ _ _ none :: _) _ _)); refine Fv.wpL_box F rfl rfl rfl rfl ?_; clear F; intro gb W hs1 hs2 F; clear hs1 hs2))
  refine bodyPost_ret (res_cT F rfl rfl Fv.rt_Store (by repeat constructor) rfl) rfl ?_
  rw [← HP.out, HE.out]
  exact ⟨_, rfl, ⟨_, _, _, _, _, _, _, _, _, _, _, _, _, _, _, rfl, HS.out.1.below F.B (Nat.le_refl _), (HS.out.2.1.below F.B (Nat.le_refl _)).mono (fun _ h => Or.inl h), (HS.out.2.2.1.below F.B (Nat.le_refl _)).mono (fun _ h => Or.inl h), (HS.out.2.2.2.1.below F.B (Nat.le_refl _)).mono (fun _ h => Or.inl h), HS.out.2.2.2.2⟩, F.B⟩
 | false =>
  have hbn := broughtR_n s
  have hbo := broughtR_ok HK.out.1
  have hfl := HK.out.1.fl
  have HBR := Lib.hid (fun W (v : Value) (ht : Tab W) (hi : IsSt X W v s) => brought_any v s W ht hi HK.out.1 HK.out.2)
  obtain ⟨R, hR⟩ : ∃ R, broughtR s = R := ⟨_, rfl⟩
  rw [hR] at HBR hbn hbo
  obtain ⟨D1, er⟩ := R
  have HN1 := Lib.hid (show 1 ≤ D1.n by rw [show D1.n = s.d.n from hbn]; exact HK.out.1.d.n1)
  have HO1 := Lib.hid (And.intro hbo hbn)
  have HR := Lib.hid hR
  have HDD := Lib.hid hdd.symm
  have e0 := HK.out.1.h.e0
  have e1 := HK.out.1.h.e1
  clear hR hbn hbo hdd hfl
  have F := Fv.Fr.start w
  go_enter Tryz.func74, Tryz.ntmps74
  go_upto_region 6 with (first
   | ((with_reducible (show wpList _ _ _ (Oper.mk _ (Op.load _ _) _ _ _ none :: _) _ _)); first | refine Fv.ldN F rfl rfl rfl (by repeat constructor) (by repeat constructor) ?_ | refine Fv.ld1 F rfl rfl rfl (by repeat constructor) (by repeat constructor) ?_)
   | ((with_reducible (show wpList _ _ _ (Oper.mk _ (Op.store _ _ _) _ _ _ none :: _) _ _)); (first | refine Fv.stN F rfl rfl rfl rfl rfl (by first | rfl | simp [Value.oneCell']) (by repeat constructor) ?_ | refine Fv.st1 F rfl rfl rfl (by first | exact (rfl : _ = Value.int _ _) | exact (rfl : _ = Value.slice _ _ _) | exact (rfl : _ = Value.bool _) | exact (rfl : _ = Value.string _)) (by rfl) (by repeat constructor) ?_); clear F; intro W F)
   | ((with_reducible (show wpList _ _ _ (Oper.mk _ (Op.alloc _) _ _ _ none :: _) _ _)); refine Fv.al F rfl rfl ?_; clear F; intro g W hs1 hs2 F; clear hs1 hs2)
   | ((with_reducible (show wpList _ _ _ (Oper.mk _ (Op.box _ _) _ _ _ none :: _) _ _)); refine Fv.wpL_box F rfl rfl rfl rfl ?_; clear F; intro gb W hs1 hs2 F; clear hs1 hs2)
   | (go_at_call 146; refine (HBR.out _ _ (HT.out.below F.B) (HI.out.below F.B)).mono ?_; rintro e4 w4 ⟨v1, rfl, hD1, hv⟩; replace F := F.call hv; clear hv; obtain ⟨A1, n1, c1, B1, m1, k1, dd1, lf1, ds1, rfl⟩ := dev_form hD1; replace F := addDev F hD1 HN1.out rfl; clear hD1))
  by_cases he : er = 0
  ·subst he
   have HPT := Lib.hid (fun W (ht : Tab W) (hd : IsDev W (.agg #[.slice A1 n1 c1, .slice B1 m1 k1, .bool dd1, .int .i64 lf1, .int .i64 ds1]) D1) => headPut (K := K + 2 * s.fr.length + 1) _ D1 (nextH s.h) W ht hd HO1.out.1 (by have := HK.out.2; have := HK.out.1.fl; omega) (by have := HK.out.1.n; have := HO1.out.2; omega))
   have hn2 : 1 ≤ (putH D1 (nextH s.h)).1.n := by rw [putH_n]; exact HN1.out
   obtain ⟨R2, hR2⟩ : ∃ R, putH D1 (nextH s.h) = R := ⟨_, rfl⟩
   rw [hR2] at HPT hn2
   obtain ⟨D2, er2⟩ := R2
   have HN2 := Lib.hid hn2
   have HR2 := Lib.hid hR2
   clear hR2 hn2
   go_upto_region 9 with (first
    | ((with_reducible (show wpList _ _ _ (Oper.mk _ (Op.load _ _) _ _ _ none :: _) _ _)); first | refine Fv.ldN F rfl rfl rfl (by repeat constructor) (by repeat constructor) ?_ | refine Fv.ld1 F rfl rfl rfl (by repeat constructor) (by repeat constructor) ?_)
    | ((with_reducible (show wpList _ _ _ (Oper.mk _ (Op.store _ _ _) _ _ _ none :: _) _ _)); (first | refine Fv.stN F rfl rfl rfl rfl rfl (by first | rfl | simp [Value.oneCell']) (by repeat constructor) ?_ | refine Fv.st1 F rfl rfl rfl (by first | exact (rfl : _ = Value.int _ _) | exact (rfl : _ = Value.slice _ _ _) | exact (rfl : _ = Value.bool _) | exact (rfl : _ = Value.string _)) (by rfl) (by repeat constructor) ?_); clear F; intro W F)
    | ((with_reducible (show wpList _ _ _ (Oper.mk _ (Op.alloc _) _ _ _ none :: _) _ _)); refine Fv.al F rfl rfl ?_; clear F; intro g W hs1 hs2 F; clear hs1 hs2)
    | (go_at_call 68; refine (HPT.out _ (HT.out.below F.B) F.out.2.dev).mono ?_; rintro e5 w5 ⟨v2, rfl, hD2, hv⟩; replace F := F.call hv; clear hv; obtain ⟨A2, n2, c2, B2, m2, k2, dd2, lf2, ds2, rfl⟩ := dev_form hD2; replace F := addDev F hD2 HN2.out rfl; clear hD2))
   by_cases he2 : er2 = 0
   ·subst he2
    have HE := Lib.hid (checkR_good HDD.out HR.out HR2.out)
    go_wp2_with (first
     | ((with_reducible (show wpList _ _ _ (Oper.mk _ (Op.load _ _) _ _ _ none :: _) _ _)); first | refine Fv.ldN F rfl rfl rfl (by repeat constructor) (by repeat constructor) ?_ | refine Fv.ld1 F rfl rfl rfl (by repeat constructor) (by repeat constructor) ?_)
     | ((with_reducible (show wpList _ _ _ (Oper.mk _ (Op.store _ _ _) _ _ _ none :: _) _ _)); (first | refine Fv.stN F rfl rfl rfl rfl rfl (by first | rfl | simp [Value.oneCell']) (by repeat constructor) ?_ | refine Fv.st1 F rfl rfl rfl (by first | exact (rfl : _ = Value.int _ _) | exact (rfl : _ = Value.slice _ _ _) | exact (rfl : _ = Value.bool _) | exact (rfl : _ = Value.string _)) (by rfl) (by repeat constructor) ?_); clear F; intro W F)
     | ((with_reducible (show wpList _ _ _ (Oper.mk _ (Op.alloc _) _ _ _ none :: _) _ _)); refine Fv.al F rfl rfl ?_; clear F; intro g W hs1 hs2 F; clear hs1 hs2))
    refine bodyPost_ret (res_cT F rfl rfl Fv.rt_Store (by repeat constructor) rfl) rfl ?_
    rw [← HP.out, HE.out]
    exact ⟨_, rfl, ⟨_, _, _, _, _, _, _, _, _, _, _, _, _, _, _, rfl, F.out.2.dev, HasX.nil, (HS.out.2.2.1.below F.B (Nat.le_refl _)).mono (fun _ h => Or.inl h), (HS.out.2.2.2.1.below F.B (Nat.le_refl _)).mono (fun _ h => Or.inl h), HS.out.2.2.2.2⟩, F.B⟩
   ·have HE := Lib.hid (checkR_put HDD.out HR.out HR2.out he2)
    go_wp2_with (first
     | ((with_reducible (show wpList _ _ _ (Oper.mk _ (Op.load _ _) _ _ _ none :: _) _ _)); first | refine Fv.ldN F rfl rfl rfl (by repeat constructor) (by repeat constructor) ?_ | refine Fv.ld1 F rfl rfl rfl (by repeat constructor) (by repeat constructor) ?_)
     | ((with_reducible (show wpList _ _ _ (Oper.mk _ (Op.store _ _ _) _ _ _ none :: _) _ _)); (first | refine Fv.stN F rfl rfl rfl rfl rfl (by first | rfl | simp [Value.oneCell']) (by repeat constructor) ?_ | refine Fv.st1 F rfl rfl rfl (by first | exact (rfl : _ = Value.int _ _) | exact (rfl : _ = Value.slice _ _ _) | exact (rfl : _ = Value.bool _) | exact (rfl : _ = Value.string _)) (by rfl) (by repeat constructor) ?_); clear F; intro W F)
     | ((with_reducible (show wpList _ _ _ (Oper.mk _ (Op.alloc _) _ _ _ none :: _) _ _)); refine Fv.al F rfl rfl ?_; clear F; intro g W hs1 hs2 F; clear hs1 hs2))
    refine bodyPost_ret (res_cT F rfl rfl Fv.rt_Store (by repeat constructor) rfl) rfl ?_
    rw [← HP.out, HE.out]
    exact ⟨_, rfl, ⟨_, _, _, _, _, _, _, _, _, _, _, _, _, _, _, rfl, F.out.2.dev, (HS.out.2.1.below F.B (Nat.le_refl _)).mono (fun _ h => Or.inl h), (HS.out.2.2.1.below F.B (Nat.le_refl _)).mono (fun _ h => Or.inl h), (HS.out.2.2.2.1.below F.B (Nat.le_refl _)).mono (fun _ h => Or.inl h), HS.out.2.2.2.2⟩, F.B⟩
  ·have HE := Lib.hid (checkR_err HDD.out HR.out he)
   go_wp2_with (first
    | ((with_reducible (show wpList _ _ _ (Oper.mk _ (Op.load _ _) _ _ _ none :: _) _ _)); first | refine Fv.ldN F rfl rfl rfl (by repeat constructor) (by repeat constructor) ?_ | refine Fv.ld1 F rfl rfl rfl (by repeat constructor) (by repeat constructor) ?_)
    | ((with_reducible (show wpList _ _ _ (Oper.mk _ (Op.store _ _ _) _ _ _ none :: _) _ _)); (first | refine Fv.stN F rfl rfl rfl rfl rfl (by first | rfl | simp [Value.oneCell']) (by repeat constructor) ?_ | refine Fv.st1 F rfl rfl rfl (by first | exact (rfl : _ = Value.int _ _) | exact (rfl : _ = Value.slice _ _ _) | exact (rfl : _ = Value.bool _) | exact (rfl : _ = Value.string _)) (by rfl) (by repeat constructor) ?_); clear F; intro W F)
    | ((with_reducible (show wpList _ _ _ (Oper.mk _ (Op.alloc _) _ _ _ none :: _) _ _)); refine Fv.al F rfl rfl ?_; clear F; intro g W hs1 hs2 F; clear hs1 hs2))
   refine bodyPost_ret (res_cT F rfl rfl Fv.rt_Store (by repeat constructor) rfl) rfl ?_
   rw [← HP.out, HE.out]
   exact ⟨_, rfl, ⟨_, _, _, _, _, _, _, _, _, _, _, _, _, _, _, rfl, F.out.2.dev, (HS.out.2.1.below F.B (Nat.le_refl _)).mono (fun _ h => Or.inl h), (HS.out.2.2.1.below F.B (Nat.le_refl _)).mono (fun _ h => Or.inl h), (HS.out.2.2.2.1.below F.B (Nat.le_refl _)).mono (fun _ h => Or.inl h), HS.out.2.2.2.2⟩, F.B⟩
end Go.Proofs.YtcgkbcgpnlogoaaGreatDoor.St

/- Stores: the program's frames: rows of the call's own that grow. -/
namespace Go.Proofs.YtcgkbcgpnlogoaaGreatDoor.St
open Go.RowKit Go.Shelf Tal Sla Hd Fr Lf Lex
/-- A row of the call's own, which is no variable. -/
def OwnR (t : TypeId) (k base : Nat) (v : Value) (n : Nat) (xs : List Value) : Fv.Fact := fun L W => W.ownsRow base t k v n xs ∧ ∀ q, v.ownBlock = some q → Fv.Free L W q
theorem OwnR.ext {t : TypeId} {k base n : Nat} {v : Value} {xs : List Value} {L L' : List Nat} {W W' : World} (h : OwnR t k base v n xs L W) (e : Fv.Ext L W L' W') : OwnR t k base v n xs L' W' := by
 refine ⟨⟨h.1.1, ?_⟩, fun q hq => e.free _ (h.2 q hq)⟩
 rcases h.1.2 with h2 | ⟨g, cap, cur, e1, e2, e3, r⟩
 ·exact Or.inl h2
 ·exact Or.inr ⟨g, cap, cur, e1, e2, by rw [e.block g (h.2 g (by rw [e1]; rfl)), e3], r⟩
def noTy (t : TypeId) : List Fv.V → Bool
 | [] => true
 | (_, u, _) :: r => (u != t) && noTy t r
theorem noTy_mem {t : TypeId} : ∀ {vs : List Fv.V}, noTy t vs = true → ∀ x ∈ vs, x.2.1 ≠ t
 | (g, u, cs) :: r, h, x, hx => by
  have h : ((u != t) && noTy t r) = true := h
  rw [Bool.and_eq_true] at h
  rcases List.mem_cons.1 hx with rfl | hx
  ·simpa using h.1
  ·exact noTy_mem h.2 x hx
section
variable {w0 W W' : World} {vs : List Fv.V} {Φ : Fv.Fact} {t : TypeId} {k base n : Nat} {v : Value} {xs : List Value}
theorem own_free (F : Fv.Fr w0 W vs Φ) (h : W.ownsRow base t k v n xs) (ht : noTy t vs = true) : ∀ q, v.ownBlock = some q → Fv.Free (vs.map (·.1)) W q := by
 intro q hq
 refine ⟨(h.lt q hq).2, fun hm => ?_⟩
 obtain ⟨x, hx, rfl⟩ := List.mem_map.1 hm
 rcases h.2 with ⟨rfl, _⟩ | ⟨g, cap, cur, rfl, _, hg, _⟩
 ·cases hq
 ·have hq : some g = some x.1 := hq
  injection hq with hq
  have := (F.at_ x hx).2
  rw [← hq, hg] at this
  injection this with this
  injection this with _ this _
  exact noTy_mem ht x hx this.symm
theorem addOwn (F : Fv.Fr w0 W vs Φ) (h : W.ownsRow base t k v n xs) (ht : noTy t vs = true) : Fv.Fr w0 W vs (fun L w => Φ L w ∧ OwnR t k base v n xs L w) :=
 F.add fun _ _ e => OwnR.ext ⟨h, own_free F h ht⟩ e
theorem frGrown {row : Option Nat} (F : Fv.Fr w0 W vs Φ) (hg : W.grownBy W' row) (hr : ∀ q, row = some q → w0.heap.size ≤ q ∧ Fv.Free (vs.map (·.1)) W q) : Fv.Fr w0 W' vs (fun _ _ => True) :=
 ⟨F.B.grown hg F.B.size (fun q hq => (hr q hq).1), fun x hx => ⟨(F.at_ x hx).1, (hg.block _ (F.lt hx) (fun e => (hr x.1 e.symm).2.2 (List.mem_map_of_mem hx))).trans (F.at_ x hx).2⟩, F.nd, fun _ _ _ => trivial⟩
end
def cellsFr (f : F) : List Value := [.int .i64 f.e, .int .i64 f.i, .bool f.c, .int .i64 f.p, .string f.d]
theorem cellsFr_len (f : F) : (cellsFr f).length = 5 := rfl
theorem infoFr : (Tryz.prog.info? 124).map (fun i => (i.zero, i.size, i.bytes)) = some (some (.agg #[.int .i64 0, .int .i64 0, .bool false, .int .i64 0, .string ⟨#[]⟩]), 5, 48) := by kernel_rfl
theorem cells_snoc {α : Type} (R : α → List Value) (l : List α) (x : α) : Li.cellsL R l ++ R x = Li.cellsL R (l ++ [x]) := by unfold Li.cellsL; simp
def FramesPost (l : List F) (w : World) (e : Ending) (w' : World) : Prop := ∃ v, e = .returned v ∧ w'.ownsRow w.heap.size 124 5 v l.length (Li.cellsL cellsFr l) ∧ Below w.heap.size w w'
theorem mapIdx_take {α β : Type} (f : Nat → α → β) {l : List α} {k : Nat} {x : α} (h : l[k]? = some x) : (l.take (k + 1)).mapIdx f = (l.take k).mapIdx f ++ [f k x] := by
 rw [List.take_add_one, h]
 show ((l.take k) ++ [x]).mapIdx f = _
 rw [List.mapIdx_append, List.length_take, Nat.min_eq_left (Nat.le_of_lt (List.getElem?_eq_some_iff.1 h).1)]
 simp
set_option maxRecDepth 20000 in
set_option maxHeartbeats 6400000 in
theorem frames_any {X : Nat → Prop} {K : Nat} (v : Value) (s : S) (w : World) (ht : Tab w) (hS : IsSt X w v s) (hok : OkS s K) (hK : K ≤ 99990) :
  Calls Tryz.prog 200 #[v] w (FramesPost (framesL s) w) := by
 obtain ⟨iE, hiE, hv0, hv1, hv2⟩ := info_parts infoFr
 obtain ⟨A0, n0, c0, B0, m0, k0, dd0, lf0, ds0, Af, cf, Ad, cd, Ac, cc, rfl, hdev, hfr, hdi, hck, hcc⟩ := hS
 have HS := Lib.hid (And.intro hdev (And.intro hfr (And.intro hdi (And.intro hck hcc))))
 have HT := Lib.hid ht
 have HK := Lib.hid (And.intro hok hK)
 clear hdev hfr hdi hck hcc ht hok hK
 obtain ⟨post, hpost⟩ : ∃ post, FramesPost (framesL s) w = post := ⟨_, rfl⟩
 rw [hpost]
 have HP := Lib.hid hpost
 clear hpost
 have hdl := HK.out.1.dl
 have ht9 := HK.out.1.t
 have hl9 := HK.out.1.h.l1
 have F := Fv.Fr.start w
 go_enter Tryz.func200, Tryz.ntmps200
 go_upto_region 2 with (first
  | ((with_reducible (show wpList _ _ _ (Oper.mk _ (Op.load _ _) _ _ _ none :: _) _ _)); first | refine Fv.ldN F rfl rfl rfl (by repeat constructor) (by repeat constructor) ?_ | refine Fv.ld1 F rfl rfl rfl (by repeat constructor) (by repeat constructor) ?_)
  | ((with_reducible (show wpList _ _ _ (Oper.mk _ (Op.store _ _ _) _ _ _ none :: _) _ _)); (first | refine Fv.stN F rfl rfl rfl rfl rfl (by first | rfl | simp [Value.oneCell']) (by repeat constructor) ?_ | refine Fv.st1 F rfl rfl rfl (by first | exact (rfl : _ = Value.int _ _) | exact (rfl : _ = Value.slice _ _ _) | exact (rfl : _ = Value.bool _) | exact (rfl : _ = Value.string _)) (by rfl) (by repeat constructor) ?_); clear F; intro W F)
  | ((with_reducible (show wpList _ _ _ (Oper.mk _ (Op.alloc _) _ _ _ none :: _) _ _)); refine Fv.al F rfl rfl ?_; clear F; intro g W hs1 hs2 F; clear hs1 hs2)
  | ((with_reducible (show wpList _ _ _ (Oper.mk _ (Op.box _ _) _ _ _ none :: _) _ _)); refine Fv.wpL_box F rfl rfl rfl rfl ?_; clear F; intro gb W hs1 hs2 F; clear hs1 hs2)
  | (go_at_call 134; refine (need_any A0 n0 c0 B0 m0 k0 dd0 lf0 ds0 s.h (s.t : Nat) Af s.fr.length cf Ad s.di.length cd Ac s.c.l.length cc (s.c.h : Nat) _ (by omega)).mono ?_; rintro e1 w1 ⟨rfl, hv⟩; replace F := F.call hv; clear hv)
  | ((with_reducible (show wpList _ _ _ (Oper.mk _ (Op.makeSlice _ _ _) _ _ _ none :: _) _ _)); refine wpList_make_own _ rfl _ _ 227 rfl w.heap.size 124 iE _ 5 Tryz.underlying227 hiE hv0 hv1 _ _ _ (s.di.length + 1) rfl rfl (by omega) (by rw [hv2]; omega) (by unfold maxLen; omega) F.B.size ?_; intro w1 hown1 hgrow1))
 replace F := addOwn (frGrown F hgrow1 (fun q hq => by cases hq)) hown1 rfl
 clear hgrow1 hown1
 go_upto_region 3 with (first
  | ((with_reducible (show wpList _ _ _ (Oper.mk _ (Op.load _ _) _ _ _ none :: _) _ _)); first | refine Fv.ldN F rfl rfl rfl (by repeat constructor) (by repeat constructor) ?_ | refine Fv.ld1 F rfl rfl rfl (by repeat constructor) (by repeat constructor) ?_)
  | ((with_reducible (show wpList _ _ _ (Oper.mk _ (Op.store _ _ _) _ _ _ none :: _) _ _)); (first | refine Fv.stN F rfl rfl rfl rfl rfl (by first | rfl | simp [Value.oneCell']) (by repeat constructor) ?_ | refine Fv.st1 F rfl rfl rfl (by first | exact (rfl : _ = Value.int _ _) | exact (rfl : _ = Value.slice _ _ _) | exact (rfl : _ = Value.bool _) | exact (rfl : _ = Value.string _)) (by rfl) (by repeat constructor) ?_); clear F; intro W F)
  | ((with_reducible (show wpList _ _ _ (Oper.mk _ (Op.alloc _) _ _ _ none :: _) _ _)); refine Fv.al F rfl rfl ?_; clear F; intro g W hs1 hs2 F; clear hs1 hs2))
 go_loopw [3, 13] (fun s3 s13 wr => ∃ k : Nat, s13 = .int .i64 (k : Nat) ∧ k ≤ s.di.length ∧ Fv.Fr w wr [(gb, 37, [.slice A0 n0 c0, .slice B0 m0 k0, .bool dd0, .int .i64 lf0, .int .i64 ds0, .int .i64 s.h.p, .int .i64 s.h.l, .int .i64 s.h.e, .int .i64 (s.t : Nat), .slice Af s.fr.length cf, .slice Ad s.di.length cd, .slice Ac s.c.l.length cc, .int .i64 (s.c.h : Nat)])] (fun L w2 => True ∧ OwnR 124 5 w.heap.size s3 k (Li.cellsL cellsFr ((s.di.take k).mapIdx (pageF s.h s.t))) L w2)) (fun _ s13 _ => s.di.length - (intOf s13).toNat)
 case atStart => exact ⟨0, rfl, Nat.zero_le _, F⟩
 case round =>
  clear F
  obtain ⟨k, rfl, hk, F⟩ := hrel
  by_cases hlt : k < s.di.length
  ·have i1 : (k : Int) < (s.di.length : Int) := by omega
   have i0 : (0 : Int) ≤ (k : Int) := by omega
   obtain ⟨y, hy⟩ : ∃ y, s.di[k]? = some y := ⟨_, List.getElem?_eq_getElem hlt⟩
   obtain ⟨b0, q0, hAd, _, hb0, hR⟩ := SlP.HasE.at HS.out.2.2.1.p hy
   have d0 : (_ : World).cell? ⟨b0, q0 + k * 2, none⟩ = some (.int .i64 (y.no : Nat)) := (F.B.cell (p := ⟨b0, q0 + k * 2, none⟩) hb0).trans (hR 0 _ rfl)
   have d1 : (_ : World).cell? ⟨b0, q0 + k * 2 + 1, none⟩ = some (.string y.data) := (F.B.cell (p := ⟨b0, q0 + k * 2 + 1, none⟩) hb0).trans (hR 1 _ rfl)
   subst hAd
   have HY := Lib.hid hy
   clear hR hb0 hy
   go_upto_region 5 with (first
    | ((with_reducible (show wpList _ _ _ (Oper.mk _ (Op.load _ _) _ _ _ none :: _) _ _)); first | refine Fv.ldN F rfl rfl rfl (by repeat constructor) (by repeat constructor) ?_ | refine Fv.ld1 F rfl rfl rfl (by repeat constructor) (by repeat constructor) ?_)
    | ((with_reducible (show wpList _ _ _ (Oper.mk _ (Op.store _ _ _) _ _ _ none :: _) _ _)); (first | refine Fv.stN F rfl rfl rfl rfl rfl (by first | rfl | simp [Value.oneCell']) (by repeat constructor) ?_ | refine Fv.st1 F rfl rfl rfl (by first | exact (rfl : _ = Value.int _ _) | exact (rfl : _ = Value.slice _ _ _) | exact (rfl : _ = Value.bool _) | exact (rfl : _ = Value.string _)) (by rfl) (by repeat constructor) ?_); clear F; intro W F)
    | ((with_reducible (show wpList _ _ _ (Oper.mk _ (Op.alloc _) _ _ _ none :: _) _ _)); refine Fv.al F rfl rfl ?_; clear F; intro g W hs1 hs2 F; clear hs1 hs2))
   clear d0 d1
   go_upto_region 6 with (first
    | ((with_reducible (show wpList _ _ _ (Oper.mk _ (Op.load _ _) _ _ _ none :: _) _ _)); first | refine Fv.ldN F rfl rfl rfl (by repeat constructor) (by repeat constructor) ?_ | refine Fv.ld1 F rfl rfl rfl (by repeat constructor) (by repeat constructor) ?_)
    | ((with_reducible (show wpList _ _ _ (Oper.mk _ (Op.store _ _ _) _ _ _ none :: _) _ _)); (first | refine Fv.stN F rfl rfl rfl rfl rfl (by first | rfl | simp [Value.oneCell']) (by repeat constructor) ?_ | refine Fv.st1 F rfl rfl rfl (by first | exact (rfl : _ = Value.int _ _) | exact (rfl : _ = Value.slice _ _ _) | exact (rfl : _ = Value.bool _) | exact (rfl : _ = Value.string _)) (by rfl) (by repeat constructor) ?_); clear F; intro W F)
    | ((with_reducible (show wpList _ _ _ (Oper.mk _ (Op.alloc _) _ _ _ none :: _) _ _)); refine Fv.al F rfl rfl ?_; clear F; intro g W hs1 hs2 F; clear hs1 hs2)
    | ((with_reducible (show wpList _ _ _ (Oper.mk _ (Op.call { callee := Callee.builtin Builtin.append, args := _, argTypes := _ }) _ _ _ none :: _) _ _)); refine wpList_append_own _ rfl _ _ 227 rfl w.heap.size 124 iE (.agg #[.int .i64 0, .int .i64 0, .bool false, .int .i64 0, .string ⟨#[]⟩]) 5 48 Tryz.underlying227 hiE hv0 hv1 hv2 rfl (by decide) (u3) (k) _ rfl (Li.own_below F.out.2.1 ((Below.refl _ _).alloc (Nat.le_refl _) _) (Nat.le_refl _)) ⟨_, 0, none⟩ 1 1 _ rfl rfl (World.news_of_block (heap_alloc_new _ _)) (by simp [Value.oneCell']) (by unfold maxLen; omega) (by omega) (Nat.le_trans F.B.size (by simp)) ?_; intro v5 w5 hown5 hgrow5 _))
   have F5 := frGrown (F.call ((Below.refl _ _).alloc (Nat.le_refl _) _)) hgrow5 (fun q hq => ⟨(F.out.2.1.lt q hq).1, ⟨Nat.lt_of_lt_of_le (F.out.2.2 q hq).1 (by simp), (F.out.2.2 q hq).2⟩⟩)
   replace F := F5
   clear F5 hgrow5
   have hx : Li.cellsL cellsFr ((s.di.take k).mapIdx (pageF s.h s.t)) ++ [.int .i64 s.h.e, .int .i64 ((s.t : Int) + (k : Int)), .bool false, .int .i64 (y.no : Nat), .string y.data] = Li.cellsL cellsFr ((s.di.take (k + 1)).mapIdx (pageF s.h s.t)) := by
    rw [mapIdx_take _ HY.out, ← cells_snoc]
    simp [cellsFr, pageF]
   have hown6 : w5.ownsRow w.heap.size 124 5 v5 (k + 1) (Li.cellsL cellsFr ((s.di.take (k + 1)).mapIdx (pageF s.h s.t))) := by rw [← hx]; exact hown5
   replace F := addOwn F hown6 rfl
   clear hown5 hown6 hx
   go_wp2_with (first
    | ((with_reducible (show wpList _ _ _ (Oper.mk _ (Op.load _ _) _ _ _ none :: _) _ _)); first | refine Fv.ldN F rfl rfl rfl (by repeat constructor) (by repeat constructor) ?_ | refine Fv.ld1 F rfl rfl rfl (by repeat constructor) (by repeat constructor) ?_)
    | ((with_reducible (show wpList _ _ _ (Oper.mk _ (Op.store _ _ _) _ _ _ none :: _) _ _)); (first | refine Fv.stN F rfl rfl rfl rfl rfl (by first | rfl | simp [Value.oneCell']) (by repeat constructor) ?_ | refine Fv.st1 F rfl rfl rfl (by first | exact (rfl : _ = Value.int _ _) | exact (rfl : _ = Value.slice _ _ _) | exact (rfl : _ = Value.bool _) | exact (rfl : _ = Value.string _)) (by rfl) (by repeat constructor) ?_); clear F; intro W F)
    | ((with_reducible (show wpList _ _ _ (Oper.mk _ (Op.alloc _) _ _ _ none :: _) _ _)); refine Fv.al F rfl rfl ?_; clear F; intro g W hs1 hs2 F; clear hs1 hs2))
   go_roundw
   case rel => exact ⟨k + 1, by go_num, by omega, F.tail⟩
   case measure => simp [intOf]; omega
  ·obtain rfl : k = s.di.length := by omega
   have i1 : ¬ (s.di.length : Int) < (s.di.length : Int) := by omega
   go_wp2_with (first
    | ((with_reducible (show wpList _ _ _ (Oper.mk _ (Op.load _ _) _ _ _ none :: _) _ _)); first | refine Fv.ldN F rfl rfl rfl (by repeat constructor) (by repeat constructor) ?_ | refine Fv.ld1 F rfl rfl rfl (by repeat constructor) (by repeat constructor) ?_)
    | ((with_reducible (show wpList _ _ _ (Oper.mk _ (Op.store _ _ _) _ _ _ none :: _) _ _)); (first | refine Fv.stN F rfl rfl rfl rfl rfl (by first | rfl | simp [Value.oneCell']) (by repeat constructor) ?_ | refine Fv.st1 F rfl rfl rfl (by first | exact (rfl : _ = Value.int _ _) | exact (rfl : _ = Value.slice _ _ _) | exact (rfl : _ = Value.bool _) | exact (rfl : _ = Value.string _)) (by rfl) (by repeat constructor) ?_); clear F; intro W F)
    | ((with_reducible (show wpList _ _ _ (Oper.mk _ (Op.alloc _) _ _ _ none :: _) _ _)); refine Fv.al F rfl rfl ?_; clear F; intro g W hs1 hs2 F; clear hs1 hs2)
    | ((with_reducible (show wpList _ _ _ (Oper.mk _ (Op.call { callee := Callee.builtin Builtin.append, args := _, argTypes := _ }) _ _ _ none :: _) _ _)); refine wpList_append_own _ rfl _ _ 227 rfl w.heap.size 124 iE (.agg #[.int .i64 0, .int .i64 0, .bool false, .int .i64 0, .string ⟨#[]⟩]) 5 48 Tryz.underlying227 hiE hv0 hv1 hv2 rfl (by decide) (u3) (s.di.length) _ rfl (Li.own_below F.out.2.1 ((Below.refl _ _).alloc (Nat.le_refl _) _) (Nat.le_refl _)) ⟨_, 0, none⟩ 1 1 _ rfl rfl (World.news_of_block (heap_alloc_new _ _)) (by simp [Value.oneCell']) (by unfold maxLen; omega) (by omega) (Nat.le_trans F.B.size (by simp)) ?_; intro v5 w5 hown5 hgrow5 _))
   have F5 := frGrown (F.call ((Below.refl _ _).alloc (Nat.le_refl _) _)) hgrow5 (fun q hq => ⟨(F.out.2.1.lt q hq).1, ⟨Nat.lt_of_lt_of_le (F.out.2.2 q hq).1 (by simp), (F.out.2.2 q hq).2⟩⟩)
   have hx : Li.cellsL cellsFr ((s.di.take s.di.length).mapIdx (pageF s.h s.t)) ++ [.int .i64 s.h.e, .int .i64 ((s.t : Int) + (s.di.length : Int)), .bool true, .int .i64 (s.di.length : Nat), .string ⟨#[]⟩] = Li.cellsL cellsFr (framesL s) := by
    unfold framesL
    rw [List.take_length, ← cells_snoc]
    simp [cellsFr, endF]
   have HO5 := Lib.hid (And.intro (show w5.ownsRow w.heap.size 124 5 v5 (framesL s).length (Li.cellsL cellsFr (framesL s)) by rw [← hx, show (framesL s).length = s.di.length + 1 by unfold framesL; simp]; exact hown5) F5.B)
   clear F5 hgrow5 hown5 hx F
   go_wp2
   rw [← HP.out]
   exact ⟨_, rfl, HO5.out.1, HO5.out.2⟩
end Go.Proofs.YtcgkbcgpnlogoaaGreatDoor.St
