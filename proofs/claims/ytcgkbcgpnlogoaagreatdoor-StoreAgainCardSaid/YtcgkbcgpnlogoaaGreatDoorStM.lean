/- Stores: the program's Commit. -/
import Derived.Test.YtcgkbcgpnlogoaaGreatDoorStL
namespace Go.Proofs.YtcgkbcgpnlogoaaGreatDoor.St
open Go.RowKit Go.Shelf Tal Sla Hd Fr Lf Lex
/-- A store in memory whose blocks are free. -/
def StF (X : Nat → Prop) (n0 : Nat) (v : Value) (s : S) : Fv.Fact := fun L w =>
 ∃ (A0 : Option Addr) (n1 c0 : Nat) (B0 : Option Addr) (m0 k0 : Nat) (dd0 : Bool) (lf0 ds0 : Int) (Af : Option Addr) (cf : Nat) (Ad : Option Addr) (cd : Nat) (Ac : Option Addr) (cc : Nat),
  v = .agg #[.slice A0 n1 c0, .slice B0 m0 k0, .bool dd0, .int .i64 lf0, .int .i64 ds0, .int .i64 s.h.p, .int .i64 s.h.l, .int .i64 s.h.e, .int .i64 (s.t : Nat), .slice Af s.fr.length cf, .slice Ad s.di.length cd, .slice Ac s.c.l.length cc, .int .i64 (s.c.h : Nat)] ∧
  DevF (.agg #[.slice A0 n1 c0, .slice B0 m0 k0, .bool dd0, .int .i64 lf0, .int .i64 ds0]) s.d L w ∧ HasX SlI.cellsE 2 w (fun b => (X b ∨ n0 ≤ b) ∧ Fv.Free L w b) Af cf s.fr ∧ HasX SlP.cellsE 2 w (fun b => (X b ∨ n0 ≤ b) ∧ Fv.Free L w b) Ad cd s.di ∧ Cl.HasPX w (fun b => (X b ∨ n0 ≤ b) ∧ Fv.Free L w b) Ac cc s.c.l ∧ s.c.l.length ≤ cc
section
variable {X : Nat → Prop} {n0 : Nat} {v : Value} {s : S} {L L' : List Nat} {w0 W W' : World} {vs : List Fv.V} {Φ : Fv.Fact}
theorem StF.ext (h : StF X n0 v s L W) (e : Fv.Ext L W L' W') : StF X n0 v s L' W' := by
 obtain ⟨A0, n1, c0, B0, m0, k0, dd0, lf0, ds0, Af, cf, Ad, cd, Ac, cc, hv, hd, hf, hi, hc, hl⟩ := h
 refine ⟨A0, n1, c0, B0, m0, k0, dd0, lf0, ds0, Af, cf, Ad, cd, Ac, cc, hv, hd.ext e, ⟨hasL_ext hf.p (fun hn b o s hA => (hf.x hn b o s hA).2) e, fun hn b o s hA => ?_, hf.c⟩, ⟨hasL_ext hi.p (fun hn b o s hA => (hi.x hn b o s hA).2) e, fun hn b o s hA => ?_, hi.c⟩, ⟨hasL_ext hc.p (fun hn b o s hA => (hc.x hn b o s hA).2) e, fun hn b o s hA => ?_, hc.z⟩, hl⟩
 ·exact ⟨(hf.x hn b o s hA).1, e.free b (hf.x hn b o s hA).2⟩
 ·exact ⟨(hi.x hn b o s hA).1, e.free b (hi.x hn b o s hA).2⟩
 ·exact ⟨(hc.x hn b o s hA).1, e.free b (hc.x hn b o s hA).2⟩
theorem StF.st (h : StF X n0 v s L W) : IsSt (fun b => X b ∨ n0 ≤ b) W v s := by
 obtain ⟨A0, n1, c0, B0, m0, k0, dd0, lf0, ds0, Af, cf, Ad, cd, Ac, cc, hv, hd, hf, hi, hc, hl⟩ := h
 exact ⟨A0, n1, c0, B0, m0, k0, dd0, lf0, ds0, Af, cf, Ad, cd, Ac, cc, hv, hd.dev, hf.mono fun _ h => h.1, hi.mono fun _ h => h.1, hc.mono fun _ h => h.1, hl⟩
theorem HasX.lt {α : Type} {R : α → List Value} {k : Nat} {w : World} {Z : Nat → Prop} {A : Option Addr} {cp : Nat} {l : List α} (h : HasX R k w Z A cp l) : HasX R k w (fun b => Z b ∧ b < w.heap.size) A cp l := ⟨h.p, fun hn b o s hA => ⟨h.x hn b o s hA, by
 obtain ⟨b', o', hA', _, hlt, _⟩ := h.p hn
 rw [hA'] at hA
 injection hA with hA
 injection hA with e1 _ _
 rw [← e1]
 exact hlt⟩, h.c⟩
theorem IsSt.lt {Z : Nat → Prop} (h : IsSt Z W v s) : IsSt (fun b => Z b ∧ b < W.heap.size) W v s := by
 obtain ⟨A0, n1, c0, B0, m0, k0, dd0, lf0, ds0, Af, cf, Ad, cd, Ac, cc, hv, hd, hf, hi, hc, hl⟩ := h
 exact ⟨A0, n1, c0, B0, m0, k0, dd0, lf0, ds0, Af, cf, Ad, cd, Ac, cc, hv, hd, hf.lt, hi.lt, hc.lt, hl⟩
theorem IsSt.mono {Z Z' : Nat → Prop} (h : IsSt Z W v s) (hz : ∀ b, Z b → Z' b) : IsSt Z' W v s := by
 obtain ⟨A0, n1, c0, B0, m0, k0, dd0, lf0, ds0, Af, cf, Ad, cd, Ac, cc, hv, hd, hf, hi, hc, hl⟩ := h
 exact ⟨A0, n1, c0, B0, m0, k0, dd0, lf0, ds0, Af, cf, Ad, cd, Ac, cc, hv, hd, hf.mono hz, hi.mono hz, hc.mono hz, hl⟩
/-- A store that came back out of a call. -/
theorem addSt (F : Fv.Fr w0 W vs Φ) (F2 : Fv.Fr w0 W' vs Φ) (h : IsSt (fun b => ((X b ∨ w0.heap.size ≤ b) ∧ Fv.Free (vs.map (·.1)) W b) ∨ W.heap.size ≤ b) W' v s) (hn : 1 ≤ s.d.n) (hk : kinds vs = true) : Fv.Fr w0 W' vs (fun L w => Φ L w ∧ StF X w0.heap.size v s L w) := by
 refine F2.add fun _ _ e => StF.ext ?_ e
 obtain ⟨A0, n1, c0, B0, m0, k0, dd0, lf0, ds0, Af, cf, Ad, cd, Ac, cc, hv, hd, hf, hi, hc, hl⟩ := h.lt
 have key : ∀ b, ((((X b ∨ w0.heap.size ≤ b) ∧ Fv.Free (vs.map (·.1)) W b) ∨ W.heap.size ≤ b) ∧ b < W'.heap.size) → (X b ∨ w0.heap.size ≤ b) ∧ Fv.Free (vs.map (·.1)) W' b := fun b hb => by
  rcases hb.1 with h1 | h1
  ·exact ⟨h1.1, ⟨hb.2, h1.2.2⟩⟩
  ·exact ⟨Or.inr (Nat.le_trans F.B.size h1), free_new F h1 hb.2⟩
 exact ⟨A0, n1, c0, B0, m0, k0, dd0, lf0, ds0, Af, cf, Ad, cd, Ac, cc, hv, devF_of F2 hd hn hk, hf.mono key, hi.mono key, hc.mono key, hl⟩
/-- What lay below, as a store that is free. -/
theorem Fv.Fr.st (F : Fv.Fr w0 W vs Φ) (h : IsSt X w0 v s) : IsSt (fun b => (X b ∨ w0.heap.size ≤ b) ∧ Fv.Free (vs.map (·.1)) W b) W v s :=
 (h.lt.below F.B).mono fun b hb => ⟨Or.inl hb.1, ⟨Nat.lt_of_lt_of_le hb.2 F.B.size, fun hm => by
  obtain ⟨x, hx, rfl⟩ := List.mem_map.1 hm
  have := (F.at_ x hx).1
  omega⟩⟩
theorem StF.free (h : StF X n0 v s L W) : IsSt (fun b => (X b ∨ n0 ≤ b) ∧ Fv.Free L W b) W v s := by
 obtain ⟨A0, n1, c0, B0, m0, k0, dd0, lf0, ds0, Af, cf, Ad, cd, Ac, cc, hv, hd, hf, hi, hc, hl⟩ := h
 exact ⟨A0, n1, c0, B0, m0, k0, dd0, lf0, ds0, Af, cf, Ad, cd, Ac, cc, hv, hd.dev, hf, hi, hc, hl⟩
theorem st_dev {Z : Nat → Prop} {w : World} {a0 a1 a2 a3 a4 x5 x6 x7 x8 x9 x10 x11 x12 : Value} {A B : Option Addr} {n c m k : Nat} {dd : Bool} {lf ds : Int} {D : Dev} (h : IsSt Z w (.agg #[a0, a1, a2, a3, a4, x5, x6, x7, x8, x9, x10, x11, x12]) s) (hd : IsDev w (.agg #[.slice A n c, .slice B m k, .bool dd, .int .i64 lf, .int .i64 ds]) D) :
  IsSt Z w (.agg #[.slice A n c, .slice B m k, .bool dd, .int .i64 lf, .int .i64 ds, x5, x6, x7, x8, x9, x10, x11, x12]) { s with d := D } := by
 obtain ⟨A0, n1, c0, B0, m0, k0, dd0, lf0, ds0, Af, cf, Ad, cd, Ac, cc, hv, _, hf, hi, hc, hl⟩ := h
 simp only [Value.agg.injEq, Array.mk.injEq, List.cons.injEq, and_true] at hv
 obtain ⟨_, _, _, _, _, e5, e6, e7, e8, e9, e10, e11, e12⟩ := hv
 subst e5 e6 e7 e8 e9 e10 e11 e12
 exact ⟨A, n, c, B, m, k, dd, lf, ds, Af, cf, Ad, cd, Ac, cc, rfl, hd, hf, hi, hc, hl⟩
end
theorem putH_right {D D2 : Dev} {h : H} (hp : putH D h = (D2, 0)) : RightH h := by
 unfold putH at hp
 by_cases hr : RightH h
 ·exact hr
 ·rw [if_neg hr] at hp
  injection hp with _ hp
  cases hp
theorem putH_ok {D : Dev} {h : H} {K : Nat} (hok : D.Ok K) (hn : 2 ≤ D.n) : (putH D h).1.Ok (K + 2) := by
 unfold putH
 split
 ·rename_i hr
  have hhas : D.has (h.e % 2) = true := by
   unfold Dev.has
   exact decide_eq_true (by omega)
  have h1 := putR_ok hok (headB h) hhas (by rw [headB_size]; decide)
  split
  ·exact flushR_ok h1
  ·exact h1.more (by omega)
 ·exact hok.more (by omega)
theorem checkR_ok {s : S} {K : Nat} (hok : OkS s K) : OkS (checkR s).1 (K + 2 * s.fr.length + 3) := by
 have hb := broughtR_ok hok
 have hbn := broughtR_n s
 have hm : ∀ {a b : Nat} {D : Dev}, D.Ok a → a ≤ b → D.Ok b := fun h hab => h.more hab
 unfold checkR
 split
 ·exact { hok with d := hok.d.more (by omega) }
 ·split
  ·exact { hok with d := hb.more (by omega), n := hbn.trans hok.n }
  ·split
   ·exact { hok with d := putH_ok hb (by rw [hbn]; have := hok.n; omega), n := (putH_n _ _).trans (hbn.trans hok.n) }
   ·rename_i h3
    have hr : RightH (nextH s.h) := putH_right (D := (broughtR s).1) (D2 := (putH (broughtR s).1 (nextH s.h)).1) (by
     have : (putH (broughtR s).1 (nextH s.h)).2 = 0 := Decidable.byContradiction h3
     rw [← this])
    exact { hok with d := putH_ok hb (by rw [hbn]; have := hok.n; omega), h := hr, n := (putH_n _ _).trans (hbn.trans hok.n), t := Nat.zero_le _, fu := List.Pairwise.nil, fi := fun m hm => (by cases hm), fl := Nat.zero_le _ }
theorem putsR_ok {h : H} : ∀ (l : List F) {D : Dev} {K : Nat}, D.Ok K → (∀ f ∈ l, RightF f ∧ ∃ i : Nat, f.i = i ∧ i < h.l.toNat) → D.n = 2 + h.p.toNat + h.l.toNat → (putsR h D l).1.Ok (K + l.length)
 | [], D, K, hok, _, _ => hok
 | f :: l, D, K, hok, hf, hn => by
  obtain ⟨h1, i, hi, hil⟩ := hf f List.mem_cons_self
  have hhas : D.has ((logN h f.i.toNat : Nat) : Int) = true := by
   unfold Dev.has logN
   rw [hi]
   exact decide_eq_true (by simp only [Int.toNat_natCast]; omega)
  have h3 := putR_ok hok (frameB f) hhas (by rw [frameB_size h1.small]; decide)
  rw [putsR]
  split
  ·exact h3.more (by rw [List.length_cons]; omega)
  ·exact (putsR_ok l h3 (fun x hx => hf x (List.mem_cons_of_mem _ hx)) ((putR_n _ _ _).trans hn)).more (by rw [List.length_cons]; omega)
theorem loggedR_ok {s : S} {K : Nat} (hok : OkS s K) (hr : s.t + (s.di.length + 1) ≤ s.h.l.toNat) : (loggedR s).1.Ok (K + s.di.length + 2) := by
 have h := putsR_ok (framesL s) hok.d (frames_right hok hr) hok.n
 have hl := frames_len s
 unfold loggedR
 split
 ·exact h.more (by omega)
 ·exact (flushR_ok h).more (by omega)
section
variable {s s2 : S} {D : Dev} {er : Int}
theorem commitR_down (hd : s.d.dead = true) : commitR s = (s, 10) := by unfold commitR; rw [if_pos hd]
theorem commitR_none (hd : s.d.dead = false) (h : s.di = []) : commitR s = (s, 0) := by
 unfold commitR
 rw [if_neg (by rw [hd]; simp), if_pos h]
theorem commitR_large (hd : s.d.dead = false) (h : s.di ≠ []) (h2 : s.h.l < s.di.length + 1) : commitR s = (s, 9) := by
 unfold commitR
 rw [if_neg (by rw [hd]; simp), if_neg h, if_pos h2]
theorem commitR_check (hd : s.d.dead = false) (h : s.di ≠ []) (h2 : ¬ s.h.l < s.di.length + 1) (h3 : s.h.l < (s.t : Int) + (s.di.length + 1)) (hc : checkR s = (s2, er)) (he : er ≠ 0) : commitR s = (s2, er) := by
 unfold commitR
 rw [if_neg (by rw [hd]; simp), if_neg h, if_neg h2, if_pos h3]
 simp only [hc]
 rw [if_pos he]
theorem commitR_check_err (hd : s.d.dead = false) (h : s.di ≠ []) (h2 : ¬ s.h.l < s.di.length + 1) (h3 : s.h.l < (s.t : Int) + (s.di.length + 1)) (hc : checkR s = (s2, 0)) (hl : loggedR s2 = (D, er)) (he : er ≠ 0) : commitR s = ({ s2 with d := D }, er) := by
 unfold commitR
 rw [if_neg (by rw [hd]; simp), if_neg h, if_neg h2, if_pos h3]
 simp only [hc, hl]
 rw [if_neg (by simp), if_pos he]
theorem commitR_check_good (hd : s.d.dead = false) (h : s.di ≠ []) (h2 : ¬ s.h.l < s.di.length + 1) (h3 : s.h.l < (s.t : Int) + (s.di.length + 1)) (hc : checkR s = (s2, 0)) (hl : loggedR s2 = (D, 0)) : commitR s = (settledR { s2 with d := D }, 0) := by
 unfold commitR
 rw [if_neg (by rw [hd]; simp), if_neg h, if_neg h2, if_pos h3]
 simp only [hc, hl]
 rw [if_neg (by simp), if_neg (by simp)]
theorem commitR_err (hd : s.d.dead = false) (h : s.di ≠ []) (h2 : ¬ s.h.l < s.di.length + 1) (h3 : ¬ s.h.l < (s.t : Int) + (s.di.length + 1)) (hl : loggedR s = (D, er)) (he : er ≠ 0) : commitR s = ({ s with d := D }, er) := by
 unfold commitR
 rw [if_neg (by rw [hd]; simp), if_neg h, if_neg h2, if_neg h3]
 simp only [hl]
 rw [if_pos he]
theorem commitR_good (hd : s.d.dead = false) (h : s.di ≠ []) (h2 : ¬ s.h.l < s.di.length + 1) (h3 : ¬ s.h.l < (s.t : Int) + (s.di.length + 1)) (hl : loggedR s = (D, 0)) : commitR s = (settledR { s with d := D }, 0) := by
 unfold commitR
 rw [if_neg (by rw [hd]; simp), if_neg h, if_neg h2, if_neg h3]
 simp only [hl]
 rw [if_neg (by simp)]
end
theorem checkR_good_eq {s s2 : S} (h : checkR s = (s2, 0)) : s2.t = 0 ∧ s2.di = s.di ∧ s2.h.l = s.h.l ∧ s2.fr = [] ∧ s2.c = s.c := by
 unfold checkR at h
 split at h
 ·injection h with _ h
  cases h
 ·split at h
  ·rename_i h2
   injection h with _ h
   exact absurd h h2
  ·split at h
   ·rename_i h2
    injection h with _ h
    exact absurd h h2
   ·injection h with h _
    subst h
    exact ⟨rfl, rfl, rfl, rfl, rfl⟩
set_option maxRecDepth 20000 in
set_option maxHeartbeats 6400000 in
theorem commit_any {X : Nat → Prop} {K : Nat} (v : Value) (s : S) (w : World) (ht : Tab w) (hS : IsSt X w v s) (hok : OkS s K) (hK : K ≤ 80000) :
  Calls Tryz.prog 64 #[v] w (StErr X (commitR s).1 (commitR s).2 w) := by
 have HI := Lib.hid hS
 obtain ⟨A0, n0, c0, B0, m0, k0, dd0, lf0, ds0, Af, cf, Ad, cd, Ac, cc, rfl, hdev, hfr, hdi, hck, hcc⟩ := hS
 have HS := Lib.hid (And.intro hdev (And.intro hfr (And.intro hdi (And.intro hck hcc))))
 have HT := Lib.hid ht
 have HK := Lib.hid (And.intro hok hK)
 clear hdev hfr hdi hck hcc ht hok hK
 obtain ⟨post, hpost⟩ : ∃ post, StErr X (commitR s).1 (commitR s).2 w = post := ⟨_, rfl⟩
 rw [hpost]
 have HP := Lib.hid hpost
 clear hpost
 have hdd := (dev_eq HS.out.1).1
 have hdl := HK.out.1.dl
 have ht9 := HK.out.1.t
 have l0 := HK.out.1.h.l0
 have l1 := HK.out.1.h.l1
 cases dd0 with
 | true =>
  have HE := Lib.hid (commitR_down hdd.symm)
  clear hdd
  have F := Fv.Fr.start w
  go_enter Tryz.func64, Tryz.ntmps64
  go_wp2_with (first
   | ((with_reducible (show wpList _ _ _ (Oper.mk _ (Op.load _ _) _ _ _ none :: _) _ _)); first | refine Fv.ldN F rfl rfl rfl (by repeat constructor) (by repeat constructor) ?_ | refine Fv.ld1 F rfl rfl rfl (by repeat constructor) (by repeat constructor) ?_)
   | ((with_reducible (show wpList _ _ _ (Oper.mk _ (Op.store _ _ _) _ _ _ none :: _) _ _)); (first | refine Fv.stN F rfl rfl rfl rfl rfl (by first | rfl | simp [Value.oneCell']) (by repeat constructor) ?_ | refine Fv.st1 F rfl rfl rfl (by first | exact (rfl : _ = Value.int _ _) | exact (rfl : _ = Value.slice _ _ _) | exact (rfl : _ = Value.bool _) | exact (rfl : _ = Value.string _)) (by rfl) (by repeat constructor) ?_); clear F; intro W F)
   | ((with_reducible (show wpList _ _ _ (Oper.mk _ (Op.alloc _) _ _ _ none :: _) _ _)); refine Fv.al F rfl rfl ?_; clear F; intro g W hs1 hs2 F; clear hs1 hs2)
   | ((with_reducible (show wpList _ _ _ (Oper.mk _ (Op.box _ _) _ _ _ none :: _) _ _)); refine Fv.wpL_box F rfl rfl rfl rfl ?_; clear F; intro gb W hs1 hs2 F; clear hs1 hs2))
  refine bodyPost_ret (res_cT F rfl rfl Fv.rt_Store (by repeat constructor) rfl) rfl ?_
  rw [← HP.out, HE.out]
  exact ⟨_, rfl, ⟨_, _, _, _, _, _, _, _, _, _, _, _, _, _, _, rfl, HS.out.1.below F.B (Nat.le_refl _), (HS.out.2.1.below F.B (Nat.le_refl _)).mono (fun _ h => Or.inl h), (HS.out.2.2.1.below F.B (Nat.le_refl _)).mono (fun _ h => Or.inl h), (HS.out.2.2.2.1.below F.B (Nat.le_refl _)).mono (fun _ h => Or.inl h), HS.out.2.2.2.2⟩, F.B⟩
 | false =>
  have HDD := Lib.hid hdd.symm
  clear hdd
  by_cases hz : s.di.length = 0
  ·have HE := Lib.hid (commitR_none HDD.out (List.length_eq_zero_iff.1 hz))
   have F := Fv.Fr.start w
   go_enter Tryz.func64, Tryz.ntmps64
   go_wp2_with (first
    | ((with_reducible (show wpList _ _ _ (Oper.mk _ (Op.load _ _) _ _ _ none :: _) _ _)); first | refine Fv.ldN F rfl rfl rfl (by repeat constructor) (by repeat constructor) ?_ | refine Fv.ld1 F rfl rfl rfl (by repeat constructor) (by repeat constructor) ?_)
    | ((with_reducible (show wpList _ _ _ (Oper.mk _ (Op.store _ _ _) _ _ _ none :: _) _ _)); (first | refine Fv.stN F rfl rfl rfl rfl rfl (by first | rfl | simp [Value.oneCell']) (by repeat constructor) ?_ | refine Fv.st1 F rfl rfl rfl (by first | exact (rfl : _ = Value.int _ _) | exact (rfl : _ = Value.slice _ _ _) | exact (rfl : _ = Value.bool _) | exact (rfl : _ = Value.string _)) (by rfl) (by repeat constructor) ?_); clear F; intro W F)
    | ((with_reducible (show wpList _ _ _ (Oper.mk _ (Op.alloc _) _ _ _ none :: _) _ _)); refine Fv.al F rfl rfl ?_; clear F; intro g W hs1 hs2 F; clear hs1 hs2)
    | ((with_reducible (show wpList _ _ _ (Oper.mk _ (Op.box _ _) _ _ _ none :: _) _ _)); refine Fv.wpL_box F rfl rfl rfl rfl ?_; clear F; intro gb W hs1 hs2 F; clear hs1 hs2))
   refine bodyPost_ret (res_cT F rfl rfl Fv.rt_Store (by repeat constructor) rfl) rfl ?_
   rw [← HP.out, HE.out]
   exact ⟨_, rfl, ⟨_, _, _, _, _, _, _, _, _, _, _, _, _, _, _, rfl, HS.out.1.below F.B (Nat.le_refl _), (HS.out.2.1.below F.B (Nat.le_refl _)).mono (fun _ h => Or.inl h), (HS.out.2.2.1.below F.B (Nat.le_refl _)).mono (fun _ h => Or.inl h), (HS.out.2.2.2.1.below F.B (Nat.le_refl _)).mono (fun _ h => Or.inl h), HS.out.2.2.2.2⟩, F.B⟩
  ·have HNE := Lib.hid (show s.di ≠ [] from fun e => hz (by rw [e]; rfl))
   by_cases h2 : s.h.l < s.di.length + 1
   ·have HE := Lib.hid (commitR_large HDD.out HNE.out h2)
    have F := Fv.Fr.start w
    go_enter Tryz.func64, Tryz.ntmps64
    go_wp2_with (first
     | ((with_reducible (show wpList _ _ _ (Oper.mk _ (Op.load _ _) _ _ _ none :: _) _ _)); first | refine Fv.ldN F rfl rfl rfl (by repeat constructor) (by repeat constructor) ?_ | refine Fv.ld1 F rfl rfl rfl (by repeat constructor) (by repeat constructor) ?_)
     | ((with_reducible (show wpList _ _ _ (Oper.mk _ (Op.store _ _ _) _ _ _ none :: _) _ _)); (first | refine Fv.stN F rfl rfl rfl rfl rfl (by first | rfl | simp [Value.oneCell']) (by repeat constructor) ?_ | refine Fv.st1 F rfl rfl rfl (by first | exact (rfl : _ = Value.int _ _) | exact (rfl : _ = Value.slice _ _ _) | exact (rfl : _ = Value.bool _) | exact (rfl : _ = Value.string _)) (by rfl) (by repeat constructor) ?_); clear F; intro W F)
     | ((with_reducible (show wpList _ _ _ (Oper.mk _ (Op.alloc _) _ _ _ none :: _) _ _)); refine Fv.al F rfl rfl ?_; clear F; intro g W hs1 hs2 F; clear hs1 hs2)
     | ((with_reducible (show wpList _ _ _ (Oper.mk _ (Op.box _ _) _ _ _ none :: _) _ _)); refine Fv.wpL_box F rfl rfl rfl rfl ?_; clear F; intro gb W hs1 hs2 F; clear hs1 hs2)
     | (go_at_call 134; refine (need_any A0 n0 c0 B0 m0 k0 _ lf0 ds0 s.h (s.t : Nat) Af s.fr.length cf Ad s.di.length cd Ac s.c.l.length cc (s.c.h : Nat) _ (by omega)).mono ?_; rintro e1 w1 ⟨rfl, hv⟩; replace F := F.call hv; clear hv))
    refine bodyPost_ret (res_cT F rfl rfl Fv.rt_Store (by repeat constructor) rfl) rfl ?_
    rw [← HP.out, HE.out]
    exact ⟨_, rfl, ⟨_, _, _, _, _, _, _, _, _, _, _, _, _, _, _, rfl, HS.out.1.below F.B (Nat.le_refl _), (HS.out.2.1.below F.B (Nat.le_refl _)).mono (fun _ h => Or.inl h), (HS.out.2.2.1.below F.B (Nat.le_refl _)).mono (fun _ h => Or.inl h), (HS.out.2.2.2.1.below F.B (Nat.le_refl _)).mono (fun _ h => Or.inl h), HS.out.2.2.2.2⟩, F.B⟩
   ·by_cases h3 : s.h.l < (s.t : Int) + (s.di.length + 1)
    ·have hc1 := fun s2 er => commitR_check (s2 := s2) (er := er) HDD.out HNE.out h2 h3
     have hc2 := fun s2 D er => commitR_check_err (s2 := s2) (D := D) (er := er) HDD.out HNE.out h2 h3
     have hc3 := fun s2 D => commitR_check_good (s2 := s2) (D := D) HDD.out HNE.out h2 h3
     have HC := Lib.hid (And.intro hc1 (And.intro hc2 hc3))
     clear hc1 hc2 hc3
     have hko := checkR_ok HK.out.1
     have hke := fun s2 => checkR_good_eq (s := s) (s2 := s2)
     have HCK := Lib.hid (fun Z W (v : Value) (ht : Tab W) (hi : IsSt Z W v s) => check_any v s W ht hi HK.out.1 (by have := HK.out.2; omega))
     obtain ⟨R, hR⟩ : ∃ R, checkR s = R := ⟨_, rfl⟩
     rw [hR] at HCK hko
     obtain ⟨s2, er⟩ := R
     have HKO := Lib.hid hko
     have HKE := Lib.hid hke
     have HR := Lib.hid hR
     have HN2 := Lib.hid (show 1 ≤ s2.d.n from hko.d.n1)
     clear hR hko hke
     have F := Fv.Fr.start w
     go_enter Tryz.func64, Tryz.ntmps64
     go_upto_region 10 with (first
      | ((with_reducible (show wpList _ _ _ (Oper.mk _ (Op.load _ _) _ _ _ none :: _) _ _)); first | refine Fv.ldN F rfl rfl rfl (by repeat constructor) (by repeat constructor) ?_ | refine Fv.ld1 F rfl rfl rfl (by repeat constructor) (by repeat constructor) ?_)
      | ((with_reducible (show wpList _ _ _ (Oper.mk _ (Op.store _ _ _) _ _ _ none :: _) _ _)); (first | refine Fv.stN F rfl rfl rfl rfl rfl (by first | rfl | simp [Value.oneCell']) (by repeat constructor) ?_ | refine Fv.st1 F rfl rfl rfl (by first | exact (rfl : _ = Value.int _ _) | exact (rfl : _ = Value.slice _ _ _) | exact (rfl : _ = Value.bool _) | exact (rfl : _ = Value.string _)) (by rfl) (by repeat constructor) ?_); clear F; intro W F)
      | ((with_reducible (show wpList _ _ _ (Oper.mk _ (Op.alloc _) _ _ _ none :: _) _ _)); refine Fv.al F rfl rfl ?_; clear F; intro g W hs1 hs2 F; clear hs1 hs2)
      | ((with_reducible (show wpList _ _ _ (Oper.mk _ (Op.box _ _) _ _ _ none :: _) _ _)); refine Fv.wpL_box F rfl rfl rfl rfl ?_; clear F; intro gb W hs1 hs2 F; clear hs1 hs2)
      | (go_at_call 134; refine (need_any A0 n0 c0 B0 m0 k0 _ lf0 ds0 s.h (s.t : Nat) Af s.fr.length cf Ad s.di.length cd Ac s.c.l.length cc (s.c.h : Nat) _ (by omega)).mono ?_; rintro e1 w1 ⟨rfl, hv⟩; replace F := F.call hv; clear hv)
      | (go_at_call 74; refine (HCK.out _ _ _ (HT.out.below F.B) (Fv.Fr.st F HI.out)).mono ?_; rintro e2 w2 ⟨v2, rfl, hS2, hv⟩; obtain ⟨A2, n2, c2, B2, m2, k2, dd2, lf2, ds2, Af2, cf2, Ad2, cd2, Ac2, cc2, rfl, hq2⟩ := hS2; have hS2 := (show IsSt _ _ _ _ from ⟨_, _, _, _, _, _, _, _, _, _, _, _, _, _, _, rfl, hq2⟩); clear hq2; have F2 := F.call hv; replace F := addSt F F2 hS2 HN2.out rfl; clear hv F2 hS2))
     by_cases he : er = 0
     ·subst he
      have HEQ := Lib.hid (HKE.out _ HR.out)
      have hlo := loggedR_ok (s := s2) HKO.out (by obtain ⟨et, ed, el, ef, ec⟩ := HEQ.out; rw [et, ed, el]; omega)
      have hln := loggedR_n s2
      have HLG := Lib.hid (fun Z W (v : Value) (ht : Tab W) (hi : IsSt Z W v s2) => logged_any v s2 W ht hi HKO.out (by have := HK.out.2; have := HK.out.1.fl; omega) (by obtain ⟨et, ed, el, ef, ec⟩ := HEQ.out; rw [et, ed, el]; omega))
      obtain ⟨R3, hR3⟩ : ∃ R, loggedR s2 = R := ⟨_, rfl⟩
      rw [hR3] at HLG hlo hln
      obtain ⟨D3, er3⟩ := R3
      have HO3 := Lib.hid (And.intro hlo hln)
      have HN3 := Lib.hid (show 1 ≤ D3.n from hlo.n1)
      have HR3 := Lib.hid hR3
      clear hR3 hlo hln
      go_upto_region 15 with (first
       | ((with_reducible (show wpList _ _ _ (Oper.mk _ (Op.load _ _) _ _ _ none :: _) _ _)); first | refine Fv.ldN F rfl rfl rfl (by repeat constructor) (by repeat constructor) ?_ | refine Fv.ld1 F rfl rfl rfl (by repeat constructor) (by repeat constructor) ?_)
       | ((with_reducible (show wpList _ _ _ (Oper.mk _ (Op.store _ _ _) _ _ _ none :: _) _ _)); (first | refine Fv.stN F rfl rfl rfl rfl rfl (by first | rfl | simp [Value.oneCell']) (by repeat constructor) ?_ | refine Fv.st1 F rfl rfl rfl (by first | exact (rfl : _ = Value.int _ _) | exact (rfl : _ = Value.slice _ _ _) | exact (rfl : _ = Value.bool _) | exact (rfl : _ = Value.string _)) (by rfl) (by repeat constructor) ?_); clear F; intro W F)
       | ((with_reducible (show wpList _ _ _ (Oper.mk _ (Op.alloc _) _ _ _ none :: _) _ _)); refine Fv.al F rfl rfl ?_; clear F; intro g W hs1 hs2 F; clear hs1 hs2)
       | (go_at_call 135; refine (HLG.out _ _ _ (HT.out.below F.B) (F.out.2.free)).mono ?_; rintro e3 w3 ⟨v3, rfl, hD3, hv⟩; replace F := F.call hv; clear hv; obtain ⟨A3, n3, c3, B3, m3, k3, dd3, lf3, ds3, rfl⟩ := dev_form hD3; replace F := addDev F hD3 HN3.out rfl; clear hD3))
      by_cases he3 : er3 = 0
      ·subst he3
       have HE := Lib.hid (HC.out.2.2 _ _ HR.out HR3.out)
       have hok3 : OkS { s2 with d := D3 } _ := { HKO.out with d := HO3.out.1, n := HO3.out.2.trans (HKO.out).n }
       have HST := Lib.hid (fun Z W (v : Value) (ht : Tab W) (hi : IsSt Z W v { s2 with d := D3 }) => settled_any v _ W ht hi hok3 (by have := HK.out.2; have := HK.out.1.fl; have := HK.out.1.dl; have := (HKO.out).dl; omega))
       have HN4 := Lib.hid (show 1 ≤ (settledR { s2 with d := D3 }).d.n from HN3.out)
       clear hok3
       go_wp2_with (first
        | ((with_reducible (show wpList _ _ _ (Oper.mk _ (Op.load _ _) _ _ _ none :: _) _ _)); first | refine Fv.ldN F rfl rfl rfl (by repeat constructor) (by repeat constructor) ?_ | refine Fv.ld1 F rfl rfl rfl (by repeat constructor) (by repeat constructor) ?_)
        | ((with_reducible (show wpList _ _ _ (Oper.mk _ (Op.store _ _ _) _ _ _ none :: _) _ _)); (first | refine Fv.stN F rfl rfl rfl rfl rfl (by first | rfl | simp [Value.oneCell']) (by repeat constructor) ?_ | refine Fv.st1 F rfl rfl rfl (by first | exact (rfl : _ = Value.int _ _) | exact (rfl : _ = Value.slice _ _ _) | exact (rfl : _ = Value.bool _) | exact (rfl : _ = Value.string _)) (by rfl) (by repeat constructor) ?_); clear F; intro W F)
        | ((with_reducible (show wpList _ _ _ (Oper.mk _ (Op.alloc _) _ _ _ none :: _) _ _)); refine Fv.al F rfl rfl ?_; clear F; intro g W hs1 hs2 F; clear hs1 hs2)
        | (go_at_call 136; refine (HST.out _ _ _ (HT.out.below F.B) (st_dev (F.out.1.2.free) F.out.2.dev)).mono ?_; rintro e4 w4 ⟨v4, rfl, hS4, hv⟩; obtain ⟨A4, n4, c4, B4, m4, k4, dd4, lf4, ds4, Af4, cf4, Ad4, cd4, Ac4, cc4, rfl, hq4⟩ := hS4; have hS4 := (show IsSt _ _ _ _ from ⟨_, _, _, _, _, _, _, _, _, _, _, _, _, _, _, rfl, hq4⟩); clear hq4; have F2 := F.call hv; replace F := addSt F F2 hS4 HN4.out rfl; clear hv F2 hS4))
       refine bodyPost_ret (res_cT F rfl rfl Fv.rt_Store (by repeat constructor) rfl) rfl ?_
       rw [← HP.out, HE.out]
       exact ⟨_, rfl, F.out.2.st, F.B⟩
      ·have HE := Lib.hid (HC.out.2.1 _ _ _ HR.out HR3.out he3)
       go_wp2_with (first
        | ((with_reducible (show wpList _ _ _ (Oper.mk _ (Op.load _ _) _ _ _ none :: _) _ _)); first | refine Fv.ldN F rfl rfl rfl (by repeat constructor) (by repeat constructor) ?_ | refine Fv.ld1 F rfl rfl rfl (by repeat constructor) (by repeat constructor) ?_)
        | ((with_reducible (show wpList _ _ _ (Oper.mk _ (Op.store _ _ _) _ _ _ none :: _) _ _)); (first | refine Fv.stN F rfl rfl rfl rfl rfl (by first | rfl | simp [Value.oneCell']) (by repeat constructor) ?_ | refine Fv.st1 F rfl rfl rfl (by first | exact (rfl : _ = Value.int _ _) | exact (rfl : _ = Value.slice _ _ _) | exact (rfl : _ = Value.bool _) | exact (rfl : _ = Value.string _)) (by rfl) (by repeat constructor) ?_); clear F; intro W F)
        | ((with_reducible (show wpList _ _ _ (Oper.mk _ (Op.alloc _) _ _ _ none :: _) _ _)); refine Fv.al F rfl rfl ?_; clear F; intro g W hs1 hs2 F; clear hs1 hs2))
       refine bodyPost_ret (res_cT F rfl rfl Fv.rt_Store (by repeat constructor) rfl) rfl ?_
       rw [← HP.out, HE.out]
       exact ⟨_, rfl, (st_dev (F.out.1.2.free) F.out.2.dev).mono (fun _ h => h.1), F.B⟩
     ·have HE := Lib.hid (HC.out.1 _ _ HR.out he)
      go_wp2_with (first
       | ((with_reducible (show wpList _ _ _ (Oper.mk _ (Op.load _ _) _ _ _ none :: _) _ _)); first | refine Fv.ldN F rfl rfl rfl (by repeat constructor) (by repeat constructor) ?_ | refine Fv.ld1 F rfl rfl rfl (by repeat constructor) (by repeat constructor) ?_)
       | ((with_reducible (show wpList _ _ _ (Oper.mk _ (Op.store _ _ _) _ _ _ none :: _) _ _)); (first | refine Fv.stN F rfl rfl rfl rfl rfl (by first | rfl | simp [Value.oneCell']) (by repeat constructor) ?_ | refine Fv.st1 F rfl rfl rfl (by first | exact (rfl : _ = Value.int _ _) | exact (rfl : _ = Value.slice _ _ _) | exact (rfl : _ = Value.bool _) | exact (rfl : _ = Value.string _)) (by rfl) (by repeat constructor) ?_); clear F; intro W F)
       | ((with_reducible (show wpList _ _ _ (Oper.mk _ (Op.alloc _) _ _ _ none :: _) _ _)); refine Fv.al F rfl rfl ?_; clear F; intro g W hs1 hs2 F; clear hs1 hs2))
      refine bodyPost_ret (res_cT F rfl rfl Fv.rt_Store (by repeat constructor) rfl) rfl ?_
      rw [← HP.out, HE.out]
      exact ⟨_, rfl, F.out.2.st, F.B⟩
    ·have hc1 := fun D er => commitR_err (D := D) (er := er) HDD.out HNE.out h2 h3
     have hc2 := fun D => commitR_good (D := D) HDD.out HNE.out h2 h3
     have HC := Lib.hid (And.intro hc1 hc2)
     clear hc1 hc2
     have F := Fv.Fr.start w
     go_enter Tryz.func64, Tryz.ntmps64
     go_upto_region 13 with (first
      | ((with_reducible (show wpList _ _ _ (Oper.mk _ (Op.load _ _) _ _ _ none :: _) _ _)); first | refine Fv.ldN F rfl rfl rfl (by repeat constructor) (by repeat constructor) ?_ | refine Fv.ld1 F rfl rfl rfl (by repeat constructor) (by repeat constructor) ?_)
      | ((with_reducible (show wpList _ _ _ (Oper.mk _ (Op.store _ _ _) _ _ _ none :: _) _ _)); (first | refine Fv.stN F rfl rfl rfl rfl rfl (by first | rfl | simp [Value.oneCell']) (by repeat constructor) ?_ | refine Fv.st1 F rfl rfl rfl (by first | exact (rfl : _ = Value.int _ _) | exact (rfl : _ = Value.slice _ _ _) | exact (rfl : _ = Value.bool _) | exact (rfl : _ = Value.string _)) (by rfl) (by repeat constructor) ?_); clear F; intro W F)
      | ((with_reducible (show wpList _ _ _ (Oper.mk _ (Op.alloc _) _ _ _ none :: _) _ _)); refine Fv.al F rfl rfl ?_; clear F; intro g W hs1 hs2 F; clear hs1 hs2)
      | ((with_reducible (show wpList _ _ _ (Oper.mk _ (Op.box _ _) _ _ _ none :: _) _ _)); refine Fv.wpL_box F rfl rfl rfl rfl ?_; clear F; intro gb W hs1 hs2 F; clear hs1 hs2)
      | (go_at_call 134; refine (need_any A0 n0 c0 B0 m0 k0 _ lf0 ds0 s.h (s.t : Nat) Af s.fr.length cf Ad s.di.length cd Ac s.c.l.length cc (s.c.h : Nat) _ (by omega)).mono ?_; rintro e1 w1 ⟨rfl, hv⟩; replace F := F.call hv; clear hv))
     have hlo := loggedR_ok (s := s) HK.out.1 (by omega)
     have hln := loggedR_n s
     have HLG := Lib.hid (fun Z W (v : Value) (ht : Tab W) (hi : IsSt Z W v s) => logged_any v s W ht hi HK.out.1 (by have := HK.out.2; have := HK.out.1.fl; omega) (by omega))
     obtain ⟨R3, hR3⟩ : ∃ R, loggedR s = R := ⟨_, rfl⟩
     rw [hR3] at HLG hlo hln
     obtain ⟨D3, er3⟩ := R3
     have HO3 := Lib.hid (And.intro hlo hln)
     have HN3 := Lib.hid (show 1 ≤ D3.n from hlo.n1)
     have HR3 := Lib.hid hR3
     clear hR3 hlo hln
     go_upto_region 15 with (first
      | ((with_reducible (show wpList _ _ _ (Oper.mk _ (Op.load _ _) _ _ _ none :: _) _ _)); first | refine Fv.ldN F rfl rfl rfl (by repeat constructor) (by repeat constructor) ?_ | refine Fv.ld1 F rfl rfl rfl (by repeat constructor) (by repeat constructor) ?_)
      | ((with_reducible (show wpList _ _ _ (Oper.mk _ (Op.store _ _ _) _ _ _ none :: _) _ _)); (first | refine Fv.stN F rfl rfl rfl rfl rfl (by first | rfl | simp [Value.oneCell']) (by repeat constructor) ?_ | refine Fv.st1 F rfl rfl rfl (by first | exact (rfl : _ = Value.int _ _) | exact (rfl : _ = Value.slice _ _ _) | exact (rfl : _ = Value.bool _) | exact (rfl : _ = Value.string _)) (by rfl) (by repeat constructor) ?_); clear F; intro W F)
      | ((with_reducible (show wpList _ _ _ (Oper.mk _ (Op.alloc _) _ _ _ none :: _) _ _)); refine Fv.al F rfl rfl ?_; clear F; intro g W hs1 hs2 F; clear hs1 hs2)
      | (go_at_call 135; refine (HLG.out _ _ _ (HT.out.below F.B) (Fv.Fr.st F HI.out)).mono ?_; rintro e3 w3 ⟨v3, rfl, hD3, hv⟩; replace F := F.call hv; clear hv; obtain ⟨A3, n3, c3, B3, m3, k3, dd3, lf3, ds3, rfl⟩ := dev_form hD3; replace F := addDev F hD3 HN3.out rfl; clear hD3))
     by_cases he3 : er3 = 0
     ·subst he3
      have HE := Lib.hid (HC.out.2 _ HR3.out)
      have hok3 : OkS { s with d := D3 } _ := { HK.out.1 with d := HO3.out.1, n := HO3.out.2.trans (HK.out.1).n }
      have HST := Lib.hid (fun Z W (v : Value) (ht : Tab W) (hi : IsSt Z W v { s with d := D3 }) => settled_any v _ W ht hi hok3 (by have := HK.out.2; have := HK.out.1.fl; have := HK.out.1.dl; have := (HK.out.1).dl; omega))
      have HN4 := Lib.hid (show 1 ≤ (settledR { s with d := D3 }).d.n from HN3.out)
      clear hok3
      go_wp2_with (first
       | ((with_reducible (show wpList _ _ _ (Oper.mk _ (Op.load _ _) _ _ _ none :: _) _ _)); first | refine Fv.ldN F rfl rfl rfl (by repeat constructor) (by repeat constructor) ?_ | refine Fv.ld1 F rfl rfl rfl (by repeat constructor) (by repeat constructor) ?_)
       | ((with_reducible (show wpList _ _ _ (Oper.mk _ (Op.store _ _ _) _ _ _ none :: _) _ _)); (first | refine Fv.stN F rfl rfl rfl rfl rfl (by first | rfl | simp [Value.oneCell']) (by repeat constructor) ?_ | refine Fv.st1 F rfl rfl rfl (by first | exact (rfl : _ = Value.int _ _) | exact (rfl : _ = Value.slice _ _ _) | exact (rfl : _ = Value.bool _) | exact (rfl : _ = Value.string _)) (by rfl) (by repeat constructor) ?_); clear F; intro W F)
       | ((with_reducible (show wpList _ _ _ (Oper.mk _ (Op.alloc _) _ _ _ none :: _) _ _)); refine Fv.al F rfl rfl ?_; clear F; intro g W hs1 hs2 F; clear hs1 hs2)
       | (go_at_call 136; refine (HST.out _ _ _ (HT.out.below F.B) (st_dev (Fv.Fr.st F HI.out) F.out.2.dev)).mono ?_; rintro e4 w4 ⟨v4, rfl, hS4, hv⟩; obtain ⟨A4, n4, c4, B4, m4, k4, dd4, lf4, ds4, Af4, cf4, Ad4, cd4, Ac4, cc4, rfl, hq4⟩ := hS4; have hS4 := (show IsSt _ _ _ _ from ⟨_, _, _, _, _, _, _, _, _, _, _, _, _, _, _, rfl, hq4⟩); clear hq4; have F2 := F.call hv; replace F := addSt F F2 hS4 HN4.out rfl; clear hv F2 hS4))
      refine bodyPost_ret (res_cT F rfl rfl Fv.rt_Store (by repeat constructor) rfl) rfl ?_
      rw [← HP.out, HE.out]
      exact ⟨_, rfl, F.out.2.st, F.B⟩
     ·have HE := Lib.hid (HC.out.1 _ _ HR3.out he3)
      go_wp2_with (first
       | ((with_reducible (show wpList _ _ _ (Oper.mk _ (Op.load _ _) _ _ _ none :: _) _ _)); first | refine Fv.ldN F rfl rfl rfl (by repeat constructor) (by repeat constructor) ?_ | refine Fv.ld1 F rfl rfl rfl (by repeat constructor) (by repeat constructor) ?_)
       | ((with_reducible (show wpList _ _ _ (Oper.mk _ (Op.store _ _ _) _ _ _ none :: _) _ _)); (first | refine Fv.stN F rfl rfl rfl rfl rfl (by first | rfl | simp [Value.oneCell']) (by repeat constructor) ?_ | refine Fv.st1 F rfl rfl rfl (by first | exact (rfl : _ = Value.int _ _) | exact (rfl : _ = Value.slice _ _ _) | exact (rfl : _ = Value.bool _) | exact (rfl : _ = Value.string _)) (by rfl) (by repeat constructor) ?_); clear F; intro W F)
       | ((with_reducible (show wpList _ _ _ (Oper.mk _ (Op.alloc _) _ _ _ none :: _) _ _)); refine Fv.al F rfl rfl ?_; clear F; intro g W hs1 hs2 F; clear hs1 hs2))
      refine bodyPost_ret (res_cT F rfl rfl Fv.rt_Store (by repeat constructor) rfl) rfl ?_
      rw [← HP.out, HE.out]
      exact ⟨_, rfl, (st_dev (Fv.Fr.st F HI.out) F.out.2.dev).mono (fun _ h => h.1), F.B⟩
end Go.Proofs.YtcgkbcgpnlogoaaGreatDoor.St
