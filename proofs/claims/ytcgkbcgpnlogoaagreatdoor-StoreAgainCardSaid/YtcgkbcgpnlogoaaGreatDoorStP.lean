/- Stores: the program's Open. -/
import Derived.Test.YtcgkbcgpnlogoaaGreatDoorStO
import Derived.Test.YtcgkbcgpnlogoaaGreatDoorMgAF
namespace Go.Proofs.YtcgkbcgpnlogoaaGreatDoor.St
open Go.RowKit Go.Shelf Tal Sla Hd Fr Lf Lex
theorem cur_right (D : Dev) : ∀ q, CUR D q = noH ∨ RightH (CUR D q)
 | 0 => Or.inl rfl
 | q + 1 => by
  have ih := cur_right D q
  show stepH (CUR D q) (TXq D q) = noH ∨ RightH (stepH (CUR D q) (TXq D q))
  unfold stepH
  cases hp : parseH (TXq D q) with
  | none => exact ih
  | some f =>
   show (if _ then f else _) = noH ∨ RightH (if _ then f else _)
   split
   ·exact Or.inr (parse_iff.1 hp).1
   ·exact ih
theorem newest_right {D D1 : Dev} {h : H} (e : newestR D = (D1, h, 0)) : RightH h := by
 unfold newestR at e
 split at e
 ·exact absurd (congrArg (fun x => x.2.2) e) (show ¬ (10 : Int) = 0 by decide)
 ·split at e
  ·exact absurd (congrArg (fun x => x.2.2) e) (show ¬ (10 : Int) = 0 by decide)
  ·split at e
   ·exact absurd (congrArg (fun x => x.2.2) e) (show ¬ (2 : Int) = 0 by decide)
   ·rename_i hz
    have e2 : CUR D 2 = h := congrArg (fun x => x.2.1) e
    rcases cur_right D 2 with h0 | h0
    ·exact absurd (by rw [h0]; rfl) hz
    ·rw [← e2]; exact h0
theorem newest_ok {D : Dev} {K : Nat} (h : D.Ok K) : (newestR D).1.Ok (K + 2) ∧ (newestR D).1.n = D.n := by
 unfold newestR
 split
 ·exact ⟨(DQ_ok h 1).more (by omega), DQ_n D 1⟩
 ·split
  ·exact ⟨DQ_ok h 2, DQ_n D 2⟩
  ·split <;> exact ⟨DQ_ok h 2, DQ_n D 2⟩
theorem fold_mem : ∀ (l m : List Im), SlI.Up l → ∀ y ∈ m.foldl insI l, y ∈ m ∨ y ∈ l
 | l, [], _, y, hy => Or.inr hy
 | l, x :: m, h, y, hy => by
  rcases fold_mem _ m (SlI.up_ins h).1 y hy with h1 | h1
  ·exact Or.inl (List.mem_cons_of_mem _ h1)
  ·rcases (SlI.up_ins h).2 y h1 with rfl | h2
   ·exact Or.inl List.mem_cons_self
   ·exact Or.inr h2
/-- A log that was gone through up to place i. -/
structure RecI (s : S) (wl : List Im) (i K : Nat) : Prop where
 d : s.d.Ok K
 h : RightH s.h
 n : s.d.n = 2 + s.h.p.toNat + s.h.l.toNat
 il : i ≤ s.h.l.toNat
 t : s.t ≤ i
 fu : SlI.Up s.fr
 fi : ∀ m ∈ s.fr, m.pg < s.h.p.toNat ∧ m.at_ < s.h.l.toNat
 wi : ∀ m ∈ wl, m.pg < s.h.p.toNat ∧ m.at_ < s.h.l.toNat
 fl : s.fr.length + wl.length ≤ i
 di : s.di = []
 c : Cl.Ok 0 s.c
theorem RecI.ok {s : S} {wl : List Im} {i K : Nat} (r : RecI s wl i K) : OkS s K :=
 ⟨r.d, r.h, r.n, Nat.le_trans r.t r.il, r.fu, r.fi, (by have := r.fl; have := r.il; have := r.h.l1; omega), (by rw [r.di]; exact List.Pairwise.nil), (by rw [r.di]; intro p hp; cases hp), (by rw [r.di]; exact Nat.zero_le _), r.c⟩
theorem RecI.more {s : S} {wl : List Im} {i K K2 : Nat} (r : RecI s wl i K) (h : K ≤ K2) : RecI s wl i K2 := ⟨r.d.more h, r.h, r.n, r.il, r.t, r.fu, r.fi, r.wi, r.fl, r.di, r.c⟩
theorem RecI.dev {s : S} {wl : List Im} {i K : Nat} (r : RecI s wl i K) : RecI { s with d := (frameR s.d s.h i).1 } wl i (K + 1) :=
 ⟨frameR_ok r.d s.h i, r.h, (frameR_n s.d s.h i).trans r.n, r.il, r.t, r.fu, r.fi, r.wi, r.fl, r.di, r.c⟩
theorem recall_ok : ∀ (n i K : Nat) (s : S) (wl : List Im), RecI s wl i K → i + n = s.h.l.toNat → OkS (recallR n i s wl).1 (K + n)
 | 0, i, K, s, wl, r, _ => r.ok
 | n + 1, i, K, s, wl, r, hi => by
  rw [recallR]
  have r1 := r.dev
  split
  ·exact (r1.more (by omega)).ok
  ·rename_i hno
   split
   ·exact (r1.more (by omega)).ok
   ·rename_i he
    have he : (frameR s.d s.h i).2.2 = 0 := Decidable.byContradiction he
    have hfo : Follows s.h (frameR s.d s.h i).2.1 wl.length := Classical.byContradiction fun h => hno (Or.inr ⟨he, h⟩)
    split
    ·have h2 := recall_ok n (i + 1) (K + 1) { s with d := (frameR s.d s.h i).1, fr := withI s.fr wl, t := i + 1 } [] ⟨r1.d, r1.h, r1.n, by show i + 1 ≤ s.h.l.toNat; omega, Nat.le_refl _, fold_up _ _ r.fu, fun m hm => (fold_mem _ _ r.fu m hm).elim (r.wi m) (r.fi m), (fun m hm => by cases hm), by
      have := fold_len s.fr wl
      have := r.fl
      show (wl.foldl insI s.fr).length + 0 ≤ i + 1
      omega, r.di, r.c⟩ (by show i + 1 + n = s.h.l.toNat; omega)
     rw [show K + (n + 1) = K + 1 + n by omega]
     exact h2
    ·rename_i hc
     have hf : 0 ≤ (frameR s.d s.h i).2.1.p ∧ (frameR s.d s.h i).2.1.p < s.h.p := by
      unfold Follows at hfo
      rw [if_neg hc] at hfo
      exact hfo
     have h2 := recall_ok n (i + 1) (K + 1) { s with d := (frameR s.d s.h i).1 } (wl ++ [⟨(frameR s.d s.h i).2.1.p.toNat, i⟩]) ⟨r1.d, r1.h, r1.n, by show i + 1 ≤ s.h.l.toNat; omega, by have := r.t; show s.t ≤ i + 1; omega, r.fu, r.fi, fun m hm => (List.mem_append.1 hm).elim (r.wi m) (fun h => by
      rw [List.mem_singleton] at h
      subst h
      show (frameR s.d s.h i).2.1.p.toNat < s.h.p.toNat ∧ i < s.h.l.toNat
      omega), by
      have := r.fl
      rw [List.length_append, List.length_singleton]
      show s.fr.length + (wl.length + 1) ≤ i + 1
      omega, r.di, r.c⟩ (by show i + 1 + n = s.h.l.toNat; omega)
     rw [show K + (n + 1) = K + 1 + n by omega]
     exact h2
theorem recalled_ok {D : Dev} {h : H} {K : Nat} (hok : D.Ok K) (hr : RightH h) (hn : D.n = 2 + h.p.toNat + h.l.toNat) : OkS (recalledR ⟨D, h, 0, [], [], ⟨[], 0⟩⟩).1 (K + h.l.toNat) :=
 recall_ok h.l.toNat 0 K _ [] ⟨hok, hr, hn, Nat.zero_le _, Nat.le_refl _, List.Pairwise.nil, (fun m hm => by cases hm), (fun m hm => by cases hm), Nat.le_refl _, rfl, Cl.ok_none⟩ (Nat.zero_add _)
section
variable {D D1 : Dev} {h : H} {s2 s3 : S} {er : Int}
theorem openR_err (hn : newestR D = (D1, h, er)) (he : er ≠ 0) : openR D = (none, D1, er) := by
 unfold openR
 rw [hn, if_pos he]
theorem openR_form (hn : newestR D = (D1, h, 0)) (hs : (D.n : Int) ≠ sizeN h) : openR D = (none, D1, 2) := by
 unfold openR
 rw [hn, if_neg (by simp), if_pos hs]
theorem openR_rec (hn : newestR D = (D1, h, 0)) (hs : (D.n : Int) = sizeN h) (hr : recalledR ⟨D1, h, 0, [], [], ⟨[], 0⟩⟩ = (s2, er)) (he : er ≠ 0) : openR D = (none, s2.d, er) := by
 unfold openR
 rw [hn, if_neg (by simp), if_neg (fun h => h hs)]
 simp only [hr]
 rw [if_pos he]
theorem openR_check (hn : newestR D = (D1, h, 0)) (hs : (D.n : Int) = sizeN h) (hr : recalledR ⟨D1, h, 0, [], [], ⟨[], 0⟩⟩ = (s2, 0)) (hc : checkR s2 = (s3, er)) (he : er ≠ 0) : openR D = (none, s3.d, er) := by
 unfold openR
 rw [hn, if_neg (by simp), if_neg (fun h => h hs)]
 simp only [hr, hc]
 rw [if_neg (by simp), if_pos he]
theorem openR_good (hn : newestR D = (D1, h, 0)) (hs : (D.n : Int) = sizeN h) (hr : recalledR ⟨D1, h, 0, [], [], ⟨[], 0⟩⟩ = (s2, 0)) (hc : checkR s2 = (s3, 0)) : openR D = (some s3, s3.d, 0) := by
 unfold openR
 rw [hn, if_neg (by simp), if_neg (fun h => h hs)]
 simp only [hr, hc]
 rw [if_neg (by simp), if_neg (by simp)]
end
theorem st_five {Z : Nat → Prop} {w : World} {s : S} {a0 a1 a2 a3 a4 x5 x6 x7 x8 x9 x10 x11 x12 : Value} (h : IsSt Z w (.agg #[a0, a1, a2, a3, a4, x5, x6, x7, x8, x9, x10, x11, x12]) s) : IsDev w (.agg #[a0, a1, a2, a3, a4]) s.d := by
 obtain ⟨A0, n1, c0, B0, m0, k0, dd0, lf0, ds0, Af, cf, Ad, cd, Ac, cc, hv, hd, _⟩ := h
 simp only [Value.agg.injEq, Array.mk.injEq, List.cons.injEq, and_true] at hv
 obtain ⟨rfl, rfl, rfl, rfl, rfl, _⟩ := hv
 exact hd
theorem dev_nn {w : World} {D : Dev} {A B : Option Addr} {n c m k : Nat} {dd : Bool} {lf ds : Int} (h : IsDev w (.agg #[.slice A n c, .slice B m k, .bool dd, .int .i64 lf, .int .i64 ds]) D) : n = D.n := by
 obtain ⟨b, B', c', k', e, _⟩ := h
 simp only [Value.agg.injEq, Array.mk.injEq, List.cons.injEq, Value.slice.injEq, Value.bool.injEq, Value.int.injEq, true_and, and_true] at e
 exact e.1.2.1
instance ot_Strings : Fv.OneTy Tryz.prog 25 := ⟨⟨_, Tryz.underlying25, rfl⟩, by kernel_rfl⟩
def OpenPost (R : Option S × Dev × Int) (w : World) (e : Ending) (w' : World) : Prop := ∃ v vd, e = .returned (.tuple #[v, vd, .int .i64 R.2.2]) ∧ (∀ s, R.1 = some s → IsSt (fun b => w.heap.size ≤ b) w' v s) ∧ (R.1 = none → v = zSt) ∧ IsDev w' vd R.2.1 ∧ Below w.heap.size w w'
set_option maxRecDepth 20000 in
set_option maxHeartbeats 6400000 in
theorem open_any {K : Nat} (v : Value) (D : Dev) (w : World) (ht : Tab w) (hD : IsDev w v D) (hok : D.Ok K) (hK : K ≤ 89000) (hn : 2 ≤ D.n) : Calls Tryz.prog 26 #[v] w (OpenPost (openR D) w) := by
 obtain ⟨A0, n0, c0, B0, m0, k0, dd0, lf0, ds0, rfl⟩ := dev_form hD
 have HT := Lib.hid ht
 have HD := Lib.hid hD
 clear ht hD
 obtain ⟨post, hpost⟩ : ∃ post, OpenPost (openR D) w = post := ⟨_, rfl⟩
 rw [hpost]
 have HP := Lib.hid hpost
 clear hpost
 have hk1 := newest_ok hok
 have HNW := Lib.hid (fun W (v : Value) (ht : Tab W) (hd : IsDev W v D) => newest_any v D W ht hd hok (by omega) hn)
 obtain ⟨R, hR⟩ : ∃ R, newestR D = R := ⟨_, rfl⟩
 rw [hR] at HNW hk1
 obtain ⟨D1, h, er⟩ := R
 simp only [NewPost, cellsH] at HNW hk1
 have HN1 := Lib.hid (show 1 ≤ D1.n by rw [hk1.2]; omega)
 have HO1 := Lib.hid hk1
 have HKK := Lib.hid hK
 have HR := Lib.hid hR
 clear hR hk1 hok hn hK
 by_cases he : er = 0
 ·subst he
  have HRT := Lib.hid (newest_right HR.out)
  obtain ⟨N, hN⟩ : ∃ N : Nat, N = (2 + h.p + h.l).toNat := ⟨_, rfl⟩
  have hsz : (N : Int) = sizeN h := by have := HRT.out.p0; have := HRT.out.l0; unfold sizeN; omega
  have HSZ := Lib.hid (fun W => (show Calls Tryz.prog 67 #[.agg #[.int .i64 h.p, .int .i64 h.l, .int .i64 h.e]] W fun e w' => e = .returned (.int .i64 (N : Nat)) ∧ Below W.heap.size W w' by rw [← (show wrap64 (wrap64 (2 + h.p) + h.l) = (N : Nat) by have := HRT.out.p0; have := HRT.out.p1; have := HRT.out.l0; have := HRT.out.l1; unfold wrap64; omega)]; exact size_any h W))
  have HS := Lib.hid hsz
  have HNN := Lib.hid hN
  clear hsz hN
  have F := Fv.Fr.start w
  go_enter Tryz.func26, Tryz.ntmps26
  go_upto_region 4 with (first
   | ((with_reducible (show wpList _ _ _ (Oper.mk _ (Op.load _ _) _ _ _ none :: _) _ _)); first | refine Fv.ldN F rfl rfl rfl (by repeat constructor) (by repeat constructor) ?_ | refine Fv.ld1 F rfl rfl rfl (by repeat constructor) (by repeat constructor) ?_)
   | ((with_reducible (show wpList _ _ _ (Oper.mk _ (Op.store _ _ _) _ _ _ none :: _) _ _)); (first | refine Fv.stN F rfl rfl rfl rfl rfl (by first | rfl | simp [Value.oneCell']) (by repeat constructor) ?_ | refine Fv.st1 F rfl rfl rfl (by first | exact (rfl : _ = Value.int _ _) | exact (rfl : _ = Value.slice _ _ _) | exact (rfl : _ = Value.bool _) | exact (rfl : _ = Value.string _)) (by rfl) (by repeat constructor) ?_); clear F; intro W F)
   | ((with_reducible (show wpList _ _ _ (Oper.mk _ (Op.alloc _) _ _ _ none :: _) _ _)); refine Fv.al F rfl rfl ?_; clear F; intro g W hs1 hs2 F; clear hs1 hs2)
   | ((with_reducible (show wpList _ _ _ (Oper.mk _ (Op.box _ _) _ _ _ none :: _) _ _)); refine Fv.wpL_box F rfl rfl rfl rfl ?_; clear F; intro gb W hs1 hs2 F; clear hs1 hs2)
   | (go_at_call 90; refine (HNW.out _ _ (HT.out.below F.B) (HD.out.below F.B (Nat.le_refl _))).mono ?_; rintro e1 w1 ⟨v1, rfl, hD1, hv⟩; replace F := F.call hv; clear hv; obtain ⟨A1, n1, c1, B1, m1, k1, dd1, lf1, ds1, rfl⟩ := dev_form hD1; replace F := addDev F hD1 HN1.out rfl; clear hD1))
  have hn1 := dev_nn F.out.2.dev
  subst hn1
  refine Lex.region_lex (ops := obops) (calls := obcalls) obord (Fv.FrS _ _ _) (by kernel_rfl) (by kernel_rfl) obsel (by kernel_rfl) (by kernel_rfl) oblex F.drew ?_
  replace F := F.drew
  unfold obord
  refine Lex.step_take _ ob0 rfl (Lex.want_none rfl) (by intro Wx hSw; clear hSw; go_simp; try (first | (with_reducible rfl) | rfl)) ?_
  simp only [Act.put, List.setIfInBounds_toArray, List.set_cons_zero, List.set_cons_succ]
  refine Lex.step_take _ ob1 rfl (Lex.want_none rfl) (by intro Wx hSw; exact Fv.run_load1 hSw rfl rfl ot_Strings (by repeat constructor) (by repeat constructor)) ?_
  simp only [Act.put, List.setIfInBounds_toArray, List.set_cons_zero, List.set_cons_succ]
  refine Lex.step_take _ ob2 rfl (Lex.want_none rfl) (by intro Wx hSw; clear hSw; go_simp; try (first | (with_reducible rfl) | rfl)) ?_
  simp only [Act.put, List.setIfInBounds_toArray, List.set_cons_zero, List.set_cons_succ]
  refine Lex.step_take _ ob3 rfl (Lex.want_none rfl) (by intro Wx hSw; exact Fv.run_loadN hSw rfl rfl Fv.rt_Head (by repeat constructor) (by repeat constructor)) ?_
  simp only [Act.put, List.setIfInBounds_toArray, List.set_cons_zero, List.set_cons_succ]
  refine Lex.step_call ob4 rfl (Lex.want_none rfl) (fun K hK => ?_)
  go_simp
  refine (HSZ.out _).mono ?_
  rintro e w2 ⟨rfl, hv⟩
  replace F := F.call hv
  clear hv
  refine hK.out (Fv.FrS _ _ _) _ _ (fun _ h => Fv.Fr.weak h (by intro L w h; first | exact h | exact h.1 | exact h.1.1)) F ?_
  clear hK K
  try simp only [Act.put, List.setIfInBounds_toArray, List.set_cons_zero, List.set_cons_succ]
  refine Lex.step_take _ ob5 rfl (Lex.want_none rfl) (by intro Wx hSw; clear hSw; go_simp; try (first | (with_reducible rfl) | rfl)) ?_
  simp only [Act.put, List.setIfInBounds_toArray, List.set_cons_zero, List.set_cons_succ]
  refine NoPanic.normal ?_
  by_cases hq : N = D1.n
  ·subst hq
   have HQ := Lib.hid (show (D.n : Int) = sizeN h by rw [← HS.out, HO1.out.2])
   have hko := recalled_ok HO1.out.1 HRT.out (by have := HNN.out; have := HRT.out.p0; have := HRT.out.l0; omega)
   have HRC := Lib.hid (fun A0 n0 c0 B0 m0 k0 dd0 lf0 ds0 W (ht : Tab W) (hd : IsDev W (.agg #[.slice A0 n0 c0, .slice B0 m0 k0, .bool dd0, .int .i64 lf0, .int .i64 ds0]) D1) => recalled_any D1 A0 n0 c0 B0 m0 k0 dd0 lf0 ds0 h W ht hd HO1.out.1 (by have := HKK.out; omega) HRT.out (by have := HNN.out; have := HRT.out.p0; have := HRT.out.l0; omega))
   obtain ⟨R2, hR2⟩ : ∃ R, recalledR ⟨D1, h, 0, [], [], ⟨[], 0⟩⟩ = R := ⟨_, rfl⟩
   rw [hR2] at HRC hko
   obtain ⟨s2, er2⟩ := R2
   have HKO := Lib.hid hko
   have HR2 := Lib.hid hR2
   have HN2 := Lib.hid (show 1 ≤ s2.d.n from hko.d.n1)
   have hkc := checkR_ok hko
   have HCK := Lib.hid (fun Z W (v : Value) (ht : Tab W) (hi : IsSt Z W v s2) => check_any v s2 W ht hi HKO.out (by have := HKK.out; have := HRT.out.l1; omega))
   obtain ⟨R3, hR3⟩ : ∃ R, checkR s2 = R := ⟨_, rfl⟩
   rw [hR3] at HCK hkc
   obtain ⟨s3, er3⟩ := R3
   have HR3 := Lib.hid hR3
   have HN3 := Lib.hid (show 1 ≤ s3.d.n from hkc.d.n1)
   clear hko hR2 hR3 hkc
   go_upto_region 7 with (first
    | ((with_reducible (show wpList _ _ _ (Oper.mk _ (Op.load _ _) _ _ _ none :: _) _ _)); first | refine Fv.ldN F rfl rfl rfl (by repeat constructor) (by repeat constructor) ?_ | refine Fv.ld1 F rfl rfl rfl (by repeat constructor) (by repeat constructor) ?_)
    | ((with_reducible (show wpList _ _ _ (Oper.mk _ (Op.store _ _ _) _ _ _ none :: _) _ _)); (first | refine Fv.stN F rfl rfl rfl rfl rfl (by first | rfl | simp [Value.oneCell']) (by repeat constructor) ?_ | refine Fv.st1 F rfl rfl rfl (by first | exact (rfl : _ = Value.int _ _) | exact (rfl : _ = Value.slice _ _ _) | exact (rfl : _ = Value.bool _) | exact (rfl : _ = Value.string _)) (by rfl) (by repeat constructor) ?_); clear F; intro W F)
    | ((with_reducible (show wpList _ _ _ (Oper.mk _ (Op.alloc _) _ _ _ none :: _) _ _)); refine Fv.al F rfl rfl ?_; clear F; intro g W hs1 hs2 F; clear hs1 hs2)
    | (go_at_call 91; refine (HRC.out _ _ _ _ _ _ _ _ _ _ (HT.out.below F.B) F.out.2.dev).mono ?_; rintro e3 w3 ⟨v3, rfl, hS3, hv⟩; obtain ⟨A3, n3, c3, B3, m3, k3, dd3, lf3, ds3, Af3, cf3, Ad3, cd3, Ac3, cc3, rfl, hq3⟩ := hS3; have hS3 := (show IsSt _ _ _ _ from ⟨_, _, _, _, _, _, _, _, _, _, _, _, _, _, _, rfl, hq3⟩); clear hq3; have F2 := F.call hv; replace F := addSt (X := fun _ => False) F F2 (hS3.mono fun b hb => Or.inr hb) HN2.out rfl; clear hv F2 hS3))
   by_cases he2 : er2 = 0
   ·subst he2
    go_upto_region 9 with (first
     | ((with_reducible (show wpList _ _ _ (Oper.mk _ (Op.load _ _) _ _ _ none :: _) _ _)); first | refine Fv.ldN F rfl rfl rfl (by repeat constructor) (by repeat constructor) ?_ | refine Fv.ld1 F rfl rfl rfl (by repeat constructor) (by repeat constructor) ?_)
     | ((with_reducible (show wpList _ _ _ (Oper.mk _ (Op.store _ _ _) _ _ _ none :: _) _ _)); (first | refine Fv.stN F rfl rfl rfl rfl rfl (by first | rfl | simp [Value.oneCell']) (by repeat constructor) ?_ | refine Fv.st1 F rfl rfl rfl (by first | exact (rfl : _ = Value.int _ _) | exact (rfl : _ = Value.slice _ _ _) | exact (rfl : _ = Value.bool _) | exact (rfl : _ = Value.string _)) (by rfl) (by repeat constructor) ?_); clear F; intro W F)
     | ((with_reducible (show wpList _ _ _ (Oper.mk _ (Op.alloc _) _ _ _ none :: _) _ _)); refine Fv.al F rfl rfl ?_; clear F; intro g W hs1 hs2 F; clear hs1 hs2)
     | (go_at_call 74; refine (HCK.out _ _ _ (HT.out.below F.B) F.out.2.free).mono ?_; rintro e5 w5 ⟨v5, rfl, hS5, hv⟩; obtain ⟨A5, n5, c5, B5, m5, k5, dd5, lf5, ds5, Af5, cf5, Ad5, cd5, Ac5, cc5, rfl, hq5⟩ := hS5; have hS5 := (show IsSt _ _ _ _ from ⟨_, _, _, _, _, _, _, _, _, _, _, _, _, _, _, rfl, hq5⟩); clear hq5; have F2 := F.call hv; replace F := addSt F F2 hS5 HN3.out rfl; clear hv F2 hS5))
    by_cases he3 : er3 = 0
    ·subst he3
     go_upto_region 11 with (first
      | ((with_reducible (show wpList _ _ _ (Oper.mk _ (Op.load _ _) _ _ _ none :: _) _ _)); first | refine Fv.ldN F rfl rfl rfl (by repeat constructor) (by repeat constructor) ?_ | refine Fv.ld1 F rfl rfl rfl (by repeat constructor) (by repeat constructor) ?_)
      | ((with_reducible (show wpList _ _ _ (Oper.mk _ (Op.store _ _ _) _ _ _ none :: _) _ _)); (first | refine Fv.stN F rfl rfl rfl rfl rfl (by first | rfl | simp [Value.oneCell']) (by repeat constructor) ?_ | refine Fv.st1 F rfl rfl rfl (by first | exact (rfl : _ = Value.int _ _) | exact (rfl : _ = Value.slice _ _ _) | exact (rfl : _ = Value.bool _) | exact (rfl : _ = Value.string _)) (by rfl) (by repeat constructor) ?_); clear F; intro W F)
      | ((with_reducible (show wpList _ _ _ (Oper.mk _ (Op.alloc _) _ _ _ none :: _) _ _)); refine Fv.al F rfl rfl ?_; clear F; intro g W hs1 hs2 F; clear hs1 hs2))
     replace F := F.drew
     refine Lex.region_lex (ops := oeops) (calls := oecalls) oeord (Fv.ClsB _ _) (by kernel_rfl) (by kernel_rfl) oesel (by kernel_rfl) (by kernel_rfl) oelex ⟨F.B, F.cls (Fv.Inc.cons Fv.VIn.head Fv.Inc.nil)⟩ ?_
     unfold oeord
     refine Lex.step_take _ oe0 rfl (Lex.want_none rfl) (by intro Wx hSw; exact Fv.run_loadNC hSw.2 rfl rfl Fv.rt_Store (by repeat constructor) (by repeat constructor)) ?_
     simp only [Act.put, List.setIfInBounds_toArray, List.set_cons_zero, List.set_cons_succ]
     refine Lex.step_take _ oe1 rfl (Lex.want_none rfl) (by intro Wx hSw; clear hSw; go_simp; try (first | (with_reducible rfl) | rfl)) ?_
     simp only [Act.put, List.setIfInBounds_toArray, List.set_cons_zero, List.set_cons_succ]
     refine Lex.step_take _ oe2 rfl (Lex.want_none rfl) (by intro Wx hSw; exact Fv.run_loadNC hSw.2 rfl rfl Fv.rt_Slab (by repeat constructor) (by repeat constructor)) ?_
     simp only [Act.put, List.setIfInBounds_toArray, List.set_cons_zero, List.set_cons_succ]
     refine Lex.step_call oe3 rfl (Lex.want_none rfl) (fun K hK => ?_)
     refine Fv.wp_storeN F rfl rfl rfl Fv.rt_Store rfl (by first | rfl | simp [Value.oneCell']) (by repeat constructor) ?_; clear F; intro W F
     refine hK.out _ _ _ (fun _ h => h) ⟨F.B, F.cls (by (repeat (first | exact Fv.Inc.nil | apply Fv.Inc.cons | exact Fv.VIn.head | apply Fv.VIn.tail)); done)⟩ ?_
     clear hK K
     try simp only [Act.put, List.setIfInBounds_toArray, List.set_cons_zero, List.set_cons_succ]
     refine Lex.step_call oe4 rfl (Lex.want_none rfl) (fun K hK => ?_)
     refine Fv.wp_storeN F rfl rfl rfl Fv.rt_Slab rfl (by first | rfl | simp [Value.oneCell']) (by repeat constructor) ?_; clear F; intro W F
     refine hK.out _ _ _ (fun _ h => h) ⟨F.B, F.cls (by (repeat (first | exact Fv.Inc.nil | apply Fv.Inc.cons | exact Fv.VIn.head | apply Fv.VIn.tail)); done)⟩ ?_
     clear hK K
     try simp only [Act.put, List.setIfInBounds_toArray, List.set_cons_zero, List.set_cons_succ]
     refine Lex.step_take _ oe5 rfl (Lex.want_none rfl) (by intro Wx hSw; clear hSw; go_simp; try (first | (with_reducible rfl) | rfl)) ?_
     simp only [Act.put, List.setIfInBounds_toArray, List.set_cons_zero, List.set_cons_succ]
     refine NoPanic.normal ?_
     go_wp2_with (first
      | ((with_reducible (show wpList _ _ _ (Oper.mk _ (Op.load _ _) _ _ _ none :: _) _ _)); first | refine Fv.ldN F rfl rfl rfl (by repeat constructor) (by repeat constructor) ?_ | refine Fv.ld1 F rfl rfl rfl (by repeat constructor) (by repeat constructor) ?_)
      | ((with_reducible (show wpList _ _ _ (Oper.mk _ (Op.store _ _ _) _ _ _ none :: _) _ _)); (first | refine Fv.stN F rfl rfl rfl rfl rfl (by first | rfl | simp [Value.oneCell']) (by repeat constructor) ?_ | refine Fv.st1 F rfl rfl rfl (by first | exact (rfl : _ = Value.int _ _) | exact (rfl : _ = Value.slice _ _ _) | exact (rfl : _ = Value.bool _) | exact (rfl : _ = Value.string _)) (by rfl) (by repeat constructor) ?_); clear F; intro W F)
      | ((with_reducible (show wpList _ _ _ (Oper.mk _ (Op.alloc _) _ _ _ none :: _) _ _)); refine Fv.al F rfl rfl ?_; clear F; intro g W hs1 hs2 F; clear hs1 hs2))
     refine bodyPost_ret (res_ccT F rfl rfl Fv.rt_Store (by repeat constructor) rfl rfl Fv.rt_Slab (by repeat constructor) rfl) rfl ?_
     rw [← HP.out, openR_good HR.out HQ.out HR2.out HR3.out]
     exact ⟨_, _, rfl, (fun s hs => by injection hs with hs; rw [← hs]; exact F.out.2.st.mono fun b hb => hb.resolve_left id), (fun h => by cases h), st_five F.out.2.st, F.B⟩
    ·skip
     go_upto_region 10 with (first
      | ((with_reducible (show wpList _ _ _ (Oper.mk _ (Op.load _ _) _ _ _ none :: _) _ _)); first | refine Fv.ldN F rfl rfl rfl (by repeat constructor) (by repeat constructor) ?_ | refine Fv.ld1 F rfl rfl rfl (by repeat constructor) (by repeat constructor) ?_)
      | ((with_reducible (show wpList _ _ _ (Oper.mk _ (Op.store _ _ _) _ _ _ none :: _) _ _)); (first | refine Fv.stN F rfl rfl rfl rfl rfl (by first | rfl | simp [Value.oneCell']) (by repeat constructor) ?_ | refine Fv.st1 F rfl rfl rfl (by first | exact (rfl : _ = Value.int _ _) | exact (rfl : _ = Value.slice _ _ _) | exact (rfl : _ = Value.bool _) | exact (rfl : _ = Value.string _)) (by rfl) (by repeat constructor) ?_); clear F; intro W F)
      | ((with_reducible (show wpList _ _ _ (Oper.mk _ (Op.alloc _) _ _ _ none :: _) _ _)); refine Fv.al F rfl rfl ?_; clear F; intro g W hs1 hs2 F; clear hs1 hs2))
     replace F := F.drew
     refine Lex.region_lex (ops := odops) (calls := odcalls) odord (Fv.ClsB _ _) (by kernel_rfl) (by kernel_rfl) odsel (by kernel_rfl) (by kernel_rfl) odlex ⟨F.B, F.cls (Fv.Inc.cons Fv.VIn.head Fv.Inc.nil)⟩ ?_
     unfold odord
     refine Lex.step_take _ od0 rfl (Lex.want_none rfl) (by intro Wx hSw; clear hSw; go_simp; try (first | (with_reducible rfl) | rfl)) ?_
     simp only [Act.put, List.setIfInBounds_toArray, List.set_cons_zero, List.set_cons_succ]
     refine Lex.step_take _ od1 rfl (Lex.want_none rfl) (by intro Wx hSw; clear hSw; go_simp; try (first | (with_reducible rfl) | rfl)) ?_
     simp only [Act.put, List.setIfInBounds_toArray, List.set_cons_zero, List.set_cons_succ]
     refine Lex.step_take _ od2 rfl (Lex.want_none rfl) (by intro Wx hSw; exact Fv.run_loadNC hSw.2 rfl rfl Fv.rt_Slab (by repeat constructor) (by repeat constructor)) ?_
     simp only [Act.put, List.setIfInBounds_toArray, List.set_cons_zero, List.set_cons_succ]
     refine Lex.step_take _ od3 rfl (Lex.want_none rfl) (by intro Wx hSw; clear hSw; go_simp; try (first | (with_reducible rfl) | rfl)) ?_
     simp only [Act.put, List.setIfInBounds_toArray, List.set_cons_zero, List.set_cons_succ]
     refine Lex.step_call od4 rfl (Lex.want_none rfl) (fun K hK => ?_)
     refine Fv.wp_storeN F rfl rfl rfl Fv.rt_Store rfl (by first | rfl | simp [Value.oneCell']) (by repeat constructor) ?_; clear F; intro W F
     refine hK.out _ _ _ (fun _ h => h) ⟨F.B, F.cls (by (repeat (first | exact Fv.Inc.nil | apply Fv.Inc.cons | exact Fv.VIn.head | apply Fv.VIn.tail)); done)⟩ ?_
     clear hK K
     try simp only [Act.put, List.setIfInBounds_toArray, List.set_cons_zero, List.set_cons_succ]
     refine Lex.step_call od5 rfl (Lex.want_none rfl) (fun K hK => ?_)
     refine Fv.wp_storeN F rfl rfl rfl Fv.rt_Slab rfl (by first | rfl | simp [Value.oneCell']) (by repeat constructor) ?_; clear F; intro W F
     refine hK.out _ _ _ (fun _ h => h) ⟨F.B, F.cls (by (repeat (first | exact Fv.Inc.nil | apply Fv.Inc.cons | exact Fv.VIn.head | apply Fv.VIn.tail)); done)⟩ ?_
     clear hK K
     try simp only [Act.put, List.setIfInBounds_toArray, List.set_cons_zero, List.set_cons_succ]
     refine Lex.step_take _ od6 rfl (Lex.want_none rfl) (by intro Wx hSw; clear hSw; go_simp; try (first | (with_reducible rfl) | rfl)) ?_
     simp only [Act.put, List.setIfInBounds_toArray, List.set_cons_zero, List.set_cons_succ]
     refine NoPanic.normal ?_
     go_wp2_with (first
      | ((with_reducible (show wpList _ _ _ (Oper.mk _ (Op.load _ _) _ _ _ none :: _) _ _)); first | refine Fv.ldN F rfl rfl rfl (by repeat constructor) (by repeat constructor) ?_ | refine Fv.ld1 F rfl rfl rfl (by repeat constructor) (by repeat constructor) ?_)
      | ((with_reducible (show wpList _ _ _ (Oper.mk _ (Op.store _ _ _) _ _ _ none :: _) _ _)); (first | refine Fv.stN F rfl rfl rfl rfl rfl (by first | rfl | simp [Value.oneCell']) (by repeat constructor) ?_ | refine Fv.st1 F rfl rfl rfl (by first | exact (rfl : _ = Value.int _ _) | exact (rfl : _ = Value.slice _ _ _) | exact (rfl : _ = Value.bool _) | exact (rfl : _ = Value.string _)) (by rfl) (by repeat constructor) ?_); clear F; intro W F)
      | ((with_reducible (show wpList _ _ _ (Oper.mk _ (Op.alloc _) _ _ _ none :: _) _ _)); refine Fv.al F rfl rfl ?_; clear F; intro g W hs1 hs2 F; clear hs1 hs2))
     refine bodyPost_ret (res_ccT F rfl rfl Fv.rt_Store (by repeat constructor) rfl rfl Fv.rt_Slab (by repeat constructor) rfl) rfl ?_
     rw [← HP.out, openR_check HR.out HQ.out HR2.out HR3.out he3]
     exact ⟨_, _, rfl, (fun s hs => by cases hs), (fun _ => rfl), st_five F.out.2.st, F.B⟩
   ·skip
    go_upto_region 10 with (first
     | ((with_reducible (show wpList _ _ _ (Oper.mk _ (Op.load _ _) _ _ _ none :: _) _ _)); first | refine Fv.ldN F rfl rfl rfl (by repeat constructor) (by repeat constructor) ?_ | refine Fv.ld1 F rfl rfl rfl (by repeat constructor) (by repeat constructor) ?_)
     | ((with_reducible (show wpList _ _ _ (Oper.mk _ (Op.store _ _ _) _ _ _ none :: _) _ _)); (first | refine Fv.stN F rfl rfl rfl rfl rfl (by first | rfl | simp [Value.oneCell']) (by repeat constructor) ?_ | refine Fv.st1 F rfl rfl rfl (by first | exact (rfl : _ = Value.int _ _) | exact (rfl : _ = Value.slice _ _ _) | exact (rfl : _ = Value.bool _) | exact (rfl : _ = Value.string _)) (by rfl) (by repeat constructor) ?_); clear F; intro W F)
     | ((with_reducible (show wpList _ _ _ (Oper.mk _ (Op.alloc _) _ _ _ none :: _) _ _)); refine Fv.al F rfl rfl ?_; clear F; intro g W hs1 hs2 F; clear hs1 hs2))
    replace F := F.drew
    refine Lex.region_lex (ops := odops) (calls := odcalls) odord (Fv.ClsB _ _) (by kernel_rfl) (by kernel_rfl) odsel (by kernel_rfl) (by kernel_rfl) odlex ⟨F.B, F.cls (Fv.Inc.cons Fv.VIn.head Fv.Inc.nil)⟩ ?_
    unfold odord
    refine Lex.step_take _ od0 rfl (Lex.want_none rfl) (by intro Wx hSw; clear hSw; go_simp; try (first | (with_reducible rfl) | rfl)) ?_
    simp only [Act.put, List.setIfInBounds_toArray, List.set_cons_zero, List.set_cons_succ]
    refine Lex.step_take _ od1 rfl (Lex.want_none rfl) (by intro Wx hSw; clear hSw; go_simp; try (first | (with_reducible rfl) | rfl)) ?_
    simp only [Act.put, List.setIfInBounds_toArray, List.set_cons_zero, List.set_cons_succ]
    refine Lex.step_take _ od2 rfl (Lex.want_none rfl) (by intro Wx hSw; exact Fv.run_loadNC hSw.2 rfl rfl Fv.rt_Slab (by repeat constructor) (by repeat constructor)) ?_
    simp only [Act.put, List.setIfInBounds_toArray, List.set_cons_zero, List.set_cons_succ]
    refine Lex.step_take _ od3 rfl (Lex.want_none rfl) (by intro Wx hSw; clear hSw; go_simp; try (first | (with_reducible rfl) | rfl)) ?_
    simp only [Act.put, List.setIfInBounds_toArray, List.set_cons_zero, List.set_cons_succ]
    refine Lex.step_call od4 rfl (Lex.want_none rfl) (fun K hK => ?_)
    refine Fv.wp_storeN F rfl rfl rfl Fv.rt_Store rfl (by first | rfl | simp [Value.oneCell']) (by repeat constructor) ?_; clear F; intro W F
    refine hK.out _ _ _ (fun _ h => h) ⟨F.B, F.cls (by (repeat (first | exact Fv.Inc.nil | apply Fv.Inc.cons | exact Fv.VIn.head | apply Fv.VIn.tail)); done)⟩ ?_
    clear hK K
    try simp only [Act.put, List.setIfInBounds_toArray, List.set_cons_zero, List.set_cons_succ]
    refine Lex.step_call od5 rfl (Lex.want_none rfl) (fun K hK => ?_)
    refine Fv.wp_storeN F rfl rfl rfl Fv.rt_Slab rfl (by first | rfl | simp [Value.oneCell']) (by repeat constructor) ?_; clear F; intro W F
    refine hK.out _ _ _ (fun _ h => h) ⟨F.B, F.cls (by (repeat (first | exact Fv.Inc.nil | apply Fv.Inc.cons | exact Fv.VIn.head | apply Fv.VIn.tail)); done)⟩ ?_
    clear hK K
    try simp only [Act.put, List.setIfInBounds_toArray, List.set_cons_zero, List.set_cons_succ]
    refine Lex.step_take _ od6 rfl (Lex.want_none rfl) (by intro Wx hSw; clear hSw; go_simp; try (first | (with_reducible rfl) | rfl)) ?_
    simp only [Act.put, List.setIfInBounds_toArray, List.set_cons_zero, List.set_cons_succ]
    refine NoPanic.normal ?_
    go_wp2_with (first
     | ((with_reducible (show wpList _ _ _ (Oper.mk _ (Op.load _ _) _ _ _ none :: _) _ _)); first | refine Fv.ldN F rfl rfl rfl (by repeat constructor) (by repeat constructor) ?_ | refine Fv.ld1 F rfl rfl rfl (by repeat constructor) (by repeat constructor) ?_)
     | ((with_reducible (show wpList _ _ _ (Oper.mk _ (Op.store _ _ _) _ _ _ none :: _) _ _)); (first | refine Fv.stN F rfl rfl rfl rfl rfl (by first | rfl | simp [Value.oneCell']) (by repeat constructor) ?_ | refine Fv.st1 F rfl rfl rfl (by first | exact (rfl : _ = Value.int _ _) | exact (rfl : _ = Value.slice _ _ _) | exact (rfl : _ = Value.bool _) | exact (rfl : _ = Value.string _)) (by rfl) (by repeat constructor) ?_); clear F; intro W F)
     | ((with_reducible (show wpList _ _ _ (Oper.mk _ (Op.alloc _) _ _ _ none :: _) _ _)); refine Fv.al F rfl rfl ?_; clear F; intro g W hs1 hs2 F; clear hs1 hs2))
    refine bodyPost_ret (res_ccT F rfl rfl Fv.rt_Store (by repeat constructor) rfl rfl Fv.rt_Slab (by repeat constructor) rfl) rfl ?_
    rw [← HP.out, openR_rec HR.out HQ.out HR2.out he2]
    exact ⟨_, _, rfl, (fun s hs => by cases hs), (fun _ => rfl), st_five F.out.2.st, F.B⟩
  ·have HQ := Lib.hid (show (D.n : Int) ≠ sizeN h by rw [← HS.out, ← HO1.out.2]; omega)
   have hqi : ¬ ((D1.n : Nat) : Int) = (N : Nat) := by omega
   go_upto_region 5 with (first
    | ((with_reducible (show wpList _ _ _ (Oper.mk _ (Op.load _ _) _ _ _ none :: _) _ _)); first | refine Fv.ldN F rfl rfl rfl (by repeat constructor) (by repeat constructor) ?_ | refine Fv.ld1 F rfl rfl rfl (by repeat constructor) (by repeat constructor) ?_)
    | ((with_reducible (show wpList _ _ _ (Oper.mk _ (Op.store _ _ _) _ _ _ none :: _) _ _)); (first | refine Fv.stN F rfl rfl rfl rfl rfl (by first | rfl | simp [Value.oneCell']) (by repeat constructor) ?_ | refine Fv.st1 F rfl rfl rfl (by first | exact (rfl : _ = Value.int _ _) | exact (rfl : _ = Value.slice _ _ _) | exact (rfl : _ = Value.bool _) | exact (rfl : _ = Value.string _)) (by rfl) (by repeat constructor) ?_); clear F; intro W F)
    | ((with_reducible (show wpList _ _ _ (Oper.mk _ (Op.alloc _) _ _ _ none :: _) _ _)); refine Fv.al F rfl rfl ?_; clear F; intro g W hs1 hs2 F; clear hs1 hs2))
   replace F := F.drew
   refine Lex.region_lex (ops := ocops) (calls := occalls) ocord (Fv.ClsB _ _) (by kernel_rfl) (by kernel_rfl) ocsel (by kernel_rfl) (by kernel_rfl) oclex ⟨F.B, F.cls (Fv.Inc.cons (Fv.VIn.tail (Fv.VIn.tail (Fv.VIn.tail Fv.VIn.head))) Fv.Inc.nil)⟩ ?_
   unfold ocord
   refine Lex.step_take _ oc0 rfl (Lex.want_none rfl) (by intro Wx hSw; clear hSw; go_simp; try (first | (with_reducible rfl) | rfl)) ?_
   simp only [Act.put, List.setIfInBounds_toArray, List.set_cons_zero, List.set_cons_succ]
   refine Lex.step_take _ oc1 rfl (Lex.want_none rfl) (by intro Wx hSw; exact Fv.run_loadNC hSw.2 rfl rfl Fv.rt_Slab (by repeat constructor) (by repeat constructor)) ?_
   simp only [Act.put, List.setIfInBounds_toArray, List.set_cons_zero, List.set_cons_succ]
   refine Lex.step_call oc2 rfl (Lex.want_none rfl) (fun K hK => ?_)
   refine Fv.wp_storeN F rfl rfl rfl Fv.rt_Store rfl (by first | rfl | simp [Value.oneCell']) (by repeat constructor) ?_; clear F; intro W F
   refine hK.out _ _ _ (fun _ h => h) ⟨F.B, F.cls (by (repeat (first | exact Fv.Inc.nil | apply Fv.Inc.cons | exact Fv.VIn.head | apply Fv.VIn.tail)); done)⟩ ?_
   clear hK K
   try simp only [Act.put, List.setIfInBounds_toArray, List.set_cons_zero, List.set_cons_succ]
   refine Lex.step_call oc3 rfl (Lex.want_none rfl) (fun K hK => ?_)
   refine Fv.wp_storeN F rfl rfl rfl Fv.rt_Slab rfl (by first | rfl | simp [Value.oneCell']) (by repeat constructor) ?_; clear F; intro W F
   refine hK.out _ _ _ (fun _ h => h) ⟨F.B, F.cls (by (repeat (first | exact Fv.Inc.nil | apply Fv.Inc.cons | exact Fv.VIn.head | apply Fv.VIn.tail)); done)⟩ ?_
   clear hK K
   try simp only [Act.put, List.setIfInBounds_toArray, List.set_cons_zero, List.set_cons_succ]
   refine Lex.step_take _ oc4 rfl (Lex.want_none rfl) (by intro Wx hSw; clear hSw; go_simp; try (first | (with_reducible rfl) | rfl)) ?_
   simp only [Act.put, List.setIfInBounds_toArray, List.set_cons_zero, List.set_cons_succ]
   refine NoPanic.normal ?_
   go_wp2_with (first
    | ((with_reducible (show wpList _ _ _ (Oper.mk _ (Op.load _ _) _ _ _ none :: _) _ _)); first | refine Fv.ldN F rfl rfl rfl (by repeat constructor) (by repeat constructor) ?_ | refine Fv.ld1 F rfl rfl rfl (by repeat constructor) (by repeat constructor) ?_)
    | ((with_reducible (show wpList _ _ _ (Oper.mk _ (Op.store _ _ _) _ _ _ none :: _) _ _)); (first | refine Fv.stN F rfl rfl rfl rfl rfl (by first | rfl | simp [Value.oneCell']) (by repeat constructor) ?_ | refine Fv.st1 F rfl rfl rfl (by first | exact (rfl : _ = Value.int _ _) | exact (rfl : _ = Value.slice _ _ _) | exact (rfl : _ = Value.bool _) | exact (rfl : _ = Value.string _)) (by rfl) (by repeat constructor) ?_); clear F; intro W F)
    | ((with_reducible (show wpList _ _ _ (Oper.mk _ (Op.alloc _) _ _ _ none :: _) _ _)); refine Fv.al F rfl rfl ?_; clear F; intro g W hs1 hs2 F; clear hs1 hs2))
   refine bodyPost_ret (res_ccT F rfl rfl Fv.rt_Store (by repeat constructor) rfl rfl Fv.rt_Slab (by repeat constructor) rfl) rfl ?_
   rw [← HP.out, openR_form HR.out HQ.out]
   exact ⟨_, _, rfl, (fun s hs => by cases hs), (fun _ => rfl), F.out.2.dev, F.B⟩
 ·skip
  have F := Fv.Fr.start w
  go_enter Tryz.func26, Tryz.ntmps26
  go_upto_region 3 with (first
   | ((with_reducible (show wpList _ _ _ (Oper.mk _ (Op.load _ _) _ _ _ none :: _) _ _)); first | refine Fv.ldN F rfl rfl rfl (by repeat constructor) (by repeat constructor) ?_ | refine Fv.ld1 F rfl rfl rfl (by repeat constructor) (by repeat constructor) ?_)
   | ((with_reducible (show wpList _ _ _ (Oper.mk _ (Op.store _ _ _) _ _ _ none :: _) _ _)); (first | refine Fv.stN F rfl rfl rfl rfl rfl (by first | rfl | simp [Value.oneCell']) (by repeat constructor) ?_ | refine Fv.st1 F rfl rfl rfl (by first | exact (rfl : _ = Value.int _ _) | exact (rfl : _ = Value.slice _ _ _) | exact (rfl : _ = Value.bool _) | exact (rfl : _ = Value.string _)) (by rfl) (by repeat constructor) ?_); clear F; intro W F)
   | ((with_reducible (show wpList _ _ _ (Oper.mk _ (Op.alloc _) _ _ _ none :: _) _ _)); refine Fv.al F rfl rfl ?_; clear F; intro g W hs1 hs2 F; clear hs1 hs2)
   | ((with_reducible (show wpList _ _ _ (Oper.mk _ (Op.box _ _) _ _ _ none :: _) _ _)); refine Fv.wpL_box F rfl rfl rfl rfl ?_; clear F; intro gb W hs1 hs2 F; clear hs1 hs2)
   | (go_at_call 90; refine (HNW.out _ _ (HT.out.below F.B) (HD.out.below F.B (Nat.le_refl _))).mono ?_; rintro e1 w1 ⟨v1, rfl, hD1, hv⟩; replace F := F.call hv; clear hv; obtain ⟨A1, n1, c1, B1, m1, k1, dd1, lf1, ds1, rfl⟩ := dev_form hD1; replace F := addDev F hD1 HN1.out rfl; clear hD1))
  replace F := F.drew
  refine Lex.region_lex (ops := oaops) (calls := oacalls) oaord (Fv.ClsB _ _) (by kernel_rfl) (by kernel_rfl) oasel (by kernel_rfl) (by kernel_rfl) oalex ⟨F.B, F.cls (Fv.Inc.cons (Fv.VIn.tail (Fv.VIn.tail (Fv.VIn.tail Fv.VIn.head))) Fv.Inc.nil)⟩ ?_
  unfold oaord
  refine Lex.step_take _ oa0 rfl (Lex.want_none rfl) (by intro Wx hSw; clear hSw; go_simp; try (first | (with_reducible rfl) | rfl)) ?_
  simp only [Act.put, List.setIfInBounds_toArray, List.set_cons_zero, List.set_cons_succ]
  refine Lex.step_take _ oa1 rfl (Lex.want_none rfl) (by intro Wx hSw; exact Fv.run_loadNC hSw.2 rfl rfl Fv.rt_Slab (by repeat constructor) (by repeat constructor)) ?_
  simp only [Act.put, List.setIfInBounds_toArray, List.set_cons_zero, List.set_cons_succ]
  refine Lex.step_take _ oa2 rfl (Lex.want_none rfl) (by intro Wx hSw; clear hSw; go_simp; try (first | (with_reducible rfl) | rfl)) ?_
  simp only [Act.put, List.setIfInBounds_toArray, List.set_cons_zero, List.set_cons_succ]
  refine Lex.step_call oa3 rfl (Lex.want_none rfl) (fun K hK => ?_)
  refine Fv.wp_storeN F rfl rfl rfl Fv.rt_Store rfl (by first | rfl | simp [Value.oneCell']) (by repeat constructor) ?_; clear F; intro W F
  refine hK.out _ _ _ (fun _ h => h) ⟨F.B, F.cls (by (repeat (first | exact Fv.Inc.nil | apply Fv.Inc.cons | exact Fv.VIn.head | apply Fv.VIn.tail)); done)⟩ ?_
  clear hK K
  try simp only [Act.put, List.setIfInBounds_toArray, List.set_cons_zero, List.set_cons_succ]
  refine Lex.step_call oa4 rfl (Lex.want_none rfl) (fun K hK => ?_)
  refine Fv.wp_storeN F rfl rfl rfl Fv.rt_Slab rfl (by first | rfl | simp [Value.oneCell']) (by repeat constructor) ?_; clear F; intro W F
  refine hK.out _ _ _ (fun _ h => h) ⟨F.B, F.cls (by (repeat (first | exact Fv.Inc.nil | apply Fv.Inc.cons | exact Fv.VIn.head | apply Fv.VIn.tail)); done)⟩ ?_
  clear hK K
  try simp only [Act.put, List.setIfInBounds_toArray, List.set_cons_zero, List.set_cons_succ]
  refine Lex.step_take _ oa5 rfl (Lex.want_none rfl) (by intro Wx hSw; clear hSw; go_simp; try (first | (with_reducible rfl) | rfl)) ?_
  simp only [Act.put, List.setIfInBounds_toArray, List.set_cons_zero, List.set_cons_succ]
  refine NoPanic.normal ?_
  go_wp2_with (first
   | ((with_reducible (show wpList _ _ _ (Oper.mk _ (Op.load _ _) _ _ _ none :: _) _ _)); first | refine Fv.ldN F rfl rfl rfl (by repeat constructor) (by repeat constructor) ?_ | refine Fv.ld1 F rfl rfl rfl (by repeat constructor) (by repeat constructor) ?_)
   | ((with_reducible (show wpList _ _ _ (Oper.mk _ (Op.store _ _ _) _ _ _ none :: _) _ _)); (first | refine Fv.stN F rfl rfl rfl rfl rfl (by first | rfl | simp [Value.oneCell']) (by repeat constructor) ?_ | refine Fv.st1 F rfl rfl rfl (by first | exact (rfl : _ = Value.int _ _) | exact (rfl : _ = Value.slice _ _ _) | exact (rfl : _ = Value.bool _) | exact (rfl : _ = Value.string _)) (by rfl) (by repeat constructor) ?_); clear F; intro W F)
   | ((with_reducible (show wpList _ _ _ (Oper.mk _ (Op.alloc _) _ _ _ none :: _) _ _)); refine Fv.al F rfl rfl ?_; clear F; intro g W hs1 hs2 F; clear hs1 hs2))
  refine bodyPost_ret (res_ccT F rfl rfl Fv.rt_Store (by repeat constructor) rfl rfl Fv.rt_Slab (by repeat constructor) rfl) rfl ?_
  rw [← HP.out, openR_err HR.out he]
  exact ⟨_, _, rfl, (fun s hs => by cases hs), (fun _ => rfl), F.out.2.dev, F.B⟩
end Go.Proofs.YtcgkbcgpnlogoaaGreatDoor.St
