/- Stores: the program's recalled. -/
import Derived.Test.YtcgkbcgpnlogoaaGreatDoorStN
namespace Go.Proofs.YtcgkbcgpnlogoaaGreatDoor.St
open Go.RowKit Go.Shelf Tal Sla Hd Fr Lf Lex
theorem followsB_iff {h : H} {f : F} {n : Nat} : followsB h f n = true ↔ Follows h f n := by
 unfold followsB Follows
 cases f.c
 ·simp [hasB_iff, HasNo]
 ·simp
/-- A list of places whose row lies below bs. -/
def RowB (n0 bs : Nat) (A : Option Addr) (cp : Nat) (l : List Im) : Fv.Fact := fun L w => HasX SlI.cellsE 2 w (fun b => (n0 ≤ b ∧ Fv.Free L w b) ∧ b < bs) A cp l
section
variable {n0 bs cp : Nat} {A : Option Addr} {l : List Im} {L L' : List Nat} {W W' w0 : World} {v : Value} {D : Dev} {vs : List Fv.V} {Φ : Fv.Fact}
theorem RowB.ext (h : RowB n0 bs A cp l L W) (e : Fv.Ext L W L' W') : RowB n0 bs A cp l L' W' :=
 ⟨hasL_ext h.p (fun hn b o s hA => (h.x hn b o s hA).1.2) e, fun hn b o s hA => ⟨⟨(h.x hn b o s hA).1.1, e.free b (h.x hn b o s hA).1.2⟩, (h.x hn b o s hA).2⟩, h.c⟩
theorem RowB.grown {row : Option Nat} (h : RowB n0 bs A cp l L W) (hg : W.grownBy W' row) (hr : ∀ q, row = some q → bs ≤ q) : RowB n0 bs A cp l L W' := by
 have key : l ≠ [] → ∀ b o s, A = some ⟨b, o, s⟩ → b < W'.heap.size ∧ W'.heap[b]? = W.heap[b]? := fun hn b o s hA => by
  have hx := h.x hn b o s hA
  exact ⟨Nat.lt_of_lt_of_le hx.1.2.1 hg.size, hg.block b hx.1.2.1 fun e => by have := hr b e.symm; omega⟩
 exact ⟨hasL_blocks h.p key, fun hn b o s hA => ⟨⟨(h.x hn b o s hA).1.1, (key hn b o s hA).1, (h.x hn b o s hA).1.2.2⟩, (h.x hn b o s hA).2⟩, h.c⟩
theorem DevF.grown {row : Option Nat} (h : DevF v D L W) (hn : 1 ≤ D.n) (hg : W.grownBy W' row) (hr : ∀ q, row = some q → ∃ k0 i0 k1 i1 r t fr, W.heap[q]? = some (.cells (Value.int k0 i0 :: Value.int k1 i1 :: r).toArray t fr)) : DevF v D L W' := by
 obtain ⟨b, B, ⟨c, m, e, hb, hnc, hc, hl, h0⟩, h1, h2⟩ := h
 have kb : some b ≠ row := fun er => by
  obtain ⟨k0, i0, k1, i1, r, t, fr, hq⟩ := hr b er.symm
  have := hc 0 (by omega)
  rw [cell_of_row W b 0 _ _ _ hq] at this
  simp at this
 have eb := hg.block b h1.1 kb
 refine ⟨b, B, ⟨c, m, e, Nat.lt_of_lt_of_le hb hg.size, hnc, fun j hj => (World.cell?_of_block (w := W) (a := ⟨b, j, none⟩) eb).trans (hc j hj), fun hm => ?_, h0⟩, ⟨Nat.lt_of_lt_of_le h1.1 hg.size, h1.2⟩, fun a ha => ⟨Nat.lt_of_lt_of_le (h2 a ha).1 hg.size, (h2 a ha).2⟩⟩
 obtain ⟨q, hB, hq, hc2⟩ := hl hm
 have kq : some q ≠ row := fun er => by
  obtain ⟨k0, i0, k1, i1, r, t, fr, hh⟩ := hr q er.symm
  have := (hc2 0 hm).2
  rw [cell_of_row W q _ _ _ _ hh] at this
  simp at this
 have eq := hg.block q hq kq
 exact ⟨q, hB, Nat.lt_of_lt_of_le hq hg.size, fun j hj => ⟨(World.cell?_of_block (w := W) (a := ⟨q, j * 2, none⟩) eq).trans (hc2 j hj).1, (World.cell?_of_block (w := W) (a := ⟨q, j * 2 + 1, none⟩) eq).trans (hc2 j hj).2⟩⟩
theorem addDevF (F : Fv.Fr w0 W vs Φ) (h : DevF v D (vs.map (·.1)) W) : Fv.Fr w0 W vs (fun L w => Φ L w ∧ DevF v D L w) := F.add fun _ _ e => h.ext e
theorem addRowB (F : Fv.Fr w0 W vs Φ) (h : RowB n0 bs A cp l (vs.map (·.1)) W) : Fv.Fr w0 W vs (fun L w => Φ L w ∧ RowB n0 bs A cp l L w) := F.add fun _ _ e => h.ext e
end
theorem ltA {w0 W : World} {vs : List Fv.V} {Φ : Fv.Fact} {g : Nat} {cs : List Value} (F : Fv.Fr w0 W vs Φ) (h : Fv.At vs g cs) : g < W.heap.size := by
 obtain ⟨t, ht⟩ := h.mem
 exact F.lt ht
/-- A row of places of one's own that is there begins with two numbers. -/
theorem own_two {W : World} {base q : Nat} {v : Value} {l : List Im} (h : W.ownsRow base 116 2 v l.length (Li.cellsL SlI.cellsE l)) (h0 : l = [] → v = .slice none 0 0) (hq : v.ownBlock = some q) : ∃ k0 i0 k1 i1 r t fr, W.heap[q]? = some (.cells (Value.int k0 i0 :: Value.int k1 i1 :: r).toArray t fr) := by
 cases l with
 | nil => rw [h0 rfl] at hq; cases hq
 | cons x l =>
  rcases h.2 with ⟨rfl, _⟩ | ⟨g, cap, cur, rfl, _, h3, _, _, hs, ht⟩
  ·cases hq
  ·have hq : some g = some q := hq
   injection hq with hq
   subst hq
   have hsz : 2 ≤ cur.toList.length := by
    have := congrArg List.length ht
    rw [List.length_take, h.1] at this
    simp only [List.length_cons] at this
    omega
   match hc : cur.toList, hsz with
   | a :: b :: r, _ =>
    rw [hc] at ht
    have ht : (a :: b :: r).take ((l.length + 1) * 2) = .int .i64 (x.pg : Nat) :: .int .i64 (x.at_ : Nat) :: Li.cellsL SlI.cellsE l := ht
    rw [show (l.length + 1) * 2 = l.length * 2 + 1 + 1 by omega, List.take_succ_cons, List.take_succ_cons] at ht
    injection ht with e1 ht
    injection ht with e2 _
    have hcur : cur = (Value.int .i64 (x.pg : Nat) :: Value.int .i64 (x.at_ : Nat) :: r).toArray := by
     rw [← e1, ← e2, ← hc, Array.toArray_toList]
    exact ⟨.i64, (x.pg : Nat), .i64, (x.at_ : Nat), r, _, (0, 0), by rw [h3, hcur]⟩
section
variable {n i : Nat} {s : S} {wl : List Im} {D2 : Dev} {f : F} {er : Int}
theorem recallR_stop (hf : frameR s.d s.h i = (D2, f, er)) (h : er = 2 ∨ (er = 0 ∧ followsB s.h f wl.length = false)) : recallR (n + 1) i s wl = ({ s with d := D2 }, 0) := by
 rw [recallR, hf, if_pos (by
  rcases h with h | ⟨h1, h2⟩
  ·exact Or.inl h
  ·exact Or.inr ⟨h1, fun e => by rw [followsB_iff.2 e] at h2; cases h2⟩)]
theorem recallR_err (hf : frameR s.d s.h i = (D2, f, er)) (h2 : er ≠ 2) (h0 : er ≠ 0) : recallR (n + 1) i s wl = ({ s with d := D2 }, er) := by
 rw [recallR, hf, if_neg (by rintro (h | ⟨h, _⟩); exact h2 h; exact h0 h), if_pos h0]
theorem recallR_end (hf : frameR s.d s.h i = (D2, f, 0)) (h : followsB s.h f wl.length = true) (hc : f.c = true) : recallR (n + 1) i s wl = recallR n (i + 1) { s with d := D2, fr := withI s.fr wl, t := i + 1 } [] := by
 rw [recallR, hf, if_neg (by rintro (h3 | ⟨_, h3⟩); exact absurd h3 (show ¬ (0 : Int) = 2 by decide); exact h3 (followsB_iff.1 h)), if_neg (by simp), if_pos hc]
theorem recallR_page (hf : frameR s.d s.h i = (D2, f, 0)) (h : followsB s.h f wl.length = true) (hc : f.c = false) : recallR (n + 1) i s wl = recallR n (i + 1) { s with d := D2 } (wl ++ [⟨f.p.toNat, i⟩]) := by
 rw [recallR, hf, if_neg (by rintro (h3 | ⟨_, h3⟩); exact absurd h3 (show ¬ (0 : Int) = 2 by decide); exact h3 (followsB_iff.1 h)), if_neg (by simp), if_neg (by rw [hc]; simp)]
end
theorem grow_rec {w0 W w5 : World} {vs : List Fv.V} {A : Option Addr} {cp bs : Nat} {v v1 v2 : Value} {fr wl : List Im} {D1 D2 : Dev} {o : Obj}
  (F : Fv.Fr w0 W vs (fun L w2 => (((True ∧ DevF v1 D1 L w2) ∧ RowB w0.heap.size bs A cp fr L w2) ∧ OwnR 116 2 bs v wl.length (Li.cellsL SlI.cellsE wl) L w2) ∧ DevF v2 D2 L w2)) (hn : 1 ≤ D2.n) (hb : w0.heap.size ≤ bs) (hW : wl = [] → v = .slice none 0 0) (hg : (W.alloc o).grownBy w5 v.ownBlock) :
  Fv.Fr w0 w5 vs (fun L w2 => (True ∧ DevF v2 D2 L w2) ∧ RowB w0.heap.size bs A cp fr L w2) := by
 have F1 := F.call ((Below.refl W.heap.size W).alloc (Nat.le_refl _) o)
 have hO := F1.out.1.2
 exact addRowB (addDevF (frGrown F1 hg (fun q hq => ⟨Nat.le_trans hb (hO.1.lt q hq).1, hO.2 q hq⟩)) (F1.out.2.grown hn hg (fun q hq => own_two hO.1 hW hq))) (F1.out.1.1.2.grown hg (fun q hq => (hO.1.lt q hq).1))
theorem fold_len : ∀ (l m : List Im), (m.foldl insI l).length ≤ l.length + m.length
 | l, [] => Nat.le_refl _
 | l, x :: m => by
  have h1 := fold_len (insI l x) m
  have h2 := SlI.ins_len l x
  rw [List.foldl_cons, List.length_cons]
  omega
theorem fold_up : ∀ (l m : List Im), SlI.Up l → SlI.Up (m.foldl insI l)
 | l, [], h => h
 | l, x :: m, h => fold_up _ m (SlI.up_ins h).1
def RecPost (R : S × Int) (w : World) (e : Ending) (w' : World) : Prop := ∃ v, e = .returned (.tuple #[v, .int .i64 R.2]) ∧ IsSt (fun b => w.heap.size ≤ b) w' v R.1 ∧ Below w.heap.size w w'
set_option maxRecDepth 20000 in
set_option maxHeartbeats 6400000 in
theorem recalled_any {K : Nat} (D : Dev) (A0 : Option Addr) (n0 c0 : Nat) (B0 : Option Addr) (m0 k0 : Nat) (dd0 : Bool) (lf0 ds0 : Int) (h : H) (w : World) (ht : Tab w) (hD : IsDev w (.agg #[.slice A0 n0 c0, .slice B0 m0 k0, .bool dd0, .int .i64 lf0, .int .i64 ds0]) D) (hok : D.Ok K) (hK : K ≤ 90000) (hr : RightH h) (hn : D.n = 2 + h.p.toNat + h.l.toNat) :
  Calls Tryz.prog 91 #[.agg #[.slice A0 n0 c0, .slice B0 m0 k0, .bool dd0, .int .i64 lf0, .int .i64 ds0, .int .i64 h.p, .int .i64 h.l, .int .i64 h.e, .int .i64 0, .slice none 0 0, .slice none 0 0, .slice none 0 0, .int .i64 0]] w (RecPost (recalledR ⟨D, h, 0, [], [], ⟨[], 0⟩⟩) w) := by
 obtain ⟨iE, hiE, hv0, hv1, hv2⟩ := info_parts SlI.infoE
 have HT := Lib.hid ht
 have HD := Lib.hid hD
 have HK := Lib.hid (And.intro hok (And.intro hK (And.intro hr hn)))
 have l0 := hr.l0
 have l1 := hr.l1
 clear ht hD hok hK hr hn
 obtain ⟨post, hpost⟩ : ∃ post, RecPost (recalledR ⟨D, h, 0, [], [], ⟨[], 0⟩⟩) w = post := ⟨_, rfl⟩
 rw [hpost]
 have HP := Lib.hid hpost
 clear hpost
 obtain ⟨ln, hln⟩ : ∃ n : Nat, h.l = n := ⟨h.l.toNat, by omega⟩
 have HLN := Lib.hid hln
 have hln9 : ln ≤ 512 := by omega
 clear hln l0 l1
 have F := Fv.Fr.start w
 go_enter Tryz.func91, Tryz.ntmps91
 go_upto_region 3 with (first
  | ((with_reducible (show wpList _ _ _ (Oper.mk _ (Op.load _ _) _ _ _ none :: _) _ _)); first | refine Fv.ldN F rfl rfl rfl (by repeat constructor) (by repeat constructor) ?_ | refine Fv.ld1 F rfl rfl rfl (by repeat constructor) (by repeat constructor) ?_)
  | ((with_reducible (show wpList _ _ _ (Oper.mk _ (Op.store _ _ _) _ _ _ none :: _) _ _)); (first | refine Fv.stN F rfl rfl rfl rfl rfl (by first | rfl | simp [Value.oneCell']) (by repeat constructor) ?_ | refine Fv.st1 F rfl rfl rfl (by first | exact (rfl : _ = Value.int _ _) | exact (rfl : _ = Value.slice _ _ _) | exact (rfl : _ = Value.bool _) | exact (rfl : _ = Value.string _)) (by rfl) (by repeat constructor) ?_); clear F; intro W F)
  | ((with_reducible (show wpList _ _ _ (Oper.mk _ (Op.alloc _) _ _ _ none :: _) _ _)); refine Fv.al F rfl rfl ?_; clear F; intro g W hs1 hs2 F; clear hs1 hs2)
  | ((with_reducible (show wpList _ _ _ (Oper.mk _ (Op.box _ _) _ _ _ none :: _) _ _)); refine Fv.wpL_box F rfl rfl rfl rfl ?_; clear F; intro gb W hs1 hs2 F; clear hs1 hs2))
 replace F := addOwn (base := w.heap.size) (t := 116) (k := 2) (addRowB (n0 := w.heap.size) (bs := w.heap.size) (l := []) (addDev F (HD.out.below F.B (Nat.le_refl _)) HK.out.1.n1 rfl) HasX.nil) (World.ownsRow_nil _ _ _ _) rfl
 go_loopw [4, 12] (fun s4 s12 wr => ∃ (k : Nat) (A1 : Option Addr) (n1 c1 : Nat) (B1 : Option Addr) (m1 k1 : Nat) (dd1 : Bool) (lf1 ds1 : Int) (D1 : Dev) (Af1 : Option Addr) (cf1 : Nat) (fr1 : List Im) (t1 : Nat) (wl : List Im) (bs : Nat), s12 = .int .i64 (k : Nat) ∧ k ≤ ln ∧ t1 ≤ k ∧ fr1.length + wl.length ≤ k ∧ w.heap.size ≤ bs ∧ bs ≤ wr.heap.size ∧ Hid (recallR (ln - k) k ⟨D1, h, t1, fr1, [], ⟨[], 0⟩⟩ wl = recalledR ⟨D, h, 0, [], [], ⟨[], 0⟩⟩) ∧ Hid (D1.Ok (K + k)) ∧ Hid (D1.n = D.n) ∧ Hid (SlI.Up fr1) ∧ Hid (wl = [] → s4 = .slice none 0 0) ∧ Fv.Fr w wr [(g, 37, [.slice none 0 0, .slice none 0 0, .bool false, .int .i64 0, .int .i64 0, .int .i64 0, .int .i64 0, .int .i64 0, .int .i64 0, .slice none 0 0, .slice none 0 0, .slice none 0 0, .int .i64 0]), (gb, 37, [.slice A1 n1 c1, .slice B1 m1 k1, .bool dd1, .int .i64 lf1, .int .i64 ds1, .int .i64 h.p, .int .i64 h.l, .int .i64 h.e, .int .i64 (t1 : Nat), .slice Af1 fr1.length cf1, .slice none 0 0, .slice none 0 0, .int .i64 0])] (fun L w2 => ((True ∧ DevF (.agg #[.slice A1 n1 c1, .slice B1 m1 k1, .bool dd1, .int .i64 lf1, .int .i64 ds1]) D1 L w2) ∧ RowB w.heap.size bs Af1 cf1 fr1 L w2) ∧ OwnR 116 2 bs s4 wl.length (Li.cellsL SlI.cellsE wl) L w2)) (fun _ s12 _ => ln - (intOf s12).toNat)
 case atStart => exact ⟨0, _, _, _, _, _, _, _, _, _, D, none, 0, [], 0, [], _, rfl, Nat.zero_le _, Nat.le_refl _, Nat.le_refl _, Nat.le_refl _, F.B.size, (by unfold recalledR; rw [show (⟨D, h, 0, [], [], ⟨[], 0⟩⟩ : S).h.l.toNat = ln by show h.l.toNat = ln; rw [HLN.out]; rfl]; rfl), HK.out.1, rfl, List.Pairwise.nil, fun _ => rfl, F⟩
 case round =>
  clear F
  obtain ⟨k, A1, n1, c1, B1, m1, k1, dd1, lf1, ds1, D1, Af1, cf1, fr1, t1, wl, bs, rfl, hk, htk, hfw, hb0, hb1, HZ, HO, HN, HU, HW, F⟩ := hrel
  obtain ⟨A4, c4, hu4, _, _⟩ := Li.list_of_own SlI.cellsE_len F.out.2.1 rfl
  subst hu4
  by_cases hlt : k < ln
  ·have i1 : (k : Int) < h.l := by rw [HLN.out]; omega
   have i0 : (0 : Int) ≤ (k : Int) := by omega
   have HFR := Lib.hid (fun W (ht : Tab W) (hd : IsDev W (.agg #[.slice A1 n1 c1, .slice B1 m1 k1, .bool dd1, .int .i64 lf1, .int .i64 ds1]) D1) => frameAt_any _ D1 h k W ht hd HO.out (by have := HK.out.2.1; omega) HK.out.2.2.1 (by rw [HN.out]; exact HK.out.2.2.2) (by rw [HLN.out]; exact hlt))
   have hfn := frameR_n D1 h k
   have hfo := frameR_ok HO.out h k
   obtain ⟨R, hR⟩ : ∃ R, frameR D1 h k = R := ⟨_, rfl⟩
   rw [hR] at HFR hfn hfo
   obtain ⟨D2, f, er⟩ := R
   have HN2 := Lib.hid (show 1 ≤ D2.n by rw [show D2.n = D1.n from hfn, HN.out]; exact HK.out.1.n1)
   have HO2 := Lib.hid (show D2.Ok (K + (k + 1)) ∧ D2.n = D.n from ⟨hfo, hfn.trans HN.out⟩)
   have HR := Lib.hid hR
   have HS1 := Lib.hid (show ln - k = (ln - (k + 1)) + 1 by omega)
   clear hR hfn hfo
   obtain ⟨fe, fi, fc, fp, fd⟩ := f
   unfold cellsH FramePost cellsF at HFR
   simp only at HFR
   go_upto_region 7 with (first
    | ((with_reducible (show wpList _ _ _ (Oper.mk _ (Op.alloc 28) _ _ _ none :: _) _ _)); refine Fv.wpL_alloc F rfl rfl Fv.zt_Slab ?_; clear F; intro g W hs1 hs2 F; have hbg : bs ≤ g := (by omega); clear hs1 hs2)
    | ((with_reducible (show wpList _ _ _ (Oper.mk _ (Op.load _ _) _ _ _ none :: _) _ _)); first | refine Fv.ldN F rfl rfl rfl (by repeat constructor) (by repeat constructor) ?_ | refine Fv.ld1 F rfl rfl rfl (by repeat constructor) (by repeat constructor) ?_)
    | ((with_reducible (show wpList _ _ _ (Oper.mk _ (Op.store _ _ _) _ _ _ none :: _) _ _)); (first | refine Fv.stN F rfl rfl rfl rfl rfl (by first | rfl | simp [Value.oneCell']) (by repeat constructor) ?_ | refine Fv.st1 F rfl rfl rfl (by first | exact (rfl : _ = Value.int _ _) | exact (rfl : _ = Value.slice _ _ _) | exact (rfl : _ = Value.bool _) | exact (rfl : _ = Value.string _)) (by rfl) (by repeat constructor) ?_); clear F; intro W F)
    | ((with_reducible (show wpList _ _ _ (Oper.mk _ (Op.alloc _) _ _ _ none :: _) _ _)); refine Fv.al F rfl rfl ?_; clear F; intro g W hs1 hs2 F; clear hs1 hs2)
    | (go_at_call 170; refine (HFR.out _ (HT.out.below F.B) F.out.1.1.2.dev).mono ?_; rintro e1 w1 ⟨v2, rfl, hD2, hv⟩; have hbs2 := Nat.le_trans hb1 hv.size; replace F := F.call hv; clear hv; obtain ⟨A2, n2, c2, B2, m2, k2, dd2, lf2, ds2, rfl⟩ := dev_form hD2; replace F := addDev F hD2 HN2.out rfl; clear hD2))
   have HFO := Lib.hid (fun W => follows_any h ⟨fe, fi, fc, fp, fd⟩ wl.length W)
   unfold cellsF at HFO
   have q0_0 := Fv.Fr.cell F Fv.At.head 0
   simp only [List.getElem?_cons_zero] at q0_0
   have q0_1 := Fv.Fr.cell F Fv.At.head 1
   simp only [List.getElem?_cons_zero, List.getElem?_cons_succ] at q0_1
   have q0_2 := Fv.Fr.cell F Fv.At.head 2
   simp only [List.getElem?_cons_zero, List.getElem?_cons_succ] at q0_2
   have q0_3 := Fv.Fr.cell F Fv.At.head 3
   simp only [List.getElem?_cons_zero, List.getElem?_cons_succ] at q0_3
   have q0_4 := Fv.Fr.cell F Fv.At.head 4
   simp only [List.getElem?_cons_zero, List.getElem?_cons_succ] at q0_4
   have q3_5 := Fv.Fr.cell F (Fv.At.tail (Fv.At.tail (Fv.At.tail Fv.At.head))) 5
   simp only [List.getElem?_cons_zero, List.getElem?_cons_succ] at q3_5
   have q3_6 := Fv.Fr.cell F (Fv.At.tail (Fv.At.tail (Fv.At.tail Fv.At.head))) 6
   simp only [List.getElem?_cons_zero, List.getElem?_cons_succ] at q3_6
   have q3_7 := Fv.Fr.cell F (Fv.At.tail (Fv.At.tail (Fv.At.tail Fv.At.head))) 7
   simp only [List.getElem?_cons_zero, List.getElem?_cons_succ] at q3_7
   have q3_30 := And.intro q3_5 (And.intro q3_6 q3_7)
   have hown := F.out.1.2
   by_cases he2 : er = 2
   ·subst he2
    have HE := Lib.hid (recallR_stop (n := ln - (k + 1)) (wl := wl) (s := ⟨D1, h, t1, fr1, [], ⟨[], 0⟩⟩) HR.out (Or.inl rfl))
    go_wp2_with (first
     | ((with_reducible (show wpList _ _ _ (Oper.mk _ (Op.load _ _) _ _ _ none :: _) _ _)); first | refine Fv.ldN F rfl rfl rfl (by repeat constructor) (by repeat constructor) ?_ | refine Fv.ld1 F rfl rfl rfl (by repeat constructor) (by repeat constructor) ?_)
     | ((with_reducible (show wpList _ _ _ (Oper.mk _ (Op.store _ _ _) _ _ _ none :: _) _ _)); (first | refine Fv.stN F rfl rfl rfl rfl rfl (by first | rfl | simp [Value.oneCell']) (by repeat constructor) ?_ | refine Fv.st1 F rfl rfl rfl (by first | exact (rfl : _ = Value.int _ _) | exact (rfl : _ = Value.slice _ _ _) | exact (rfl : _ = Value.bool _) | exact (rfl : _ = Value.string _)) (by rfl) (by repeat constructor) ?_); clear F; intro W F)
     | ((with_reducible (show wpList _ _ _ (Oper.mk _ (Op.alloc _) _ _ _ none :: _) _ _)); refine Fv.al F rfl rfl ?_; clear F; intro g W hs1 hs2 F; clear hs1 hs2))
    refine bodyPost_ret (res_cT F rfl rfl Fv.rt_Store (by repeat constructor) rfl) rfl ?_
    rw [← HP.out, ← HZ.out, HS1.out, HE.out]
    exact ⟨_, rfl, ⟨_, _, _, _, _, _, _, _, _, _, _, _, _, _, _, rfl, F.out.2.dev, F.out.1.1.2.mono (fun _ h => h.1.1), HasX.nil, Cl.px_none _ _, Nat.le_refl _⟩, F.B⟩
   ·by_cases he0 : er = 0
    ·subst he0
     cases hfb : followsB h ⟨fe, fi, fc, fp, fd⟩ wl.length with
     | false =>
      rw [hfb] at HFO
      have HE := Lib.hid (recallR_stop (n := ln - (k + 1)) (wl := wl) (s := ⟨D1, h, t1, fr1, [], ⟨[], 0⟩⟩) HR.out (Or.inr ⟨rfl, hfb⟩))
      clear hfb
      go_wp2_with (first
       | ((with_reducible (show wpList _ _ _ (Oper.mk _ (Op.load _ _) _ _ _ none :: _) _ _)); first | refine Fv.ldN F rfl rfl rfl (by repeat constructor) (by repeat constructor) ?_ | refine Fv.ld1 F rfl rfl rfl (by repeat constructor) (by repeat constructor) ?_)
       | ((with_reducible (show wpList _ _ _ (Oper.mk _ (Op.store _ _ _) _ _ _ none :: _) _ _)); (first | refine Fv.stN F rfl rfl rfl rfl rfl (by first | rfl | simp [Value.oneCell']) (by repeat constructor) ?_ | refine Fv.st1 F rfl rfl rfl (by first | exact (rfl : _ = Value.int _ _) | exact (rfl : _ = Value.slice _ _ _) | exact (rfl : _ = Value.bool _) | exact (rfl : _ = Value.string _)) (by rfl) (by repeat constructor) ?_); clear F; intro W F)
       | ((with_reducible (show wpList _ _ _ (Oper.mk _ (Op.alloc _) _ _ _ none :: _) _ _)); refine Fv.al F rfl rfl ?_; clear F; intro g W hs1 hs2 F; clear hs1 hs2)
       | (go_at_call 171; refine (HFO.out _).mono ?_; rintro e w1 ⟨rfl, hv⟩; replace F := F.call hv; clear hv))
      refine bodyPost_ret (res_cT F rfl rfl Fv.rt_Store (by repeat constructor) rfl) rfl ?_
      rw [← HP.out, ← HZ.out, HS1.out, HE.out]
      exact ⟨_, rfl, ⟨_, _, _, _, _, _, _, _, _, _, _, _, _, _, _, rfl, F.out.2.dev, F.out.1.1.2.mono (fun _ h => h.1.1), HasX.nil, Cl.px_none _ _, Nat.le_refl _⟩, F.B⟩
     | true =>
      rw [hfb] at HFO
      cases fc with
      | true =>
       have HE := Lib.hid (recallR_end (n := ln - (k + 1)) (wl := wl) (s := ⟨D1, h, t1, fr1, [], ⟨[], 0⟩⟩) HR.out hfb rfl)
       clear hfb
       go_upto_region 13 with (first
        | ((with_reducible (show wpList _ _ _ (Oper.mk _ (Op.load _ _) _ _ _ none :: _) _ _)); first | refine Fv.ldN F rfl rfl rfl (by repeat constructor) (by repeat constructor) ?_ | refine Fv.ld1 F rfl rfl rfl (by repeat constructor) (by repeat constructor) ?_)
        | ((with_reducible (show wpList _ _ _ (Oper.mk _ (Op.store _ _ _) _ _ _ none :: _) _ _)); (first | refine Fv.stN F rfl rfl rfl rfl rfl (by first | rfl | simp [Value.oneCell']) (by repeat constructor) ?_ | refine Fv.st1 F rfl rfl rfl (by first | exact (rfl : _ = Value.int _ _) | exact (rfl : _ = Value.slice _ _ _) | exact (rfl : _ = Value.bool _) | exact (rfl : _ = Value.string _)) (by rfl) (by repeat constructor) ?_); clear F; intro W F)
        | ((with_reducible (show wpList _ _ _ (Oper.mk _ (Op.alloc _) _ _ _ none :: _) _ _)); refine Fv.al F rfl rfl ?_; clear F; intro g W hs1 hs2 F; clear hs1 hs2)
        | (go_at_call 171; refine (HFO.out _).mono ?_; rintro e w1 ⟨rfl, hv⟩; replace F := F.call hv; clear hv))
       go_wp2_with (first
        | ((with_reducible (show wpList _ _ _ (Oper.mk _ (Op.load _ _) _ _ _ none :: _) _ _)); first | refine Fv.ldN F rfl rfl rfl (by repeat constructor) (by repeat constructor) ?_ | refine Fv.ld1 F rfl rfl rfl (by repeat constructor) (by repeat constructor) ?_)
        | ((with_reducible (show wpList _ _ _ (Oper.mk _ (Op.store _ _ _) _ _ _ none :: _) _ _)); (first | refine Fv.stN F rfl rfl rfl rfl rfl (by first | rfl | simp [Value.oneCell']) (by repeat constructor) ?_ | refine Fv.st1 F rfl rfl rfl (by first | exact (rfl : _ = Value.int _ _) | exact (rfl : _ = Value.slice _ _ _) | exact (rfl : _ = Value.bool _) | exact (rfl : _ = Value.string _)) (by rfl) (by repeat constructor) ?_); clear F; intro W F)
        | ((with_reducible (show wpList _ _ _ (Oper.mk _ (Op.alloc _) _ _ _ none :: _) _ _)); refine Fv.al F rfl rfl ?_; clear F; intro g W hs1 hs2 F; clear hs1 hs2)
        | (go_at_call 172; refine (SlI.with_any (lo := 0) (lo2 := 0) (l := fr1) (more := wl) F.out.1.1.2.p rfl HU.out (by obtain ⟨A8, c8, e8, _, h8⟩ := Li.list_of_own SlI.cellsE_len F.out.1.2.1 rfl; injection e8 with e8 _ _; rw [e8]; exact h8.lower (Nat.zero_le _)) rfl (by omega)).mono ?_; rintro e5 w5 ⟨v5, m5, rfl, hm5, hown5, hv⟩; obtain ⟨A5, c5, rfl, hX5⟩ := row_XI hown5 hm5; have F2 := F.call hv; replace F := addRow F F2 hX5; subst hm5; clear hv hown5 hX5 F2))
       rw [show (k : Int) + 1 = ((k + 1 : Nat) : Int) by omega] at F
       have F7 := F.weak (Ψ := fun L w2 => True ∧ DevF (.agg #[.slice A2 n2 c2, .slice B2 m2 k2, .bool dd2, .int .i64 lf2, .int .i64 ds2]) D2 L w2) (fun _ _ h => ⟨trivial, h.1.2⟩)
       have F8 := addRowB (n0 := w.heap.size) F7 (F.out.2.lt.mono fun b hb => ⟨hb.1, hb.2⟩)
       have F9 := addOwn (base := W.heap.size) (t := 116) (k := 2) F8 (World.ownsRow_nil _ _ _ _) rfl
       have hfl := fold_len fr1 wl
       have hz2 : recallR (ln - (k + 1)) (k + 1) ⟨D2, h, k + 1, wl.foldl insI fr1, [], ⟨[], 0⟩⟩ [] = recalledR ⟨D, h, 0, [], [], ⟨[], 0⟩⟩ := HE.out.symm.trans (by rw [← HS1.out]; exact HZ.out)
       have HZ2 := Lib.hid hz2
       go_roundw
       case rel => exact ⟨k + 1, _, _, _, _, _, _, _, _, _, D2, _, _, _, k + 1, [], _, by go_num, by omega, Nat.le_refl _, (by rw [List.length_nil]; omega), F8.B.size, Nat.le_refl _, HZ2, HO2.out.1, HO2.out.2, fold_up _ _ HU.out, fun _ => rfl, F9.tail.tail⟩
       case measure => simp [intOf]; omega
      | false =>
       have HE := Lib.hid (recallR_page (n := ln - (k + 1)) (wl := wl) (s := ⟨D1, h, t1, fr1, [], ⟨[], 0⟩⟩) HR.out hfb rfl)
       obtain ⟨pn, rfl⟩ : ∃ pn : Nat, fp = pn := ⟨fp.toNat, by have := (followsB_iff.1 hfb); unfold Follows at this; simp at this; omega⟩
       clear hfb
       go_upto_region 12 with (first
        | ((with_reducible (show wpList _ _ _ (Oper.mk _ (Op.load _ _) _ _ _ none :: _) _ _)); first | refine Fv.ldN F rfl rfl rfl (by repeat constructor) (by repeat constructor) ?_ | refine Fv.ld1 F rfl rfl rfl (by repeat constructor) (by repeat constructor) ?_)
        | ((with_reducible (show wpList _ _ _ (Oper.mk _ (Op.store _ _ _) _ _ _ none :: _) _ _)); (first | refine Fv.stN F rfl rfl rfl rfl rfl (by first | rfl | simp [Value.oneCell']) (by repeat constructor) ?_ | refine Fv.st1 F rfl rfl rfl (by first | exact (rfl : _ = Value.int _ _) | exact (rfl : _ = Value.slice _ _ _) | exact (rfl : _ = Value.bool _) | exact (rfl : _ = Value.string _)) (by rfl) (by repeat constructor) ?_); clear F; intro W F)
        | ((with_reducible (show wpList _ _ _ (Oper.mk _ (Op.alloc _) _ _ _ none :: _) _ _)); refine Fv.al F rfl rfl ?_; clear F; intro g W hs1 hs2 F; clear hs1 hs2)
        | (go_at_call 171; refine (HFO.out _).mono ?_; rintro e w1 ⟨rfl, hv⟩; replace F := F.call hv; clear hv))
       go_wp2_with (first
        | ((with_reducible (show wpList _ _ _ (Oper.mk _ (Op.load _ _) _ _ _ none :: _) _ _)); first | refine Fv.ldN F rfl rfl rfl (by repeat constructor) (by repeat constructor) ?_ | refine Fv.ld1 F rfl rfl rfl (by repeat constructor) (by repeat constructor) ?_)
        | ((with_reducible (show wpList _ _ _ (Oper.mk _ (Op.store _ _ _) _ _ _ none :: _) _ _)); (first | refine Fv.stN F rfl rfl rfl rfl rfl (by first | rfl | simp [Value.oneCell']) (by repeat constructor) ?_ | refine Fv.st1 F rfl rfl rfl (by first | exact (rfl : _ = Value.int _ _) | exact (rfl : _ = Value.slice _ _ _) | exact (rfl : _ = Value.bool _) | exact (rfl : _ = Value.string _)) (by rfl) (by repeat constructor) ?_); clear F; intro W F)
        | ((with_reducible (show wpList _ _ _ (Oper.mk _ (Op.alloc _) _ _ _ none :: _) _ _)); refine Fv.al F rfl rfl ?_; clear F; intro g W hs1 hs2 F; clear hs1 hs2)
        | ((with_reducible (show wpList _ _ _ (Oper.mk _ (Op.call { callee := Callee.builtin Builtin.append, args := _, argTypes := _ }) _ _ _ none :: _) _ _)); refine wpList_append_own _ rfl _ _ 31 rfl bs 116 iE (.agg #[.int .i64 0, .int .i64 0]) 2 16 Tryz.underlying31 hiE hv0 hv1 hv2 rfl (by decide) (.slice A4 wl.length c4) (wl.length) _ rfl (Li.own_below F.out.1.2.1 ((Below.refl _ _).alloc (Nat.le_refl _) _) (Nat.le_refl _)) ⟨_, 0, none⟩ 1 1 _ rfl rfl (World.news_of_block (heap_alloc_new _ _)) (by simp [Value.oneCell']) (by unfold maxLen; omega) (by omega) (Nat.le_trans (Nat.le_of_lt (Nat.lt_of_le_of_lt hbg (ltA F (by repeat constructor)))) (by simp)) ?_; intro v5 w5 hown5 hgrow5 _))
       replace F := grow_rec F HN2.out hb0 HW.out hgrow5
       have hx : Li.cellsL SlI.cellsE wl ++ [.int .i64 (pn : Nat), .int .i64 (k : Nat)] = Li.cellsL SlI.cellsE (wl ++ [⟨pn, k⟩]) := cells_snoc SlI.cellsE wl ⟨pn, k⟩
       have hown6 : w5.ownsRow bs 116 2 v5 (wl ++ [(⟨pn, k⟩ : Im)]).length (Li.cellsL SlI.cellsE (wl ++ [⟨pn, k⟩])) := by rw [List.length_append, ← hx]; exact hown5
       replace F := addOwn F hown6 rfl
       have hz2 : recallR (ln - (k + 1)) (k + 1) ⟨D2, h, t1, fr1, [], ⟨[], 0⟩⟩ (wl ++ [⟨pn, k⟩]) = recalledR ⟨D, h, 0, [], [], ⟨[], 0⟩⟩ := HE.out.symm.trans (by rw [← HS1.out]; exact HZ.out)
       have HZ2 := Lib.hid hz2
       clear hgrow5 hown5 hown6 hx hz2
       go_wp2_with (first
        | ((with_reducible (show wpList _ _ _ (Oper.mk _ (Op.load _ _) _ _ _ none :: _) _ _)); first | refine Fv.ldN F rfl rfl rfl (by repeat constructor) (by repeat constructor) ?_ | refine Fv.ld1 F rfl rfl rfl (by repeat constructor) (by repeat constructor) ?_)
        | ((with_reducible (show wpList _ _ _ (Oper.mk _ (Op.store _ _ _) _ _ _ none :: _) _ _)); (first | refine Fv.stN F rfl rfl rfl rfl rfl (by first | rfl | simp [Value.oneCell']) (by repeat constructor) ?_ | refine Fv.st1 F rfl rfl rfl (by first | exact (rfl : _ = Value.int _ _) | exact (rfl : _ = Value.slice _ _ _) | exact (rfl : _ = Value.bool _) | exact (rfl : _ = Value.string _)) (by rfl) (by repeat constructor) ?_); clear F; intro W F)
        | ((with_reducible (show wpList _ _ _ (Oper.mk _ (Op.alloc _) _ _ _ none :: _) _ _)); refine Fv.al F rfl rfl ?_; clear F; intro g W hs1 hs2 F; clear hs1 hs2))
       go_roundw
       case rel => exact ⟨k + 1, _, _, _, _, _, _, _, _, _, D2, Af1, cf1, fr1, t1, _, bs, by go_num, by omega, by omega, (by rw [List.length_append, List.length_singleton]; omega), hb0, (Nat.le_of_lt (Nat.lt_of_le_of_lt hbg (ltA F (by repeat constructor)))), HZ2, HO2.out.1, HO2.out.2, HU, fun e => absurd e (by simp), F.tail.tail⟩
       case measure => simp [intOf]; omega
    ·have HE := Lib.hid (recallR_err (n := ln - (k + 1)) (wl := wl) (s := ⟨D1, h, t1, fr1, [], ⟨[], 0⟩⟩) HR.out he2 he0)
     go_wp2_with (first
      | ((with_reducible (show wpList _ _ _ (Oper.mk _ (Op.load _ _) _ _ _ none :: _) _ _)); first | refine Fv.ldN F rfl rfl rfl (by repeat constructor) (by repeat constructor) ?_ | refine Fv.ld1 F rfl rfl rfl (by repeat constructor) (by repeat constructor) ?_)
      | ((with_reducible (show wpList _ _ _ (Oper.mk _ (Op.store _ _ _) _ _ _ none :: _) _ _)); (first | refine Fv.stN F rfl rfl rfl rfl rfl (by first | rfl | simp [Value.oneCell']) (by repeat constructor) ?_ | refine Fv.st1 F rfl rfl rfl (by first | exact (rfl : _ = Value.int _ _) | exact (rfl : _ = Value.slice _ _ _) | exact (rfl : _ = Value.bool _) | exact (rfl : _ = Value.string _)) (by rfl) (by repeat constructor) ?_); clear F; intro W F)
      | ((with_reducible (show wpList _ _ _ (Oper.mk _ (Op.alloc _) _ _ _ none :: _) _ _)); refine Fv.al F rfl rfl ?_; clear F; intro g W hs1 hs2 F; clear hs1 hs2))
     refine bodyPost_ret (res_cT F rfl rfl Fv.rt_Store (by repeat constructor) rfl) rfl ?_
     rw [← HP.out, ← HZ.out, HS1.out, HE.out]
     exact ⟨_, rfl, ⟨_, _, _, _, _, _, _, _, _, _, _, _, _, _, _, rfl, F.out.2.dev, F.out.1.1.2.mono (fun _ h => h.1.1), HasX.nil, Cl.px_none _ _, Nat.le_refl _⟩, F.B⟩
  ·obtain rfl : k = ln := by omega
   have i1 : ¬ (k : Int) < h.l := by rw [HLN.out]; omega
   go_wp2_with (first
    | ((with_reducible (show wpList _ _ _ (Oper.mk _ (Op.load _ _) _ _ _ none :: _) _ _)); first | refine Fv.ldN F rfl rfl rfl (by repeat constructor) (by repeat constructor) ?_ | refine Fv.ld1 F rfl rfl rfl (by repeat constructor) (by repeat constructor) ?_)
    | ((with_reducible (show wpList _ _ _ (Oper.mk _ (Op.store _ _ _) _ _ _ none :: _) _ _)); (first | refine Fv.stN F rfl rfl rfl rfl rfl (by first | rfl | simp [Value.oneCell']) (by repeat constructor) ?_ | refine Fv.st1 F rfl rfl rfl (by first | exact (rfl : _ = Value.int _ _) | exact (rfl : _ = Value.slice _ _ _) | exact (rfl : _ = Value.bool _) | exact (rfl : _ = Value.string _)) (by rfl) (by repeat constructor) ?_); clear F; intro W F)
    | ((with_reducible (show wpList _ _ _ (Oper.mk _ (Op.alloc _) _ _ _ none :: _) _ _)); refine Fv.al F rfl rfl ?_; clear F; intro g W hs1 hs2 F; clear hs1 hs2))
   refine bodyPost_ret (res_cT F rfl rfl Fv.rt_Store (by repeat constructor) rfl) rfl ?_
   rw [← HP.out, ← HZ.out, Nat.sub_self]
   exact ⟨_, rfl, ⟨_, _, _, _, _, _, _, _, _, _, _, _, _, _, _, rfl, F.out.1.1.2.dev, F.out.1.2.mono (fun _ h => h.1.1), HasX.nil, Cl.px_none _ _, Nat.le_refl _⟩, F.B⟩
end Go.Proofs.YtcgkbcgpnlogoaaGreatDoor.St
