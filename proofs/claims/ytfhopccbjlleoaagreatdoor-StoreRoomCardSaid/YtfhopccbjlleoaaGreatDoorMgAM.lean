/- Texts SuR, SuS, one behind the other. -/
import Derived.Test.YtfhopccbjlleoaaGreatDoorSuC
import Derived.Test.YtfhopccbjlleoaaGreatDoorMgAL
import Derived.Test.YtfhopccbjlleoaaGreatDoorMgAG
import Derived.Test.YtfhopccbjlleoaaGreatDoorMgAC
/- Stores: the law StoreReads, walked. -/
namespace Go.Proofs.YtfhopccbjlleoaaGreatDoor.St
open Go.RowKit Go.Shelf Tal Sla Hd Fr Lf Lex
/-- Twelve texts. -/
def cs12 (f : Nat → ByteArray) : List Value := [.string (f 0), .string (f 1), .string (f 2), .string (f 3), .string (f 4), .string (f 5), .string (f 6), .string (f 7), .string (f 8), .string (f 9), .string (f 10), .string (f 11)]
instance zt_12 : Fv.ZeroTy Tryz.prog 64 (cs12 fun _ => ⟨#[]⟩) := ⟨⟨.agg (cs12 fun _ => ⟨#[]⟩).toArray, by kernel_rfl, rfl⟩⟩
theorem HasA.range {w : World} {lo : Nat} {D : Option Addr} {l : List Ac} (h : HasA w lo D l) {q : Nat} {e : Ac} (hq : l[q]? = some e) :
  ∃ b o, D = some ⟨b, o, none⟩ ∧ ∀ W, Below w.heap.size w W → W.rangeAt b (o + q * 6) (cellsA e) := by
 obtain ⟨b, o, hA, _, hlt, hc⟩ := h (fun e => by rw [e] at hq; simp at hq)
 exact ⟨b, o, hA, fun W hb j v hj => (hb.cell (p := ⟨b, o + q * 6 + j, none⟩) hlt).trans (hc q e hq j v hj)⟩
theorem wr_small (x y : Int) (h0 : 0 ≤ y) (h1 : y ≤ 100000) (e : x = y) : wrap64 x = y := by
 subst e
 unfold wrap64
 omega
abbrev HasO (w : World) (lo : Nat) (D : Option Addr) (l : List Int) : Prop := Li.HasL (fun x : Int => [.int .u8 x]) 1 w lo D l
theorem HasO.at {w : World} {lo : Nat} {D : Option Addr} {l : List Int} (h : HasO w lo D l) {q : Nat} {e : Int} (hq : l[q]? = some e) :
  ∃ b o, D = some ⟨b, o, none⟩ ∧ b < w.heap.size ∧ w.cell? ⟨b, o + q, none⟩ = some (.int .u8 e) := by
 obtain ⟨b, o, hA, _, hlt, hc⟩ := h (fun e => by rw [e] at hq; simp at hq)
 have := hc q e hq 0 _ rfl
 exact ⟨b, o, hA, hlt, by simpa using this⟩
/-- A store that is read: what it has in common with the one that it was. -/
structure Alike (s x : S) (V su : Nat → ByteArray) (K : Nat) : Prop where
 ok : OkS x K
 c : ConL x V su
 h : x.h = s.h
 t : x.t = s.t
 di : x.di = s.di
theorem Alike.read {s x : S} {V su : Nat → ByteArray} {K : Nat} (a : Alike s x V su K) {no : Nat} (hno : no < s.h.p.toNat) : ∃ y, readR x no = (y, nowR s su no, 0) ∧ Alike s y V su (K + 1) := by
 obtain ⟨y, e, c2, e1, e2, e3, e4⟩ := read_conL a.ok a.c (no := no) (by rw [a.h]; exact hno)
 have hok := readR_ok a.ok no
 rw [e] at hok
 have hn : nowR x su no = nowR s su no := by unfold nowR; rw [a.di]
 rw [hn] at e
 exact ⟨y, e, ⟨hok, c2, e1.trans a.h, e2.trans a.t, e4.trans a.di⟩⟩
/-- A store behind q deeds. -/
structure Been (s : S) (p l : Int) (V su : Nat → ByteArray) (q : Nat) : Prop where
 ok : OkS s (2 + 400 * q)
 c : ConL s V su
 p : s.h.p = p
 l : s.h.l = l
 e : s.h.e ≤ 1 + q
theorem Been.more {s : S} {p l : Int} {V su : Nat → ByteArray} {q : Nat} (b : Been s p l V su q) : Been s p l V su (q + 1) := ⟨b.ok.more (by omega), b.c, b.p, b.l, by have := b.e; push_cast; omega⟩
theorem Been.next {s : S} {p l : Int} {V su : Nat → ByteArray} {q : Nat} {a : Ac} (b : Been s p l V su q) (hq : q ≤ 1000) (hp : p ≤ 100) (h0 : 0 ≤ a.k) (h4 : a.k ≤ 4) : ∃ s2 t2 er V2 su2, doR s a = (s2, t2, er) ∧ Been s2 p l V2 su2 (q + 1) ∧ Did s a s2 er := by
 obtain ⟨s2, t2, er, V2, su2, e, c2, d⟩ := do_conL (a := a) b.ok b.c (right_next b.ok (by have := b.e; omega)) h0 h4
 have hok := doR_ok (a := a) b.ok h0 h4
 rw [e] at hok
 have h1 := b.ok.lfr
 have h2 := b.ok.ldi
 have h3 := b.p
 refine ⟨s2, t2, er, V2, su2, e, ⟨hok.more (by omega), c2, d.p.trans b.p, d.l.trans b.l, ?_⟩, d⟩
 have h5 := b.e
 rcases d.e with h | h <;> rw [h] <;> push_cast <;> omega
theorem been_new {p l : Int} (hr : RightH ⟨p, l, 1⟩) : ∃ D V, formatR p l = (some ⟨D, ⟨p, l, 1⟩, 0, [], [], ⟨[], 0⟩⟩, 0) ∧ Been ⟨D, ⟨p, l, 1⟩, 0, [], [], ⟨[], 0⟩⟩ p l V (fun _ => zeros 200) 0 := by
 obtain ⟨D, V, e, hok, c⟩ := new_conL hr
 exact ⟨D, V, e, ⟨hok, c, rfl, rfl, Int.le_refl _⟩⟩
section
variable {w0 W W' : World} {vs : List Fv.V} {Φ : Fv.Fact} {v : Value} {D : Dev} {X : Nat → Prop} {s : S}
end
section
variable {D E : Option Addr} {n cp m cq : Nat} {l : List Ac} {ol : List Int} {w : World}
end
end Go.Proofs.YtfhopccbjlleoaaGreatDoor.St

/- The same stores?, of two values that tell one store: the document's, walked. -/
namespace Go.Proofs.YtfhopccbjlleoaaGreatDoor.St
open Go.RowKit Go.Shelf Tal Sla Hd Fr Lf Lex
theorem im_at {w : World} {lo : Nat} {D : Option Addr} {l : List Im} (h : Li.HasL SlI.cellsE 2 w lo D l) {q : Nat} {e : Im} (hq : l[q]? = some e) :
  ∃ b o, D = some ⟨b, o, none⟩ ∧ w.cell? ⟨b, o + q * 2, none⟩ = some (.int .i64 (e.pg : Nat)) ∧ w.cell? ⟨b, o + q * 2 + 1, none⟩ = some (.int .i64 (e.at_ : Nat)) := by
 obtain ⟨b, o, hA, _, hlt, hc⟩ := h (fun e => by rw [e] at hq; simp at hq)
 exact ⟨b, o, hA, hc q e hq 0 _ rfl, hc q e hq 1 _ rfl⟩
set_option maxRecDepth 20000 in
set_option maxHeartbeats 6400000 in
theorem sameSt_any {Z Z' : Nat → Prop} {K : Nat} (v v' : Value) (s : S) (w : World) (hS : IsSt Z w v s) (hS' : IsSt Z' w v' s) (hok : OkS s K) (hm : s.d.m = 0) : Calls Tryz.prog 13 #[v, v'] w (AwPost w) := by
 obtain ⟨A1, n1, c1, B1, m1, k1, dd1, lf1, ds1, Af1, cf1, Ad1, cd1, Ac1, cc1, rfl, hd1, hf1, hi1, hc1, hl1⟩ := hS
 obtain ⟨A2, n2, c2, B2, m2, k2, dd2, lf2, ds2, Af2, cf2, Ad2, cd2, Ac2, cc2, rfl, hd2, hf2, hi2, hc2, hl2⟩ := hS'
 obtain ⟨b1, D1, p1, r1, e, hb1, _, hx1, _, hz1⟩ := hd1
 simp only [Value.agg.injEq, Array.mk.injEq, List.cons.injEq, Value.slice.injEq, Value.bool.injEq, Value.int.injEq, true_and, and_true] at e
 obtain ⟨⟨rfl, rfl, rfl⟩, ⟨rfl, rfl, rfl⟩, rfl, rfl, rfl⟩ := e
 obtain ⟨rfl, rfl⟩ := hz1 hm
 clear hz1
 obtain ⟨b2, D2, p2, r2, e, hb2, _, hx2, _, hz2⟩ := hd2
 simp only [Value.agg.injEq, Array.mk.injEq, List.cons.injEq, Value.slice.injEq, Value.bool.injEq, Value.int.injEq, true_and, and_true] at e
 obtain ⟨⟨rfl, rfl, rfl⟩, ⟨rfl, rfl, rfl⟩, rfl, rfl, rfl⟩ := e
 obtain ⟨rfl, rfl⟩ := hz2 hm
 clear hz2
 have HD := Lib.hid (And.intro (And.intro hb1 hx1) (And.intro hb2 hx2))
 have HR := Lib.hid (And.intro hf1.p hf2.p)
 have HI := Lib.hid (And.intro hi1.p hi2.p)
 have HC := Lib.hid (And.intro hc1.p hc2.p)
 have hn2 := hok.d.n2
 have hfl := hok.fl
 have hdl := hok.dl
 have hcl := hok.c.len
 rw [hm]
 clear hb1 hb2 hx1 hx2 hf1 hf2 hi1 hi2 hc1 hc2 hl1 hl2 hok hm
 obtain ⟨d, h, t, fr, di, c⟩ := s
 simp only at *
 obtain ⟨dn, dS, dm, dLA, dLD, ddead, dleft, ddeeds⟩ := d
 simp only at *
 obtain ⟨post, hpost⟩ : ∃ post, AwPost w = post := ⟨_, rfl⟩
 rw [hpost]
 have HP := Lib.hid hpost
 clear hpost
 have F := Fv.Fr.start w
 go_enter Tryz.func13, Tryz.ntmps13
 go_upto_region 4 with (first
  | ((with_reducible (show wpList _ _ _ (Oper.mk _ (Op.box _ _) _ _ _ none :: _) _ _)); refine Fv.wpL_box (vs := []) F rfl rfl rfl rfl ?_; clear F; intro G1 W hs1 hs2 F; clear hs1 hs2)
  | ((with_reducible (show wpList _ _ _ (Oper.mk _ (Op.box _ _) _ _ _ none :: _) _ _)); refine Fv.wpL_box F rfl rfl rfl rfl ?_; clear F; intro G2 W hs1 hs2 F; clear hs1 hs2)
  | ((with_reducible (show wpList _ _ _ (Oper.mk _ (Op.load _ _) _ _ _ none :: _) _ _)); first | refine Fv.ldN F rfl rfl rfl (by repeat constructor) (by repeat constructor) ?_ | refine Fv.ld1 F rfl rfl rfl (by repeat constructor) (by repeat constructor) ?_)
  | ((with_reducible (show wpList _ _ _ (Oper.mk _ (Op.store _ _ _) _ _ _ none :: _) _ _)); (first | refine Fv.stN F rfl rfl rfl rfl rfl (by first | rfl | simp [Value.oneCell']) (by repeat constructor) ?_ | refine Fv.st1 F rfl rfl rfl (by first | exact (rfl : _ = Value.int _ _) | exact (rfl : _ = Value.slice _ _ _) | exact (rfl : _ = Value.bool _) | exact (rfl : _ = Value.string _)) (by rfl) (by repeat constructor) ?_); clear F; intro W F)
  | ((with_reducible (show wpList _ _ _ (Oper.mk _ (Op.alloc _) _ _ _ none :: _) _ _)); refine Fv.al F rfl rfl ?_; clear F; intro g W hs1 hs2 F; clear hs1 hs2)
  | ((with_reducible (show wpList _ _ _ (Oper.mk _ (Op.box _ _) _ _ _ none :: _) _ _)); refine Fv.wpL_box F rfl rfl rfl rfl ?_; clear F; intro gb W hs1 hs2 F; clear hs1 hs2)
  | (go_at_call 22; refine (same_any b1 _ b2 _ dn dS ddead dleft ddeeds _ hn2 (Nat.lt_of_lt_of_le HD.out.1.1 F.B.size) (Nat.lt_of_lt_of_le HD.out.2.1 F.B.size) (fun j hj => (F.B.cell (p := ⟨b1, j, none⟩) HD.out.1.1).trans (HD.out.1.2 j hj)) (fun j hj => (F.B.cell (p := ⟨b2, j, none⟩) HD.out.2.1).trans (HD.out.2.2 j hj))).mono ?_; rintro e w1 ⟨rfl, hv⟩; replace F := F.call hv; clear hv; have q0_5 := Fv.Fr.cell F Fv.At.head 5; have q0_6 := Fv.Fr.cell F Fv.At.head 6; have q0_7 := Fv.Fr.cell F Fv.At.head 7; have q0_8 := Fv.Fr.cell F Fv.At.head 8; have q0_9 := Fv.Fr.cell F Fv.At.head 9; have q0_10 := Fv.Fr.cell F Fv.At.head 10; have q1_5 := Fv.Fr.cell F (Fv.At.tail Fv.At.head) 5; have q1_6 := Fv.Fr.cell F (Fv.At.tail Fv.At.head) 6; have q1_7 := Fv.Fr.cell F (Fv.At.tail Fv.At.head) 7; have q1_8 := Fv.Fr.cell F (Fv.At.tail Fv.At.head) 8; have q1_9 := Fv.Fr.cell F (Fv.At.tail Fv.At.head) 9; have q1_10 := Fv.Fr.cell F (Fv.At.tail Fv.At.head) 10; simp only [List.getElem?_cons_zero, List.getElem?_cons_succ] at q0_5 q0_6 q0_7 q0_8 q0_9 q0_10 q1_5 q1_6 q1_7 q1_8 q1_9 q1_10)
  | (go_at_call 23; refine (samePages_any (l := di) (l' := di) 0 0 (HI.out.1.below F.B (Nat.le_refl _)) rfl (by omega) (HI.out.2.below F.B (Nat.le_refl _)) rfl).mono ?_; rintro e w1 ⟨b8, rfl, hb8, hv⟩; obtain rfl : b8 = true := hb8.2 rfl; clear hb8; clear q0_5 q0_6 q0_7 q0_8 q0_9 q0_10 q1_5 q1_6 q1_7 q1_8 q1_9 q1_10; replace F := F.call hv; clear hv; have q0_11 := Fv.Fr.cell F Fv.At.head 11; have q0_12 := Fv.Fr.cell F Fv.At.head 12; have q1_11 := Fv.Fr.cell F (Fv.At.tail Fv.At.head) 11; have q1_12 := Fv.Fr.cell F (Fv.At.tail Fv.At.head) 12; simp only [List.getElem?_cons_zero, List.getElem?_cons_succ] at q0_11 q0_12 q1_11 q1_12)
  | (go_at_call 34; refine (Cl.refSame_any (l := c.l) (l' := c.l) _ _ 0 0 (HC.out.1.below F.B (Nat.le_refl _)) rfl (by omega) (HC.out.2.below F.B (Nat.le_refl _)) rfl).mono ?_; rintro e w1 ⟨b8, rfl, hb8, hv⟩; obtain rfl : b8 = true := hb8.2 ⟨rfl, rfl⟩; clear hb8; clear q0_11 q0_12 q1_11 q1_12; replace F := F.call hv; clear hv))
 go_loopw [5] (fun i wr => ∃ q : Nat, q ≤ fr.length ∧ i = .int .i64 q ∧ Fv.Fr w wr [(G2, 37, [.slice (some ⟨b2, 0, none⟩) dn c2, .slice none 0 0, .bool ddead, .int .i64 dleft, .int .i64 ddeeds, .int .i64 h.p, .int .i64 h.l, .int .i64 h.e, .int .i64 (t : Nat), .slice Af2 fr.length cf2, .slice Ad2 di.length cd2, .slice Ac2 c.l.length cc2, .int .i64 (c.h : Nat)]), (G1, 37, [.slice (some ⟨b1, 0, none⟩) dn c1, .slice none 0 0, .bool ddead, .int .i64 dleft, .int .i64 ddeeds, .int .i64 h.p, .int .i64 h.l, .int .i64 h.e, .int .i64 (t : Nat), .slice Af1 fr.length cf1, .slice Ad1 di.length cd1, .slice Ac1 c.l.length cc1, .int .i64 (c.h : Nat)])] (fun _ _ => True)) (fun i _ => fr.length - (intOf i).toNat)
 case atStart => exact ⟨0, Nat.zero_le _, rfl, F⟩
 case round =>
  clear F
  obtain ⟨q, hq, rfl, F⟩ := hrel
  by_cases hlt : q < fr.length
  ·have hgt := List.getElem?_eq_getElem hlt
   generalize (fr[q]'hlt) = x at hgt
   obtain ⟨b3, o3, hA3, d0, d1⟩ := im_at (HR.out.1.below F.B (Nat.le_refl _)) hgt
   obtain ⟨b4, o4, hA4, e0, e1⟩ := im_at (HR.out.2.below F.B (Nat.le_refl _)) hgt
   obtain ⟨xp, xa⟩ := x
   simp only at d0 d1 e0 e1
   subst hA3 hA4
   have i1 : (q : Int) < (fr.length : Int) := by omega
   have i0 : (0 : Int) ≤ (q : Int) := by omega
   clear hgt
   have q0_9 := Fv.Fr.cell F Fv.At.head 9
   simp only [List.getElem?_cons_zero, List.getElem?_cons_succ] at q0_9
   have q1_9 := Fv.Fr.cell F (Fv.At.tail Fv.At.head) 9
   simp only [List.getElem?_cons_zero, List.getElem?_cons_succ] at q1_9
   go_upto_region 6 with (first
    | ((with_reducible (show wpList _ _ _ (Oper.mk _ (Op.load _ _) _ _ _ none :: _) _ _)); first | refine Fv.ldN F rfl rfl rfl (by repeat constructor) (by repeat constructor) ?_ | refine Fv.ld1 F rfl rfl rfl (by repeat constructor) (by repeat constructor) ?_)
    | ((with_reducible (show wpList _ _ _ (Oper.mk _ (Op.store _ _ _) _ _ _ none :: _) _ _)); (first | refine Fv.stN F rfl rfl rfl rfl rfl (by first | rfl | simp [Value.oneCell']) (by repeat constructor) ?_ | refine Fv.st1 F rfl rfl rfl (by first | exact (rfl : _ = Value.int _ _) | exact (rfl : _ = Value.slice _ _ _) | exact (rfl : _ = Value.bool _) | exact (rfl : _ = Value.string _)) (by rfl) (by repeat constructor) ?_); clear F; intro W F)
    | ((with_reducible (show wpList _ _ _ (Oper.mk _ (Op.alloc _) _ _ _ none :: _) _ _)); refine Fv.al F rfl rfl ?_; clear F; intro g W hs1 hs2 F; clear hs1 hs2)
    | ((with_reducible (show wpList _ _ _ (Oper.mk _ (Op.box _ _) _ _ _ none :: _) _ _)); refine Fv.wpL_box F rfl rfl rfl rfl ?_; clear F; intro gb W hs1 hs2 F; clear hs1 hs2))
   go_region
   have F := F.drew
   clear q0_9 q1_9 d0 d1 e0 e1
   go_wp2_with (first
    | ((with_reducible (show wpList _ _ _ (Oper.mk _ (Op.load _ _) _ _ _ none :: _) _ _)); first | refine Fv.ldN F rfl rfl rfl (by repeat constructor) (by repeat constructor) ?_ | refine Fv.ld1 F rfl rfl rfl (by repeat constructor) (by repeat constructor) ?_)
    | ((with_reducible (show wpList _ _ _ (Oper.mk _ (Op.store _ _ _) _ _ _ none :: _) _ _)); (first | refine Fv.stN F rfl rfl rfl rfl rfl (by first | rfl | simp [Value.oneCell']) (by repeat constructor) ?_ | refine Fv.st1 F rfl rfl rfl (by first | exact (rfl : _ = Value.int _ _) | exact (rfl : _ = Value.slice _ _ _) | exact (rfl : _ = Value.bool _) | exact (rfl : _ = Value.string _)) (by rfl) (by repeat constructor) ?_); clear F; intro W F)
    | ((with_reducible (show wpList _ _ _ (Oper.mk _ (Op.alloc _) _ _ _ none :: _) _ _)); refine Fv.al F rfl rfl ?_; clear F; intro g W hs1 hs2 F; clear hs1 hs2)
    | ((with_reducible (show wpList _ _ _ (Oper.mk _ (Op.box _ _) _ _ _ none :: _) _ _)); refine Fv.wpL_box F rfl rfl rfl rfl ?_; clear F; intro gb W hs1 hs2 F; clear hs1 hs2))
   go_roundw
   case rel => exact ⟨q + 1, by omega, by go_num, F⟩
   case measure => simp [intOf]; omega
  ·obtain rfl : q = fr.length := by omega
   go_wp2_with (first
    | ((with_reducible (show wpList _ _ _ (Oper.mk _ (Op.load _ _) _ _ _ none :: _) _ _)); first | refine Fv.ldN F rfl rfl rfl (by repeat constructor) (by repeat constructor) ?_ | refine Fv.ld1 F rfl rfl rfl (by repeat constructor) (by repeat constructor) ?_)
    | ((with_reducible (show wpList _ _ _ (Oper.mk _ (Op.store _ _ _) _ _ _ none :: _) _ _)); (first | refine Fv.stN F rfl rfl rfl rfl rfl (by first | rfl | simp [Value.oneCell']) (by repeat constructor) ?_ | refine Fv.st1 F rfl rfl rfl (by first | exact (rfl : _ = Value.int _ _) | exact (rfl : _ = Value.slice _ _ _) | exact (rfl : _ = Value.bool _) | exact (rfl : _ = Value.string _)) (by rfl) (by repeat constructor) ?_); clear F; intro W F)
    | ((with_reducible (show wpList _ _ _ (Oper.mk _ (Op.alloc _) _ _ _ none :: _) _ _)); refine Fv.al F rfl rfl ?_; clear F; intro g W hs1 hs2 F; clear hs1 hs2)
    | ((with_reducible (show wpList _ _ _ (Oper.mk _ (Op.box _ _) _ _ _ none :: _) _ _)); refine Fv.wpL_box F rfl rfl rfl rfl ?_; clear F; intro gb W hs1 hs2 F; clear hs1 hs2))
   rw [← HP.out]
   exact ⟨rfl, F.B⟩
end Go.Proofs.YtfhopccbjlleoaaGreatDoor.St
