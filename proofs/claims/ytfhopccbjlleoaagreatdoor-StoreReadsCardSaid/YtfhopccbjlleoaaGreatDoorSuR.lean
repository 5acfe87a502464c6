/- Stores: the law StoreReads, walked. -/
import Derived.Test.YtfhopccbjlleoaaGreatDoorSuC
import Derived.Test.YtfhopccbjlleoaaGreatDoorMgAL
import Derived.Test.YtfhopccbjlleoaaGreatDoorMgAG
namespace Go.Proofs.YtfhopccbjlleoaaGreatDoor.St
open Go.RowKit Go.Shelf Tal Sla Hd Fr Lf Lex
/-- Twelve texts. -/
def cs12 (f : Nat → ByteArray) : List Value := [.string (f 0), .string (f 1), .string (f 2), .string (f 3), .string (f 4), .string (f 5), .string (f 6), .string (f 7), .string (f 8), .string (f 9), .string (f 10), .string (f 11)]
theorem twelve {q : Nat} (h : q < 12) : q = 0 ∨ q = 1 ∨ q = 2 ∨ q = 3 ∨ q = 4 ∨ q = 5 ∨ q = 6 ∨ q = 7 ∨ q = 8 ∨ q = 9 ∨ q = 10 ∨ q = 11 := by omega
def updF (f : Nat → ByteArray) (q : Nat) (d : ByteArray) : Nat → ByteArray := fun k => if k = q then d else f k
theorem upd_ok {f g : Nat → ByteArray} {q : Nat} {d : ByteArray} (hf : ∀ k, k < q → f k = g k) (hd : g q = d) : ∀ k, k < q + 1 → updF f q d k = g k := fun k hk => by
 unfold updF
 by_cases e : k = q
 ·rw [if_pos e, e, hd]
 ·rw [if_neg e]
  exact hf k (by omega)
theorem put12 {f : Nat → ByteArray} {d : ByteArray} {q : Nat} (h : q < 12) : Fv.Put (cs12 f) q [.string d] (cs12 (updF f q d)) := by
 rcases twelve h with e | e | e | e | e | e | e | e | e | e | e | e <;> subst e <;> (simp only [cs12, updF]; simp; repeat constructor)
theorem get12 {f : Nat → ByteArray} {q : Nat} (h : q < 12) : (cs12 f)[q]? = some (.string (f q)) := by
 rcases twelve h with e | e | e | e | e | e | e | e | e | e | e | e <;> subst e <;> rfl
instance zt_12 : Fv.ZeroTy Tryz.prog 64 (cs12 fun _ => ⟨#[]⟩) := ⟨⟨.agg (cs12 fun _ => ⟨#[]⟩).toArray, by kernel_rfl, rfl⟩⟩
theorem HasA.range {w : World} {lo : Nat} {D : Option Addr} {l : List Ac} (h : HasA w lo D l) {q : Nat} {e : Ac} (hq : l[q]? = some e) :
  ∃ b o, D = some ⟨b, o, none⟩ ∧ ∀ W, Below w.heap.size w W → W.rangeAt b (o + q * 6) (cellsA e) := by
 obtain ⟨b, o, hA, _, hlt, hc⟩ := h (fun e => by rw [e] at hq; simp at hq)
 exact ⟨b, o, hA, fun W hb j v hj => (hb.cell (p := ⟨b, o + q * 6 + j, none⟩) hlt).trans (hc q e hq j v hj)⟩
theorem wr_small (x y : Int) (h0 : 0 ≤ y) (h1 : y ≤ 100000) (e : x = y) : wrap64 x = y := by
 subst e
 unfold wrap64
 omega
abbrev HasO (w : World) (lo : Nat) (D : Option Addr) (l : List Int) : Prop := Li.HasL (fun x : Int => [.int .u8 x]) 1 w lo D l
theorem HasO.at {w : World} {lo : Nat} {D : Option Addr} {l : List Int} (h : HasO w lo D l) {q : Nat} {e : Int} (hq : l[q]? = some e) :
  ∃ b o, D = some ⟨b, o, none⟩ ∧ b < w.heap.size ∧ w.cell? ⟨b, o + q, none⟩ = some (.int .u8 e) := by
 obtain ⟨b, o, hA, _, hlt, hc⟩ := h (fun e => by rw [e] at hq; simp at hq)
 have := hc q e hq 0 _ rfl
 exact ⟨b, o, hA, hlt, by simpa using this⟩
/-- A store that is read: what it has in common with the one that it was. -/
structure Alike (s x : S) (V su : Nat → ByteArray) (K : Nat) : Prop where
 ok : OkS x K
 c : ConL x V su
 h : x.h = s.h
 t : x.t = s.t
 di : x.di = s.di
theorem Alike.read {s x : S} {V su : Nat → ByteArray} {K : Nat} (a : Alike s x V su K) {no : Nat} (hno : no < s.h.p.toNat) : ∃ y, readR x no = (y, nowR s su no, 0) ∧ Alike s y V su (K + 1) := by
 obtain ⟨y, e, c2, e1, e2, e3, e4⟩ := read_conL a.ok a.c (no := no) (by rw [a.h]; exact hno)
 have hok := readR_ok a.ok no
 rw [e] at hok
 have hn : nowR x su no = nowR s su no := by unfold nowR; rw [a.di]
 rw [hn] at e
 exact ⟨y, e, ⟨hok, c2, e1.trans a.h, e2.trans a.t, e4.trans a.di⟩⟩
/-- A store behind q deeds. -/
structure Been (s : S) (p l : Int) (V su : Nat → ByteArray) (q : Nat) : Prop where
 ok : OkS s (2 + 2000 * q)
 c : ConL s V su
 p : s.h.p = p
 l : s.h.l = l
 e : s.h.e ≤ 1 + q
theorem Been.more {s : S} {p l : Int} {V su : Nat → ByteArray} {q : Nat} (b : Been s p l V su q) : Been s p l V su (q + 1) := ⟨b.ok.more (by omega), b.c, b.p, b.l, by have := b.e; push_cast; omega⟩
theorem Been.next {s : S} {p l : Int} {V su : Nat → ByteArray} {q : Nat} {a : Ac} (b : Been s p l V su q) (hq : q ≤ 1000) (h0 : 0 ≤ a.k) (h4 : a.k ≤ 4) : ∃ s2 t2 er V2 su2, doR s a = (s2, t2, er) ∧ Been s2 p l V2 su2 (q + 1) ∧ Did s a s2 er := by
 obtain ⟨s2, t2, er, V2, su2, e, c2, d⟩ := do_conL (a := a) b.ok b.c (right_next b.ok (by have := b.e; omega)) h0 h4
 have hok := doR_ok (a := a) b.ok h0 h4
 rw [e] at hok
 have h1 := b.ok.lfr
 have h2 := b.ok.ldi
 have h3 := b.ok.h.p1
 refine ⟨s2, t2, er, V2, su2, e, ⟨hok.more (by omega), c2, d.p.trans b.p, d.l.trans b.l, ?_⟩, d⟩
 have h5 := b.e
 rcases d.e with h | h <;> rw [h] <;> push_cast <;> omega
theorem been_new {p l : Int} (hr : RightH ⟨p, l, 1⟩) : ∃ D V, formatR p l = (some ⟨D, ⟨p, l, 1⟩, 0, [], [], ⟨[], 0⟩⟩, 0) ∧ Been ⟨D, ⟨p, l, 1⟩, 0, [], [], ⟨[], 0⟩⟩ p l V (fun _ => zeros 200) 0 := by
 obtain ⟨D, V, e, hok, c⟩ := new_conL hr
 exact ⟨D, V, e, ⟨hok, c, rfl, rfl, Int.le_refl _⟩⟩
/-- Variables that are no device's rows. -/
def kindS (D : Dev) (cs : List Value) : Prop := kindD cs = true ∨ (cs.length < D.n ∧ ∃ s r, cs = .string s :: r)
section
variable {w0 W W' : World} {vs : List Fv.V} {Φ : Fv.Fact} {v : Value} {D : Dev} {X : Nat → Prop} {s : S}
theorem kinds3 {a b c : Fv.V} (ha : kindD a.2.2 = true) (hb : kindS D b.2.2) (hc : kindD c.2.2 = true) : ∀ x ∈ [a, b, c], kindS D x.2.2 := fun x hx => by
 simp only [List.mem_cons, List.not_mem_nil, or_false] at hx
 rcases hx with rfl | rfl | rfl
 ·exact Or.inl ha
 ·exact hb
 ·exact Or.inl hc
theorem devF_of2 (F : Fv.Fr w0 W vs Φ) (hd : IsDev W v D) (hn : 1 ≤ D.n) (hk : ∀ x ∈ vs, kindS D x.2.2) : DevF v D (vs.map (·.1)) W := by
 obtain ⟨b, B, h⟩ := hd
 have hlt := h.lt
 have h' := h
 obtain ⟨c, m, e, hb, hnc, hc, hl, h0⟩ := h
 refine ⟨b, B, h', ⟨hb, fun hm => ?_⟩, fun a ha => ⟨hlt.2 a ha, fun hm => ?_⟩⟩
 ·obtain ⟨x, hx, rfl⟩ := List.mem_map.1 hm
  have hx2 := (F.at_ x hx).2
  rcases hk x hx with hkx | ⟨hlen, _⟩
  ·have h0 := hc 0 (by omega)
   rw [cell_of_row W _ _ _ _ _ hx2] at h0
   rcases kindD_cases hkx with ⟨A, n, c, r, e⟩ | ⟨k, i, q, j, r, e⟩ <;> rw [e] at h0 <;> simp at h0
  ·have h0 := hc x.2.2.length hlen
   rw [cell_of_row W _ _ _ _ _ hx2] at h0
   simp at h0
 ·obtain ⟨x, hx, hxa⟩ := List.mem_map.1 hm
  have hx2 := (F.at_ x hx).2
  rw [hxa] at hx2
  rcases Nat.eq_zero_or_pos D.m with hm0 | hm0
  ·rw [(h0 hm0).1] at ha
   cases ha
  ·obtain ⟨q, hB, hq, hc2⟩ := hl hm0
   rw [hB] at ha
   injection ha with ha
   subst ha
   obtain ⟨c1, c2⟩ := hc2 0 hm0
   rw [cell_of_row W _ _ _ _ _ hx2] at c1 c2
   rcases hk x hx with hkx | ⟨_, s, r, e⟩
   ·rcases kindD_cases hkx with ⟨A, n, c, r, e⟩ | ⟨k, i, q, j, r, e⟩ <;> rw [e] at c1 c2 <;> simp at c1 c2
   ·rw [e] at c1
    simp at c1
theorem addSt2 (F : Fv.Fr w0 W vs Φ) (F2 : Fv.Fr w0 W' vs Φ) (h : IsSt (fun b => ((X b ∨ w0.heap.size ≤ b) ∧ Fv.Free (vs.map (·.1)) W b) ∨ W.heap.size ≤ b) W' v s) (hn : 1 ≤ s.d.n) (hk : ∀ x ∈ vs, kindS s.d x.2.2) : Fv.Fr w0 W' vs (fun L w => Φ L w ∧ StF X w0.heap.size v s L w) := by
 refine F2.add fun _ _ e => StF.ext ?_ e
 obtain ⟨A0, n1, c0, B0, m0, k0, dd0, lf0, ds0, Af, cf, Ad, cd, Ac, cc, hv, hd, hf, hi, hc, hl⟩ := h.lt
 have key : ∀ b, ((((X b ∨ w0.heap.size ≤ b) ∧ Fv.Free (vs.map (·.1)) W b) ∨ W.heap.size ≤ b) ∧ b < W'.heap.size) → (X b ∨ w0.heap.size ≤ b) ∧ Fv.Free (vs.map (·.1)) W' b := fun b hb => by
  rcases hb.1 with h1 | h1
  ·exact ⟨h1.1, ⟨hb.2, h1.2.2⟩⟩
  ·exact ⟨Or.inr (Nat.le_trans F.B.size h1), free_new F h1 hb.2⟩
 exact ⟨A0, n1, c0, B0, m0, k0, dd0, lf0, ds0, Af, cf, Ad, cd, Ac, cc, hv, devF_of2 F2 hd hn hk, hf.mono key, hi.mono key, hc.mono key, hl⟩
end
theorem st_di {Z : Nat → Prop} {w : World} {s : S} {a0 a1 a2 a3 a4 x5 x6 x7 x8 x9 x11 x12 : Value} {A : Option Addr} {n c : Nat} {l : List Pg} (h : IsSt Z w (.agg #[a0, a1, a2, a3, a4, x5, x6, x7, x8, x9, .slice A n c, x11, x12]) s) (hd : s.di = l) : Li.HasL SlP.cellsE 2 w 0 A l := by
 obtain ⟨A0, n1, c0, B0, m0, k0, dd0, lf0, ds0, Af, cf, Ad, cd, Ac, cc, hv, _, _, hx, _⟩ := h
 simp only [Value.agg.injEq, Array.mk.injEq, List.cons.injEq, Value.slice.injEq, true_and, and_true] at hv
 obtain ⟨_, _, _, _, _, _, _, _, _, _, ⟨e, _, _⟩, _⟩ := hv
 rw [e, ← hd]
 exact hx.p
section
variable {D E : Option Addr} {n cp m cq : Nat} {l : List Ac} {ol : List Int} {w : World}
set_option maxRecDepth 20000 in
set_option maxHeartbeats 6400000 in
theorem reads_any (lo lo2 : Nat) (hl : HasA w lo D l) (hn : l.length = n) (h9 : n ≤ 9223372036854775807) (ho : ∀ a ∈ l, OkA a) (hl2 : HasO w lo2 E ol) (hn2 : ol.length = m) (h92 : m ≤ 9223372036854775807) (ho2 : ∀ x ∈ ol, 0 ≤ x ∧ x < 256) (ht : Tab w) : Calls Tryz.prog 8 #[.slice D n cp, .slice E m cq] w (AwPost w) := by
 have HS := Lib.hid (show Calls Tryz.prog 9 #[.slice D n cp, .int .i64 40] w (BoolPost (SmallA 40 l) w) from small_any (cp := cp) 40 lo hl hn h9)
 have HL := Lib.hid (And.intro hl (And.intro hn ho))
 have HL2 := Lib.hid (And.intro hl2 (And.intro hn2 ho2))
 have HT := Lib.hid ht
 clear hl hn ho ht hl2 hn2 ho2
 obtain ⟨post, hpost⟩ : ∃ post, AwPost w = post := ⟨_, rfl⟩
 rw [hpost]
 have HP := Lib.hid hpost
 clear hpost
 by_cases hsm : SmallA 40 l
 ·have HSM := Lib.hid hsm
  have hn60 : n ≤ 40 := by rw [← HL.out.2.1]; exact hsm.len
  clear hsm
  by_cases hm : 100 < m
  ·have hm' : (100 : Int) < (m : Int) := by omega
   have F := Fv.Fr.start w
   go_enter Tryz.func8, Tryz.ntmps8
   go_wp2_with (first
    | ((with_reducible (show wpList _ _ _ (Oper.mk _ (Op.load _ _) _ _ _ none :: _) _ _)); first | refine Fv.ldN F rfl rfl rfl (by repeat constructor) (by repeat constructor) ?_ | refine Fv.ld1 F rfl rfl rfl (by repeat constructor) (by repeat constructor) ?_)
    | ((with_reducible (show wpList _ _ _ (Oper.mk _ (Op.store _ _ _) _ _ _ none :: _) _ _)); (first | refine Fv.stN F rfl rfl rfl rfl rfl (by first | rfl | simp [Value.oneCell']) (by repeat constructor) ?_ | refine Fv.st1 F rfl rfl rfl (by first | exact (rfl : _ = Value.int _ _) | exact (rfl : _ = Value.slice _ _ _) | exact (rfl : _ = Value.bool _) | exact (rfl : _ = Value.string _)) (by rfl) (by repeat constructor) ?_); clear F; intro W F)
    | ((with_reducible (show wpList _ _ _ (Oper.mk _ (Op.alloc _) _ _ _ none :: _) _ _)); refine Fv.al F rfl rfl ?_; clear F; intro g W hs1 hs2 F; clear hs1 hs2)
    | ((with_reducible (show wpList _ _ _ (Oper.mk _ (Op.box _ _) _ _ _ none :: _) _ _)); refine Fv.wpL_box F rfl rfl rfl rfl ?_; clear F; intro gb W hs1 hs2 F; clear hs1 hs2)
    | (go_at_call 9; refine HS.out.mono ?_; rintro e w1 ⟨b, rfl, hb, hv⟩; obtain rfl : b = true := hb.2 HSM.out; clear hb; replace F := F.call hv; clear hv)
    | (go_at_call 10; refine (awake_any _ (HT.out.below F.B)).mono ?_; rintro e w9 ⟨rfl, hv⟩; replace F := F.call hv; clear hv))
   rw [← HP.out]
   exact ⟨rfl, F.B⟩
  ·have hm' : ¬ (100 : Int) < (m : Int) := by omega
   obtain ⟨D0, V0, hf, hb0⟩ := been_new (p := 12) (l := 8) ⟨by decide, by decide, by decide, by decide, by decide, by decide⟩
   have HFM := Lib.hid (fun W (ht : Tab W) => show Calls Tryz.prog 11 #[.int .i64 12, .int .i64 8] W (FmtPost (some (⟨D0, ⟨12, 8, 1⟩, 0, [], [], ⟨[], 0⟩⟩ : S), 0) W) by rw [← hf]; exact format_any 12 8 W ht)
   have HB0 := Lib.hid hb0
   clear hf hb0
   have F := Fv.Fr.start w
   go_enter Tryz.func8, Tryz.ntmps8
   go_upto_region 5 with (first
    | ((with_reducible (show wpList _ _ _ (Oper.mk _ (Op.load _ _) _ _ _ none :: _) _ _)); first | refine Fv.ldN F rfl rfl rfl (by repeat constructor) (by repeat constructor) ?_ | refine Fv.ld1 F rfl rfl rfl (by repeat constructor) (by repeat constructor) ?_)
    | ((with_reducible (show wpList _ _ _ (Oper.mk _ (Op.store _ _ _) _ _ _ none :: _) _ _)); (first | refine Fv.stN F rfl rfl rfl rfl rfl (by first | rfl | simp [Value.oneCell']) (by repeat constructor) ?_ | refine Fv.st1 F rfl rfl rfl (by first | exact (rfl : _ = Value.int _ _) | exact (rfl : _ = Value.slice _ _ _) | exact (rfl : _ = Value.bool _) | exact (rfl : _ = Value.string _)) (by rfl) (by repeat constructor) ?_); clear F; intro W F)
    | ((with_reducible (show wpList _ _ _ (Oper.mk _ (Op.alloc _) _ _ _ none :: _) _ _)); refine Fv.al F rfl rfl ?_; clear F; intro g W hs1 hs2 F; clear hs1 hs2)
    | ((with_reducible (show wpList _ _ _ (Oper.mk _ (Op.box _ _) _ _ _ none :: _) _ _)); refine Fv.wpL_box F rfl rfl rfl rfl ?_; clear F; intro gb W hs1 hs2 F; clear hs1 hs2)
    | (go_at_call 9; refine HS.out.mono ?_; rintro e w1 ⟨b, rfl, hb, hv⟩; obtain rfl : b = true := hb.2 HSM.out; clear hb; replace F := F.call hv; clear hv)
    | (go_at_call 11; refine (HFM.out _ (HT.out.below F.B)).mono ?_; rintro e2 w2 ⟨v0, rfl, hS0, _, hv⟩; replace hS0 := hS0 _ rfl; obtain ⟨A0, n0, c0, B0, m0, k0, dd0, lf0, ds0, Af0, cf0, Ad0, cd0, Ac0, cc0, rfl, hq0⟩ := hS0; have hS0 := (show IsSt _ _ _ _ from ⟨_, _, _, _, _, _, _, _, _, _, _, _, _, _, _, rfl, hq0⟩); clear hq0; have F2 := F.call hv; replace F := addSt (X := fun _ => False) F F2 (hS0.mono fun b hb => Or.inr hb) HB0.out.ok.d.n1 rfl; clear hv F2 hS0))
   go_loopw [7] (fun s7 wr => ∃ (q : Nat) (s : S) (V su : Nat → ByteArray) (A1 : Option Addr) (n1 c1 : Nat) (B1 : Option Addr) (m1 k1 : Nat) (dd1 : Bool) (lf1 ds1 : Int) (Af1 : Option Addr) (cf1 : Nat) (Ad1 : Option Addr) (cd1 : Nat) (Ac1 : Option Addr) (cc1 : Nat), s7 = .int .i64 (q : Nat) ∧ q ≤ n ∧ Hid (Been s 12 8 V su q) ∧ Fv.Fr w wr [(g, 37, [.slice A1 n1 c1, .slice B1 m1 k1, .bool dd1, .int .i64 lf1, .int .i64 ds1, .int .i64 s.h.p, .int .i64 s.h.l, .int .i64 s.h.e, .int .i64 (s.t : Nat), .slice Af1 s.fr.length cf1, .slice Ad1 s.di.length cd1, .slice Ac1 s.c.l.length cc1, .int .i64 (s.c.h : Nat)])] (fun L w2 => True ∧ StF (fun _ => False) w.heap.size (.agg #[.slice A1 n1 c1, .slice B1 m1 k1, .bool dd1, .int .i64 lf1, .int .i64 ds1, .int .i64 s.h.p, .int .i64 s.h.l, .int .i64 s.h.e, .int .i64 (s.t : Nat), .slice Af1 s.fr.length cf1, .slice Ad1 s.di.length cd1, .slice Ac1 s.c.l.length cc1, .int .i64 (s.c.h : Nat)]) s L w2)) (fun s7 _ => n - (intOf s7).toNat)
   case atStart => exact ⟨0, ⟨D0, ⟨12, 8, 1⟩, 0, [], [], ⟨[], 0⟩⟩, V0, _, _, _, _, _, _, _, _, _, _, _, _, _, _, _, _, rfl, Nat.zero_le _, HB0, F⟩
   case round =>
    clear F
    obtain ⟨q, s, V, su, A1, n1, c1, B1, m1, k1, dd1, lf1, ds1, Af1, cf1, Ad1, cd1, Ac1, cc1, rfl, hq, HB, F⟩ := hrel
    by_cases hlt : q < n
    ·have hgt := List.getElem?_eq_getElem (l := l) (i := q) (by rw [HL.out.2.1]; exact hlt)
     generalize (l[q]'(by rw [HL.out.2.1]; exact hlt)) = x at hgt
     have HFA := Lib.hid (HSM.out.fine HL.out.2.2 x (List.mem_of_getElem? hgt))
     obtain ⟨bD, oD, hD, hRg⟩ := HasA.range HL.out.1 hgt
     obtain ⟨ak, aat, ad, ⟨fs, ft, fb⟩⟩ := x
     have d0 : World.cell? _ ⟨bD, oD + q * 6, none⟩ = some (.int .i64 ak) := hRg _ F.B 0 _ rfl
     have hR2 := Lib.hid hRg
     subst hD
     have i1 : (q : Int) < (n : Int) := by omega
     have i0 : (0 : Int) ≤ (q : Int) := by omega
     clear hgt hRg hm'
     by_cases hk0 : 0 ≤ ak
     ·by_cases hk4 : ak ≤ 4
      ·obtain ⟨s2, t2, er, V2, su2, hR, hb2, _⟩ := HB.out.next (a := ⟨ak, aat, ad, ⟨fs, ft, fb⟩⟩) (by omega) hk0 hk4
       have HB2 := Lib.hid hb2
       have HDO0 := fun Z W (v : Value) (ht : Tab W) (hi : IsSt Z W v s) => does_any v s ⟨ak, aat, ad, ⟨fs, ft, fb⟩⟩ W ht hi (HB.out.ok.more (show _ ≤ 80000 by omega)) (by decide) HFA.out
       rw [hR] at HDO0
       simp only [cellsA] at HDO0
       have HDO := Lib.hid HDO0
       clear HDO0 hR hb2
       go_upto_region 8 with (first
        | ((with_reducible (show wpList _ _ _ (Oper.mk _ (Op.load _ _) _ _ _ none :: _) _ _)); first | refine Fv.ldN F rfl rfl rfl (by repeat constructor) (by repeat constructor) ?_ | refine Fv.ld1 F rfl rfl rfl (by repeat constructor) (by repeat constructor) ?_)
        | ((with_reducible (show wpList _ _ _ (Oper.mk _ (Op.store _ _ _) _ _ _ none :: _) _ _)); (first | refine Fv.stN F rfl rfl rfl rfl rfl (by first | rfl | simp [Value.oneCell']) (by repeat constructor) ?_ | refine Fv.st1 F rfl rfl rfl (by first | exact (rfl : _ = Value.int _ _) | exact (rfl : _ = Value.slice _ _ _) | exact (rfl : _ = Value.bool _) | exact (rfl : _ = Value.string _)) (by rfl) (by repeat constructor) ?_); clear F; intro W F)
        | ((with_reducible (show wpList _ _ _ (Oper.mk _ (Op.alloc _) _ _ _ none :: _) _ _)); refine Fv.al F rfl rfl ?_; clear F; intro g W hs1 hs2 F; clear hs1 hs2))
       refine Lex.region_parts (ops := rsraw) (ops1 := rsops) (calls := rscalls) 7 rsord (Fv.FrS _ _ _) (by kernel_rfl) rscut (by rw [rssize]; decide) (by kernel_rfl) (by kernel_rfl) (by kernel_rfl) rssel (by kernel_rfl) (by kernel_rfl) rslex F.drew ?_
       replace F := F.drew
       unfold rsord
       refine Lex.step_take _ rs0 rfl (Lex.want_none rfl) (by intro Wx hSw; exact Fv.run_loadN hSw rfl rfl Fv.rt_Store (by repeat constructor) (by repeat constructor)) ?_
       simp only [Act.put, List.setIfInBounds_toArray, List.set_cons_zero, List.set_cons_succ]
       refine Lex.step_take _ rs1 rfl (Lex.want_none rfl) (by intro Wx hSw; clear hSw; go_simp; try (first | (with_reducible rfl) | rfl)) ?_
       simp only [Act.put, List.setIfInBounds_toArray, List.set_cons_zero, List.set_cons_succ]
       refine Lex.step_take _ rs2 rfl (Lex.want_none rfl) (by intro Wx hSw; clear hSw; go_simp; try (first | (with_reducible rfl) | rfl)) ?_
       simp only [Act.put, List.setIfInBounds_toArray, List.set_cons_zero, List.set_cons_succ]
       refine Lex.step_take _ rs3 rfl (Lex.want_none rfl) (by intro Wx hSw; clear hSw; go_simp; try (first | (with_reducible rfl) | rfl)) ?_
       simp only [Act.put, List.setIfInBounds_toArray, List.set_cons_zero, List.set_cons_succ]
       refine Lex.step_take _ rs4 rfl (Lex.want_none rfl) (by intro Wx hSw; exact Fv.run_loadR (hR2.out Wx hSw.B) rfl rfl rt_Act rfl) ?_
       simp only [Act.put, List.setIfInBounds_toArray, List.set_cons_zero, List.set_cons_succ]
       refine Lex.step_call rs5 rfl (Lex.want_none rfl) (fun K hK => ?_)
       go_simp
       refine (HDO.out _ _ _ (HT.out.below F.B) F.out.2.free).mono ?_
       rintro e2 w2 ⟨v2, rfl, hS2, hv⟩
       obtain ⟨A2, n2, c2, B2, m2, k2, dd2, lf2, ds2, Af2, cf2, Ad2, cd2, Ac2, cc2, rfl, hq2⟩ := hS2
       have hS2 := (show IsSt _ _ _ _ from ⟨_, _, _, _, _, _, _, _, _, _, _, _, _, _, _, rfl, hq2⟩)
       clear hq2
       have F2 := F.call hv
       replace F := addSt F F2 hS2 HB2.out.ok.d.n1 rfl
       clear hv F2 hS2
       refine hK.out (Fv.FrS _ _ _) _ _ (fun _ h => Fv.Fr.weak h (by intro L w h; first | exact h | exact h.1 | exact h.1.1)) F ?_
       clear hK K
       try simp only [Act.put, List.setIfInBounds_toArray, List.set_cons_zero, List.set_cons_succ]
       refine Lex.step_take _ rs6 rfl (Lex.want_none rfl) (by intro Wx hSw; clear hSw; go_simp; try (first | (with_reducible rfl) | rfl)) ?_
       simp only [Act.put, List.setIfInBounds_toArray, List.set_cons_zero, List.set_cons_succ]
       refine Lex.tail_lex (ops := rsraw) (calls := [10]) (n := 7) [7, 8, 9, 10] (fun _ => True) rsrsel (by rw [rssize]; rfl) (by kernel_rfl) rstlex trivial ?_
       refine Lex.step_take _ rst7 rfl (Lex.want_none rfl) (by intro Wx hSw; clear hSw; go_simp; try (first | (with_reducible rfl) | rfl)) ?_
       simp only [Act.put, List.setIfInBounds_toArray, List.set_cons_zero, List.set_cons_succ]
       refine Lex.step_take _ rst8 rfl (Lex.want_none rfl) (by intro Wx hSw; clear hSw; go_simp; try (first | (with_reducible rfl) | rfl)) ?_
       simp only [Act.put, List.setIfInBounds_toArray, List.set_cons_zero, List.set_cons_succ]
       refine Lex.step_take _ rst9 rfl (Lex.want_none rfl) (by intro Wx hSw; clear hSw; go_simp; try (first | (with_reducible rfl) | rfl)) ?_
       simp only [Act.put, List.setIfInBounds_toArray, List.set_cons_zero, List.set_cons_succ]
       refine Lex.step_call rst10 rfl (Lex.want_none rfl) (fun K hK => ?_)
       refine Fv.wp_storeN F rfl rfl rfl Fv.rt_Store rfl (by first | rfl | simp [Value.oneCell']) (by repeat constructor) ?_; clear F; intro W F
       refine hK.out _ _ _ (fun _ h => h) trivial ?_
       clear hK K
       try simp only [Act.put, List.setIfInBounds_toArray, List.set_cons_zero, List.set_cons_succ]
       refine NoPanic.normal ?_
       go_wp2_with (first
        | ((with_reducible (show wpList _ _ _ (Oper.mk _ (Op.load _ _) _ _ _ none :: _) _ _)); first | refine Fv.ldN F rfl rfl rfl (by repeat constructor) (by repeat constructor) ?_ | refine Fv.ld1 F rfl rfl rfl (by repeat constructor) (by repeat constructor) ?_)
        | ((with_reducible (show wpList _ _ _ (Oper.mk _ (Op.store _ _ _) _ _ _ none :: _) _ _)); (first | refine Fv.stN F rfl rfl rfl rfl rfl (by first | rfl | simp [Value.oneCell']) (by repeat constructor) ?_ | refine Fv.st1 F rfl rfl rfl (by first | exact (rfl : _ = Value.int _ _) | exact (rfl : _ = Value.slice _ _ _) | exact (rfl : _ = Value.bool _) | exact (rfl : _ = Value.string _)) (by rfl) (by repeat constructor) ?_); clear F; intro W F)
        | ((with_reducible (show wpList _ _ _ (Oper.mk _ (Op.alloc _) _ _ _ none :: _) _ _)); refine Fv.al F rfl rfl ?_; clear F; intro g W hs1 hs2 F; clear hs1 hs2))
       go_roundw
       case rel => exact ⟨q + 1, s2, V2, su2, _, _, _, _, _, _, _, _, _, _, _, _, _, _, _, by go_num, by omega, HB2, F.weak (fun _ _ h => ⟨trivial, h.2⟩)⟩
       case measure => simp [intOf]; omega
      ·skip
       go_wp2_with (first
        | ((with_reducible (show wpList _ _ _ (Oper.mk _ (Op.load _ _) _ _ _ none :: _) _ _)); first | refine Fv.ldN F rfl rfl rfl (by repeat constructor) (by repeat constructor) ?_ | refine Fv.ld1 F rfl rfl rfl (by repeat constructor) (by repeat constructor) ?_)
        | ((with_reducible (show wpList _ _ _ (Oper.mk _ (Op.store _ _ _) _ _ _ none :: _) _ _)); (first | refine Fv.stN F rfl rfl rfl rfl rfl (by first | rfl | simp [Value.oneCell']) (by repeat constructor) ?_ | refine Fv.st1 F rfl rfl rfl (by first | exact (rfl : _ = Value.int _ _) | exact (rfl : _ = Value.slice _ _ _) | exact (rfl : _ = Value.bool _) | exact (rfl : _ = Value.string _)) (by rfl) (by repeat constructor) ?_); clear F; intro W F)
        | ((with_reducible (show wpList _ _ _ (Oper.mk _ (Op.alloc _) _ _ _ none :: _) _ _)); refine Fv.al F rfl rfl ?_; clear F; intro g W hs1 hs2 F; clear hs1 hs2))
       go_roundw
       case rel => exact ⟨q + 1, s, V, su, _, _, _, _, _, _, _, _, _, _, _, _, _, _, _, by go_num, by omega, Lib.hid HB.out.more, F⟩
       case measure => simp [intOf]; omega
     ·skip
      go_wp2_with (first
       | ((with_reducible (show wpList _ _ _ (Oper.mk _ (Op.load _ _) _ _ _ none :: _) _ _)); first | refine Fv.ldN F rfl rfl rfl (by repeat constructor) (by repeat constructor) ?_ | refine Fv.ld1 F rfl rfl rfl (by repeat constructor) (by repeat constructor) ?_)
       | ((with_reducible (show wpList _ _ _ (Oper.mk _ (Op.store _ _ _) _ _ _ none :: _) _ _)); (first | refine Fv.stN F rfl rfl rfl rfl rfl (by first | rfl | simp [Value.oneCell']) (by repeat constructor) ?_ | refine Fv.st1 F rfl rfl rfl (by first | exact (rfl : _ = Value.int _ _) | exact (rfl : _ = Value.slice _ _ _) | exact (rfl : _ = Value.bool _) | exact (rfl : _ = Value.string _)) (by rfl) (by repeat constructor) ?_); clear F; intro W F)
       | ((with_reducible (show wpList _ _ _ (Oper.mk _ (Op.alloc _) _ _ _ none :: _) _ _)); refine Fv.al F rfl rfl ?_; clear F; intro g W hs1 hs2 F; clear hs1 hs2))
      go_roundw
      case rel => exact ⟨q + 1, s, V, su, _, _, _, _, _, _, _, _, _, _, _, _, _, _, _, by go_num, by omega, Lib.hid HB.out.more, F⟩
      case measure => simp [intOf]; omega
    ·obtain rfl : n = q := by omega
     clear hlt hm'
     go_upto_region 12 with (first
      | ((with_reducible (show wpList _ _ _ (Oper.mk _ (Op.alloc 64) _ _ _ none :: _) _ _)); refine Fv.al F rfl rfl ?_; clear F; intro GA W hs1 hs2 F; clear hs1 hs2)
      | ((with_reducible (show wpList _ _ _ (Oper.mk _ (Op.alloc 37) _ _ _ none :: _) _ _)); refine Fv.al F rfl rfl ?_; clear F; intro GX W hs1 hs2 F; clear hs1 hs2)
      | ((with_reducible (show wpList _ _ _ (Oper.mk _ (Op.load _ _) _ _ _ none :: _) _ _)); first | refine Fv.ldN F rfl rfl rfl (by repeat constructor) (by repeat constructor) ?_ | refine Fv.ld1 F rfl rfl rfl (by repeat constructor) (by repeat constructor) ?_)
      | ((with_reducible (show wpList _ _ _ (Oper.mk _ (Op.store _ _ _) _ _ _ none :: _) _ _)); (first | refine Fv.stN F rfl rfl rfl rfl rfl (by first | rfl | simp [Value.oneCell']) (by repeat constructor) ?_ | refine Fv.st1 F rfl rfl rfl (by first | exact (rfl : _ = Value.int _ _) | exact (rfl : _ = Value.slice _ _ _) | exact (rfl : _ = Value.bool _) | exact (rfl : _ = Value.string _)) (by rfl) (by repeat constructor) ?_); clear F; intro W F)
      | ((with_reducible (show wpList _ _ _ (Oper.mk _ (Op.alloc _) _ _ _ none :: _) _ _)); refine Fv.al F rfl rfl ?_; clear F; intro g W hs1 hs2 F; clear hs1 hs2))
     try (rename (∀ (a : Act) (w : World), Code.wp _ _ _ a w → _) => hz1; revert hz1; (try (rename (∀ (a : Act) (w : World), Code.wp _ _ _ a w → _) => hz2; clear hz2)); (try (rename (∀ (a : Act) (w : World), Code.wp _ _ _ a w → _) => hz2; clear hz2)); intro)
     have HBK := Lib.hid (HB.out.ok.more (show _ ≤ 90000 by omega))
     skip
     go_loopw [10] (fun s10 wr => ∃ (q : Nat) (f : Nat → ByteArray) (x : S) (A3 : Option Addr) (n3 c3 : Nat) (B3 : Option Addr) (m3 k3 : Nat) (dd3 : Bool) (lf3 ds3 : Int) (Af3 : Option Addr) (cf3 : Nat) (Ad3 : Option Addr) (cd3 : Nat) (Ac3 : Option Addr) (cc3 : Nat), s10 = .int .i64 (q : Nat) ∧ q ≤ 12 ∧ Hid (Alike s x V su (90000 + q)) ∧ Hid (∀ k, k < q → f k = nowR s su k) ∧ Fv.Fr w wr [(GX, 37, [.slice A3 n3 c3, .slice B3 m3 k3, .bool dd3, .int .i64 lf3, .int .i64 ds3, .int .i64 x.h.p, .int .i64 x.h.l, .int .i64 x.h.e, .int .i64 (x.t : Nat), .slice Af3 x.fr.length cf3, .slice Ad3 x.di.length cd3, .slice Ac3 x.c.l.length cc3, .int .i64 (x.c.h : Nat)]), (GA, 64, cs12 f), (g, 37, [.slice A1 n1 c1, .slice B1 m1 k1, .bool dd1, .int .i64 lf1, .int .i64 ds1, .int .i64 s.h.p, .int .i64 s.h.l, .int .i64 s.h.e, .int .i64 (s.t : Nat), .slice Af1 s.fr.length cf1, .slice Ad1 s.di.length cd1, .slice Ac1 s.c.l.length cc1, .int .i64 (s.c.h : Nat)])] (fun L w2 => (True ∧ StF (fun _ => False) w.heap.size (.agg #[.slice A1 n1 c1, .slice B1 m1 k1, .bool dd1, .int .i64 lf1, .int .i64 ds1, .int .i64 s.h.p, .int .i64 s.h.l, .int .i64 s.h.e, .int .i64 (s.t : Nat), .slice Af1 s.fr.length cf1, .slice Ad1 s.di.length cd1, .slice Ac1 s.c.l.length cc1, .int .i64 (s.c.h : Nat)]) s L w2) ∧ StF (fun _ => False) w.heap.size (.agg #[.slice A3 n3 c3, .slice B3 m3 k3, .bool dd3, .int .i64 lf3, .int .i64 ds3, .int .i64 x.h.p, .int .i64 x.h.l, .int .i64 x.h.e, .int .i64 (x.t : Nat), .slice Af3 x.fr.length cf3, .slice Ad3 x.di.length cd3, .slice Ac3 x.c.l.length cc3, .int .i64 (x.c.h : Nat)]) x L w2)) (fun s10 _ => 12 - (intOf s10).toNat)
     case atStart => exact ⟨0, fun _ => ⟨#[]⟩, s, _, _, _, _, _, _, _, _, _, _, _, _, _, _, _, rfl, Nat.zero_le _, Lib.hid ⟨HBK.out, HB.out.c, rfl, rfl, rfl⟩, Lib.hid (fun k hk => absurd hk (Nat.not_lt_zero k)), F.weak (fun _ _ h => ⟨⟨trivial, h.2⟩, h.2⟩)⟩
     case round =>
      clear F
      obtain ⟨q, f, x, A3, n3, c3, B3, m3, k3, dd3, lf3, ds3, Af3, cf3, Ad3, cd3, Ac3, cc3, rfl, hq, HX, HF, F⟩ := hrel
      by_cases hlt : q < 12
      ·obtain ⟨y, hr, hy⟩ := HX.out.read (no := q) (by rw [HB.out.p]; exact hlt)
       have HY := Lib.hid hy
       have HNY := Lib.hid (show 12 < y.d.n by have := hy.ok.n; rw [hy.h, HB.out.p, HB.out.l] at this; rw [this]; decide)
       have hsz := now_size HB.out.ok HB.out.c q
       have HRD0 := fun Z W (v : Value) (ht : Tab W) (hi : IsSt Z W v x) => read_any v x q W ht hi HX.out.ok (by omega)
       rw [hr] at HRD0
       have HRD := Lib.hid HRD0
       obtain ⟨d, hd⟩ : ∃ d, nowR s su q = d := ⟨_, rfl⟩
       rw [hd] at HRD hsz
       have HD := Lib.hid hd
       have hsz : (d.size : Int) = 200 := by omega
       have i1 : (q : Int) < 12 := by omega
       have i0 : (0 : Int) ≤ (q : Int) := by omega
       clear HRD0 hr hy hd
       go_upto_region 16 with (first
        | ((with_reducible (show wpList _ _ _ (Oper.mk _ (Op.load _ _) _ _ _ none :: _) _ _)); first | refine Fv.ldN F rfl rfl rfl (by repeat constructor) (by repeat constructor) ?_ | refine Fv.ld1 F rfl rfl rfl (by repeat constructor) (by repeat constructor) ?_)
        | ((with_reducible (show wpList _ _ _ (Oper.mk _ (Op.store _ _ _) _ _ _ none :: _) _ _)); (first | refine Fv.stN F rfl rfl rfl rfl rfl (by first | rfl | simp [Value.oneCell']) (by repeat constructor) ?_ | refine Fv.st1 F rfl rfl rfl (by first | exact (rfl : _ = Value.int _ _) | exact (rfl : _ = Value.slice _ _ _) | exact (rfl : _ = Value.bool _) | exact (rfl : _ = Value.string _)) (by rfl) (by repeat constructor) ?_); clear F; intro W F)
        | ((with_reducible (show wpList _ _ _ (Oper.mk _ (Op.alloc _) _ _ _ none :: _) _ _)); refine Fv.al F rfl rfl ?_; clear F; intro g W hs1 hs2 F; clear hs1 hs2)
        | (go_at_call 18; refine (HRD.out _ _ _ (HT.out.below F.B) F.out.2.free).mono ?_; rintro e4 w4 ⟨v4, rfl, hS4, hv⟩; obtain ⟨A4, n4, c4, B4, m4, k4, dd4, lf4, ds4, Af4, cf4, Ad4, cd4, Ac4, cc4, rfl, hq4⟩ := hS4; have hS4 := (show IsSt _ _ _ _ from ⟨_, _, _, _, _, _, _, _, _, _, _, _, _, _, _, rfl, hq4⟩); clear hq4; have F2 := F.call hv; replace F := addSt2 F F2 hS4 HY.out.ok.d.n1 (kinds3 rfl (Or.inr ⟨HNY.out, _, _, rfl⟩) rfl); clear hv F2 hS4))
       go_wp2_with (first
        | ((with_reducible (show wpList _ _ _ (Oper.mk _ (Op.store 9 _ _) _ _ _ none :: _) _ _)); refine Fv.st1 F rfl rfl rfl rfl rfl (Fv.Upd.tail (Fv.Upd.tail (Fv.Upd.head (put12 hlt)))) ?_; clear F; intro W F)
        | ((with_reducible (show wpList _ _ _ (Oper.mk _ (Op.load _ _) _ _ _ none :: _) _ _)); first | refine Fv.ldN F rfl rfl rfl (by repeat constructor) (by repeat constructor) ?_ | refine Fv.ld1 F rfl rfl rfl (by repeat constructor) (by repeat constructor) ?_)
        | ((with_reducible (show wpList _ _ _ (Oper.mk _ (Op.store _ _ _) _ _ _ none :: _) _ _)); (first | refine Fv.stN F rfl rfl rfl rfl rfl (by first | rfl | simp [Value.oneCell']) (by repeat constructor) ?_ | refine Fv.st1 F rfl rfl rfl (by first | exact (rfl : _ = Value.int _ _) | exact (rfl : _ = Value.slice _ _ _) | exact (rfl : _ = Value.bool _) | exact (rfl : _ = Value.string _)) (by rfl) (by repeat constructor) ?_); clear F; intro W F)
        | ((with_reducible (show wpList _ _ _ (Oper.mk _ (Op.alloc _) _ _ _ none :: _) _ _)); refine Fv.al F rfl rfl ?_; clear F; intro g W hs1 hs2 F; clear hs1 hs2))
       go_roundw
       case rel => exact ⟨q + 1, updF f q d, y, _, _, _, _, _, _, _, _, _, _, _, _, _, _, _, by go_num, by omega, HY, Lib.hid (upd_ok HF.out HD.out), (F.weak (fun _ _ h => ⟨⟨trivial, h.1.1.2⟩, h.2⟩)).tail⟩
       case measure => simp [intOf]; omega
      ·obtain rfl : q = 12 := by omega
       clear hlt hq
       go_upto_region 20 with (first
        | ((with_reducible (show wpList _ _ _ (Oper.mk _ (Op.load _ _) _ _ _ none :: _) _ _)); first | refine Fv.ldN F rfl rfl rfl (by repeat constructor) (by repeat constructor) ?_ | refine Fv.ld1 F rfl rfl rfl (by repeat constructor) (by repeat constructor) ?_)
        | ((with_reducible (show wpList _ _ _ (Oper.mk _ (Op.store _ _ _) _ _ _ none :: _) _ _)); (first | refine Fv.stN F rfl rfl rfl rfl rfl (by first | rfl | simp [Value.oneCell']) (by repeat constructor) ?_ | refine Fv.st1 F rfl rfl rfl (by first | exact (rfl : _ = Value.int _ _) | exact (rfl : _ = Value.slice _ _ _) | exact (rfl : _ = Value.bool _) | exact (rfl : _ = Value.string _)) (by rfl) (by repeat constructor) ?_); clear F; intro W F)
        | ((with_reducible (show wpList _ _ _ (Oper.mk _ (Op.alloc _) _ _ _ none :: _) _ _)); refine Fv.al F rfl rfl ?_; clear F; intro g W hs1 hs2 F; clear hs1 hs2))
       try (rename (∀ (a : Act) (w : World), Code.wp _ _ _ a w → _) => hz1; revert hz1; (try (rename (∀ (a : Act) (w : World), Code.wp _ _ _ a w → _) => hz2; clear hz2)); (try (rename (∀ (a : Act) (w : World), Code.wp _ _ _ a w → _) => hz2; clear hz2)); intro)
       go_loopw [14] (fun s14 wr => ∃ (q : Nat) (x : S) (A5 : Option Addr) (n5 c5 : Nat) (B5 : Option Addr) (m5 k5 : Nat) (dd5 : Bool) (lf5 ds5 : Int) (Af5 : Option Addr) (cf5 : Nat) (Ad5 : Option Addr) (cd5 : Nat) (Ac5 : Option Addr) (cc5 : Nat), s14 = .int .i64 (q : Nat) ∧ q ≤ m ∧ Hid (Alike s x V su (90012 + q)) ∧ Fv.Fr w wr [(GX, 37, [.slice A5 n5 c5, .slice B5 m5 k5, .bool dd5, .int .i64 lf5, .int .i64 ds5, .int .i64 x.h.p, .int .i64 x.h.l, .int .i64 x.h.e, .int .i64 (x.t : Nat), .slice Af5 x.fr.length cf5, .slice Ad5 x.di.length cd5, .slice Ac5 x.c.l.length cc5, .int .i64 (x.c.h : Nat)]), (GA, 64, cs12 f), (g, 37, [.slice A1 n1 c1, .slice B1 m1 k1, .bool dd1, .int .i64 lf1, .int .i64 ds1, .int .i64 s.h.p, .int .i64 s.h.l, .int .i64 s.h.e, .int .i64 (s.t : Nat), .slice Af1 s.fr.length cf1, .slice Ad1 s.di.length cd1, .slice Ac1 s.c.l.length cc1, .int .i64 (s.c.h : Nat)])] (fun L w2 => (True ∧ StF (fun _ => False) w.heap.size (.agg #[.slice A1 n1 c1, .slice B1 m1 k1, .bool dd1, .int .i64 lf1, .int .i64 ds1, .int .i64 s.h.p, .int .i64 s.h.l, .int .i64 s.h.e, .int .i64 (s.t : Nat), .slice Af1 s.fr.length cf1, .slice Ad1 s.di.length cd1, .slice Ac1 s.c.l.length cc1, .int .i64 (s.c.h : Nat)]) s L w2) ∧ StF (fun _ => False) w.heap.size (.agg #[.slice A5 n5 c5, .slice B5 m5 k5, .bool dd5, .int .i64 lf5, .int .i64 ds5, .int .i64 x.h.p, .int .i64 x.h.l, .int .i64 x.h.e, .int .i64 (x.t : Nat), .slice Af5 x.fr.length cf5, .slice Ad5 x.di.length cd5, .slice Ac5 x.c.l.length cc5, .int .i64 (x.c.h : Nat)]) x L w2)) (fun s14 _ => m - (intOf s14).toNat)
       case atStart => exact ⟨0, x, _, _, _, _, _, _, _, _, _, _, _, _, _, _, _, rfl, Nat.zero_le _, HX, F⟩
       case round =>
        clear F HX
        obtain ⟨q, x, A5, n5, c5, B5, m5, k5, dd5, lf5, ds5, Af5, cf5, Ad5, cd5, Ac5, cc5, rfl, hq, HX, F⟩ := hrel
        by_cases hlt : q < m
        ·have hgt := List.getElem?_eq_getElem (l := ol) (i := q) (by rw [HL2.out.2.1]; exact hlt)
         generalize (ol[q]'(by rw [HL2.out.2.1]; exact hlt)) = b at hgt
         have hb := HL2.out.2.2 b (List.mem_of_getElem? hgt)
         obtain ⟨bE, oE, hE, _, d0⟩ := HasO.at (HL2.out.1.below F.B (Nat.le_refl _)) hgt
         subst hE
         obtain ⟨k, hk, hk12⟩ : ∃ k : Nat, b.tmod 12 = (k : Int) ∧ k < 12 := ⟨(b % 12).toNat, by rw [Int.tmod_eq_emod_of_nonneg hb.1]; omega, by omega⟩
         have hkw : wrap64 (k : Int) = (k : Int) := wr_small _ _ (by omega) (by omega) rfl
         obtain ⟨y, hr, hy⟩ := HX.out.read (no := k) (by rw [HB.out.p]; exact hk12)
         have HY := Lib.hid hy
         have HNY := Lib.hid (show 12 < y.d.n by have := hy.ok.n; rw [hy.h, HB.out.p, HB.out.l] at this; rw [this]; decide)
         have HRD0 := fun Z W (v : Value) (ht : Tab W) (hi : IsSt Z W v x) => read_any v x k W ht hi HX.out.ok (by omega)
         rw [hr, ← HF.out k hk12] at HRD0
         have HRD := Lib.hid HRD0
         have i1 : (q : Int) < (m : Int) := by omega
         have i0 : (0 : Int) ≤ (q : Int) := by omega
         have j1 : (k : Int) < 12 := by omega
         have j0 : (0 : Int) ≤ (k : Int) := by omega
         clear HRD0 hr hy hgt hb
         go_upto_region 23 with (first
          | ((with_reducible (show wpList _ _ _ (Oper.mk _ (Op.load _ _) _ _ _ none :: _) _ _)); first | refine Fv.ldN F rfl rfl rfl (by repeat constructor) (by repeat constructor) ?_ | refine Fv.ld1 F rfl rfl rfl (by repeat constructor) (by repeat constructor) ?_)
          | ((with_reducible (show wpList _ _ _ (Oper.mk _ (Op.store _ _ _) _ _ _ none :: _) _ _)); (first | refine Fv.stN F rfl rfl rfl rfl rfl (by first | rfl | simp [Value.oneCell']) (by repeat constructor) ?_ | refine Fv.st1 F rfl rfl rfl (by first | exact (rfl : _ = Value.int _ _) | exact (rfl : _ = Value.slice _ _ _) | exact (rfl : _ = Value.bool _) | exact (rfl : _ = Value.string _)) (by rfl) (by repeat constructor) ?_); clear F; intro W F)
          | ((with_reducible (show wpList _ _ _ (Oper.mk _ (Op.alloc _) _ _ _ none :: _) _ _)); refine Fv.al F rfl rfl ?_; clear F; intro g W hs1 hs2 F; clear hs1 hs2))
         have HK := Lib.hid hk
         clear hk hkw d0 i1 i0 j1 j0
         go_upto_region 24 with (first
          | ((with_reducible (show wpList _ _ _ (Oper.mk _ (Op.load _ _) _ _ _ none :: _) _ _)); first | refine Fv.ldN F rfl rfl rfl (by repeat constructor) (by repeat constructor) ?_ | refine Fv.ld1 F rfl rfl rfl (by repeat constructor) (by repeat constructor) ?_)
          | ((with_reducible (show wpList _ _ _ (Oper.mk _ (Op.store _ _ _) _ _ _ none :: _) _ _)); (first | refine Fv.stN F rfl rfl rfl rfl rfl (by first | rfl | simp [Value.oneCell']) (by repeat constructor) ?_ | refine Fv.st1 F rfl rfl rfl (by first | exact (rfl : _ = Value.int _ _) | exact (rfl : _ = Value.slice _ _ _) | exact (rfl : _ = Value.bool _) | exact (rfl : _ = Value.string _)) (by rfl) (by repeat constructor) ?_); clear F; intro W F)
          | ((with_reducible (show wpList _ _ _ (Oper.mk _ (Op.alloc _) _ _ _ none :: _) _ _)); refine Fv.al F rfl rfl ?_; clear F; intro g W hs1 hs2 F; clear hs1 hs2)
          | (go_at_call 18; refine (HRD.out _ _ _ (HT.out.below F.B) F.out.2.free).mono ?_; rintro e6 w6 ⟨v6, rfl, hS6, hv⟩; obtain ⟨A6, n6, c6, B6, m6, k6, dd6, lf6, ds6, Af6, cf6, Ad6, cd6, Ac6, cc6, rfl, hq6⟩ := hS6; have hS6 := (show IsSt _ _ _ _ from ⟨_, _, _, _, _, _, _, _, _, _, _, _, _, _, _, rfl, hq6⟩); clear hq6; have F2 := F.call hv; replace F := addSt2 F F2 hS6 HY.out.ok.d.n1 (kinds3 rfl (Or.inr ⟨HNY.out, _, _, rfl⟩) rfl); clear hv F2 hS6))
         have j1 : (k : Int) < 12 := by omega
         have j0 : (0 : Int) ≤ (k : Int) := by omega
         go_upto_region 25 with (first
          | ((with_reducible (show wpList _ _ _ (Oper.mk _ (Op.load _ _) _ _ _ none :: _) _ _)); first | refine Fv.ldN F rfl rfl rfl (by repeat constructor) (by repeat constructor) ?_ | refine Fv.ld1 F rfl rfl rfl (by repeat constructor) (by repeat constructor) ?_)
          | ((with_reducible (show wpList _ _ _ (Oper.mk _ (Op.store _ _ _) _ _ _ none :: _) _ _)); (first | refine Fv.stN F rfl rfl rfl rfl rfl (by first | rfl | simp [Value.oneCell']) (by repeat constructor) ?_ | refine Fv.st1 F rfl rfl rfl (by first | exact (rfl : _ = Value.int _ _) | exact (rfl : _ = Value.slice _ _ _) | exact (rfl : _ = Value.bool _) | exact (rfl : _ = Value.string _)) (by rfl) (by repeat constructor) ?_); clear F; intro W F)
          | ((with_reducible (show wpList _ _ _ (Oper.mk _ (Op.alloc _) _ _ _ none :: _) _ _)); refine Fv.al F rfl rfl ?_; clear F; intro g W hs1 hs2 F; clear hs1 hs2))
         have c12 := Fv.Fr.cell F (Fv.At.tail (Fv.At.tail Fv.At.head)) k
         rw [get12 hk12] at c12
         go_wp2_with (first
          | ((with_reducible (show wpList _ _ _ (Oper.mk _ (Op.load _ _) _ _ _ none :: _) _ _)); first | refine Fv.ldN F rfl rfl rfl (by repeat constructor) (by repeat constructor) ?_ | refine Fv.ld1 F rfl rfl rfl (by repeat constructor) (by repeat constructor) ?_)
          | ((with_reducible (show wpList _ _ _ (Oper.mk _ (Op.store _ _ _) _ _ _ none :: _) _ _)); (first | refine Fv.stN F rfl rfl rfl rfl rfl (by first | rfl | simp [Value.oneCell']) (by repeat constructor) ?_ | refine Fv.st1 F rfl rfl rfl (by first | exact (rfl : _ = Value.int _ _) | exact (rfl : _ = Value.slice _ _ _) | exact (rfl : _ = Value.bool _) | exact (rfl : _ = Value.string _)) (by rfl) (by repeat constructor) ?_); clear F; intro W F)
          | ((with_reducible (show wpList _ _ _ (Oper.mk _ (Op.alloc _) _ _ _ none :: _) _ _)); refine Fv.al F rfl rfl ?_; clear F; intro g W hs1 hs2 F; clear hs1 hs2))
         go_roundw
         case rel => exact ⟨q + 1, y, _, _, _, _, _, _, _, _, _, _, _, _, _, _, _, by go_num, by omega, HY, (F.weak (fun _ _ h => ⟨⟨trivial, h.1.1.2⟩, h.2⟩)).tail⟩
         case measure => simp [intOf]; omega
        ·obtain rfl : m = q := by omega
         clear hlt hq
         have HDI := Lib.hid HX.out.di
         have hxt := HX.out.t
         have hxc := HX.out.ok.c.len
         have hxd : x.di.length = s.di.length := by rw [HX.out.di]
         have hxc' : ¬ (8 : Int) < (x.c.l.length : Int) := by omega
         have hxc2 : (x.c.l.length : Int) ≤ 8 := by omega
         go_wp2_with (first
          | ((with_reducible (show wpList _ _ _ (Oper.mk _ (Op.load _ _) _ _ _ none :: _) _ _)); first | refine Fv.ldN F rfl rfl rfl (by repeat constructor) (by repeat constructor) ?_ | refine Fv.ld1 F rfl rfl rfl (by repeat constructor) (by repeat constructor) ?_)
          | ((with_reducible (show wpList _ _ _ (Oper.mk _ (Op.store _ _ _) _ _ _ none :: _) _ _)); (first | refine Fv.stN F rfl rfl rfl rfl rfl (by first | rfl | simp [Value.oneCell']) (by repeat constructor) ?_ | refine Fv.st1 F rfl rfl rfl (by first | exact (rfl : _ = Value.int _ _) | exact (rfl : _ = Value.slice _ _ _) | exact (rfl : _ = Value.bool _) | exact (rfl : _ = Value.string _)) (by rfl) (by repeat constructor) ?_); clear F; intro W F)
          | ((with_reducible (show wpList _ _ _ (Oper.mk _ (Op.alloc _) _ _ _ none :: _) _ _)); refine Fv.al F rfl rfl ?_; clear F; intro g W hs1 hs2 F; clear hs1 hs2)
          | (go_at_call 10; refine (awake_any _ (HT.out.below F.B)).mono ?_; rintro e w9 ⟨rfl, hv⟩; replace F := F.call hv; clear hv; have q0 := Fv.Fr.cell F Fv.At.head 10; have q1 := Fv.Fr.cell F (Fv.At.tail (Fv.At.tail Fv.At.head)) 10; simp only [List.getElem?_cons_zero, List.getElem?_cons_succ] at q0 q1)
          | (go_at_call 23; refine (samePages_any (l := s.di) (l' := s.di) 0 0 (st_di F.out.2.st HDI.out) rfl (by have := HB.out.ok.dl; omega) (st_di F.out.1.2.st rfl) rfl).mono ?_; rintro e8 w8 ⟨b8, rfl, hb8, hv⟩; obtain rfl : b8 = true := hb8.2 rfl; clear hb8 q0 q1; replace F := F.call hv; clear hv; have q2 := Fv.Fr.cell F Fv.At.head 8; have q3 := Fv.Fr.cell F (Fv.At.tail (Fv.At.tail Fv.At.head)) 8; have q4 := Fv.Fr.cell F Fv.At.head 11; simp only [List.getElem?_cons_zero, List.getElem?_cons_succ] at q2 q3 q4))
         rw [← HP.out]
         exact ⟨rfl, F.B⟩
 ·have HSM := Lib.hid hsm
  clear hsm
  have F := Fv.Fr.start w
  go_enter Tryz.func8, Tryz.ntmps8
  go_wp2_with (first
   | ((with_reducible (show wpList _ _ _ (Oper.mk _ (Op.load _ _) _ _ _ none :: _) _ _)); first | refine Fv.ldN F rfl rfl rfl (by repeat constructor) (by repeat constructor) ?_ | refine Fv.ld1 F rfl rfl rfl (by repeat constructor) (by repeat constructor) ?_)
   | ((with_reducible (show wpList _ _ _ (Oper.mk _ (Op.store _ _ _) _ _ _ none :: _) _ _)); (first | refine Fv.stN F rfl rfl rfl rfl rfl (by first | rfl | simp [Value.oneCell']) (by repeat constructor) ?_ | refine Fv.st1 F rfl rfl rfl (by first | exact (rfl : _ = Value.int _ _) | exact (rfl : _ = Value.slice _ _ _) | exact (rfl : _ = Value.bool _) | exact (rfl : _ = Value.string _)) (by rfl) (by repeat constructor) ?_); clear F; intro W F)
   | ((with_reducible (show wpList _ _ _ (Oper.mk _ (Op.alloc _) _ _ _ none :: _) _ _)); refine Fv.al F rfl rfl ?_; clear F; intro g W hs1 hs2 F; clear hs1 hs2)
   | ((with_reducible (show wpList _ _ _ (Oper.mk _ (Op.box _ _) _ _ _ none :: _) _ _)); refine Fv.wpL_box F rfl rfl rfl rfl ?_; clear F; intro gb W hs1 hs2 F; clear hs1 hs2)
   | (go_at_call 9; refine HS.out.mono ?_; rintro e w1 ⟨b, rfl, hb, hv⟩; obtain rfl : b = false := (by cases b; rfl; exact absurd (hb.1 rfl) HSM.out); clear hb; replace F := F.call hv; clear hv)
   | (go_at_call 10; refine (awake_any _ (HT.out.below F.B)).mono ?_; rintro e w9 ⟨rfl, hv⟩; replace F := F.call hv; clear hv))
  rw [← HP.out]
  exact ⟨rfl, F.B⟩
end
end Go.Proofs.YtfhopccbjlleoaaGreatDoor.St
