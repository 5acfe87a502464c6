/- Texts StS, SuD, SuP, SuX, one behind the other. -/
import Derived.Test.YtcgkbcgpnlogoaaGreatDoorStR
import Derived.Test.YtcgkbcgpnlogoaaGreatDoorMgAH
import Derived.Test.YtcgkbcgpnlogoaaGreatDoorMgAJ
import Derived.ProofKit
import Derived.OpenShut
import Derived.Carry
import Derived.Deep.Fields
import Derived.Deep.Slices
/- Stores: rows of deeds; few?, walked; what a deed of kinds 0 to 4 leaves. -/
namespace Go.Proofs.YtcgkbcgpnlogoaaGreatDoor.St
open Go.RowKit Go.Shelf Tal Sla Hd Fr Lf Lex Pac
instance rt_Act : Fv.RowTy Tryz.prog 48 6 := ⟨⟨_, Tryz.underlying48, rfl⟩, by kernel_rfl⟩
instance zt_Act : Fv.ZeroTy Tryz.prog 48 [.int .i64 0, .int .i64 0, .string ⟨#[]⟩, .int .u64 0, .int .i64 0, .int .i64 0] := ⟨⟨.agg #[.int .i64 0, .int .i64 0, .string ⟨#[]⟩, .int .u64 0, .int .i64 0, .int .i64 0], by kernel_rfl, rfl⟩⟩
theorem cellsA_len (a : Ac) : (cellsA a).length = 6 := rfl
abbrev HasA (w : World) (lo : Nat) (D : Option Addr) (l : List Ac) : Prop := Li.HasL cellsA 6 w lo D l
theorem HasA.at {w : World} {lo : Nat} {D : Option Addr} {l : List Ac} (h : HasA w lo D l) {q : Nat} {e : Ac} (hq : l[q]? = some e) :
  ∃ b o, D = some ⟨b, o, none⟩ ∧ b < w.heap.size ∧ w.cell? ⟨b, o + q * 6, none⟩ = some (.int .i64 e.k) ∧ w.cell? ⟨b, o + q * 6 + 1, none⟩ = some (.int .i64 e.at_) ∧ w.cell? ⟨b, o + q * 6 + 2, none⟩ = some (.string e.data) ∧ w.cell? ⟨b, o + q * 6 + 3, none⟩ = some (.int .u64 e.fate.stay) ∧ w.cell? ⟨b, o + q * 6 + 4, none⟩ = some (.int .i64 e.fate.torn) ∧ w.cell? ⟨b, o + q * 6 + 5, none⟩ = some (.int .i64 e.fate.bytes) := by
 obtain ⟨b, o, hA, _, hlt, hc⟩ := h (fun e => by rw [e] at hq; simp at hq)
 exact ⟨b, o, hA, hlt, hc q e hq 0 _ rfl, hc q e hq 1 _ rfl, hc q e hq 2 _ rfl, hc q e hq 3 _ rfl, hc q e hq 4 _ rfl, hc q e hq 5 _ rfl⟩
def BoolPost (P : Prop) (w : World) (e : Ending) (w' : World) : Prop := ∃ b : Bool, e = .returned (.bool b) ∧ (b = true ↔ P) ∧ Below w.heap.size w w'
theorem take_one {α : Type} {l : List α} {q : Nat} {x : α} (h : l[q]? = some x) : l.take (q + 1) = l.take q ++ [x] := by
 rw [List.take_add_one, h]
 rfl
structure SmallA (most : Nat) (l : List Ac) : Prop where
 len : l.length ≤ most
 d : ∀ a ∈ l, a.data.size ≤ 300
/-- What comes in. -/
structure OkA (a : Ac) : Prop where
 d : a.data.size ≤ 9223372036854775807
 x : a.at_ ≤ 9223372036854775807
 f0 : 0 ≤ a.fate.stay
 f1 : a.fate.stay < 18446744073709551616
theorem SmallA.fine {most : Nat} {l : List Ac} (h : SmallA most l) (ho : ∀ a ∈ l, OkA a) : ∀ a ∈ l, FineAc a := fun a ha => ⟨h.d a ha, (ho a ha).x, (ho a ha).f0, (ho a ha).f1⟩
section
variable {D : Option Addr} {n cp : Nat} {l : List Ac} {w : World}
set_option maxRecDepth 20000 in
set_option maxHeartbeats 1600000 in
theorem small_any (most lo : Nat) (hl : HasA w lo D l) (hn : l.length = n) (h9 : n ≤ 9223372036854775807) :
  Calls Tryz.prog 15 #[.slice D n cp, .int .i64 (most : Nat)] w (BoolPost (SmallA most l) w) := by
 have HL := Lib.hid (And.intro hl hn)
 clear hl hn
 go_enter Tryz.func15, Tryz.ntmps15
 go_wp2
 go_loopw [5] (fun i wr => ∃ q : Nat, q ≤ n ∧ i = .int .i64 q ∧ Hid (∀ a ∈ l.take q, a.data.size ≤ 300) ∧ Below w.heap.size w wr) (fun i _ => n - (intOf i).toNat)
 case atStart => exact ⟨0, Nat.zero_le _, rfl, Lib.hid (fun a ha => by simp at ha), Below.refl _ _⟩
 case round =>
  obtain ⟨q, hq, rfl, hI, hB⟩ := hrel
  by_cases hlt : q < n
  ·have hgt := List.getElem?_eq_getElem (l := l) (i := q) (by rw [HL.out.2]; exact hlt)
   generalize (l[q]'(by rw [HL.out.2]; exact hlt)) = x at hgt
   obtain ⟨b, o, rfl, hlb, _, _, d2, _⟩ := HasA.at (HL.out.1.below hB (Nat.le_refl _)) hgt
   have i1 : (q : Int) < (n : Int) := by omega
   have i0 : (0 : Int) ≤ (q : Int) := by omega
   obtain ⟨ek, en, ed, ef⟩ := x
   simp only at d2
   by_cases kf : ed.size ≤ 300
   ·have HI : Hid (∀ a ∈ l.take (q + 1), a.data.size ≤ 300) := Lib.hid (fun a ha => by
     rw [take_one hgt] at ha
     rcases List.mem_append.1 ha with h | h
     ·exact hI.out a h
     ·obtain rfl := List.mem_singleton.1 h
      exact kf)
    have kf' : (ed.size : Int) ≤ 300 := by omega
    clear hgt
    go_wp2
    go_roundw
    case rel => exact ⟨q + 1, by omega, by go_num, HI, hB⟩
    case measure => simp [intOf]; omega
   ·have HQ : Hid (¬ SmallA most l) := Lib.hid (fun h => kf (h.d _ (List.mem_of_getElem? hgt)))
    have kf' : (300 : Int) < (ed.size : Int) := by omega
    clear hgt
    go_wp2
    go_ret
    exact ⟨false, rfl, ⟨fun e => (by cases e), fun e => absurd e HQ.out⟩, hB⟩
  ·obtain rfl : n = q := by omega
   have HI : Hid (∀ a ∈ l, a.data.size ≤ 300) := Lib.hid (by
    have h := hI.out
    rw [List.take_of_length_le (by rw [HL.out.2]; exact Nat.le_refl _)] at h
    exact h)
   by_cases h5 : n ≤ most
   ·have HY : Hid (SmallA most l) := Lib.hid ⟨by rw [HL.out.2]; exact h5, HI.out⟩
    have i5 : decide ((n : Int) ≤ (most : Int)) = true := decide_eq_true (by omega)
    go_wp2
    go_ret
    exact ⟨true, by rw [← i5]; rfl, ⟨fun _ => HY.out, fun _ => rfl⟩, hB⟩
   ·have HQ : Hid (¬ SmallA most l) := Lib.hid (fun h => h5 (by rw [← HL.out.2]; exact h.len))
    have i5 : decide ((n : Int) ≤ (most : Int)) = false := decide_eq_false (by omega)
    go_wp2
    go_ret
    exact ⟨false, by rw [← i5]; rfl, ⟨fun e => (by cases e), fun e => absurd e HQ.out⟩, hB⟩
end
section
variable {s : S} {K : Nat} {a : Ac}
theorem calm_cases {k : Int} (h0 : 0 ≤ k) (h4 : k ≤ 4) : k = 0 ∨ k = 1 ∨ k = 2 ∨ k = 3 ∨ k = 4 := by omega
theorem doR_ok (h : OkS s K) (h0 : 0 ≤ a.k) (h4 : a.k ≤ 4) : OkS (doR s a).1 (K + 2 * s.fr.length + s.di.length + 5) := by
 obtain ⟨k, x, d, f⟩ := a
 rcases calm_cases h0 h4 with e | e | e | e | e <;> (simp only at e; subst e)
 ·rw [doR_0]; exact (writeR_ok h x d).more (by omega)
 ·rw [doR_1]; exact (readR_ok h x).more (by omega)
 ·rw [doR_2]; exact commitR_ok h
 ·rw [doR_3]; exact (abortR_ok h).more (by omega)
 ·rw [doR_4]; exact (checkR_ok h).more (by omega)
end
end Go.Proofs.YtcgkbcgpnlogoaaGreatDoor.St

/- What a deed of kinds 0 to 4 makes of a store with power for good. No program. -/
namespace Go.Proofs.YtcgkbcgpnlogoaaGreatDoor.St
open Go.RowKit Go.Shelf Tal Sla Hd Fr Lf
section
variable {s : S} {V su : Nat → ByteArray} {K : Nat} {a : Ac}
/-- What is told of a deed's store and error. -/
structure Did (s : S) (a : Ac) (s2 : S) (er : Int) : Prop where
 p : s2.h.p = s.h.p
 l : s2.h.l = s.h.l
 e : s2.h.e = s.h.e ∨ s2.h.e = s.h.e + 1
 k2 : a.k = 2 → (er = 0 ↔ s.di = [] ∨ (s.di.length : Int) + 1 ≤ s.h.l) ∧ (er ≠ 0 → er = 9 ∧ s2 = s)
 k4 : a.k = 4 → er = 0 ∧ s2.t = 0 ∧ s2.fr = []
theorem do_conL (h : OkS s K) (c : ConL s V su) (hn : RightH (nextH s.h)) (h0 : 0 ≤ a.k) (h4 : a.k ≤ 4) :
  ∃ s2 t2 er V2 su2, doR s a = (s2, t2, er) ∧ ConL s2 V2 su2 ∧ Did s a s2 er := by
 obtain ⟨k, x, d, f⟩ := a
 rcases calm_cases h0 h4 with e | e | e | e | e <;> (simp only at e; subst e)
 ·rw [doR_0]
  by_cases hw : HasNo s.h x ∧ d.size ≤ 200
  ·obtain ⟨s2, e, c2, e1, e2, e3, e4, e5, _⟩ := write_conL h c (no := x.toNat) (d := d) (by have := hw.1.1; have := hw.1.2; omega) hw.2
   rw [Int.toNat_of_nonneg hw.1.1] at e
   rw [e]
   exact ⟨s2, _, 0, V, su, rfl, c2, ⟨by rw [e1], by rw [e1], Or.inl (by rw [e1]), fun h => (by cases h), fun h => (by cases h)⟩⟩
  ·have e : writeR s x d = (s, 1) := by
    unfold writeR
    rw [if_pos (by
     by_cases h1 : HasNo s.h x
     ·exact Or.inr (Nat.lt_of_not_le fun h2 => hw ⟨h1, h2⟩)
     ·exact Or.inl h1)]
   rw [e]
   exact ⟨s, _, 1, V, su, rfl, c, ⟨rfl, rfl, Or.inl rfl, fun h => (by cases h), fun h => (by cases h)⟩⟩
 ·rw [doR_1]
  by_cases hw : HasNo s.h x
  ·obtain ⟨s2, e, c2, e1, _⟩ := read_conL h c (no := x.toNat) (by have := hw.1; have := hw.2; omega)
   rw [Int.toNat_of_nonneg hw.1] at e
   rw [e]
   exact ⟨s2, _, 0, V, su, rfl, c2, ⟨by rw [e1], by rw [e1], Or.inl (by rw [e1]), fun h => (by cases h), fun h => (by cases h)⟩⟩
  ·have e : readR s x = (s, ⟨#[]⟩, 1) := by
    unfold readR
    rw [if_pos hw]
   rw [e]
   exact ⟨s, _, 1, V, su, rfl, c, ⟨rfl, rfl, Or.inl rfl, fun h => (by cases h), fun h => (by cases h)⟩⟩
 ·rw [doR_2]
  have hl0 := h.h.l0
  by_cases hd : s.di = []
  ·rw [commitR_none c.c.l.dead hd]
   exact ⟨s, _, 0, V, su, rfl, c, ⟨rfl, rfl, Or.inl rfl, fun _ => ⟨⟨fun _ => Or.inl hd, fun _ => rfl⟩, fun h => absurd rfl h⟩, fun h => (by cases h)⟩⟩
  ·by_cases hl : (s.di.length : Int) + 1 ≤ s.h.l
   ·obtain ⟨s2, V2, e, c2, e1, e2, e3⟩ := commit_conL h c hn hd (by omega)
    rw [e]
    refine ⟨s2, _, 0, V2, _, rfl, c2, ⟨?_, ?_, ?_, fun _ => ⟨⟨fun _ => Or.inr hl, fun _ => rfl⟩, fun h => absurd rfl h⟩, fun h => (by cases h)⟩⟩
    ·rcases e2 with e | e <;> rw [e] <;> rfl
    ·rcases e2 with e | e <;> rw [e] <;> rfl
    ·rcases e2 with e | e
     ·exact Or.inl (by rw [e])
     ·exact Or.inr (by rw [e]; rfl)
   ·have e : commitR s = (s, 9) := by
     unfold commitR
     rw [if_neg (by rw [c.c.l.dead]; simp), if_neg hd, if_pos (by omega)]
    rw [e]
    exact ⟨s, _, 9, V, su, rfl, c, ⟨rfl, rfl, Or.inl rfl, fun _ => ⟨⟨fun h => absurd h (by decide), fun h => by rcases h with h | h; exact absurd h hd; exact absurd h hl⟩, fun _ => ⟨rfl, rfl⟩⟩, fun h => (by cases h)⟩⟩
 ·rw [doR_3]
  exact ⟨_, _, 0, V, su, rfl, (abort_conL c).1, ⟨rfl, rfl, Or.inl rfl, fun h => (by cases h), fun h => (by cases h)⟩⟩
 ·rw [doR_4]
  obtain ⟨s2, V2, e, c2, e1, e2, e3, e4, e5⟩ := check_conL h c hn
  rw [e]
  exact ⟨s2, _, 0, V2, su, rfl, c2, ⟨by rw [e1]; rfl, by rw [e1]; rfl, Or.inr (by rw [e1]; rfl), fun h => (by cases h), fun _ => ⟨rfl, e2, e3⟩⟩⟩
theorem right_next (h : OkS s K) (he : s.h.e ≤ 1000000) : RightH (nextH s.h) :=
 ⟨h.h.p0, h.h.p1, h.h.l0, h.h.l1, by show (1 : Int) ≤ s.h.e + 1; have := h.h.e0; omega, by show s.h.e + 1 < 2147483648; omega⟩
end
end Go.Proofs.YtcgkbcgpnlogoaaGreatDoor.St

/- The same pages?: the document's, walked. -/
namespace Go.Proofs.YtcgkbcgpnlogoaaGreatDoor.St
open Go.RowKit Go.Shelf Tal Sla Hd Fr Lf Lex Pac
section
variable {A B : Option Addr} {n n2 cp cp2 : Nat} {l l' : List Pg} {w : World}
end
end Go.Proofs.YtcgkbcgpnlogoaaGreatDoor.St

/- Rows of deeds that came in, out of their readings. -/
namespace Go.Proofs.YtcgkbcgpnlogoaaGreatDoor.St
open Go.ChangeShapes Go.WideShapes Go.ChangeAt Go.RowKit Tal Sla
theorem tcellsI : Tryz.prog.cellsOf 3 = 1 := by kernel_rfl
theorem tcellsS : Tryz.prog.cellsOf 9 = 1 := by kernel_rfl
theorem tcellsU : Tryz.prog.cellsOf 44 = 1 := by kernel_rfl
theorem tcellsF : Tryz.prog.cellsOf 46 = 3 := by kernel_rfl
theorem tcellsA : Tryz.prog.cellsOf 48 = 6 := by kernel_rfl
theorem wfU64 {x : Int} (h : (Lit.int .u64 x).wf = true) : 0 ≤ x ∧ x < 18446744073709551616 := by
 simp [Lit.wf, IntKind.min, IntKind.max, IntKind.signed, IntKind.bits] at h
 exact ⟨by omega, by omega⟩
theorem wfI64 {x : Int} (h : (Lit.int .i64 x).wf = true) : -9223372036854775808 ≤ x ∧ x ≤ 9223372036854775807 := by
 simp [Lit.wf, IntKind.min, IntKind.max, IntKind.signed, IntKind.bits] at h
 exact ⟨by omega, by omega⟩
instance instInhabitedAc : Inhabited Ac := ⟨⟨0, 0, ⟨#[]⟩, ⟨0, 0, 0⟩⟩⟩
section
variable {H' : Type} {enc : TypeId × Value → H'} {w : World} {base : Nat} {spare : Nat → Bool} {held : Bool} {W : World} {b2 : Nat} {v : Value} {d : DataW H'} {p : List MemPlace}
set_option maxRecDepth 20000 in
theorem open_fate1 {fuel : Nat} {cs : List Value} {x : DataW H' × List MemPlace} (h : DataW.trod enc Tryz.prog w base spare held fuel 46 cs = some x) :
  ∃ f : Fat, (0 ≤ f.stay ∧ f.stay < 18446744073709551616) ∧ cs = [.int .u64 f.stay, .int .i64 f.torn, .int .i64 f.bytes] := by
 obtain ⟨xs, n, _, _, hlen, hxl, hf⟩ := DataW.trod_struct Tryz.underlying46 h
 rw [tcellsF] at hlen
 match cs, hlen with
 | [c0, c1, c2], _ =>
  match xs, hxl with
  | [y0, y1, y2], _ =>
   have g0 : DataW.trod enc Tryz.prog w base spare held n 44 [c0] = some y0 := by have := hf 0 _ rfl; simpa [tcellsU] using this
   have g1 : DataW.trod enc Tryz.prog w base spare held n 3 [c1] = some y1 := by have := hf 1 _ rfl; simpa [tcellsU, tcellsI] using this
   have g2 : DataW.trod enc Tryz.prog w base spare held n 3 [c2] = some y2 := by have := hf 2 _ rfl; simpa [tcellsU, tcellsI] using this
   obtain ⟨k0, e0, _, w0⟩ := DataW.trod_int Tryz.underlying44 g0
   obtain ⟨k1, e1, _, _⟩ := DataW.trod_int Tryz.underlying3 g1
   obtain ⟨k2, e2, _, _⟩ := DataW.trod_int Tryz.underlying3 g2
   simp only [List.cons.injEq, and_true] at e0 e1 e2
   subst e0 e1 e2
   exact ⟨⟨k0, k1, k2⟩, wfU64 w0, rfl⟩
set_option maxRecDepth 20000 in
theorem open_act1 {fuel : Nat} {cs : List Value} {x : DataW H' × List MemPlace} (h : DataW.trod enc Tryz.prog w base spare held fuel 48 cs = some x) :
  ∃ a : Ac, OkA a ∧ cs = cellsA a := by
 obtain ⟨xs, n, _, _, hlen, hxl, hf⟩ := DataW.trod_struct Tryz.underlying48 h
 rw [tcellsA] at hlen
 match cs, hlen with
 | [c0, c1, c2, c3, c4, c5], _ =>
  match xs, hxl with
  | [y0, y1, y2, y3], _ =>
   have g0 : DataW.trod enc Tryz.prog w base spare held n 3 [c0] = some y0 := by have := hf 0 _ rfl; simpa [tcellsI] using this
   have g1 : DataW.trod enc Tryz.prog w base spare held n 3 [c1] = some y1 := by have := hf 1 _ rfl; simpa [tcellsI] using this
   have g2 : DataW.trod enc Tryz.prog w base spare held n 9 [c2] = some y2 := by have := hf 2 _ rfl; simpa [tcellsI, tcellsS] using this
   have g3 : DataW.trod enc Tryz.prog w base spare held n 46 [c3, c4, c5] = some y3 := by have := hf 3 _ rfl; simpa [tcellsI, tcellsS, tcellsF] using this
   obtain ⟨k, e0, _, _⟩ := DataW.trod_int Tryz.underlying3 g0
   obtain ⟨a, e1, _, w1⟩ := DataW.trod_int Tryz.underlying3 g1
   obtain ⟨s, e2, _, hs⟩ := DataW.trod_string Tryz.underlying9 g2
   obtain ⟨f, hfs, e3⟩ := open_fate1 g3
   simp only [List.cons.injEq, and_true] at e0 e1 e2 e3
   obtain ⟨rfl, rfl, rfl⟩ := e3
   subst e0 e1 e2
   unfold maxLen at hs
   exact ⟨⟨k, a, s, f⟩, ⟨hs, (wfI64 w1).2, hfs.1, hfs.2⟩, rfl⟩
set_option maxRecDepth 20000 in
theorem open_acts (hv : Value.okWide Tryz.prog W .any b2 22 v) (h : DataW.Trod enc Tryz.prog w base spare held 22 v d p) :
  ∃ (D : Option Addr) (n cp : Nat) (l : List Ac), v = .slice D n cp ∧ l.length = n ∧ n ≤ 9223372036854775807 ∧ (∀ a ∈ l, OkA a) ∧ HasA w 0 D l := by
 obtain ⟨fuel, hf⟩ := h
 obtain ⟨A0, cp, l, e, h1, h2, h3, h4⟩ := Li.open_list (R := cellsA) (Ok := OkA) Tryz.underlying22 tcellsA (by decide) cellsA_len (fun _ _ _ h => open_act1 h) hf
 obtain ⟨a0, len, cap, rfl⟩ := okWide_slice Tryz.underlying22 hv
 simp only [Value.cells, List.cons.injEq, Value.slice.injEq, and_true] at e
 obtain ⟨rfl, rfl, rfl⟩ := e
 exact ⟨_, _, _, l, rfl, rfl, h2, (fun a ha => by
  obtain ⟨j, hj⟩ := List.mem_iff_getElem?.1 ha
  exact h3 j a hj), h4⟩
end
end Go.Proofs.YtcgkbcgpnlogoaaGreatDoor.St
