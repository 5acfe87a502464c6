/- Texts ClA, ClB, ClC, Ops, PacA, PacB, PacC, PacD, PacE, PacF, PacG, PacH, LiA, LiB, LiC, ClD, ClE, PacW, LeB, ClF, ClG, ClH, one behind the other. -/
import Derived.Test.YtcgkbcgpnlogoaaGreatDoorProg
import Derived.Laws.BitsAllLaws
import Derived.WalkKit
import Derived.WalkSpells
import Derived.WalkLawsBesides
import Derived.Lib.Hide
import Derived.IntWalk
import Derived.Deep.DeepCutAuto
import Derived.Deep.DeepFit
import Derived.Deep.CutBlock
import Derived.Deep.QuietTactic
import Derived.BigQuiet
import Derived.Outline
import Derived.WalkSmall
import Derived.Laws.BytesArg
import Derived.OwnWalk
import Derived.Deep.RegionWith
import Derived.Deep.RegionHeld3
import Derived.Lib.Strings
import Derived.Deep.MidRow
import Derived.Deep.AppendLies
import Derived.Deep.Slices
import Derived.Deep.Fields
import Derived.Laws.OwnMore
import Derived.OneCell
import Derived.Maps.AppendAt
import Derived.OrdersHeld
import Derived.Deep.CutRange
/- Pages at hand, plainly: found, put, held; the hand's walk round about. No program. -/
namespace Go.Proofs.YtcgkbcgpnlogoaaGreatDoor.Cl

/-- A page at hand. -/
structure P where
 no : Int
 data : ByteArray
 ref : Bool
 pins : Int
structure C where
 l : List P
 h : Nat
def findL : List P → Int → Option Nat
 | [], _ => none
 | p :: l, n => if p.no = n then some 0 else (findL l n).map (· + 1)
def resI : Option Nat → Int
 | some i => i
 | none => -1
def touch (p : P) : P := { p with ref := true }
def over (n : Int) (d : ByteArray) (p : P) : P := { p with no := n, data := d, ref := true }
def hold (more : Bool) (p : P) : P := { p with pins := if more then p.pins + 1 else max 0 (p.pins - 1) }
def getC (c : C) (n : Int) : C × ByteArray × Bool :=
 match findL c.l n with
 | none => (⟨[], 0⟩, ⟨#[]⟩, false)
 | some i => (⟨c.l.modify i touch, c.h⟩, ((c.l[i]?).map P.data).getD ⟨#[]⟩, true)
/-- The document's: the clock as it is beside false. -/
def getD (c : C) (n : Int) : C × ByteArray × Bool :=
 match findL c.l n with
 | none => (c, ⟨#[]⟩, false)
 | some i => (⟨c.l.modify i touch, c.h⟩, ((c.l[i]?).map P.data).getD ⟨#[]⟩, true)
def pinC (c : C) (n : Int) (more : Bool) : C × Bool :=
 match findL c.l n with
 | none => (⟨[], 0⟩, false)
 | some i => (⟨c.l.modify i (hold more), c.h⟩, true)
def spinL (x : P) : Nat → List P → Nat → List P × Nat
 | 0, l, h => (l, h)
 | n + 1, l, h =>
  match l[h]? with
  | none => (l, h)
  | some p => if 0 < p.pins then spinL x n l ((h + 1) % l.length) else if p.ref = true then spinL x n (l.set h { p with ref := false }) ((h + 1) % l.length) else (l.set h x, (h + 1) % l.length)
def newP (n : Int) (d : ByteArray) : P := ⟨n, d, true, 0⟩
def putC (c : C) (n : Int) (d : ByteArray) : C :=
 match findL c.l n with
 | some i => ⟨c.l.modify i (over n d), c.h⟩
 | none => if c.l.length < 8 then ⟨c.l ++ [newP n d], c.h⟩ else ⟨(spinL (newP n d) (2 * c.l.length) c.l c.h).1, (spinL (newP n d) (2 * c.l.length) c.l c.h).2⟩
def sumP (l : List P) : Int := (l.map P.pins).sum
section
variable {l : List P} {n : Int} {i : Nat}
theorem find_none : findL l n = none ↔ ∀ p ∈ l, p.no ≠ n := by
 induction l with
 | nil => simp [findL]
 | cons p l ih =>
  unfold findL
  by_cases h : p.no = n
  ·simp [h]
  ·simp [h, ih]
theorem find_some : findL l n = some i ↔ (∃ p, l[i]? = some p ∧ p.no = n) ∧ ∀ j < i, ∀ q, l[j]? = some q → q.no ≠ n := by
 induction l generalizing i with
 | nil => simp [findL]
 | cons p l ih =>
  unfold findL
  by_cases h : p.no = n
  ·rw [if_pos h]
   constructor
   ·intro e
    injection e with e
    subst e
    exact ⟨⟨p, rfl, h⟩, fun j hj => absurd hj (Nat.not_lt_zero _)⟩
   ·rintro ⟨_, h2⟩
    cases i with
    | zero => rfl
    | succ i => exact absurd h (h2 0 (Nat.succ_pos _) p rfl)
  ·rw [if_neg h]
   cases i with
   | zero =>
    simp only [Option.map_eq_some_iff]
    constructor
    ·rintro ⟨a, _, e⟩; omega
    ·rintro ⟨⟨q, hq, e⟩, _⟩
     simp at hq
     subst hq
     exact absurd e h
   | succ i =>
    simp only [Option.map_eq_some_iff]
    constructor
    ·rintro ⟨a, ha, e⟩
     have : a = i := by omega
     subst this
     obtain ⟨h1, h2⟩ := ih.1 ha
     refine ⟨by simpa using h1, fun j hj q hq => ?_⟩
     cases j with
     | zero => simp at hq; subst hq; exact h
     | succ j => exact h2 j (by omega) q (by simpa using hq)
    ·rintro ⟨h1, h2⟩
     exact ⟨i, ih.2 ⟨by simpa using h1, fun j hj q hq => h2 (j + 1) (by omega) q (by simpa using hq)⟩, rfl⟩
theorem find_lt (h : findL l n = some i) : i < l.length := by
 obtain ⟨⟨p, hp, _⟩, _⟩ := find_some.1 h
 exact (List.getElem?_eq_some_iff.1 hp).1
end
/-- Numbers that are unlike. -/
def Nd (l : List P) : Prop := ∀ (i j : Nat) (p q : P), l[i]? = some p → l[j]? = some q → p.no = q.no → i = j
/-- As before, but that some were asked for no more. -/
def Clr (l l' : List P) : Prop := l'.length = l.length ∧ ∀ (i : Nat) (p : P), l[i]? = some p → ∃ r, l'[i]? = some { p with ref := r } ∧ (r = true → p.ref = true)
section
variable {l l' l2 : List P} {x : P}
theorem Clr.refl (l : List P) : Clr l l := ⟨rfl, fun i p h => ⟨p.ref, h, id⟩⟩
theorem Clr.trans (h : Clr l l') (k : Clr l' l2) : Clr l l2 := ⟨k.1.trans h.1, fun i p hp => by
 obtain ⟨r, h1, h2⟩ := h.2 i p hp
 obtain ⟨r', h3, h4⟩ := k.2 i _ h1
 exact ⟨r', h3, fun e => h2 (h4 e)⟩⟩
theorem Clr.one {i : Nat} {p : P} (h : l[i]? = some p) : Clr l (l.set i { p with ref := false }) := ⟨List.length_set, fun j q hq => by
 have hlt := (List.getElem?_eq_some_iff.1 h).1
 by_cases e : i = j
 ·subst e
  rw [h] at hq
  injection hq with hq
  subst hq
  exact ⟨false, List.getElem?_set_self hlt, fun e => by cases e⟩
 ·exact ⟨q.ref, by rw [List.getElem?_set_ne e]; exact hq, id⟩⟩
theorem Clr.back (h : Clr l l') {i : Nat} {p : P} (hp : l'[i]? = some p) : ∃ q, l[i]? = some q ∧ p = { q with ref := p.ref } ∧ (p.ref = true → q.ref = true) := by
 have hlt := (List.getElem?_eq_some_iff.1 hp).1
 rw [h.1] at hlt
 obtain ⟨r, h1, h2⟩ := h.2 i _ (List.getElem?_eq_getElem hlt)
 rw [hp] at h1
 injection h1 with h1
 exact ⟨_, List.getElem?_eq_getElem hlt, by rw [h1], by rw [h1]; exact h2⟩
/-- What the walk leaves. -/
theorem spin_spec : ∀ (n : Nat) (l : List P) (h : Nat), h < l.length → ∃ l2, Clr l l2 ∧ ((spinL x n l h).1 = l2 ∨ ∃ k p, l2[k]? = some p ∧ ¬ 0 < p.pins ∧ (spinL x n l h).1 = l2.set k x) ∧ (spinL x n l h).2 < l.length
 | 0, l, h, hh => ⟨l, Clr.refl l, Or.inl rfl, hh⟩
 | n + 1, l, h, hh => by
  have hg : l[h]? = some l[h] := List.getElem?_eq_getElem hh
  generalize l[h] = p at hg
  have hm : (h + 1) % l.length < l.length := Nat.mod_lt _ (by omega)
  unfold spinL
  rw [hg]
  simp only
  by_cases h1 : 0 < p.pins
  ·rw [if_pos h1]
   exact spin_spec n l _ hm
  ·rw [if_neg h1]
   by_cases h2 : p.ref = true
   ·rw [if_pos h2]
    obtain ⟨l2, h3, h4, h5⟩ := spin_spec n (l.set h { p with ref := false }) ((h + 1) % l.length) (by rw [List.length_set]; exact hm)
    rw [List.length_set] at h5
    exact ⟨l2, (Clr.one hg).trans h3, h4, h5⟩
   ·rw [if_neg h2]
    exact ⟨l, Clr.refl l, Or.inr ⟨h, p, hg, h1, rfl⟩, hm⟩
theorem mod_step {h d N : Nat} (hN : h < N) (hd : 0 < d) (hd2 : d < N) : ((h + 1) % N + (d - 1)) % N = (h + d) % N ∧ (h + d) % N ≠ h := by
 constructor
 ·rw [Nat.mod_add_mod]
  congr 1
  omega
 ·by_cases h1 : h + d < N
  ·rw [Nat.mod_eq_of_lt h1]; omega
  ·rw [Nat.mod_eq_sub_mod (by omega), Nat.mod_eq_of_lt (by omega)]; omega
/-- One that nobody holds, and that wasn't asked for: it goes, or one like it ahead of it. -/
theorem spin_near : ∀ (d n : Nat) (l : List P) (h : Nat) (p : P), h < l.length → d < l.length → d < n → l[(h + d) % l.length]? = some p → ¬ 0 < p.pins → p.ref = false →
  ∃ e k q l2, e ≤ d ∧ k = (h + e) % l.length ∧ Clr l l2 ∧ l[k]? = some q ∧ ¬ 0 < q.pins ∧ q.ref = false ∧ (spinL x n l h).1 = l2.set k x
 | d, 0, _, _, _, _, _, hn, _, _, _ => absurd hn (Nat.not_lt_zero _)
 | d, n + 1, l, h, p, hh, hd, hn, hp, h1, h2 => by
  have hg : l[h]? = some l[h] := List.getElem?_eq_getElem hh
  generalize l[h] = p0 at hg
  have hm : (h + 1) % l.length < l.length := Nat.mod_lt _ (by omega)
  unfold spinL
  rw [hg]
  simp only
  by_cases hgo : 0 < p0.pins ∨ p0.ref = true
  ·have hd0 : 0 < d := by
    rcases Nat.eq_zero_or_pos d with e | e
    ·subst e
     rw [Nat.add_zero, Nat.mod_eq_of_lt hh, hg] at hp
     injection hp with hp
     subst hp
     rcases hgo with hgo | hgo
     ·exact absurd hgo h1
     ·rw [h2] at hgo; cases hgo
    ·exact e
   obtain ⟨m1, m2⟩ := mod_step hh hd0 hd
   by_cases h3 : 0 < p0.pins
   ·rw [if_pos h3]
    obtain ⟨e, k, q, l2, a1, a2, a3, a4, a5, a6, a7⟩ := spin_near (d - 1) n l ((h + 1) % l.length) p hm (by omega) (by omega) (by rw [m1]; exact hp) h1 h2
    exact ⟨e + 1, k, q, l2, by omega, by rw [a2, Nat.mod_add_mod, show h + 1 + e = h + (e + 1) by omega], a3, a4, a5, a6, a7⟩
   ·rw [if_neg h3, if_pos (hgo.resolve_left h3)]
    have hlen : (l.set h { p0 with ref := false }).length = l.length := List.length_set
    obtain ⟨e, k, q, l2, a1, a2, a3, a4, a5, a6, a7⟩ := spin_near (d - 1) n (l.set h { p0 with ref := false }) ((h + 1) % l.length) p (by rw [hlen]; exact hm) (by rw [hlen]; omega) (by omega) (by rw [hlen, m1, List.getElem?_set_ne (Ne.symm m2)]; exact hp) h1 h2
    rw [hlen] at a2
    have a2' : k = (h + (e + 1)) % l.length := by rw [a2, Nat.mod_add_mod, show h + 1 + e = h + (e + 1) by omega]
    have hk : h ≠ k := by
     rw [a2']
     exact Ne.symm (mod_step hh (Nat.succ_pos e) (by omega)).2
    rw [List.getElem?_set_ne hk] at a4
    exact ⟨e + 1, k, q, l2, by omega, a2', (Clr.one hg).trans a3, a4, a5, a6, a7⟩
  ·have h3 : ¬ 0 < p0.pins := fun e => hgo (Or.inl e)
   have h4 : ¬ p0.ref = true := fun e => hgo (Or.inr e)
   rw [if_neg h3, if_neg h4]
   exact ⟨0, h, p0, l, Nat.zero_le _, by rw [Nat.add_zero, Nat.mod_eq_of_lt hh], Clr.refl l, hg, h3, by simpa using h4, rfl⟩
/-- One that nobody holds: it goes, or another one. -/
theorem spin_far : ∀ (d n : Nat) (l : List P) (h : Nat) (p : P), h < l.length → d < l.length → d + 1 + l.length ≤ n → l[(h + d) % l.length]? = some p → ¬ 0 < p.pins →
  ∃ k q l2, Clr l l2 ∧ l[k]? = some q ∧ ¬ 0 < q.pins ∧ (spinL x n l h).1 = l2.set k x
 | d, 0, _, _, _, _, _, hn, _, _ => absurd hn (by omega)
 | d, n + 1, l, h, p, hh, hd, hn, hp, h1 => by
  have hg : l[h]? = some l[h] := List.getElem?_eq_getElem hh
  generalize l[h] = p0 at hg
  have hm : (h + 1) % l.length < l.length := Nat.mod_lt _ (by omega)
  by_cases hgo : 0 < p0.pins ∨ p0.ref = true
  ·by_cases hd0 : d = 0
   ·subst hd0
    rw [Nat.add_zero, Nat.mod_eq_of_lt hh, hg] at hp
    injection hp with hp
    subst hp
    have h5 := hgo.resolve_left h1
    unfold spinL
    rw [hg]
    simp only
    rw [if_neg h1, if_pos h5]
    have hlen : (l.set h { p0 with ref := false }).length = l.length := List.length_set
    have hback : ((h + 1) % l.length + (l.length - 1)) % l.length = h := by
     rw [Nat.mod_add_mod, show h + 1 + (l.length - 1) = h + l.length by omega, Nat.add_mod_right, Nat.mod_eq_of_lt hh]
    obtain ⟨e, k, q, l2, _, _, a3, a4, a5, _, a7⟩ := spin_near (x := x) (l.length - 1) n (l.set h { p0 with ref := false }) ((h + 1) % l.length) { p0 with ref := false } (by rw [hlen]; exact hm) (by rw [hlen]; omega) (by omega) (by rw [hlen, hback, List.getElem?_set_self hh]) h1 rfl
    obtain ⟨q', b1, b2, _⟩ := (Clr.one hg).back a4
    exact ⟨k, q', l2, (Clr.one hg).trans a3, b1, by rw [b2] at a5; exact a5, a7⟩
   ·obtain ⟨m1, m2⟩ := mod_step hh (by omega) hd
    unfold spinL
    rw [hg]
    simp only
    by_cases h3 : 0 < p0.pins
    ·rw [if_pos h3]
     exact spin_far (d - 1) n l ((h + 1) % l.length) p hm (by omega) (by omega) (by rw [m1]; exact hp) h1
    ·rw [if_neg h3, if_pos (hgo.resolve_left h3)]
     have hlen : (l.set h { p0 with ref := false }).length = l.length := List.length_set
     obtain ⟨k, q, l2, a3, a4, a5, a7⟩ := spin_far (d - 1) n (l.set h { p0 with ref := false }) ((h + 1) % l.length) p (by rw [hlen]; exact hm) (by rw [hlen]; omega) (by rw [hlen]; omega) (by rw [hlen, m1, List.getElem?_set_ne (Ne.symm m2)]; exact hp) h1
     obtain ⟨q', b1, b2, _⟩ := (Clr.one hg).back a4
     exact ⟨k, q', l2, (Clr.one hg).trans a3, b1, by rw [b2] at a5; exact a5, a7⟩
  ·have h3 : ¬ 0 < p0.pins := fun e => hgo (Or.inl e)
   have h4 : ¬ p0.ref = true := fun e => hgo (Or.inr e)
   unfold spinL
   rw [hg]
   simp only
   rw [if_neg h3, if_neg h4]
   exact ⟨h, p0, l, Clr.refl l, hg, h3, rfl⟩
/-- Each place is some way ahead of the hand. -/
theorem ahead {N h k : Nat} (hh : h < N) (hk : k < N) : ∃ d < N, (h + d) % N = k := by
 by_cases e : h ≤ k
 ·exact ⟨k - h, by omega, by rw [show h + (k - h) = k by omega, Nat.mod_eq_of_lt hk]⟩
 ·exact ⟨k + N - h, by omega, by rw [show h + (k + N - h) = k + N by omega, Nat.add_mod_right, Nat.mod_eq_of_lt hk]⟩
end
end Go.Proofs.YtcgkbcgpnlogoaaGreatDoor.Cl

/- Pages at hand, plainly: what holds behind any deeds. No program. -/
namespace Go.Proofs.YtcgkbcgpnlogoaaGreatDoor.Cl

structure A where
 kind : Int
 no : Int
 data : ByteArray
structure FineA (a : A) : Prop where
 d : a.data.size ≤ 300
 n0 : -9223372036854775808 ≤ a.no
 n1 : a.no ≤ 9223372036854775807
def doesC (c : C) (a : A) : C × ByteArray × Bool :=
 if a.kind = 0 then (putC c a.no a.data, ⟨#[]⟩, false)
 else if a.kind = 1 then getC c a.no
 else if a.kind = 2 then ((pinC c a.no true).1, ⟨#[]⟩, (pinC c a.no true).2)
 else if a.kind = 3 then ((pinC c a.no false).1, ⟨#[]⟩, (pinC c a.no false).2)
 else (c, ⟨#[]⟩, false)
structure FineP (m : Nat) (p : P) : Prop where
 p0 : 0 ≤ p.pins
 p1 : p.pins ≤ m
 d : p.data.size ≤ 300
 n0 : -9223372036854775808 ≤ p.no
 n1 : p.no ≤ 9223372036854775807
structure Ok (m : Nat) (c : C) : Prop where
 nd : Nd c.l
 len : c.l.length ≤ 8
 fine : ∀ p ∈ c.l, FineP m p
 hand : c.h = 0 ∨ c.h < c.l.length
theorem FineP.mono {m k : Nat} {p : P} (h : FineP m p) (hk : m ≤ k) : FineP k p := ⟨h.p0, by have := h.p1; omega, h.d, h.n0, h.n1⟩
theorem Ok.mono {m k : Nat} {c : C} (h : Ok m c) (hk : m ≤ k) : Ok k c := ⟨h.nd, h.len, fun p hp => (h.fine p hp).mono hk, h.hand⟩
theorem ok_none : Ok 0 ⟨[], 0⟩ := ⟨fun i j p q h => (by simp at h), by simp, fun p h => (by cases h), Or.inl rfl⟩
/-- The same numbers, place by place. -/
def SameNo (l l' : List P) : Prop := l'.length = l.length ∧ ∀ (i : Nat) (p : P), l[i]? = some p → ∃ q, l'[i]? = some q ∧ q.no = p.no
section
variable {l l' : List P} {x p : P} {n : Int} {i k m : Nat} {c : C}
theorem SameNo.back (h : SameNo l l') (hp : l'[i]? = some p) : ∃ q, l[i]? = some q ∧ p.no = q.no := by
 have hlt := (List.getElem?_eq_some_iff.1 hp).1
 rw [h.1] at hlt
 obtain ⟨q, h1, h2⟩ := h.2 i _ (List.getElem?_eq_getElem hlt)
 rw [hp] at h1
 injection h1 with h1
 exact ⟨_, List.getElem?_eq_getElem hlt, by rw [h1]; exact h2⟩
theorem SameNo.nd (h : SameNo l l') (hn : Nd l) : Nd l' := fun i j p q hp hq e => by
 obtain ⟨p', hp', e1⟩ := h.back hp
 obtain ⟨q', hq', e2⟩ := h.back hq
 exact hn i j p' q' hp' hq' (by rw [← e1, ← e2, e])
theorem SameNo.find (h : SameNo l l') (n : Int) : findL l' n = findL l n := by
 cases hf : findL l n with
 | none =>
  refine find_none.2 fun p hp => ?_
  obtain ⟨i, hi⟩ := List.mem_iff_getElem?.1 hp
  obtain ⟨q, hq, e⟩ := h.back hi
  rw [e]
  exact find_none.1 hf q (List.mem_of_getElem? hq)
 | some i =>
  obtain ⟨⟨p, hp, e⟩, h2⟩ := find_some.1 hf
  obtain ⟨q, hq, e2⟩ := h.2 i p hp
  refine find_some.2 ⟨⟨q, hq, e2.trans e⟩, fun j hj r hr => ?_⟩
  obtain ⟨r', hr', e3⟩ := h.back hr
  rw [e3]
  exact h2 j hj r' hr'
theorem Clr.same (h : Clr l l') : SameNo l l' := ⟨h.1, fun i p hp => by
 obtain ⟨r, h1, _⟩ := h.2 i p hp
 exact ⟨_, h1, rfl⟩⟩
theorem modify_same {f : P → P} (hp : l[i]? = some p) (hf : (f p).no = p.no) : SameNo l (l.modify i f) := ⟨by simp, fun j q hq => by
 rw [List.getElem?_modify]
 by_cases e : i = j
 ·subst e
  rw [hp] at hq
  injection hq with hq
  subst hq
  exact ⟨f p, by simp [hp], hf⟩
 ·exact ⟨q, by simp [e, hq], rfl⟩⟩
theorem mem_modify {f : P → P} {q : P} (hp : l[i]? = some p) (h : q ∈ l.modify i f) : q = f p ∨ q ∈ l := by
 obtain ⟨j, hj⟩ := List.mem_iff_getElem?.1 h
 rw [List.getElem?_modify] at hj
 by_cases e : i = j
 ·subst e
  rw [hp] at hj
  simp at hj
  exact Or.inl hj.symm
 ·simp [e] at hj
  exact Or.inr (List.mem_of_getElem? hj)
theorem modify_at {f : P → P} {j : Nat} {q : P} (h : (l.modify i f)[j]? = some q) : (i = j ∧ ∃ p, l[i]? = some p ∧ q = f p) ∨ (i ≠ j ∧ l[j]? = some q) := by
 rw [List.getElem?_modify] at h
 by_cases e : i = j
 ·subst e
  simp at h
  obtain ⟨p, h1, h2⟩ := h
  exact Or.inl ⟨rfl, p, h1, h2.symm⟩
 ·simp [e] at h
  exact Or.inr ⟨e, h⟩
theorem nd_snoc (h : Nd l) (hn : ∀ p ∈ l, p.no ≠ x.no) : Nd (l ++ [x]) := fun i j p q hp hq e => by
 have hi := (List.getElem?_eq_some_iff.1 hp).1
 have hj := (List.getElem?_eq_some_iff.1 hq).1
 rw [List.length_append, List.length_singleton] at hi hj
 by_cases h1 : i < l.length
 ·rw [List.getElem?_append_left h1] at hp
  by_cases h2 : j < l.length
  ·rw [List.getElem?_append_left h2] at hq
   exact h i j p q hp hq e
  ·obtain rfl : j = l.length := by omega
   simp at hq
   subst hq
   exact absurd e (hn p (List.mem_of_getElem? hp))
 ·obtain rfl : i = l.length := by omega
  simp at hp
  subst hp
  by_cases h2 : j < l.length
  ·rw [List.getElem?_append_left h2] at hq
   exact absurd e.symm (hn q (List.mem_of_getElem? hq))
  ·omega
theorem nd_set (h : Nd l) (hn : ∀ p ∈ l, p.no ≠ x.no) : Nd (l.set k x) := fun i j p q hp hq e => by
 have hi := (List.getElem?_eq_some_iff.1 hp).1
 have hj := (List.getElem?_eq_some_iff.1 hq).1
 rw [List.length_set] at hi hj
 by_cases h1 : k = i
 ·subst h1
  rw [List.getElem?_set_self hi] at hp
  injection hp with hp
  subst hp
  by_cases h2 : k = j
  ·exact h2
  ·rw [List.getElem?_set_ne h2] at hq
   exact absurd e.symm (hn q (List.mem_of_getElem? hq))
 ·rw [List.getElem?_set_ne h1] at hp
  by_cases h2 : k = j
  ·subst h2
   rw [List.getElem?_set_self hj] at hq
   injection hq with hq
   subst hq
   exact absurd e (hn p (List.mem_of_getElem? hp))
  ·rw [List.getElem?_set_ne h2] at hq
   exact h i j p q hp hq e
/-- What a page that is put finds: its own place, a new one, one that goes, or none. -/
inductive PutCase (c : C) (n : Int) (d : ByteArray) : Prop where
 | own (i : Nat) (p : P) (hf : findL c.l n = some i) (hp : c.l[i]? = some p) (e : putC c n d = ⟨c.l.modify i (over n d), c.h⟩)
 | more (hf : findL c.l n = none) (hl : c.l.length < 8) (e : putC c n d = ⟨c.l ++ [newP n d], c.h⟩)
 | goes (hf : findL c.l n = none) (hl : ¬ c.l.length < 8) (l2 : List P) (k : Nat) (p : P) (hc : Clr c.l l2) (hp : c.l[k]? = some p) (h0 : ¬ 0 < p.pins) (h' : Nat) (hh : h' < c.l.length) (e : putC c n d = ⟨l2.set k (newP n d), h'⟩)
 | stays (hf : findL c.l n = none) (hl : ¬ c.l.length < 8) (l2 : List P) (hc : Clr c.l l2) (hall : ∀ p ∈ c.l, 0 < p.pins) (h' : Nat) (hh : h' < c.l.length) (e : putC c n d = ⟨l2, h'⟩)
theorem put_case (h : Ok m c) (n : Int) (d : ByteArray) : PutCase c n d := by
 cases hf : findL c.l n with
 | some i =>
  have hi := find_lt hf
  exact .own i _ hf (List.getElem?_eq_getElem hi) (by unfold putC; rw [hf])
 | none =>
  by_cases hl : c.l.length < 8
  ·exact .more hf hl (by unfold putC; rw [hf]; simp only; rw [if_pos hl])
  ·have hh : c.h < c.l.length := by rcases h.hand with e | e <;> omega
   have he : putC c n d = ⟨(spinL (newP n d) (2 * c.l.length) c.l c.h).1, (spinL (newP n d) (2 * c.l.length) c.l c.h).2⟩ := by unfold putC; rw [hf]; simp only; rw [if_neg hl]
   obtain ⟨l2, s1, s2, s3⟩ := spin_spec (x := newP n d) (2 * c.l.length) c.l c.h hh
   by_cases hall : ∀ p ∈ c.l, 0 < p.pins
   ·rcases s2 with s2 | ⟨k, p, b1, b2, _⟩
    ·exact .stays hf hl l2 s1 hall _ s3 (by rw [he, s2])
    ·obtain ⟨q, q1, q2, _⟩ := s1.back b1
     rw [q2] at b2
     exact absurd (hall q (List.mem_of_getElem? q1)) b2
   ·obtain ⟨p, hp⟩ := Classical.not_forall.1 hall
    obtain ⟨hp, h0⟩ := Classical.not_imp.1 hp
    obtain ⟨k, hk⟩ := List.mem_iff_getElem?.1 hp
    obtain ⟨e, he1, he2⟩ := ahead hh (List.getElem?_eq_some_iff.1 hk).1
    obtain ⟨k2, q, l3, a1, a2, a3, a4⟩ := spin_far (x := newP n d) e (2 * c.l.length) c.l c.h p hh he1 (by omega) (by rw [he2]; exact hk) h0
    exact .goes hf hl l3 k2 q a1 a2 a3 _ s3 (by rw [he, a4])
theorem Clr.fine (h : Clr l l') (hf : ∀ p ∈ l, FineP m p) : ∀ p ∈ l', FineP m p := fun p hp => by
 obtain ⟨i, hi⟩ := List.mem_iff_getElem?.1 hp
 obtain ⟨q, q1, q2, _⟩ := h.back hi
 have h3 := hf q (List.mem_of_getElem? q1)
 rw [q2]
 exact ⟨h3.p0, h3.p1, h3.d, h3.n0, h3.n1⟩
theorem newP_fine {d : ByteArray} (hd : d.size ≤ 300) (h0 : -9223372036854775808 ≤ n) (h1 : n ≤ 9223372036854775807) : FineP m (newP n d) := ⟨by show (0 : Int) ≤ 0; omega, by show (0 : Int) ≤ (m : Int); omega, hd, h0, h1⟩
theorem Clr.ne (h : Clr l l') (hn : ∀ p ∈ l, p.no ≠ n) : ∀ p ∈ l', p.no ≠ n := fun p hp => by
 obtain ⟨i, hi⟩ := List.mem_iff_getElem?.1 hp
 obtain ⟨q, q1, q2, _⟩ := h.back hi
 rw [q2]
 exact hn q (List.mem_of_getElem? q1)
theorem Ok.put (h : Ok m c) {d : ByteArray} (hd : d.size ≤ 300) (h0 : -9223372036854775808 ≤ n) (h1 : n ≤ 9223372036854775807) : Ok m (putC c n d) := by
 have hnew : FineP m (newP n d) := newP_fine hd h0 h1
 cases put_case h n d with
 | own i p hf hp e =>
  rw [e]
  obtain ⟨⟨p', hp', hn⟩, _⟩ := find_some.1 hf
  rw [hp] at hp'
  injection hp' with hp'
  subst hp'
  have hs := modify_same (f := over n d) hp hn.symm
  refine ⟨hs.nd h.nd, by rw [hs.1]; exact h.len, fun q hq => ?_, by rw [hs.1]; exact h.hand⟩
  rcases mem_modify hp hq with rfl | hq
  ·have hfp := h.fine p (List.mem_of_getElem? hp)
   exact ⟨hfp.p0, hfp.p1, hd, h0, h1⟩
  ·exact h.fine q hq
 | more hf hl e =>
  rw [e]
  refine ⟨nd_snoc h.nd (find_none.1 hf), by simp; omega, fun q hq => ?_, ?_⟩
  ·rcases List.mem_append.1 hq with hq | hq
   ·exact h.fine q hq
   ·obtain rfl := List.mem_singleton.1 hq
    exact hnew
  ·rcases h.hand with e | e
   ·exact Or.inl e
   ·exact Or.inr (by simp; omega)
 | goes hf hl l2 k p hc hp hp0 h' hh e =>
  rw [e]
  refine ⟨nd_set (hc.same.nd h.nd) (hc.ne (find_none.1 hf)), by rw [List.length_set, hc.1]; exact h.len, fun q hq => ?_, Or.inr (by rw [List.length_set, hc.1]; exact hh)⟩
  rcases List.mem_or_eq_of_mem_set hq with hq | rfl
  ·exact hc.fine h.fine q hq
  ·exact hnew
 | stays hf hl l2 hc hall h' hh e =>
  rw [e]
  exact ⟨hc.same.nd h.nd, by rw [hc.1]; exact h.len, hc.fine h.fine, Or.inr (by rw [hc.1]; exact hh)⟩
theorem Ok.get (h : Ok m c) (n : Int) : Ok m (getC c n).1 := by
 unfold getC
 cases hf : findL c.l n with
 | none => exact ok_none.mono (Nat.zero_le _)
 | some i =>
  have hp := List.getElem?_eq_getElem (find_lt hf)
  generalize c.l[i]'(find_lt hf) = p at hp
  have hs := modify_same (f := touch) hp rfl
  refine ⟨hs.nd h.nd, by show (c.l.modify i touch).length ≤ 8; rw [hs.1]; exact h.len, fun q hq => ?_, by show c.h = 0 ∨ c.h < (c.l.modify i touch).length; rw [hs.1]; exact h.hand⟩
  rcases mem_modify hp hq with rfl | hq
  ·have hfp := h.fine p (List.mem_of_getElem? hp)
   exact ⟨hfp.p0, hfp.p1, hfp.d, hfp.n0, hfp.n1⟩
  ·exact h.fine q hq
theorem Ok.pins (h : Ok m c) (n : Int) (more : Bool) : Ok (m + 1) (pinC c n more).1 := by
 unfold pinC
 cases hf : findL c.l n with
 | none => exact ok_none.mono (Nat.zero_le _)
 | some i =>
  have hp := List.getElem?_eq_getElem (find_lt hf)
  generalize c.l[i]'(find_lt hf) = p at hp
  have hs := modify_same (f := hold more) hp rfl
  refine ⟨hs.nd h.nd, by show (c.l.modify i (hold more)).length ≤ 8; rw [hs.1]; exact h.len, fun q hq => ?_, by show c.h = 0 ∨ c.h < (c.l.modify i (hold more)).length; rw [hs.1]; exact h.hand⟩
  rcases mem_modify hp hq with rfl | hq
  ·have hfp := h.fine p (List.mem_of_getElem? hp)
   have a := hfp.p0
   have b := hfp.p1
   refine ⟨?_, ?_, hfp.d, hfp.n0, hfp.n1⟩
   ·show (0 : Int) ≤ if more then p.pins + 1 else max 0 (p.pins - 1)
    split <;> omega
   ·show (if more then p.pins + 1 else max 0 (p.pins - 1)) ≤ ((m + 1 : Nat) : Int)
    split <;> omega
  ·exact (h.fine q hq).mono (by omega)
theorem Ok.does (h : Ok m c) {a : A} (ha : FineA a) : Ok (m + 1) (doesC c a).1 := by
 unfold doesC
 split
 ·exact (h.put ha.d ha.n0 ha.n1).mono (by omega)
 ·split
  ·exact (h.get a.no).mono (by omega)
  ·split
   ·exact h.pins a.no true
   ·split
    ·exact h.pins a.no false
    ·exact h.mono (by omega)
end
end Go.Proofs.YtcgkbcgpnlogoaaGreatDoor.Cl

/- Pages at hand, plainly: what is held stays, what is put is there, how many hold. No program. -/
namespace Go.Proofs.YtcgkbcgpnlogoaaGreatDoor.Cl

def lastD (ds : List A) (n : Int) : ByteArray := ds.foldl (fun s a => if a.kind = 0 ∧ a.no = n then a.data else s) ⟨#[]⟩
theorem last_snoc (ds : List A) (a : A) (n : Int) : lastD (ds ++ [a]) n = if a.kind = 0 ∧ a.no = n then a.data else lastD ds n := by unfold lastD; rw [List.foldl_append]; rfl
def Dat (ds : List A) (c : C) : Prop := ∀ p ∈ c.l, p.data = lastD ds p.no
section
variable {m : Nat} {c : C} {n : Int} {d : ByteArray}
theorem find_ne {l : List P} {n : Int} (h : ∃ p ∈ l, p.no = n) : findL l n ≠ none := fun e => by
 obtain ⟨p, hp, hn⟩ := h
 exact find_none.1 e p hp hn
theorem own_same {i : Nat} {p : P} (hf : findL c.l n = some i) (hp : c.l[i]? = some p) : SameNo c.l (c.l.modify i (over n d)) := by
 obtain ⟨⟨p', hp', hn⟩, _⟩ := find_some.1 hf
 rw [hp] at hp'
 injection hp' with hp'
 subst hp'
 exact modify_same (f := over n d) hp hn.symm
/-- The same bytes, place by place. -/
def SameDat (l l' : List P) : Prop := ∀ q ∈ l', ∃ p ∈ l, q.no = p.no ∧ q.data = p.data
theorem Clr.dat {l l' : List P} (h : Clr l l') : SameDat l l' := fun q hq => by
 obtain ⟨i, hi⟩ := List.mem_iff_getElem?.1 hq
 obtain ⟨p, h1, h2, _⟩ := h.back hi
 exact ⟨p, List.mem_of_getElem? h1, by rw [h2], by rw [h2]⟩
theorem put_dat (h : Ok m c) {q : P} (hq : q ∈ (putC c n d).l) : (q.no = n ∧ q.data = d) ∨ (q.no ≠ n ∧ ∃ p ∈ c.l, q.no = p.no ∧ q.data = p.data) := by
 cases put_case h n d with
 | own i p hf hp e =>
  rw [e] at hq
  obtain ⟨j, hj⟩ := List.mem_iff_getElem?.1 hq
  rcases modify_at hj with ⟨rfl, p', h1, rfl⟩ | ⟨h1, h2⟩
  ·exact Or.inl ⟨rfl, rfl⟩
  ·refine Or.inr ⟨fun e => h1 ?_, q, List.mem_of_getElem? h2, rfl, rfl⟩
   obtain ⟨⟨p', hp', hn⟩, _⟩ := find_some.1 hf
   exact h.nd i j p' q hp' h2 (hn.trans e.symm)
 | more hf hl e =>
  rw [e] at hq
  rcases List.mem_append.1 hq with hq | hq
  ·exact Or.inr ⟨find_none.1 hf q hq, q, hq, rfl, rfl⟩
  ·obtain rfl := List.mem_singleton.1 hq
   exact Or.inl ⟨rfl, rfl⟩
 | goes hf hl l2 k p hc hp h0 h' hh e =>
  rw [e] at hq
  rcases List.mem_or_eq_of_mem_set hq with hq | rfl
  ·exact Or.inr ⟨hc.ne (find_none.1 hf) q hq, hc.dat q hq⟩
  ·exact Or.inl ⟨rfl, rfl⟩
 | stays hf hl l2 hc hall h' hh e =>
  rw [e] at hq
  exact Or.inr ⟨hc.ne (find_none.1 hf) q hq, hc.dat q hq⟩
theorem Dat.other {ds : List A} {l' : List P} {a : A} (h : Dat ds c) (hs : SameDat c.l l') (ha : a.kind ≠ 0) : ∀ q ∈ l', q.data = lastD (ds ++ [a]) q.no := fun q hq => by
 obtain ⟨p, hp, h1, h2⟩ := hs q hq
 rw [last_snoc, if_neg (fun e => ha e.1), h1, h2]
 exact h p hp
/-- How many are held. -/
def cntH (l : List P) : Nat := (l.filter (fun p => decide (0 < p.pins))).length
theorem cnt_le (l : List P) : cntH l ≤ l.length := List.length_filter_le _ _
theorem cnt_all {l : List P} : cntH l = l.length ↔ ∀ p ∈ l, 0 < p.pins := by
 unfold cntH
 rw [List.length_filter_eq_length_iff]
 simp
theorem room (h : Ok m c) : findL (putC c n d).l n ≠ none ↔ (cntH c.l < 8 ∨ findL c.l n ≠ none) := by
 have h1 := cnt_le c.l
 cases put_case h n d with
 | own i p hf hp e =>
  rw [e]
  show findL (c.l.modify i (over n d)) n ≠ none ↔ _
  rw [(own_same hf hp).find n, hf]
  simp
 | more hf hl e =>
  rw [e]
  exact ⟨fun _ => Or.inl (by omega), fun _ => find_ne ⟨newP n d, List.mem_append.2 (Or.inr (List.mem_singleton.2 rfl)), rfl⟩⟩
 | goes hf hl l2 k p hc hp h0 h' hh e =>
  rw [e]
  have hk := (List.getElem?_eq_some_iff.1 hp).1
  refine ⟨fun _ => Or.inl ?_, fun _ => find_ne ⟨newP n d, List.mem_of_getElem? (i := k) (List.getElem?_set_self (by rw [hc.1]; exact hk)), rfl⟩⟩
  have h2 : cntH c.l ≠ c.l.length := fun e2 => h0 (cnt_all.1 e2 p (List.mem_of_getElem? hp))
  have := h.len
  omega
 | stays hf hl l2 hc hall h' hh e =>
  rw [e]
  show findL l2 n ≠ none ↔ _
  rw [hc.same.find n, hf]
  have h2 := cnt_all.2 hall
  constructor
  ·exact fun e => absurd rfl e
  ·rintro (e | e)
   ·omega
   ·exact absurd rfl e
end
section
variable {l l' : List P} {m : Nat} {c : C}
theorem sum_pins : ∀ {l l' : List P}, l'.length = l.length → (∀ (i : Nat) (p : P), l[i]? = some p → ∃ q, l'[i]? = some q ∧ q.pins = p.pins) → sumP l' = sumP l
 | [], l', h, _ => by
  obtain rfl : l' = [] := List.eq_nil_of_length_eq_zero h
  rfl
 | p :: l, [], h, _ => by simp at h
 | p :: l, q :: l', h, hs => by
  obtain ⟨q', h1, h2⟩ := hs 0 p rfl
  simp at h1
  subst h1
  have ih := sum_pins (l := l) (l' := l') (by simpa using h) (fun i p hp => by simpa using hs (i + 1) p (by simpa using hp))
  show q.pins + sumP l' = p.pins + sumP l
  omega
theorem Clr.sum (h : Clr l l') : sumP l' = sumP l := sum_pins h.1 (fun i p hp => by
 obtain ⟨r, h1, _⟩ := h.2 i p hp
 exact ⟨_, h1, rfl⟩)
theorem sum_bound (h : ∀ p ∈ l, 0 ≤ p.pins ∧ p.pins ≤ m) : 0 ≤ sumP l ∧ sumP l ≤ m * l.length := by
 induction l with
 | nil => exact ⟨Int.le_refl _, by show (0 : Int) ≤ _; simp⟩
 | cons p l ih =>
  have h1 := ih (fun q hq => h q (List.mem_cons_of_mem _ hq))
  have h2 := h p (List.mem_cons_self ..)
  have e : sumP (p :: l) = p.pins + sumP l := rfl
  rw [e, List.length_cons]
  push_cast
  rw [Int.mul_add]
  omega
theorem Ok.sum (h : Ok m c) : 0 ≤ sumP c.l ∧ sumP c.l ≤ 8 * m := by
 have h1 := sum_bound (l := c.l) (m := m) (fun p hp => ⟨(h.fine p hp).p0, (h.fine p hp).p1⟩)
 have h2 : (m : Int) * (c.l.length : Int) ≤ m * 8 := Int.mul_le_mul_of_nonneg_left (by have := h.len; omega) (by omega)
 omega
end
end Go.Proofs.YtcgkbcgpnlogoaaGreatDoor.Cl

/- The operations of a region of a function, by the region's number: so a text need not print them anew. No program. -/
namespace Go.Proofs.YtcgkbcgpnlogoaaGreatDoor.Lex
open Go

noncomputable def opsO : Code → Nat → Option (Array Oper)
 | .region i l _, n => bif Nat.beq i n then some l else none
 | .seq a b, n => match opsO a n with
  | some l => some l
  | none => opsO b n
 | .cond _ a b, n => match opsO a n with
  | some l => some l
  | none => opsO b n
 | .block _ b, n => opsO b n
 | .loop b, n => opsO b n
 | .rangeFunc _ _ a b, n => match opsO a n with
  | some l => some l
  | none => opsO b n
 | .scope b, n => opsO b n
 | _, _ => none
noncomputable def opsOf (f : Func) (n : Nat) : Array Oper := match f.body with
 | some c => (opsO c n).getD #[]
 | none => #[]
end Go.Proofs.YtcgkbcgpnlogoaaGreatDoor.Lex

/- Numbers by seven bits in each byte, plainly: written, read, one form each. No program. -/
namespace Go.Proofs.YtcgkbcgpnlogoaaGreatDoor.Pac

def encF : Nat → Nat → List UInt8
 | 0, _ => []
 | f + 1, u => if u < 128 then [UInt8.ofNat u] else UInt8.ofNat (u % 128 + 128) :: encF f (u / 128)
/-- The bytes of a number below 2^64. -/
def enc (u : Nat) : List UInt8 := encF 10 u
end Go.Proofs.YtcgkbcgpnlogoaaGreatDoor.Pac

/- Folded and unfolded numbers, walked; what the walks ask of bits. -/
namespace Go.Proofs.YtcgkbcgpnlogoaaGreatDoor.Pac
open Go.RowKit

end Go.Proofs.YtcgkbcgpnlogoaaGreatDoor.Pac

/- A number's bytes, walked. -/
namespace Go.Proofs.YtcgkbcgpnlogoaaGreatDoor.Pac
open Go.RowKit

end Go.Proofs.YtcgkbcgpnlogoaaGreatDoor.Pac

/- The number that bytes begin with, plainly. No program. -/
namespace Go.Proofs.YtcgkbcgpnlogoaaGreatDoor.Pac
open Go.RowKit

end Go.Proofs.YtcgkbcgpnlogoaaGreatDoor.Pac

/- The number that bytes begin with, walked. -/
namespace Go.Proofs.YtcgkbcgpnlogoaaGreatDoor.Pac
open Go.RowKit

end Go.Proofs.YtcgkbcgpnlogoaaGreatDoor.Pac

/- Boxes in memory; what reading does to one, plainly; a Box's Num, walked. -/
namespace Go.Proofs.YtcgkbcgpnlogoaaGreatDoor.Pac
open Go.RowKit

/-- A variable of two cells. -/
structure Box2 (w : World) (g : Nat) (v0 v1 : Value) : Prop where
 c0 : w.cell? ⟨g, 0, none⟩ = some v0
 c1 : w.cell? ⟨g, 1, none⟩ = some v1
 f : ∀ i, w.frozen? ⟨g, i, none⟩ = false
/-- All blocks that were there, but one, are as they were. -/
structure Bar (g : Nat) (w w' : World) : Prop where
 os : w'.os = w.os
 tape : w'.tape = w.tape
 output : w'.output = w.output
 size : w.heap.size ≤ w'.heap.size
 block : ∀ k, k < w.heap.size → k ≠ g → w'.heap[k]? = w.heap[k]?
theorem Bar.refl (g : Nat) (w : World) : Bar g w w := ⟨rfl, rfl, rfl, Nat.le_refl _, fun _ _ _ => rfl⟩
theorem Bar.trans {g : Nat} {a b c : World} (h : Bar g a b) (k : Bar g b c) : Bar g a c :=
 ⟨k.os.trans h.os, k.tape.trans h.tape, k.output.trans h.output, Nat.le_trans h.size k.size, fun j hj hne => (k.block j (Nat.lt_of_lt_of_le hj h.size) hne).trans (h.block j hj hne)⟩
theorem Bar.setCell {g : Nat} {a w : World} (h : Bar g a w) (i : Nat) (u : Value) : Bar g a (w.setCell ⟨g, i, none⟩ u) :=
 ⟨h.os, h.tape, h.output, by simpa using h.size, fun k hk hne => (Below.heap_setCell w ⟨g, i, none⟩ u k hne).trans (h.block k hk hne)⟩
theorem Bar.drew {g : Nat} {a w : World} (h : Bar g a w) : Bar g a w.drew := ⟨h.os, h.tape, h.output, h.size, h.block⟩
theorem Bar.of_below (g : Nat) {B : Nat} {w w' : World} (h : Below B w w') (hB : w.heap.size ≤ B) : Bar g w w' :=
 ⟨h.os, h.tape, h.output, h.size, fun k hk _ => h.block k (Nat.lt_of_lt_of_le hk hB)⟩
theorem Bar.below {g B : Nat} {w w' : World} (h : Bar g w w') (hB : B ≤ g) (hw : B ≤ w.heap.size) : Below B w w' :=
 ⟨h.os, h.tape, h.output, h.size, fun k hk => h.block k (Nat.lt_of_lt_of_le hk hw) (by omega)⟩
theorem Bar.cell {g : Nat} {w w' : World} (h : Bar g w w') {p : Addr} (hlt : p.block < w.heap.size) (hp : p.block ≠ g) : w'.cell? p = w.cell? p := World.cell?_of_block (w := w) (h.block p.block hlt hp)
theorem Bar.frozen {g : Nat} {w w' : World} (h : Bar g w w') {p : Addr} (hlt : p.block < w.heap.size) (hp : p.block ≠ g) : w'.frozen? p = w.frozen? p := World.frozen?_of_block (w := w) (h.block p.block hlt hp)
theorem Box2.lt {w : World} {g : Nat} {v0 v1 : Value} (h : Box2 w g v0 v1) : g < w.heap.size := World.block_lt_of_cell? w _ h.c0
theorem Box2.bar {g g' : Nat} {w w' : World} {v0 v1 : Value} (h : Box2 w g v0 v1) (hb : Bar g' w w') (hne : g ≠ g') : Box2 w' g v0 v1 :=
 ⟨(hb.cell h.lt hne).trans h.c0, (hb.cell h.lt hne).trans h.c1, fun i => (hb.frozen h.lt hne).trans (h.f i)⟩
theorem Box2.below {g B : Nat} {w w' : World} {v0 v1 : Value} (h : Box2 w g v0 v1) (hb : Below B w w') (hB : g < B) : Box2 w' g v0 v1 :=
 ⟨(hb.cell (p := ⟨g, 0, none⟩) hB).trans h.c0, (hb.cell (p := ⟨g, 1, none⟩) hB).trans h.c1, fun i => (hb.frozen (p := ⟨g, i, none⟩) hB).trans (h.f i)⟩
theorem Box2.new (w : World) (v0 v1 : Value) (t : TypeId) : Box2 (w.alloc (.cells #[v0, v1] t)) w.heap.size v0 v1 := by
 constructor <;> simp [go_sem]
theorem Box2.alloc {g : Nat} {w : World} {v0 v1 : Value} (h : Box2 w g v0 v1) (o : Obj) : Box2 (w.alloc o) g v0 v1 :=
 h.below ((Below.refl (g + 1) w).alloc h.lt o) (by omega)
theorem Box2.drew {g : Nat} {w : World} {v0 v1 : Value} (h : Box2 w g v0 v1) : Box2 w.drew g v0 v1 := h.below ((Below.refl (g + 1) w).drew) (by omega)
theorem Box2.set0 {g : Nat} {w : World} {v0 v1 : Value} (h : Box2 w g v0 v1) (u : Value) : Box2 (w.setCell ⟨g, 0, none⟩ u) g u v1 :=
 ⟨World.cell?_setCell_same _ _ _ h.c0, (World.cell?_setCell_other w _ _ u (fun e => by injection e with e1 e2; exact absurd e2 (by decide))).trans h.c1, fun i => by simp [h.f]⟩
theorem Box2.set1 {g : Nat} {w : World} {v0 v1 : Value} (h : Box2 w g v0 v1) (u : Value) : Box2 (w.setCell ⟨g, 1, none⟩ u) g v0 u :=
 ⟨(World.cell?_setCell_other w _ _ u (fun e => by injection e with e1 e2; exact absurd e2 (by decide))).trans h.c0, World.cell?_setCell_same _ _ _ h.c1, fun i => by simp [h.f]⟩

end Go.Proofs.YtcgkbcgpnlogoaaGreatDoor.Pac

/- A Box's Text; a text's bytes; walked. -/
namespace Go.Proofs.YtcgkbcgpnlogoaaGreatDoor.Pac
open Go.RowKit

end Go.Proofs.YtcgkbcgpnlogoaaGreatDoor.Pac

/- The document's own Box and Text, walked. -/
namespace Go.Proofs.YtcgkbcgpnlogoaaGreatDoor.Pac
open Go.RowKit

end Go.Proofs.YtcgkbcgpnlogoaaGreatDoor.Pac

/- Lists in memory: elements of k cells each, one behind the other. No program. -/
namespace Go.Proofs.YtcgkbcgpnlogoaaGreatDoor.Li
open Go.RowKit Pac

/-- The slice at A holds these, in memory from lo on: each as the k cells that R tells. -/
def HasL {α : Type} (R : α → List Value) (k : Nat) (w : World) (lo : Nat) (A : Option Addr) (l : List α) : Prop :=
 l ≠ [] → ∃ b o, A = some ⟨b, o, none⟩ ∧ lo ≤ b ∧ b < w.heap.size ∧ ∀ (j : Nat) (x : α), l[j]? = some x → ∀ (i : Nat) (v : Value), (R x)[i]? = some v → w.cell? ⟨b, o + j * k + i, none⟩ = some v
section
variable {α : Type} {R : α → List Value} {k : Nat} {w w' : World} {lo lo' B g : Nat} {A : Option Addr} {l : List α}
theorem HasL.below (h : HasL R k w lo A l) (hb : Below B w w') (hB : w.heap.size ≤ B) : HasL R k w' lo A l := by
 intro hl
 obtain ⟨b, o, hA, hlo, hlt, hc⟩ := h hl
 exact ⟨b, o, hA, hlo, Nat.lt_of_lt_of_le hlt hb.size, fun j x hj i v hv => (hb.cell (p := ⟨b, o + j * k + i, none⟩) (Nat.lt_of_lt_of_le hlt hB)).trans (hc j x hj i v hv)⟩
theorem HasL.bar (h : HasL R k w lo A l) (hb : Bar g w w') (hg : g < lo ∨ w.heap.size ≤ g) : HasL R k w' lo A l := by
 intro hl
 obtain ⟨b, o, hA, hlo, hlt, hc⟩ := h hl
 exact ⟨b, o, hA, hlo, Nat.lt_of_lt_of_le hlt hb.size, fun j x hj i v hv => (hb.cell (p := ⟨b, o + j * k + i, none⟩) hlt (by show b ≠ g; omega)).trans (hc j x hj i v hv)⟩
theorem HasL.lower (h : HasL R k w lo A l) (hl : lo' ≤ lo) : HasL R k w lo' A l := by
 intro hn
 obtain ⟨b, o, hA, hlo, r⟩ := h hn
 exact ⟨b, o, hA, Nat.le_trans hl hlo, r⟩
theorem HasL.take (h : HasL R k w lo A l) (q : Nat) : HasL R k w lo A (l.take q) := by
 intro hn
 have hl : l ≠ [] := fun e => hn (by rw [e]; simp)
 obtain ⟨b, o, hA, hlo, hlt, hc⟩ := h hl
 refine ⟨b, o, hA, hlo, hlt, fun j x hj => hc j x ?_⟩
 rw [List.getElem?_take] at hj
 split at hj
 ·exact hj
 ·cases hj
/-- The rest, from place q on. -/
theorem HasL.drop {b o q : Nat} (h : HasL R k w lo (some ⟨b, o, none⟩) l) : HasL R k w lo (some ⟨b, o + q * k, none⟩) (l.drop q) := by
 intro hn
 have hl : l ≠ [] := fun e => hn (by rw [e]; simp)
 obtain ⟨b', o', hA, hlo, hlt, hc⟩ := h hl
 injection hA with hA
 injection hA with e1 e2
 subst e1 e2
 refine ⟨b, o + q * k, rfl, hlo, hlt, fun j x hj i v hv => ?_⟩
 rw [List.getElem?_drop] at hj
 have := hc (q + j) x hj i v hv
 rw [Nat.add_mul, ← Nat.add_assoc] at this
 exact this
theorem HasL.nil (w : World) (lo : Nat) (A : Option Addr) : HasL R k w lo A [] := fun h => absurd rfl h

/-- All cells, one behind the other. -/
def cellsL {α : Type} (R : α → List Value) (l : List α) : List Value := l.flatMap R
theorem cellsL_snoc (l : List α) (x : α) : cellsL R (l ++ [x]) = cellsL R l ++ R x := by unfold cellsL; simp
theorem cellsL_len (hR : ∀ x, (R x).length = k) (l : List α) : (cellsL R l).length = l.length * k := by
 unfold cellsL
 induction l with
 | nil => simp
 | cons x l ih => rw [List.flatMap_cons, List.length_append, ih, hR, List.length_cons, Nat.add_mul]; omega
theorem cellsL_at (hR : ∀ x, (R x).length = k) : ∀ (l : List α) (j : Nat) (x : α), l[j]? = some x → ∀ (i : Nat) (v : Value), (R x)[i]? = some v → (cellsL R l)[j * k + i]? = some v
 | [], j, x, h, _, _, _ => by simp at h
 | y :: l, 0, x, h, i, v, hv => by
  have h : y = x := by simpa using h
  subst h
  show (R y ++ l.flatMap R)[0 * k + i]? = some v
  have hi := (List.getElem?_eq_some_iff.1 hv).1
  rw [Nat.zero_mul, Nat.zero_add, List.getElem?_append_left hi]
  exact hv
 | y :: l, j + 1, x, h, i, v, hv => by
  have h : l[j]? = some x := by simpa using h
  have ih := cellsL_at hR l j x h i v hv
  show (R y ++ l.flatMap R)[(j + 1) * k + i]? = some v
  rw [List.getElem?_append_right (by rw [hR, Nat.add_mul]; omega), hR, show (j + 1) * k + i - k = j * k + i by rw [Nat.add_mul]; omega]
  exact ih
/-- A row of one's own is a slice of these. -/
theorem list_of_own {base n : Nat} {e : TypeId} {v : Value} (hR : ∀ x, (R x).length = k) (h : w.ownsRow base e k v n (cellsL R l)) (hn : l.length = n) : ∃ A c, v = .slice A n c ∧ n ≤ c ∧ HasL R k w base A l := by
 have h' := h
 rcases h.2 with ⟨rfl, rfl⟩ | ⟨g, cap, cur, rfl, e2, e3, e4, e5, e6, e7⟩
 ·refine ⟨none, 0, rfl, Nat.le_refl _, ?_⟩
  rw [List.length_eq_zero_iff.1 hn]
  exact HasL.nil w base none
 ·refine ⟨_, cap, rfl, e4, fun _ => ⟨g, 0, rfl, e2, (Array.getElem?_eq_some_iff.1 e3).1, fun j x hx i u hu => ?_⟩⟩
  have hj : j < n := by rw [← hn]; exact (List.getElem?_eq_some_iff.1 hx).1
  have hi : i < k := by rw [← hR x]; exact (List.getElem?_eq_some_iff.1 hu).1
  have hlt : j * k + i < n * k := by
   have h1 : (j + 1) * k ≤ n * k := Nat.mul_le_mul_right k hj
   rw [Nat.add_mul] at h1
   omega
  rw [Nat.zero_add, h'.cellAt (j * k + i) hlt]
  exact cellsL_at hR l j x hx i u hu
end
theorem own_below {w w' : World} {B base : Nat} {e : TypeId} {size : Nat} {v : Value} {n : Nat} {xs : List Value} (h : w.ownsRow base e size v n xs) (hb : Below B w w') (hB : w.heap.size ≤ B) : w'.ownsRow base e size v n xs := by
 refine ⟨h.1, ?_⟩
 rcases h.2 with h2 | ⟨g, cap, cur, e1, e2, e3, r⟩
 ·exact Or.inl h2
 ·refine Or.inr ⟨g, cap, cur, e1, e2, ?_, r⟩
  have hg : g < w.heap.size := (Array.getElem?_eq_some_iff.1 e3).1
  rw [hb.block g (Nat.lt_of_lt_of_le hg hB)]
  exact e3
theorem own_bar {w w' : World} {g base : Nat} {e : TypeId} {size : Nat} {v : Value} {n : Nat} {xs : List Value} (h : w.ownsRow base e size v n xs) (hb : Bar g w w') (hg : g < base) : w'.ownsRow base e size v n xs := by
 refine ⟨h.1, ?_⟩
 rcases h.2 with h2 | ⟨k, cap, cur, e1, e2, e3, r⟩
 ·exact Or.inl h2
 ·refine Or.inr ⟨k, cap, cur, e1, e2, ?_, r⟩
  have hk : k < w.heap.size := (Array.getElem?_eq_some_iff.1 e3).1
  rw [hb.block k hk (by omega)]
  exact e3
/-- A literal: a block that is known whole. -/
theorem list_of_block {α : Type} {R : α → List Value} {k : Nat} {w : World} {b : Nat} {l : List α} {cs : Array Value} {t : TypeId} (hR : ∀ x, (R x).length = k) (h : w.heap[b]? = some (.cells cs t (0, 0))) (hc : cs.toList = cellsL R l) : HasL R k w b (some ⟨b, 0, none⟩) l := by
 intro _
 refine ⟨b, 0, rfl, Nat.le_refl _, (Array.getElem?_eq_some_iff.1 h).1, fun j x hj i v hv => ?_⟩
 rw [cell_of_row w b _ cs t (0, 0) h, Nat.zero_add]
 have := cellsL_at hR l j x hj i v hv
 rw [← hc] at this
 simpa using this

/-- A slice that came in, out of its reading, by the reading of an element. -/
theorem open_list {H : Type} {enc : TypeId × Value → H} {P : Program} {w : World} {base : Nat} {spare : Nat → Bool} {held : Bool} {α : Type} {R : α → List Value} {Ok : α → Prop} {k : Nat} {t e : TypeId} [Inhabited α]
  (ht : P.underlying t = some (.slice e)) (hk : P.cellsOf e = k) (hk0 : 0 < k) (hR : ∀ x, (R x).length = k)
  (one : ∀ (fuel : Nat) (cs : List Value) (x : DataW H × List MemPlace), DataW.trod enc P w base spare held fuel e cs = some x → ∃ a : α, Ok a ∧ cs = R a)
  {fuel : Nat} {cs : List Value} {x : DataW H × List MemPlace} (h : DataW.trod enc P w base spare held fuel t cs = some x) :
  ∃ (A : Option Addr) (cp : Nat) (l : List α), cs = [.slice A l.length cp] ∧ l.length ≤ cp ∧ l.length ≤ 9223372036854775807 ∧ (∀ (j : Nat) (a : α), l[j]? = some a → Ok a) ∧ HasL R k w 0 A l := by
 rcases Go.Deep.open_slice ht h with ⟨rfl, _⟩ | ⟨a, len, cap, m, n, D, Pl, rfl, hb, hl, hm, hmm, _, hi⟩
 ·exact ⟨none, 0, [], rfl, Nat.le_refl _, Nat.zero_le _, fun j c h => by simp at h, HasL.nil _ _ _⟩
 ·have hlm : len ≤ m := by rw [hmm]; split <;> omega
  unfold maxLen at hm
  have each : ∀ j, ∃ E : α, j < len → Ok E ∧ ∀ (i : Nat) (v : Value), (R E)[i]? = some v → w.cell? ((a.add (j * k)).add i) = some v := by
   intro j
   by_cases hj : j < len
   ·obtain ⟨cs', hc, ht⟩ := hi j (by omega)
    rw [hk] at hc
    obtain ⟨E, hok, rfl⟩ := one _ _ _ ht
    obtain ⟨_, _, hat⟩ := World.cells?_some hc
    refine ⟨E, fun _ => ⟨hok, fun i v hv => ?_⟩⟩
    have hik : i < k := by rw [← hR E]; exact (List.getElem?_eq_some_iff.1 hv).1
    rw [hat i hik]
    exact hv
   ·exact ⟨default, fun h => absurd h hj⟩
  obtain ⟨L, hL⟩ := Classical.axiomOfChoice each
  have hlen : ((List.range len).map L).length = len := by rw [List.length_map, List.length_range]
  have hat : ∀ (j : Nat) (c : α), ((List.range len).map L)[j]? = some c → j < len ∧ c = L j := fun j c hc => by
   have hj : j < len := by
    have := (List.getElem?_eq_some_iff.1 hc).1
    rw [hlen] at this
    exact this
   rw [List.getElem?_map, List.getElem?_range hj] at hc
   exact ⟨hj, (Option.some.inj hc).symm⟩
  refine ⟨some a, cap, (List.range len).map L, by rw [hlen], by rw [hlen]; exact hl, by rw [hlen]; omega, fun j c hc => ?_, fun hne => ?_⟩
  ·obtain ⟨hj, rfl⟩ := hat j c hc
   exact (hL j hj).1
  ·have h0 : 0 < len := by
    rcases Nat.eq_zero_or_pos len with h | h
    ·subst h; exact absurd rfl hne
    ·exact h
   have hv0 : ∃ v, (R (L 0))[0]? = some v := ⟨_, List.getElem?_eq_getElem (by rw [hR]; exact hk0)⟩
   obtain ⟨v0, hv0⟩ := hv0
   have hsp : a.spot = none := by
    have := World.cell?_spot ((hL 0 h0).2 0 v0 hv0)
    obtain ⟨b, off, spot⟩ := a
    simpa [Addr.add] using this
   have hadd : ∀ i j, (a.add (i * k)).add j = ⟨a.block, a.off + i * k + j, none⟩ := fun i j => by
    obtain ⟨b, off, spot⟩ := a
    simp only at hsp
    subst hsp
    unfold Addr.add
    split <;> split <;> simp_all <;> omega
   have hlt : a.block < w.heap.size := by
    have := World.block_lt_of_cell? w _ ((hL 0 h0).2 0 v0 hv0)
    rw [hadd] at this
    exact this
   refine ⟨a.block, a.off, ?_, Nat.zero_le _, hlt, fun j c hc i v hv => ?_⟩
   ·obtain ⟨b, off, spot⟩ := a
    simp only at hsp
    subst hsp
    rfl
   ·obtain ⟨hj, rfl⟩ := hat j c hc
    have h := (hL j hj).2 i v hv
    rw [hadd] at h
    exact h
end Go.Proofs.YtcgkbcgpnlogoaaGreatDoor.Li

/- Lists of lists in memory, whatever their elements are. -/
namespace Go.Proofs.YtcgkbcgpnlogoaaGreatDoor.Li
open Go.RowKit Pac

/-- A list, and where it lies. -/
structure Gr (α : Type) where
 A : Option Addr
 cp : Nat
 l : List α
def cellsG {α : Type} (x : Gr α) : List Value := [.slice x.A x.l.length x.cp]
theorem cellsG_len {α : Type} (x : Gr α) : (cellsG x).length = 1 := rfl
/-- The slice at A holds these lists. -/
def HasLs {α : Type} (R : α → List Value) (k : Nat) (w : World) (lo : Nat) (A : Option Addr) (ls : List (List α)) : Prop :=
 ∃ hs : List (Gr α), hs.map Gr.l = ls ∧ HasL cellsG 1 w lo A hs ∧ ∀ x ∈ hs, HasL R k w lo x.A x.l ∧ x.l.length ≤ x.cp
section
variable {α : Type} {R : α → List Value} {k : Nat} {w w' : World} {lo lo' B g : Nat} {A : Option Addr} {ls : List (List α)}
theorem HasLs.at (h : HasLs R k w lo A ls) {q : Nat} {r : List α} (hq : ls[q]? = some r) :
  ∃ b o A2 cp2, A = some ⟨b, o, none⟩ ∧ lo ≤ b ∧ b < w.heap.size ∧ w.cell? ⟨b, o + q, none⟩ = some (.slice A2 r.length cp2) ∧ HasL R k w lo A2 r ∧ r.length ≤ cp2 := by
 obtain ⟨hs, rfl, hA, hI⟩ := h
 rw [List.getElem?_map] at hq
 obtain ⟨x, hx, rfl⟩ := Option.map_eq_some_iff.1 hq
 obtain ⟨b, o, hA, hlo, hlt, hc⟩ := hA (fun e => by rw [e] at hx; simp at hx)
 have := hc q x hx 0 _ rfl
 rw [Nat.mul_one, Nat.add_zero] at this
 obtain ⟨h1, h2⟩ := hI x (List.mem_of_getElem? hx)
 exact ⟨b, o, x.A, x.cp, hA, hlo, hlt, this, h1, h2⟩
theorem HasLs.below (h : HasLs R k w lo A ls) (hb : Below B w w') (hB : w.heap.size ≤ B) : HasLs R k w' lo A ls := by
 obtain ⟨hs, e, hA, hI⟩ := h
 exact ⟨hs, e, hA.below hb hB, fun x hx => ⟨(hI x hx).1.below hb hB, (hI x hx).2⟩⟩
theorem HasLs.bar (h : HasLs R k w lo A ls) (hb : Bar g w w') (hg : g < lo ∨ w.heap.size ≤ g) : HasLs R k w' lo A ls := by
 obtain ⟨hs, e, hA, hI⟩ := h
 exact ⟨hs, e, hA.bar hb hg, fun x hx => ⟨(hI x hx).1.bar hb hg, (hI x hx).2⟩⟩
theorem HasLs.lower (h : HasLs R k w lo A ls) (hl : lo' ≤ lo) : HasLs R k w lo' A ls := by
 obtain ⟨hs, e, hA, hI⟩ := h
 exact ⟨hs, e, hA.lower hl, fun x hx => ⟨(hI x hx).1.lower hl, (hI x hx).2⟩⟩
theorem HasLs.nil (R : α → List Value) (k : Nat) (w : World) (lo : Nat) (A : Option Addr) : HasLs R k w lo A [] := ⟨[], rfl, HasL.nil _ _ _, fun x hx => by simp at hx⟩
end
/-- A list that no row of lists, from base on, lies in (t: its elements' type). -/
structure In1 {α : Type} (R : α → List Value) (k : Nat) (t : TypeId) (w : World) (lo base : Nat) (x : Gr α) : Prop where
 has : HasL R k w lo x.A x.l
 cap : x.l.length ≤ x.cp
 tag : ∀ b o s, x.A = some ⟨b, o, s⟩ → x.l ≠ [] → b < base ∨ ∃ cs fr, w.heap[b]? = some (.cells cs t fr)
section
variable {α : Type} {R : α → List Value} {k : Nat} {t e : TypeId} {w w' : World} {lo base B n g : Nat} {x : Gr α} {hs : List (Gr α)} {sv sv' : Value}
theorem In1.below (h : In1 R k t w lo base x) (hb : Below B w w') (hB : w.heap.size ≤ B) : In1 R k t w' lo base x := by
 refine ⟨h.has.below hb hB, h.cap, fun b o s e hn => ?_⟩
 rcases h.tag b o s e hn with h1 | ⟨cs, fr, h1⟩
 ·exact Or.inl h1
 ·have hlt : b < w.heap.size := (Array.getElem?_eq_some_iff.1 h1).1
  exact Or.inr ⟨cs, fr, (hb.block b (Nat.lt_of_lt_of_le hlt hB)).trans h1⟩
theorem In1.grown (hte : t ≠ e) (h : In1 R k t w lo base x) (hown : w.ownsRow base e 1 sv n (cellsL cellsG hs)) (hg : w.grownBy w' sv.ownBlock) : In1 R k t w' lo base x := by
 have key : ∀ b o s, x.A = some ⟨b, o, s⟩ → x.l ≠ [] → some b ≠ sv.ownBlock := fun b o s e hn hb => by
  have hlt := hown.lt b hb.symm
  rcases h.tag b o s e hn with h1 | ⟨cs, fr, h1⟩
  ·omega
  ·rcases hown.2 with ⟨rfl, _⟩ | ⟨g, cap, cur, rfl, _, hg2, _⟩
   ·cases hb
   ·injection hb with hb
    have hb : b = g := hb
    subst hb
    rw [h1] at hg2
    injection hg2 with hg2
    injection hg2 with _ e2
    exact hte e2
 refine ⟨fun hn => ?_, h.cap, fun b o s e hn => ?_⟩
 ·obtain ⟨b, o, hA, hlo, hlt, hc⟩ := h.has hn
  refine ⟨b, o, hA, hlo, Nat.lt_of_lt_of_le hlt hg.size, fun j y hj i v hv => ?_⟩
  exact hg.cell (hc j y hj i v hv) (key b o none hA hn)
 ·rcases h.tag b o s e hn with h1 | ⟨cs, fr, h1⟩
  ·exact Or.inl h1
  ·have hlt : b < w.heap.size := (Array.getElem?_eq_some_iff.1 h1).1
   exact Or.inr ⟨cs, fr, (hg.block b hlt (key b o s e hn)).trans h1⟩
theorem In1.bar (h : In1 R k t w lo base x) (hb : Bar g w w') (hg : g < lo) : In1 R k t w' lo base x := by
 refine ⟨h.has.bar hb (Or.inl hg), h.cap, fun b o s e hn => ?_⟩
 rcases h.tag b o s e hn with h1 | ⟨cs, fr, h1⟩
 ·exact Or.inl h1
 ·have hlt : b < w.heap.size := (Array.getElem?_eq_some_iff.1 h1).1
  obtain ⟨b', o', hA, hlo, _, _⟩ := h.has hn
  rw [e] at hA
  injection hA with hA
  injection hA with e1 _ _
  exact Or.inr ⟨cs, fr, (hb.block b hlt (by omega)).trans h1⟩
theorem In1.old {A : Option Addr} {c : Nat} {l : List α} (h : HasL R k w lo A l) (hc : l.length ≤ c) (hB : Below w.heap.size w w') : In1 R k t w' lo w.heap.size ⟨A, c, l⟩ := by
 refine ⟨h.below hB (Nat.le_refl _), hc, fun b o s e hn => Or.inl ?_⟩
 obtain ⟨b', o', hA, _, hlt, _⟩ := h hn
 have e' : A = some ⟨b, o, s⟩ := e
 rw [hA] at e'
 injection e' with e'
 injection e' with e1 _ _
 omega
end
/-- Lists of one's own, in an answer. -/
def LsPost {α : Type} (R : α → List Value) (k : Nat) (lo : Nat) (ls : List (List α)) (w : World) (e : Ending) (w' : World) : Prop :=
 ∃ A cp, e = .returned (.slice A ls.length cp) ∧ ls.length ≤ cp ∧ HasLs R k w' lo A ls ∧ Below w.heap.size w w'
theorem ls_of_own {α : Type} {R : α → List Value} {k lo n base : Nat} {t e : TypeId} {ls : List (List α)} {w' : World} {sv : Value} {hs : List (Gr α)} (hlo : lo ≤ base) (hown : w'.ownsRow base e 1 sv n (cellsL cellsG hs)) (hn : hs.length = n) (hI : ∀ z ∈ hs, In1 R k t w' lo base z) (el : hs.map Gr.l = ls) :
  ∃ A cp, sv = .slice A ls.length cp ∧ ls.length ≤ cp ∧ HasLs R k w' lo A ls := by
 obtain ⟨A, c, rfl, hc, hl⟩ := list_of_own cellsG_len hown hn
 subst el
 rw [← hn] at hc
 exact ⟨A, c, by rw [List.length_map, hn], by rw [List.length_map]; exact hc, ⟨hs, rfl, hl.lower hlo, fun x hx => ⟨(hI x hx).has, (hI x hx).cap⟩⟩⟩
theorem LsPost.own {α : Type} {R : α → List Value} {k lo n : Nat} {t e : TypeId} {ls : List (List α)} {w w' : World} {sv : Value} {hs : List (Gr α)} (hlo : lo ≤ w.heap.size) (hown : w'.ownsRow w.heap.size e 1 sv n (cellsL cellsG hs)) (hn : hs.length = n) (hI : ∀ z ∈ hs, In1 R k t w' lo w.heap.size z) (el : hs.map Gr.l = ls) (hB : Below w.heap.size w w') : LsPost R k lo ls w (.returned sv) w' := by
 obtain ⟨A, cp, rfl, h1, h2⟩ := ls_of_own hlo hown hn hI el
 exact ⟨A, cp, rfl, h1, h2, hB⟩
end Go.Proofs.YtcgkbcgpnlogoaaGreatDoor.Li

/- Lists in blocks of their own, whatever their elements are, and a row of them. -/
namespace Go.Proofs.YtcgkbcgpnlogoaaGreatDoor.Li
open Go.RowKit Pac

/-- A list in a block of its own. -/
structure OG (α : Type) where
 b : Nat
 cp : Nat
 l : List α
section
variable {α : Type}
def OG.v (x : OG α) : Value := .slice (some ⟨x.b, 0, none⟩) x.l.length x.cp
def OG.gr (x : OG α) : Gr α := ⟨some ⟨x.b, 0, none⟩, x.cp, x.l⟩
end
theorem own_base {w : World} {B B' : Nat} {e : TypeId} {size : Nat} {v : Value} {n : Nat} {xs : List Value} (h : w.ownsRow B e size v n xs) (hB : B' ≤ B) : w.ownsRow B' e size v n xs := by
 refine ⟨h.1, ?_⟩
 rcases h.2 with h2 | ⟨g, cap, cur, e1, e2, r⟩
 ·exact Or.inl h2
 ·exact Or.inr ⟨g, cap, cur, e1, Nat.le_trans hB e2, r⟩
theorem own_tag {w : World} {B : Nat} {e : TypeId} {size : Nat} {v : Value} {n : Nat} {xs : List Value} (h : w.ownsRow B e size v n xs) : ∀ g, v.ownBlock = some g → ∃ c fz, w.heap[g]? = some (.cells c e fz) := by
 intro g hg
 rcases h.2 with ⟨rfl, _⟩ | ⟨g', cap, cur, rfl, _, hgg, _⟩
 ·simp [Value.ownBlock] at hg
 ·simp [Value.ownBlock] at hg
  subst hg
  exact ⟨cur, (0, 0), hgg⟩
theorem own_kind {w : World} {B B' : Nat} {e e' : TypeId} {s s' : Nat} {v v' : Value} {n n' : Nat} {xs xs' : List Value} (h : w.ownsRow B e s v n xs) (h' : w.ownsRow B' e' s' v' n' xs') (he : e ≠ e') {b : Nat} (hb : v.ownBlock = some b) : v'.ownBlock ≠ some b := by
 intro hb'
 obtain ⟨c, fz, h1⟩ := own_tag h b hb
 obtain ⟨c', fz', h2⟩ := own_tag h' b hb'
 rw [h1] at h2
 injection h2 with h2
 injection h2 with _ e2
 exact he e2
theorem own_other {w w' : World} {B : Nat} {e : TypeId} {size : Nat} {v : Value} {n : Nat} {xs : List Value} {row : Option Nat} (h : w.ownsRow B e size v n xs) (hg : w.grownBy w' row) (hne : v.ownBlock = none ∨ v.ownBlock ≠ row) : w'.ownsRow B e size v n xs := by
 refine ⟨h.1, ?_⟩
 rcases h.2 with h2 | ⟨g, cap, cur, rfl, e2, e3, r⟩
 ·exact Or.inl h2
 ·refine Or.inr ⟨g, cap, cur, rfl, e2, ?_, r⟩
  rw [hg.block g (Array.getElem?_eq_some_iff.1 e3).1 (by simpa [Value.ownBlock] using hne)]
  exact e3
/-- Each list owns its block, and no other one's. -/
structure FreeG {α : Type} (R : α → List Value) (k : Nat) (t : TypeId) (w : World) (B : Nat) (ks : List (OG α)) : Prop where
 own : ∀ x ∈ ks, w.ownsRow B t k x.v x.l.length (cellsL R x.l)
 nd : (ks.map OG.b).Nodup
section
variable {α : Type} {R : α → List Value} {k : Nat} {t e : TypeId} {w w' : World} {B B' : Nat} {ks : List (OG α)}
theorem FreeG.nil (R : α → List Value) (k : Nat) (t : TypeId) (w : World) (B : Nat) : FreeG R k t w B [] := ⟨fun x hx => by simp at hx, List.nodup_nil⟩
theorem FreeG.below (h : FreeG R k t w B ks) (hb : Below B' w w') (hB : w.heap.size ≤ B') : FreeG R k t w' B ks := ⟨fun x hx => own_below (h.own x hx) hb hB, h.nd⟩
theorem FreeG.lt (h : FreeG R k t w B ks) {x : OG α} (hx : x ∈ ks) : B ≤ x.b ∧ x.b < w.heap.size := by
 rcases (h.own x hx).2 with ⟨h2, _⟩ | ⟨g, cap, cur, e1, e2, e3, r⟩
 ·cases h2
 ·unfold OG.v at e1
  injection e1 with e1
  injection e1 with e1
  injection e1 with e1
  subst e1
  exact ⟨e2, (Array.getElem?_eq_some_iff.1 e3).1⟩
/-- A row of another kind grows. -/
theorem FreeG.grown {s n : Nat} {sv : Value} {xs : List Value} (h : FreeG R k t w B ks) (hrow : w.ownsRow B' e s sv n xs) (hte : t ≠ e) (hg : w.grownBy w' sv.ownBlock) : FreeG R k t w' B ks :=
 ⟨fun x hx => own_other (h.own x hx) hg (Or.inr (fun e1 => own_kind (h.own x hx) hrow hte rfl (by rw [← e1]; rfl))), h.nd⟩
theorem FreeG.has (hR : ∀ x, (R x).length = k) (h : FreeG R k t w B ks) {x : Gr α} (hx : x ∈ ks.map OG.gr) : HasL R k w B x.A x.l ∧ x.l.length ≤ x.cp := by
 obtain ⟨z, hz, rfl⟩ := List.mem_map.1 hx
 obtain ⟨A', c', e', hc, hl⟩ := list_of_own hR (h.own z hz) rfl
 unfold OG.v at e'
 injection e' with e1 e2 e3
 subst e1 e3
 exact ⟨hl, hc⟩
theorem FreeG.ne (h : FreeG R k t w B ks) {i j : Nat} {x y : OG α} (hi : ks[i]? = some x) (hj : ks[j]? = some y) (hij : i ≠ j) : x.b ≠ y.b := fun e => by
 have h1 : (ks.map OG.b)[i]? = some x.b := by rw [List.getElem?_map, hi]; rfl
 have h2 : (ks.map OG.b)[j]? = some y.b := by rw [List.getElem?_map, hj]; rfl
 rw [e] at h1
 obtain ⟨j1, e1⟩ := List.getElem?_eq_some_iff.1 h1
 obtain ⟨j2, e2⟩ := List.getElem?_eq_some_iff.1 h2
 exact hij ((List.getElem_inj h.nd (i := i) (j := j) (h₀ := j1) (h₁ := j2)).1 (e1.trans e2.symm))
end
end Go.Proofs.YtcgkbcgpnlogoaaGreatDoor.Li

/- Pages at hand, in memory; found, and how many hold: the document's, walked. -/
namespace Go.Proofs.YtcgkbcgpnlogoaaGreatDoor.Cl
open Go.RowKit Pac

def cellsP (p : P) : List Value := [.int .i64 p.no, .string p.data, .bool p.ref, .int .i64 p.pins]
theorem cellsP_len (p : P) : (cellsP p).length = 4 := rfl
/-- The slice at A holds these pages. -/
abbrev HasP (w : World) (lo : Nat) (A : Option Addr) (l : List P) : Prop := Li.HasL cellsP 4 w lo A l
theorem HasP.at {w : World} {lo : Nat} {A : Option Addr} {l : List P} (h : HasP w lo A l) {q : Nat} {e : P} (hq : l[q]? = some e) :
  ∃ b o, A = some ⟨b, o, none⟩ ∧ b < w.heap.size ∧ w.cell? ⟨b, o + q * 4, none⟩ = some (.int .i64 e.no) ∧ w.cell? ⟨b, o + q * 4 + 1, none⟩ = some (.string e.data) ∧ w.cell? ⟨b, o + q * 4 + 2, none⟩ = some (.bool e.ref) ∧ w.cell? ⟨b, o + q * 4 + 3, none⟩ = some (.int .i64 e.pins) := by
 obtain ⟨b, o, hA, _, hlt, hc⟩ := h (fun e => by rw [e] at hq; simp at hq)
 exact ⟨b, o, hA, hlt, hc q e hq 0 _ rfl, hc q e hq 1 _ rfl, hc q e hq 2 _ rfl, hc q e hq 3 _ rfl⟩
theorem cell_belowB {w w' : World} (h : Below w.heap.size w w') {b i : Nat} {v : Value} (hc : w.cell? ⟨b, i, none⟩ = some v) : w'.cell? ⟨b, i, none⟩ = some v :=
 (h.cell (p := ⟨b, i, none⟩) (World.block_lt_of_cell? w _ hc)).trans hc
theorem take_snoc {α : Type} {l : List α} {q : Nat} {x : α} (h : l[q]? = some x) : l.take (q + 1) = l.take q ++ [x] := by rw [List.take_add_one, h]; rfl
def BoolPost (p : Prop) (w : World) (e : Ending) (w' : World) : Prop := ∃ b : Bool, e = .returned (.bool b) ∧ (b = true ↔ p) ∧ Below w.heap.size w w'
section
variable {A B : Option Addr} {n n2 cp cp2 : Nat} {l l' : List P} {w : World}
end
end Go.Proofs.YtcgkbcgpnlogoaaGreatDoor.Cl

/- Pages at hand: the same?, may they be?: the document's, walked. -/
namespace Go.Proofs.YtcgkbcgpnlogoaaGreatDoor.Cl
open Go.RowKit Pac

section
variable {A B : Option Addr} {n n2 cp cp2 : Nat} {l l' : List P} {w : World}
end
end Go.Proofs.YtcgkbcgpnlogoaaGreatDoor.Cl

/- A region that draws its order, with calls that write: walked once, in the order of the text, if each operation that is no call yields its value in every world that meets what is held then. No program. -/
namespace Go.Proofs.YtcgkbcgpnlogoaaGreatDoor.Lex
open Go

/-- In this order: each may come up, apart from all that is left; a call comes up alone. -/
def lexH (ops : Array Oper) (calls : List Nat) : List Nat → Array Bool → Bool
  | [], listed => Region.ready .any ops listed == []
  | k :: l, listed => (if calls.contains k then Region.ready .any ops listed == [k] else (Region.free .any ops listed k && (Region.ready .any ops listed).contains k)) && lexH ops calls l (listed.setIfInBounds k true)

def walkH (P : Program) (ops : Array Oper) (Q : Exit → Act → World → Prop) (calls : List Nat) : List Nat → (World → Prop) → Act → World → Prop
  | [], _, a, w => Q .normal a w
  | k :: l, S, a, w => ∀ o, ops[k]? = some o →
      if calls.contains k = true then
        (if Region.wanted o (yielded ops a.tmps) = true then Oper.wp P o a w (fun a' w' => ∃ S' : World → Prop, (∀ w, S' w → S w) ∧ S' w' ∧ walkH P ops Q calls l S' a' w') Q
         else walkH P ops Q calls l S (a.put o.dst undef) w)
      else ∃ v, YieldsIf P ops S o v a ∧ walkH P ops Q calls l S (a.put o.dst v) w

section
variable {P : Program} {ops : Array Oper} {Q : Exit → Act → World → Prop} {calls : List Nat}

theorem turn {md : Region.Mode} {S S' : World → Prop} (h : ∀ w, S' w → S w) : ∀ (n : Nat) (listed : Array Bool) (a : Act) (w : World), wpAnyH P md ops Q S' n listed a w → wpAnyH P md ops Q S n listed a w
  | 0, _, _, _, k => k
  | n + 1, _, _, _, k => ⟨k.1, fun i hi => wpOp_mono (fun a' w' k' => ⟨h _ k'.1, turn h n _ a' w' k'.2⟩) (k.2 i hi)⟩

theorem of_walk (hs : Region.noSelect ops = true) (hQ : ∀ c a d v w, Q (.panic c) (a.put d v) w → Q (.panic c) a w) :
    ∀ (l : List Nat) (S : World → Prop) (listed : Array Bool) (a : Act) (w : World), (∀ k ∈ l, k < ops.size) → lexH ops calls l listed = true → S w → walkH P ops Q calls l S a w → wpAnyH P .any ops Q S l.length listed a w
  | [], S, listed, a, w, _, hL, _, h => by
    simp only [lexH, beq_iff_eq] at hL
    exact ⟨hL, h⟩
  | k :: l, S, listed, a, w, hk, hL, hS, h => by
    have hlt : k < ops.size := hk k (by simp)
    have hk' : ∀ j ∈ l, j < ops.size := fun j hj => hk j (by simp [hj])
    have ho : ops[k]? = some ops[k] := Array.getElem?_eq_getElem hlt
    have h' := h _ ho
    simp only [lexH, Bool.and_eq_true] at hL
    obtain ⟨h1, h2⟩ := hL
    cases hc : calls.contains k with
    | true =>
      rw [hc, if_pos rfl] at h1
      rw [if_pos hc] at h'
      have hr : Region.ready .any ops listed = [k] := by simpa using h1
      refine wpAnyH_all hr (by simp) fun i hi => ?_
      obtain rfl : i = k := by simpa using hi
      unfold wpOp
      rw [ho]
      show if Region.wanted ops[i] (yielded ops a.tmps) = true then _ else _
      by_cases hw : Region.wanted ops[i] (yielded ops a.tmps) = true
      · rw [if_pos hw] at h' ⊢
        refine Or.inl (Oper.wp_mono (fun a' w' hh => ?_) h')
        obtain ⟨S', hSS, hS', hh⟩ := hh
        exact ⟨hSS _ hS', turn hSS _ _ _ _ (of_walk hs hQ l S' _ a' w' hk' h2 hS' hh)⟩
      · rw [if_neg hw] at h' ⊢
        exact ⟨hS, of_walk hs hQ l S _ _ w hk' h2 hS h'⟩
    | false =>
      rw [hc, if_neg (by simp), Bool.and_eq_true] at h1
      rw [if_neg (by rw [hc]; simp)] at h'
      obtain ⟨v, hy, hh⟩ := h'
      exact wpAnyH_take ho hs h1.1 h1.2 (fun c a w => hQ c a _ _ w) hy hS (of_walk hs hQ l S _ _ w hk' h2 hS hh)

theorem region_lex {id : Nat} {l : Array Oper} {a : Act} {w : World} (ord : List Nat) (S : World → Prop) (he : l = ops) (hm : P.follows .mixedOrders = true) (hs : Region.noSelect ops = true)
    (hn : ord.length = ops.size) (hk : ord.all (fun k => decide (k < ops.size)) = true) (hL : lexH ops calls ord (Array.replicate ops.size false) = true) (hS : S w.drew) (h : walkH P ops (NoPanic Q) calls ord S a w.drew) : (Code.region id l true).wp P Q a w := by
  subst he
  refine wp_region_noPanic (wp_region_held_drew (S := S) hm hS fun _ => ?_)
  rw [← hn]
  exact of_walk hs (fun _ _ _ _ _ h => h) ord S _ a _ (fun k h => by simpa using List.all_eq_true.1 hk k h) (by rw [hn]; exact hL) hS h

variable {l : List Nat} {k : Nat} {S : World → Prop} {o : Oper} {a : Act} {w : World}
theorem step_take (v : Value) (ho : ops[k]? = some o) (hc : calls.contains k = false) (hw : Region.wanted o (yielded ops a.tmps) = true)
    (hv : ∀ w, S w → (execOp a.eval o).run P w = .ok (.value v) w) (h : walkH P ops Q calls l S (a.put o.dst v) w) : walkH P ops Q calls (k :: l) S a w := by
  intro o' ho'
  obtain rfl : o' = o := Option.some.inj (ho'.symm.trans ho)
  rw [if_neg (by rw [hc]; simp)]
  exact ⟨v, Or.inl ⟨hw, hv⟩, h⟩
theorem step_skip (ho : ops[k]? = some o) (hw : Region.wanted o (yielded ops a.tmps) = false)
    (h : walkH P ops Q calls l S (a.put o.dst undef) w) : walkH P ops Q calls (k :: l) S a w := by
  intro o' ho'
  obtain rfl : o' = o := Option.some.inj (ho'.symm.trans ho)
  by_cases hc : calls.contains k = true
  · rw [if_pos hc, if_neg (by rw [hw]; simp)]
    exact h
  · rw [if_neg hc]
    exact ⟨undef, Or.inr ⟨hw, rfl⟩, h⟩
theorem step_call (ho : ops[k]? = some o) (hc : calls.contains k = true) (hw : Region.wanted o (yielded ops a.tmps) = true)
    (h : ∀ K : Act → World → Prop, Shut (∀ (S' : World → Prop) a' w', (∀ w, S' w → S w) → S' w' → walkH P ops Q calls l S' a' w' → K a' w') → Oper.wp P o a w K Q) : walkH P ops Q calls (k :: l) S a w := by
  intro o' ho'
  obtain rfl : o' = o := Option.some.inj (ho'.symm.trans ho)
  rw [if_pos hc, if_pos hw]
  exact h _ fun S' a' w' h1 h2 h3 => ⟨S', h1, h2, h3⟩
theorem want_none {y : Nat → Option Bool} (h : o.guard = none) : Region.wanted o y = true := by
  unfold Region.wanted
  rw [h]
theorem want_some {g d : Nat} {b b' : Bool} {og : Oper} (h : o.guard = some (g, b)) (hg : ops[g]? = some og) (hd : og.dst = some d) (ha : a.tmps[d]? = some (.bool b')) {r : Bool} (hr : (b' == b) = r) : Region.wanted o (yielded ops a.tmps) = r := by
  subst hr
  unfold Region.wanted yielded
  rw [h]
  simp only [hg, Option.bind_some, hd, ha]
  rfl
end
end Go.Proofs.YtcgkbcgpnlogoaaGreatDoor.Lex

/- A region that draws its order and ends in a store that undoes what was held: its last operation is taken out, and done behind all others. No program. -/
namespace Go.Proofs.YtcgkbcgpnlogoaaGreatDoor.Lex
open Go

section
variable {P : Program} {ops : Array Oper} {Q : Exit → Act → World → Prop} {n : Nat} {on : Oper} {md : Region.Mode}
theorem upon_then {K : Act → World → Prop} {o : Oper} {a : Act} {next : Act → World → Prop} {r : Result Next} (h : o.upon P a next (Exit.then K Q) r) : o.upon P a next Q r := by
 cases r with
 | ok x w => cases x <;> exact h
 | halt x w => cases x <;> exact h
theorem unlisted_of {listed : Array Bool} {j : Nat} (hj : j < listed.size) (h : listed.getD j false = true → False) : listed.getD j true = false := by
 have e : listed[j]? = some listed[j] := Array.getElem?_eq_getElem hj
 rw [Array.getD_eq_getD_getElem?, e] at h ⊢
 simp only [Option.getD_some] at h ⊢
 cases hb : listed[j]
 ·rfl
 ·exact absurd hb h
/-- Where each waits for earlier ones alone, one may come up as long as one has not. -/
theorem ready_some (hacy : ∀ (i : Nat) (o : Oper), ops[i]? = some o → ∀ e ∈ o.after, e.on < i) {listed : Array Bool} (hsz : listed.size = ops.size) :
  ∀ (i : Nat), i < ops.size → listed.getD i true = false → ∃ j, j ∈ Region.ready md ops listed := by
 intro i
 induction i using Nat.strongRecOn with
 | ind i ih =>
  intro hi hl
  have ho : ops[i]? = some ops[i] := Array.getElem?_eq_getElem hi
  by_cases hall : ∀ e ∈ (ops[i]).after, Region.binds md e = true → listed.getD e.on false = true
  ·exact ⟨i, mem_ready.2 ⟨hl, _, ho, hall⟩⟩
  ·obtain ⟨e, he⟩ := Classical.not_forall.1 hall
   obtain ⟨hm, he⟩ := Classical.not_imp.1 he
   obtain ⟨_, hf⟩ := Classical.not_imp.1 he
   have hlt := hacy i _ ho e hm
   exact ih e.on hlt (by omega) (unlisted_of (by omega) hf)

end
section
variable {P : Program} {ops ops1 : Array Oper} {Q : Exit → Act → World → Prop} {calls : List Nat} {n : Nat} {on : Oper}
end
end Go.Proofs.YtcgkbcgpnlogoaaGreatDoor.Lex

/- May pages at hand be: the document's, walked. -/
namespace Go.Proofs.YtcgkbcgpnlogoaaGreatDoor.Cl
open Go.RowKit Pac Lex

section
variable {A : Option Addr} {n cp : Nat} {l : List P} {w : World}
end
end Go.Proofs.YtcgkbcgpnlogoaaGreatDoor.Cl

/- Pages at hand: asked for, held: the document's, walked. -/
namespace Go.Proofs.YtcgkbcgpnlogoaaGreatDoor.Cl
open Go.RowKit Pac Lex

theorem infoP : (Tryz.prog.info? 195).map (fun i => (i.zero, i.size, i.bytes)) = some (some (.agg #[.int .i64 0, .string ⟨#[]⟩, .bool false, .int .i64 0]), 4, 40) := by kernel_rfl
theorem info_parts {n : TypeId} {z : Option Value} {s b : Nat} (h : (Tryz.prog.info? n).map (fun i => (i.zero, i.size, i.bytes)) = some (z, s, b)) : ∃ i, Tryz.prog.info? n = some i ∧ i.zero = z ∧ i.size = s ∧ i.bytes = b := by
 obtain ⟨i, hi, h2⟩ := Option.map_eq_some_iff.1 h
 injection h2 with e1 e2
 injection e2 with e2 e3
 exact ⟨i, hi, e1, e2, e3⟩
theorem results_get {fn : Func} {p q r : Tmp} (h : fn.results = #[.cell p 35, .tmp q, .tmp r]) (tmps : Array Value) (w : World) (g : Nat) (v0 v1 : Value)
  (hp : tmps.getD p undef = .pointer (some ⟨g, 0, none⟩)) (c0 : w.cell? ⟨g, 0, none⟩ = some v0) (c1 : w.cell? ⟨g, 1, none⟩ = some v1) :
  (results fn tmps).run Tryz.prog w = .ok (.tuple #[.agg #[v0, v1], tmps.getD q undef, tmps.getD r undef]) w := by
 have hp' : tmps[p]?.getD undef = .pointer (some ⟨g, 0, none⟩) := by simpa using hp
 clear hp
 simp only [results, h]
 go_simp
theorem results_clock {fn : Func} {p : Tmp} (h : fn.results = #[.cell p 35]) (tmps : Array Value) (w : World) (g : Nat) (v0 v1 : Value)
  (hp : tmps.getD p undef = .pointer (some ⟨g, 0, none⟩)) (c0 : w.cell? ⟨g, 0, none⟩ = some v0) (c1 : w.cell? ⟨g, 1, none⟩ = some v1) :
  (results fn tmps).run Tryz.prog w = .ok (.agg #[v0, v1]) w := by
 have hp' : tmps[p]?.getD undef = .pointer (some ⟨g, 0, none⟩) := by simpa using hp
 clear hp
 simp only [results, h]
 go_simp
/-- Where an address may point. -/
def Adr (X : Nat → Prop) (A : Option Addr) : Prop := ∀ b o s, A = some ⟨b, o, s⟩ → X b
theorem adr_lt {α : Type} {R : α → List Value} {k lo : Nat} {w : World} {A : Option Addr} {l : List α} (h : Li.HasL R k w lo A l) (hn : l ≠ []) : Adr (fun b => lo ≤ b ∧ b < w.heap.size) A := fun b o s e => by
 obtain ⟨b', o', hA, hlo, hlt, _⟩ := h hn
 rw [e] at hA
 injection hA with hA
 injection hA with e1 _ _
 subst e1
 exact ⟨hlo, hlt⟩
theorem hasL_bar {α : Type} {R : α → List Value} {k g : Nat} {w w' : World} {X : Nat → Prop} {A : Option Addr} {l : List α} (h : Li.HasL R k w 0 A l) (ha : l ≠ [] → Adr X A) (hx : ¬ X g) (hb : Bar g w w') : Li.HasL R k w' 0 A l := fun hn => by
 obtain ⟨b, o, hA, hlo, hlt, hc⟩ := h hn
 have hne : b ≠ g := fun e => by
  subst e
  exact hx (ha hn b o none hA)
 exact ⟨b, o, hA, hlo, Nat.lt_of_lt_of_le hlt hb.size, fun j x hj i v hv => (hb.cell (p := ⟨b, _, none⟩) hlt hne).trans (hc j x hj i v hv)⟩
/-- Pages in blocks of X; none at all: no slice at all. -/
structure HasPX (w : World) (X : Nat → Prop) (A : Option Addr) (cp : Nat) (l : List P) : Prop where
 p : HasP w 0 A l
 x : l ≠ [] → Adr X A
 z : l = [] → A = none ∧ cp = 0
section
variable {w w' : World} {X Y : Nat → Prop} {A : Option Addr} {cp : Nat} {l : List P}
theorem HasPX.below {B : Nat} (h : HasPX w X A cp l) (hb : Below B w w') (hB : w.heap.size ≤ B) : HasPX w' X A cp l := ⟨h.p.below hb hB, h.x, h.z⟩
theorem HasPX.mono (h : HasPX w X A cp l) (hXY : ∀ b, X b → Y b) : HasPX w Y A cp l := ⟨h.p, fun hn b o s e => hXY _ (h.x hn b o s e), h.z⟩
theorem HasPX.bar {g : Nat} (h : HasPX w X A cp l) (hx : ¬ X g) (hb : Bar g w w') : HasPX w' X A cp l := ⟨hasL_bar h.p h.x hx hb, h.x, h.z⟩
theorem HasPX.lt (h : HasPX w X A cp l) : HasPX w (fun b => X b ∧ b < w.heap.size) A cp l := ⟨h.p, fun hn b o s e => ⟨h.x hn b o s e, (adr_lt h.p hn b o s e).2⟩, h.z⟩
end
/-- A value that holds these pages at hand: where the arguments' lay, or in blocks from k on. -/
def ClkV (X : Nat → Prop) (c : C) (k : Nat) (v : Value) (w : World) : Prop := ∃ A n cp, v = .agg #[.slice A n cp, .int .i64 c.h] ∧ c.l.length = n ∧ n ≤ cp ∧ HasPX w (fun b => X b ∨ k ≤ b) A cp c.l
def ClkPost (X : Nat → Prop) (c : C) (w : World) (e : Ending) (w' : World) : Prop := ∃ v, e = .returned v ∧ ClkV X c w.heap.size v w' ∧ Below w.heap.size w w'
def GetPost (X : Nat → Prop) (r : C × ByteArray × Bool) (w : World) (e : Ending) (w' : World) : Prop := ∃ v, e = .returned (.tuple #[v, .string r.2.1, .bool r.2.2]) ∧ ClkV X r.1 w.heap.size v w' ∧ Below w.heap.size w w'
theorem cells_modify {α : Type} {R : α → List Value} {k t : Nat} {v : Value} {f : α → α} (hR : ∀ x, (R x).length = k) (ht : t < k) : ∀ {l : List α} {i : Nat} {x : α}, l[i]? = some x → (R x).set t v = R (f x) → (Li.cellsL R l).set (i * k + t) v = Li.cellsL R (l.modify i f)
 | [], i, x, h, _ => by simp at h
 | y :: l, 0, x, h, hf => by
  have h : y = x := by simpa using h
  subst h
  show (R y ++ l.flatMap R).set (0 * k + t) v = R (f y) ++ l.flatMap R
  rw [Nat.zero_mul, Nat.zero_add, List.set_append_left _ _ (by rw [hR]; exact ht), hf]
 | y :: l, i + 1, x, h, hf => by
  have h : l[i]? = some x := by simpa using h
  have ih := cells_modify hR ht h hf
  show (R y ++ l.flatMap R).set ((i + 1) * k + t) v = R y ++ (l.modify i f).flatMap R
  rw [List.set_append_right _ _ (by rw [hR, Nat.add_mul]; omega), hR, show (i + 1) * k + t - k = i * k + t by rw [Nat.add_mul]; omega]
  exact congrArg (R y ++ ·) ih
theorem news_of {α : Type} {R : α → List Value} {k : Nat} (hk : 0 < k) (hR : ∀ x, (R x).length = k) {W : World} {lo b o : Nat} {l : List α} (h : Li.HasL R k W lo (some ⟨b, o, none⟩) l) : ∀ (t : Nat) (u : Value), (Li.cellsL R l)[t]? = some u → W.cell? ((⟨b, o, none⟩ : Addr).add t) = some u := fun t u hu => by
 have ht := (List.getElem?_eq_some_iff.1 hu).1
 rw [Li.cellsL_len hR] at ht
 have htk : t / k < l.length := Nat.div_lt_of_lt_mul (by rw [Nat.mul_comm]; exact ht)
 have hx : l[t / k]? = some (l[t / k]'htk) := List.getElem?_eq_getElem _
 generalize (l[t / k]'htk) = x at hx
 have hmk : t % k < (R x).length := by rw [hR]; exact Nat.mod_lt _ hk
 have hi : (R x)[t % k]? = some ((R x)[t % k]'hmk) := List.getElem?_eq_getElem _
 generalize ((R x)[t % k]'hmk) = y at hi
 have e : t / k * k + t % k = t := by rw [Nat.mul_comm]; exact Nat.div_add_mod t k
 have h1 := Li.cellsL_at hR l _ x hx _ y hi
 rw [e, hu] at h1
 injection h1 with h1
 subst h1
 obtain ⟨b', o', hA, _, _, hc⟩ := h (fun e => by rw [e] at hx; simp at hx)
 injection hA with hA
 injection hA with e1 e2
 subst e1 e2
 have h2 := hc _ x hx _ u hi
 rw [Nat.add_assoc, e] at h2
 have hadd : (⟨b, o, none⟩ : Addr).add t = ⟨b, o + t, none⟩ := by unfold Addr.add; split <;> simp_all
 rw [hadd]
 exact h2
theorem cellsP_one (l : List P) : ∀ u ∈ Li.cellsL cellsP l, u.oneCell' = true := fun u hu => by
 unfold Li.cellsL at hu
 rw [List.mem_flatMap] at hu
 obtain ⟨p, _, hp⟩ := hu
 unfold cellsP at hp
 simp only [List.mem_cons, List.not_mem_nil, or_false] at hp
 rcases hp with rfl | rfl | rfl | rfl <;> simp [Value.oneCell']
theorem own_clk {W : World} {base k g cp n : Nat} {X : Nat → Prop} {c : C} (hown : W.ownsRow base 195 4 (.slice (some ⟨g, 0, none⟩) n cp) n (Li.cellsL cellsP c.l)) (hn : c.l.length = n) (h0 : 0 < n) (hk : k ≤ base) : ClkV X c k (.agg #[.slice (some ⟨g, 0, none⟩) n cp, .int .i64 c.h]) W := by
 obtain ⟨A', c', e, hcc, hl⟩ := Li.list_of_own cellsP_len hown hn
 injection e with e1 e2 e3
 subst e1 e3
 exact ⟨_, n, _, rfl, hn, hcc, hl.lower (Nat.zero_le _), fun hn' b o s e => Or.inr (Nat.le_trans hk (adr_lt hl hn' b o s e).1), fun e => by rw [e] at hn; simp at hn; omega⟩
section
variable {A : Option Addr} {n cp : Nat} {w : World}
end
end Go.Proofs.YtcgkbcgpnlogoaaGreatDoor.Cl

/- Pages at hand: one is put: the document's, walked. -/
namespace Go.Proofs.YtcgkbcgpnlogoaaGreatDoor.Cl
open Go.RowKit Pac Lex

structure Box4 (w : World) (g : Nat) (v0 v1 v2 v3 : Value) : Prop where
 c0 : w.cell? ⟨g, 0, none⟩ = some v0
 c1 : w.cell? ⟨g, 1, none⟩ = some v1
 c2 : w.cell? ⟨g, 2, none⟩ = some v2
 c3 : w.cell? ⟨g, 3, none⟩ = some v3
 f : ∀ i, w.frozen? ⟨g, i, none⟩ = false
section
variable {w w' : World} {g q B : Nat} {v0 v1 v2 v3 : Value}
theorem Box4.lt (h : Box4 w g v0 v1 v2 v3) : g < w.heap.size := World.block_lt_of_cell? w _ h.c0
theorem Box4.bar (h : Box4 w g v0 v1 v2 v3) (hb : Bar q w w') (hne : g ≠ q) : Box4 w' g v0 v1 v2 v3 :=
 ⟨(hb.cell h.lt hne).trans h.c0, (hb.cell h.lt hne).trans h.c1, (hb.cell h.lt hne).trans h.c2, (hb.cell h.lt hne).trans h.c3, fun i => (hb.frozen h.lt hne).trans (h.f i)⟩
theorem Box4.below (h : Box4 w g v0 v1 v2 v3) (hb : Below B w w') (hB : g < B) : Box4 w' g v0 v1 v2 v3 :=
 ⟨(hb.cell (p := ⟨g, 0, none⟩) hB).trans h.c0, (hb.cell (p := ⟨g, 1, none⟩) hB).trans h.c1, (hb.cell (p := ⟨g, 2, none⟩) hB).trans h.c2, (hb.cell (p := ⟨g, 3, none⟩) hB).trans h.c3, fun i => (hb.frozen (p := ⟨g, i, none⟩) hB).trans (h.f i)⟩
theorem Box4.new (w : World) (v0 v1 v2 v3 : Value) (t : TypeId) : Box4 (w.alloc (.cells #[v0, v1, v2, v3] t)) w.heap.size v0 v1 v2 v3 := by
 constructor <;> simp [go_sem]
end
/-- What holds while a page is put: the pages are in a row of the call's own. -/
structure PutM (w : World) (g n base : Nat) (no : Int) (d : ByteArray) (l : List P) (h g5 c5 : Nat) (W : World) : Prop where
 own : W.ownsRow base 195 4 (.slice (some ⟨g5, 0, none⟩) n c5) n (Li.cellsL cellsP l)
 x : Box2 W g (.slice (some ⟨g5, 0, none⟩) n c5) (.int .i64 h)
 p : Box2 W (g + 1) (.int .i64 no) (.string d)
 y : Box2 W (g + 2) (.slice none 0 0) (.int .i64 0)
 B : Below w.heap.size w W
 bs : base ≤ W.heap.size
section
variable {w W W' : World} {g n base h g5 c5 : Nat} {no : Int} {d : ByteArray} {l : List P}
theorem PutM.below (m : PutM w g n base no d l h g5 c5 W) (hb : Below W.heap.size W W') : PutM w g n base no d l h g5 c5 W' :=
 ⟨Li.own_below m.own hb (Nat.le_refl _), m.x.below hb m.x.lt, m.p.below hb m.p.lt, m.y.below hb m.y.lt, m.B.trans (hb.mono m.B.size), Nat.le_trans m.bs hb.size⟩
theorem PutM.lt (m : PutM w g n base no d l h g5 c5 W) : base ≤ g5 ∧ g5 < W.heap.size := m.own.lt g5 rfl
theorem PutM.has (m : PutM w g n base no d l h g5 c5 W) (hn : l.length = n) : HasP W 0 (some ⟨g5, 0, none⟩) l ∧ n ≤ c5 := by
 obtain ⟨A', c', e, hcc, hl⟩ := Li.list_of_own cellsP_len m.own hn
 injection e with e1 e2 e3
 subst e1 e3
 exact ⟨hl.lower (Nat.zero_le _), hcc⟩
theorem PutM.at (m : PutM w g n base no d l h g5 c5 W) {i : Nat} {p : P} (hp : l[i]? = some p) : W.cell? ⟨g5, i * 4, none⟩ = some (.int .i64 p.no) ∧ W.cell? ⟨g5, i * 4 + 1, none⟩ = some (.string p.data) ∧ W.cell? ⟨g5, i * 4 + 2, none⟩ = some (.bool p.ref) ∧ W.cell? ⟨g5, i * 4 + 3, none⟩ = some (.int .i64 p.pins) := by
 have hlt := (List.getElem?_eq_some_iff.1 hp).1
 have hl := m.own.1
 rw [Li.cellsL_len cellsP_len] at hl
 have key : ∀ t (ht : t < 4) v, (cellsP p)[t]? = some v → W.cell? ⟨g5, i * 4 + t, none⟩ = some v := fun t ht v hv => by
  have h1 := m.own.cellAt (i * 4 + t) (by omega)
  rw [Li.cellsL_at cellsP_len l i p hp t v hv] at h1
  exact h1
 exact ⟨key 0 (by decide) _ rfl, key 1 (by decide) _ rfl, key 2 (by decide) _ rfl, key 3 (by decide) _ rfl⟩
end
theorem modify_two {α : Type} (l : List α) (i : Nat) (f f' : α → α) : (l.modify i f).modify i f' = l.modify i (fun x => f' (f x)) := by
 apply List.ext_getElem?
 intro j
 rw [List.getElem?_modify, List.getElem?_modify, List.getElem?_modify]
 by_cases e : i = j
 ·subst e; cases l[i]? <;> simp
 ·simp [e]
theorem modify_set {α : Type} {l : List α} {i : Nat} {x : α} {f : α → α} (h : l[i]? = some x) : l.modify i f = l.set i (f x) := by
 apply List.ext_getElem?
 intro j
 rw [List.getElem?_modify]
 by_cases e : i = j
 ·subst e
  rw [List.getElem?_set_self (List.getElem?_eq_some_iff.1 h).1, h]
  simp
 ·rw [List.getElem?_set_ne e]
  simp [e]
def setNo (n : Int) (p : P) : P := { p with no := n }
def setData (d : ByteArray) (p : P) : P := { p with data := d }
def setRef (b : Bool) (p : P) : P := { p with ref := b }
def setPins (k : Int) (p : P) : P := { p with pins := k }
section
variable {W : World} {base g5 n c5 i : Nat} {l : List P} {p : P}
/-- All four. -/
theorem own_whole (hown : W.ownsRow base 195 4 (.slice (some ⟨g5, 0, none⟩) n c5) n (Li.cellsL cellsP l)) (hp : l[i]? = some p) (x : P) :
  ((((W.setCell ⟨g5, i * 4, none⟩ (.int .i64 x.no)).setCell ⟨g5, i * 4 + 1, none⟩ (.string x.data)).setCell ⟨g5, i * 4 + 2, none⟩ (.bool x.ref)).setCell ⟨g5, i * 4 + 3, none⟩ (.int .i64 x.pins)).ownsRow base 195 4 (.slice (some ⟨g5, 0, none⟩) n c5) n (Li.cellsL cellsP (l.set i x)) := by
 have h1 := (hown.stored (i * 4) (.int .i64 x.no)).1
 rw [show i * 4 = i * 4 + 0 from rfl, cells_modify (f := setNo x.no) cellsP_len (by decide) hp rfl] at h1
 have hp1 : (l.modify i (setNo x.no))[i]? = some (setNo x.no p) := by rw [List.getElem?_modify]; simp [hp]
 have h2 := (h1.stored (i * 4 + 1) (.string x.data)).1
 rw [cells_modify (f := setData x.data) cellsP_len (by decide) hp1 rfl] at h2
 have hp2 : ((l.modify i (setNo x.no)).modify i (setData x.data))[i]? = some (setData x.data (setNo x.no p)) := by rw [List.getElem?_modify]; simp [hp1]
 have h3 := (h2.stored (i * 4 + 2) (.bool x.ref)).1
 rw [cells_modify (f := setRef x.ref) cellsP_len (by decide) hp2 rfl] at h3
 have hp3 : (((l.modify i (setNo x.no)).modify i (setData x.data)).modify i (setRef x.ref))[i]? = some (setRef x.ref (setData x.data (setNo x.no p))) := by rw [List.getElem?_modify]; simp [hp2]
 have h4 := (h3.stored (i * 4 + 3) (.int .i64 x.pins)).1
 rw [cells_modify (f := setPins x.pins) cellsP_len (by decide) hp3 rfl, modify_two, modify_two, modify_two, modify_set hp] at h4
 exact h4
end
theorem spin_pass {x : P} {n : Nat} {l : List P} {h : Nat} {p : P} (hp : l[h]? = some p) (h0 : 0 < p.pins) : spinL x (n + 1) l h = spinL x n l ((h + 1) % l.length) := by
 show (match l[h]? with | none => (l, h) | some p => _) = _
 rw [hp]
 simp only
 rw [if_pos h0]
theorem spin_clear {x : P} {n : Nat} {l : List P} {h : Nat} {p : P} (hp : l[h]? = some p) (h0 : ¬ 0 < p.pins) (h1 : p.ref = true) : spinL x (n + 1) l h = spinL x n (l.set h (setRef false p)) ((h + 1) % l.length) := by
 show (match l[h]? with | none => (l, h) | some p => _) = _
 rw [hp]
 simp only
 rw [if_neg h0, if_pos h1]
 rfl
theorem spin_take {x : P} {n : Nat} {l : List P} {h : Nat} {p : P} (hp : l[h]? = some p) (h0 : ¬ 0 < p.pins) (h1 : p.ref = false) : spinL x (n + 1) l h = (l.set h x, (h + 1) % l.length) := by
 show (match l[h]? with | none => (l, h) | some p => _) = _
 rw [hp]
 simp only
 rw [if_neg h0, if_neg (by rw [h1]; simp)]
section
variable {w W : World} {g n base h h2 g5 c5 i : Nat} {no : Int} {d : ByteArray} {l : List P} {p : P}
theorem PutM.hand (m : PutM w g n base no d l h g5 c5 W) (hg : w.heap.size = g) (hb : g + 3 ≤ base) (h2 : Nat) : PutM w g n base no d l h2 g5 c5 (W.setCell ⟨g, 1, none⟩ (.int .i64 h2)) :=
 have hbar := (Bar.refl g W).setCell 1 (.int .i64 h2)
 ⟨Li.own_bar m.own hbar (by omega), m.x.set1 _, m.p.bar hbar (by omega), m.y.bar hbar (by omega), m.B.trans (hbar.below (B := w.heap.size) (Nat.le_of_eq hg) m.B.size), Nat.le_trans m.bs hbar.size⟩
theorem PutM.noref (m : PutM w g n base no d l h g5 c5 W) (hg : w.heap.size = g) (hb : g + 3 ≤ base) (hp : l[i]? = some p) : PutM w g n base no d (l.set i (setRef false p)) h g5 c5 (W.setCell ⟨g5, i * 4 + 2, none⟩ (.bool false)) := by
 have hbar := (Bar.refl g5 W).setCell (i * 4 + 2) (.bool false)
 have h5 := m.lt
 have h1 := (m.own.stored (i * 4 + 2) (.bool false)).1
 rw [cells_modify (f := setRef false) cellsP_len (by decide) hp rfl, modify_set hp] at h1
 exact ⟨h1, m.x.bar hbar (by omega), m.p.bar hbar (by omega), m.y.bar hbar (by omega), m.B.trans (hbar.below (B := w.heap.size) (by omega) m.B.size), Nat.le_trans m.bs hbar.size⟩
end
section
variable {A : Option Addr} {n cp m : Nat} {w : World}
end
end Go.Proofs.YtcgkbcgpnlogoaaGreatDoor.Cl
