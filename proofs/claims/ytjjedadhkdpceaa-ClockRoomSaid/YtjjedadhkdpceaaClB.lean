/- Pages at hand, plainly: what holds behind any deeds. No program. -/
import Derived.Test.YtjjedadhkdpceaaClA
namespace Go.Proofs.Ytjjedadhkdpceaa.Cl

structure A where
  kind : Int
  no : Int
  data : ByteArray
structure FineA (a : A) : Prop where
  d : a.data.size ≤ 300
  n0 : -9223372036854775808 ≤ a.no
  n1 : a.no ≤ 9223372036854775807
def doesC (c : C) (a : A) : C × ByteArray × Bool :=
  if a.kind = 0 then (putC c a.no a.data, ⟨#[]⟩, false)
  else if a.kind = 1 then getC c a.no
  else if a.kind = 2 then ((pinC c a.no true).1, ⟨#[]⟩, (pinC c a.no true).2)
  else if a.kind = 3 then ((pinC c a.no false).1, ⟨#[]⟩, (pinC c a.no false).2)
  else (c, ⟨#[]⟩, false)
structure FineP (m : Nat) (p : P) : Prop where
  p0 : 0 ≤ p.pins
  p1 : p.pins ≤ m
  d : p.data.size ≤ 300
  n0 : -9223372036854775808 ≤ p.no
  n1 : p.no ≤ 9223372036854775807
structure Ok (m : Nat) (c : C) : Prop where
  nd : Nd c.l
  len : c.l.length ≤ 8
  fine : ∀ p ∈ c.l, FineP m p
  hand : c.h = 0 ∨ c.h < c.l.length
theorem FineP.mono {m k : Nat} {p : P} (h : FineP m p) (hk : m ≤ k) : FineP k p := ⟨h.p0, by have := h.p1; omega, h.d, h.n0, h.n1⟩
theorem Ok.mono {m k : Nat} {c : C} (h : Ok m c) (hk : m ≤ k) : Ok k c := ⟨h.nd, h.len, fun p hp => (h.fine p hp).mono hk, h.hand⟩
theorem ok_none : Ok 0 ⟨[], 0⟩ := ⟨fun i j p q h => (by simp at h), by simp, fun p h => (by cases h), Or.inl rfl⟩
/-- The same numbers, place by place. -/
def SameNo (l l' : List P) : Prop := l'.length = l.length ∧ ∀ (i : Nat) (p : P), l[i]? = some p → ∃ q, l'[i]? = some q ∧ q.no = p.no
section
variable {l l' : List P} {x p : P} {n : Int} {i k m : Nat} {c : C}
theorem SameNo.back (h : SameNo l l') (hp : l'[i]? = some p) : ∃ q, l[i]? = some q ∧ p.no = q.no := by
  have hlt := (List.getElem?_eq_some_iff.1 hp).1
  rw [h.1] at hlt
  obtain ⟨q, h1, h2⟩ := h.2 i _ (List.getElem?_eq_getElem hlt)
  rw [hp] at h1
  injection h1 with h1
  exact ⟨_, List.getElem?_eq_getElem hlt, by rw [h1]; exact h2⟩
theorem SameNo.nd (h : SameNo l l') (hn : Nd l) : Nd l' := fun i j p q hp hq e => by
  obtain ⟨p', hp', e1⟩ := h.back hp
  obtain ⟨q', hq', e2⟩ := h.back hq
  exact hn i j p' q' hp' hq' (by rw [← e1, ← e2, e])
theorem SameNo.find (h : SameNo l l') (n : Int) : findL l' n = findL l n := by
  cases hf : findL l n with
  | none =>
    refine find_none.2 fun p hp => ?_
    obtain ⟨i, hi⟩ := List.mem_iff_getElem?.1 hp
    obtain ⟨q, hq, e⟩ := h.back hi
    rw [e]
    exact find_none.1 hf q (List.mem_of_getElem? hq)
  | some i =>
    obtain ⟨⟨p, hp, e⟩, h2⟩ := find_some.1 hf
    obtain ⟨q, hq, e2⟩ := h.2 i p hp
    refine find_some.2 ⟨⟨q, hq, e2.trans e⟩, fun j hj r hr => ?_⟩
    obtain ⟨r', hr', e3⟩ := h.back hr
    rw [e3]
    exact h2 j hj r' hr'
theorem Clr.same (h : Clr l l') : SameNo l l' := ⟨h.1, fun i p hp => by
  obtain ⟨r, h1, _⟩ := h.2 i p hp
  exact ⟨_, h1, rfl⟩⟩
theorem modify_same {f : P → P} (hp : l[i]? = some p) (hf : (f p).no = p.no) : SameNo l (l.modify i f) := ⟨by simp, fun j q hq => by
  rw [List.getElem?_modify]
  by_cases e : i = j
  · subst e
    rw [hp] at hq
    injection hq with hq
    subst hq
    exact ⟨f p, by simp [hp], hf⟩
  · exact ⟨q, by simp [e, hq], rfl⟩⟩
theorem mem_modify {f : P → P} {q : P} (hp : l[i]? = some p) (h : q ∈ l.modify i f) : q = f p ∨ q ∈ l := by
  obtain ⟨j, hj⟩ := List.mem_iff_getElem?.1 h
  rw [List.getElem?_modify] at hj
  by_cases e : i = j
  · subst e
    rw [hp] at hj
    simp at hj
    exact Or.inl hj.symm
  · simp [e] at hj
    exact Or.inr (List.mem_of_getElem? hj)
theorem modify_at {f : P → P} {j : Nat} {q : P} (h : (l.modify i f)[j]? = some q) : (i = j ∧ ∃ p, l[i]? = some p ∧ q = f p) ∨ (i ≠ j ∧ l[j]? = some q) := by
  rw [List.getElem?_modify] at h
  by_cases e : i = j
  · subst e
    simp at h
    obtain ⟨p, h1, h2⟩ := h
    exact Or.inl ⟨rfl, p, h1, h2.symm⟩
  · simp [e] at h
    exact Or.inr ⟨e, h⟩
theorem nd_snoc (h : Nd l) (hn : ∀ p ∈ l, p.no ≠ x.no) : Nd (l ++ [x]) := fun i j p q hp hq e => by
  have hi := (List.getElem?_eq_some_iff.1 hp).1
  have hj := (List.getElem?_eq_some_iff.1 hq).1
  rw [List.length_append, List.length_singleton] at hi hj
  by_cases h1 : i < l.length
  · rw [List.getElem?_append_left h1] at hp
    by_cases h2 : j < l.length
    · rw [List.getElem?_append_left h2] at hq
      exact h i j p q hp hq e
    · obtain rfl : j = l.length := by omega
      simp at hq
      subst hq
      exact absurd e (hn p (List.mem_of_getElem? hp))
  · obtain rfl : i = l.length := by omega
    simp at hp
    subst hp
    by_cases h2 : j < l.length
    · rw [List.getElem?_append_left h2] at hq
      exact absurd e.symm (hn q (List.mem_of_getElem? hq))
    · omega
theorem nd_set (h : Nd l) (hn : ∀ p ∈ l, p.no ≠ x.no) : Nd (l.set k x) := fun i j p q hp hq e => by
  have hi := (List.getElem?_eq_some_iff.1 hp).1
  have hj := (List.getElem?_eq_some_iff.1 hq).1
  rw [List.length_set] at hi hj
  by_cases h1 : k = i
  · subst h1
    rw [List.getElem?_set_self hi] at hp
    injection hp with hp
    subst hp
    by_cases h2 : k = j
    · exact h2
    · rw [List.getElem?_set_ne h2] at hq
      exact absurd e.symm (hn q (List.mem_of_getElem? hq))
  · rw [List.getElem?_set_ne h1] at hp
    by_cases h2 : k = j
    · subst h2
      rw [List.getElem?_set_self hj] at hq
      injection hq with hq
      subst hq
      exact absurd e (hn p (List.mem_of_getElem? hp))
    · rw [List.getElem?_set_ne h2] at hq
      exact h i j p q hp hq e
/-- What a page that is put finds: its own place, a new one, one that goes, or none. -/
inductive PutCase (c : C) (n : Int) (d : ByteArray) : Prop where
  | own (i : Nat) (p : P) (hf : findL c.l n = some i) (hp : c.l[i]? = some p) (e : putC c n d = ⟨c.l.modify i (over n d), c.h⟩)
  | more (hf : findL c.l n = none) (hl : c.l.length < 8) (e : putC c n d = ⟨c.l ++ [newP n d], c.h⟩)
  | goes (hf : findL c.l n = none) (hl : ¬ c.l.length < 8) (l2 : List P) (k : Nat) (p : P) (hc : Clr c.l l2) (hp : c.l[k]? = some p) (h0 : ¬ 0 < p.pins) (h' : Nat) (hh : h' < c.l.length) (e : putC c n d = ⟨l2.set k (newP n d), h'⟩)
  | stays (hf : findL c.l n = none) (hl : ¬ c.l.length < 8) (l2 : List P) (hc : Clr c.l l2) (hall : ∀ p ∈ c.l, 0 < p.pins) (h' : Nat) (hh : h' < c.l.length) (e : putC c n d = ⟨l2, h'⟩)
theorem put_case (h : Ok m c) (n : Int) (d : ByteArray) : PutCase c n d := by
  cases hf : findL c.l n with
  | some i =>
    have hi := find_lt hf
    exact .own i _ hf (List.getElem?_eq_getElem hi) (by unfold putC; rw [hf])
  | none =>
    by_cases hl : c.l.length < 8
    · exact .more hf hl (by unfold putC; rw [hf]; simp only; rw [if_pos hl])
    · have hh : c.h < c.l.length := by rcases h.hand with e | e <;> omega
      have he : putC c n d = ⟨(spinL (newP n d) (2 * c.l.length) c.l c.h).1, (spinL (newP n d) (2 * c.l.length) c.l c.h).2⟩ := by unfold putC; rw [hf]; simp only; rw [if_neg hl]
      obtain ⟨l2, s1, s2, s3⟩ := spin_spec (x := newP n d) (2 * c.l.length) c.l c.h hh
      by_cases hall : ∀ p ∈ c.l, 0 < p.pins
      · rcases s2 with s2 | ⟨k, p, b1, b2, _⟩
        · exact .stays hf hl l2 s1 hall _ s3 (by rw [he, s2])
        · obtain ⟨q, q1, q2, _⟩ := s1.back b1
          rw [q2] at b2
          exact absurd (hall q (List.mem_of_getElem? q1)) b2
      · obtain ⟨p, hp⟩ := Classical.not_forall.1 hall
        obtain ⟨hp, h0⟩ := Classical.not_imp.1 hp
        obtain ⟨k, hk⟩ := List.mem_iff_getElem?.1 hp
        obtain ⟨e, he1, he2⟩ := ahead hh (List.getElem?_eq_some_iff.1 hk).1
        obtain ⟨k2, q, l3, a1, a2, a3, a4⟩ := spin_far (x := newP n d) e (2 * c.l.length) c.l c.h p hh he1 (by omega) (by rw [he2]; exact hk) h0
        exact .goes hf hl l3 k2 q a1 a2 a3 _ s3 (by rw [he, a4])
theorem Clr.fine (h : Clr l l') (hf : ∀ p ∈ l, FineP m p) : ∀ p ∈ l', FineP m p := fun p hp => by
  obtain ⟨i, hi⟩ := List.mem_iff_getElem?.1 hp
  obtain ⟨q, q1, q2, _⟩ := h.back hi
  have h3 := hf q (List.mem_of_getElem? q1)
  rw [q2]
  exact ⟨h3.p0, h3.p1, h3.d, h3.n0, h3.n1⟩
theorem newP_fine {d : ByteArray} (hd : d.size ≤ 300) (h0 : -9223372036854775808 ≤ n) (h1 : n ≤ 9223372036854775807) : FineP m (newP n d) := ⟨by show (0 : Int) ≤ 0; omega, by show (0 : Int) ≤ (m : Int); omega, hd, h0, h1⟩
theorem Clr.ne (h : Clr l l') (hn : ∀ p ∈ l, p.no ≠ n) : ∀ p ∈ l', p.no ≠ n := fun p hp => by
  obtain ⟨i, hi⟩ := List.mem_iff_getElem?.1 hp
  obtain ⟨q, q1, q2, _⟩ := h.back hi
  rw [q2]
  exact hn q (List.mem_of_getElem? q1)
theorem Ok.put (h : Ok m c) {d : ByteArray} (hd : d.size ≤ 300) (h0 : -9223372036854775808 ≤ n) (h1 : n ≤ 9223372036854775807) : Ok m (putC c n d) := by
  have hnew : FineP m (newP n d) := newP_fine hd h0 h1
  cases put_case h n d with
  | own i p hf hp e =>
    rw [e]
    obtain ⟨⟨p', hp', hn⟩, _⟩ := find_some.1 hf
    rw [hp] at hp'
    injection hp' with hp'
    subst hp'
    have hs := modify_same (f := over n d) hp hn.symm
    refine ⟨hs.nd h.nd, by rw [hs.1]; exact h.len, fun q hq => ?_, by rw [hs.1]; exact h.hand⟩
    rcases mem_modify hp hq with rfl | hq
    · have hfp := h.fine p (List.mem_of_getElem? hp)
      exact ⟨hfp.p0, hfp.p1, hd, h0, h1⟩
    · exact h.fine q hq
  | more hf hl e =>
    rw [e]
    refine ⟨nd_snoc h.nd (find_none.1 hf), by simp; omega, fun q hq => ?_, ?_⟩
    · rcases List.mem_append.1 hq with hq | hq
      · exact h.fine q hq
      · obtain rfl := List.mem_singleton.1 hq
        exact hnew
    · rcases h.hand with e | e
      · exact Or.inl e
      · exact Or.inr (by simp; omega)
  | goes hf hl l2 k p hc hp hp0 h' hh e =>
    rw [e]
    refine ⟨nd_set (hc.same.nd h.nd) (hc.ne (find_none.1 hf)), by rw [List.length_set, hc.1]; exact h.len, fun q hq => ?_, Or.inr (by rw [List.length_set, hc.1]; exact hh)⟩
    rcases List.mem_or_eq_of_mem_set hq with hq | rfl
    · exact hc.fine h.fine q hq
    · exact hnew
  | stays hf hl l2 hc hall h' hh e =>
    rw [e]
    exact ⟨hc.same.nd h.nd, by rw [hc.1]; exact h.len, hc.fine h.fine, Or.inr (by rw [hc.1]; exact hh)⟩
theorem Ok.get (h : Ok m c) (n : Int) : Ok m (getC c n).1 := by
  unfold getC
  cases hf : findL c.l n with
  | none => exact ok_none.mono (Nat.zero_le _)
  | some i =>
    have hp := List.getElem?_eq_getElem (find_lt hf)
    generalize c.l[i]'(find_lt hf) = p at hp
    have hs := modify_same (f := touch) hp rfl
    refine ⟨hs.nd h.nd, by show (c.l.modify i touch).length ≤ 8; rw [hs.1]; exact h.len, fun q hq => ?_, by show c.h = 0 ∨ c.h < (c.l.modify i touch).length; rw [hs.1]; exact h.hand⟩
    rcases mem_modify hp hq with rfl | hq
    · have hfp := h.fine p (List.mem_of_getElem? hp)
      exact ⟨hfp.p0, hfp.p1, hfp.d, hfp.n0, hfp.n1⟩
    · exact h.fine q hq
theorem Ok.pins (h : Ok m c) (n : Int) (more : Bool) : Ok (m + 1) (pinC c n more).1 := by
  unfold pinC
  cases hf : findL c.l n with
  | none => exact ok_none.mono (Nat.zero_le _)
  | some i =>
    have hp := List.getElem?_eq_getElem (find_lt hf)
    generalize c.l[i]'(find_lt hf) = p at hp
    have hs := modify_same (f := hold more) hp rfl
    refine ⟨hs.nd h.nd, by show (c.l.modify i (hold more)).length ≤ 8; rw [hs.1]; exact h.len, fun q hq => ?_, by show c.h = 0 ∨ c.h < (c.l.modify i (hold more)).length; rw [hs.1]; exact h.hand⟩
    rcases mem_modify hp hq with rfl | hq
    · have hfp := h.fine p (List.mem_of_getElem? hp)
      have a := hfp.p0
      have b := hfp.p1
      refine ⟨?_, ?_, hfp.d, hfp.n0, hfp.n1⟩
      · show (0 : Int) ≤ if more then p.pins + 1 else max 0 (p.pins - 1)
        split <;> omega
      · show (if more then p.pins + 1 else max 0 (p.pins - 1)) ≤ ((m + 1 : Nat) : Int)
        split <;> omega
    · exact (h.fine q hq).mono (by omega)
theorem Ok.does (h : Ok m c) {a : A} (ha : FineA a) : Ok (m + 1) (doesC c a).1 := by
  unfold doesC
  split
  · exact (h.put ha.d ha.n0 ha.n1).mono (by omega)
  · split
    · exact (h.get a.no).mono (by omega)
    · split
      · exact h.pins a.no true
      · split
        · exact h.pins a.no false
        · exact h.mono (by omega)
end
end Go.Proofs.Ytjjedadhkdpceaa.Cl
