/- Pages at hand, plainly: found, put, held; the hand's walk round about. No program. -/
namespace Go.Proofs.Ytjjedadhkdpceaa.Cl

/-- A page at hand. -/
structure P where
  no : Int
  data : ByteArray
  ref : Bool
  pins : Int
structure C where
  l : List P
  h : Nat
def findL : List P → Int → Option Nat
  | [], _ => none
  | p :: l, n => if p.no = n then some 0 else (findL l n).map (· + 1)
def resI : Option Nat → Int
  | some i => i
  | none => -1
def touch (p : P) : P := { p with ref := true }
def over (n : Int) (d : ByteArray) (p : P) : P := { p with no := n, data := d, ref := true }
def hold (more : Bool) (p : P) : P := { p with pins := if more then p.pins + 1 else max 0 (p.pins - 1) }
def getC (c : C) (n : Int) : C × ByteArray × Bool :=
  match findL c.l n with
  | none => (⟨[], 0⟩, ⟨#[]⟩, false)
  | some i => (⟨c.l.modify i touch, c.h⟩, ((c.l[i]?).map P.data).getD ⟨#[]⟩, true)
def pinC (c : C) (n : Int) (more : Bool) : C × Bool :=
  match findL c.l n with
  | none => (⟨[], 0⟩, false)
  | some i => (⟨c.l.modify i (hold more), c.h⟩, true)
def spinL (x : P) : Nat → List P → Nat → List P × Nat
  | 0, l, h => (l, h)
  | n + 1, l, h =>
    match l[h]? with
    | none => (l, h)
    | some p => if 0 < p.pins then spinL x n l ((h + 1) % l.length) else if p.ref = true then spinL x n (l.set h { p with ref := false }) ((h + 1) % l.length) else (l.set h x, (h + 1) % l.length)
def newP (n : Int) (d : ByteArray) : P := ⟨n, d, true, 0⟩
def putC (c : C) (n : Int) (d : ByteArray) : C :=
  match findL c.l n with
  | some i => ⟨c.l.modify i (over n d), c.h⟩
  | none => if c.l.length < 8 then ⟨c.l ++ [newP n d], c.h⟩ else ⟨(spinL (newP n d) (2 * c.l.length) c.l c.h).1, (spinL (newP n d) (2 * c.l.length) c.l c.h).2⟩
def sumP (l : List P) : Int := (l.map P.pins).sum
section
variable {l : List P} {n : Int} {i : Nat}
theorem find_none : findL l n = none ↔ ∀ p ∈ l, p.no ≠ n := by
  induction l with
  | nil => simp [findL]
  | cons p l ih =>
    unfold findL
    by_cases h : p.no = n
    · simp [h]
    · simp [h, ih]
theorem find_some : findL l n = some i ↔ (∃ p, l[i]? = some p ∧ p.no = n) ∧ ∀ j < i, ∀ q, l[j]? = some q → q.no ≠ n := by
  induction l generalizing i with
  | nil => simp [findL]
  | cons p l ih =>
    unfold findL
    by_cases h : p.no = n
    · rw [if_pos h]
      constructor
      · intro e
        injection e with e
        subst e
        exact ⟨⟨p, rfl, h⟩, fun j hj => absurd hj (Nat.not_lt_zero _)⟩
      · rintro ⟨_, h2⟩
        cases i with
        | zero => rfl
        | succ i => exact absurd h (h2 0 (Nat.succ_pos _) p rfl)
    · rw [if_neg h]
      cases i with
      | zero =>
        simp only [Option.map_eq_some_iff]
        constructor
        · rintro ⟨a, _, e⟩; omega
        · rintro ⟨⟨q, hq, e⟩, _⟩
          simp at hq
          subst hq
          exact absurd e h
      | succ i =>
        simp only [Option.map_eq_some_iff]
        constructor
        · rintro ⟨a, ha, e⟩
          have : a = i := by omega
          subst this
          obtain ⟨h1, h2⟩ := ih.1 ha
          refine ⟨by simpa using h1, fun j hj q hq => ?_⟩
          cases j with
          | zero => simp at hq; subst hq; exact h
          | succ j => exact h2 j (by omega) q (by simpa using hq)
        · rintro ⟨h1, h2⟩
          exact ⟨i, ih.2 ⟨by simpa using h1, fun j hj q hq => h2 (j + 1) (by omega) q (by simpa using hq)⟩, rfl⟩
theorem find_lt (h : findL l n = some i) : i < l.length := by
  obtain ⟨⟨p, hp, _⟩, _⟩ := find_some.1 h
  exact (List.getElem?_eq_some_iff.1 hp).1
theorem find_is : (findL l n).isSome = true ↔ ∃ p ∈ l, p.no = n := by
  cases h : findL l n with
  | none =>
    have := find_none.1 h
    simp only [Option.isSome_none, Bool.false_eq_true, false_iff]
    rintro ⟨p, hp, e⟩
    exact this p hp e
  | some i =>
    obtain ⟨⟨p, hp, e⟩, _⟩ := find_some.1 h
    simp only [Option.isSome_some, true_iff]
    exact ⟨p, List.mem_of_getElem? hp, e⟩
theorem res_neg (o : Option Nat) : resI o < 0 ↔ o = none := by cases o <;> simp [resI] <;> omega
end
/-- Numbers that are unlike. -/
def Nd (l : List P) : Prop := ∀ (i j : Nat) (p q : P), l[i]? = some p → l[j]? = some q → p.no = q.no → i = j
theorem find_own {l : List P} (h : Nd l) {i : Nat} {p : P} (hp : l[i]? = some p) : findL l p.no = some i := find_some.2 ⟨⟨p, hp, rfl⟩, fun j hj q hq e => by have := h j i q p hq hp e; omega⟩
/-- As before, but that some were asked for no more. -/
def Clr (l l' : List P) : Prop := l'.length = l.length ∧ ∀ (i : Nat) (p : P), l[i]? = some p → ∃ r, l'[i]? = some { p with ref := r } ∧ (r = true → p.ref = true)
section
variable {l l' l2 : List P} {x : P}
theorem Clr.refl (l : List P) : Clr l l := ⟨rfl, fun i p h => ⟨p.ref, h, id⟩⟩
theorem Clr.trans (h : Clr l l') (k : Clr l' l2) : Clr l l2 := ⟨k.1.trans h.1, fun i p hp => by
  obtain ⟨r, h1, h2⟩ := h.2 i p hp
  obtain ⟨r', h3, h4⟩ := k.2 i _ h1
  exact ⟨r', h3, fun e => h2 (h4 e)⟩⟩
theorem Clr.one {i : Nat} {p : P} (h : l[i]? = some p) : Clr l (l.set i { p with ref := false }) := ⟨List.length_set, fun j q hq => by
  have hlt := (List.getElem?_eq_some_iff.1 h).1
  by_cases e : i = j
  · subst e
    rw [h] at hq
    injection hq with hq
    subst hq
    exact ⟨false, List.getElem?_set_self hlt, fun e => by cases e⟩
  · exact ⟨q.ref, by rw [List.getElem?_set_ne e]; exact hq, id⟩⟩
theorem Clr.back (h : Clr l l') {i : Nat} {p : P} (hp : l'[i]? = some p) : ∃ q, l[i]? = some q ∧ p = { q with ref := p.ref } ∧ (p.ref = true → q.ref = true) := by
  have hlt := (List.getElem?_eq_some_iff.1 hp).1
  rw [h.1] at hlt
  obtain ⟨r, h1, h2⟩ := h.2 i _ (List.getElem?_eq_getElem hlt)
  rw [hp] at h1
  injection h1 with h1
  exact ⟨_, List.getElem?_eq_getElem hlt, by rw [h1], by rw [h1]; exact h2⟩
/-- What the walk leaves. -/
theorem spin_spec : ∀ (n : Nat) (l : List P) (h : Nat), h < l.length → ∃ l2, Clr l l2 ∧ ((spinL x n l h).1 = l2 ∨ ∃ k p, l2[k]? = some p ∧ ¬ 0 < p.pins ∧ (spinL x n l h).1 = l2.set k x) ∧ (spinL x n l h).2 < l.length
  | 0, l, h, hh => ⟨l, Clr.refl l, Or.inl rfl, hh⟩
  | n + 1, l, h, hh => by
    have hg : l[h]? = some l[h] := List.getElem?_eq_getElem hh
    generalize l[h] = p at hg
    have hm : (h + 1) % l.length < l.length := Nat.mod_lt _ (by omega)
    unfold spinL
    rw [hg]
    simp only
    by_cases h1 : 0 < p.pins
    · rw [if_pos h1]
      exact spin_spec n l _ hm
    · rw [if_neg h1]
      by_cases h2 : p.ref = true
      · rw [if_pos h2]
        obtain ⟨l2, h3, h4, h5⟩ := spin_spec n (l.set h { p with ref := false }) ((h + 1) % l.length) (by rw [List.length_set]; exact hm)
        rw [List.length_set] at h5
        exact ⟨l2, (Clr.one hg).trans h3, h4, h5⟩
      · rw [if_neg h2]
        exact ⟨l, Clr.refl l, Or.inr ⟨h, p, hg, h1, rfl⟩, hm⟩
theorem mod_step {h d N : Nat} (hN : h < N) (hd : 0 < d) (hd2 : d < N) : ((h + 1) % N + (d - 1)) % N = (h + d) % N ∧ (h + d) % N ≠ h := by
  constructor
  · rw [Nat.mod_add_mod]
    congr 1
    omega
  · by_cases h1 : h + d < N
    · rw [Nat.mod_eq_of_lt h1]; omega
    · rw [Nat.mod_eq_sub_mod (by omega), Nat.mod_eq_of_lt (by omega)]; omega
/-- One that nobody holds, and that wasn't asked for: it goes, or one like it ahead of it. -/
theorem spin_near : ∀ (d n : Nat) (l : List P) (h : Nat) (p : P), h < l.length → d < l.length → d < n → l[(h + d) % l.length]? = some p → ¬ 0 < p.pins → p.ref = false →
    ∃ e k q l2, e ≤ d ∧ k = (h + e) % l.length ∧ Clr l l2 ∧ l[k]? = some q ∧ ¬ 0 < q.pins ∧ q.ref = false ∧ (spinL x n l h).1 = l2.set k x
  | d, 0, _, _, _, _, _, hn, _, _, _ => absurd hn (Nat.not_lt_zero _)
  | d, n + 1, l, h, p, hh, hd, hn, hp, h1, h2 => by
    have hg : l[h]? = some l[h] := List.getElem?_eq_getElem hh
    generalize l[h] = p0 at hg
    have hm : (h + 1) % l.length < l.length := Nat.mod_lt _ (by omega)
    unfold spinL
    rw [hg]
    simp only
    by_cases hgo : 0 < p0.pins ∨ p0.ref = true
    · have hd0 : 0 < d := by
        rcases Nat.eq_zero_or_pos d with e | e
        · subst e
          rw [Nat.add_zero, Nat.mod_eq_of_lt hh, hg] at hp
          injection hp with hp
          subst hp
          rcases hgo with hgo | hgo
          · exact absurd hgo h1
          · rw [h2] at hgo; cases hgo
        · exact e
      obtain ⟨m1, m2⟩ := mod_step hh hd0 hd
      by_cases h3 : 0 < p0.pins
      · rw [if_pos h3]
        obtain ⟨e, k, q, l2, a1, a2, a3, a4, a5, a6, a7⟩ := spin_near (d - 1) n l ((h + 1) % l.length) p hm (by omega) (by omega) (by rw [m1]; exact hp) h1 h2
        exact ⟨e + 1, k, q, l2, by omega, by rw [a2, Nat.mod_add_mod, show h + 1 + e = h + (e + 1) by omega], a3, a4, a5, a6, a7⟩
      · rw [if_neg h3, if_pos (hgo.resolve_left h3)]
        have hlen : (l.set h { p0 with ref := false }).length = l.length := List.length_set
        obtain ⟨e, k, q, l2, a1, a2, a3, a4, a5, a6, a7⟩ := spin_near (d - 1) n (l.set h { p0 with ref := false }) ((h + 1) % l.length) p (by rw [hlen]; exact hm) (by rw [hlen]; omega) (by omega) (by rw [hlen, m1, List.getElem?_set_ne (Ne.symm m2)]; exact hp) h1 h2
        rw [hlen] at a2
        have a2' : k = (h + (e + 1)) % l.length := by rw [a2, Nat.mod_add_mod, show h + 1 + e = h + (e + 1) by omega]
        have hk : h ≠ k := by
          rw [a2']
          exact Ne.symm (mod_step hh (Nat.succ_pos e) (by omega)).2
        rw [List.getElem?_set_ne hk] at a4
        exact ⟨e + 1, k, q, l2, by omega, a2', (Clr.one hg).trans a3, a4, a5, a6, a7⟩
    · have h3 : ¬ 0 < p0.pins := fun e => hgo (Or.inl e)
      have h4 : ¬ p0.ref = true := fun e => hgo (Or.inr e)
      rw [if_neg h3, if_neg h4]
      exact ⟨0, h, p0, l, Nat.zero_le _, by rw [Nat.add_zero, Nat.mod_eq_of_lt hh], Clr.refl l, hg, h3, by simpa using h4, rfl⟩
/-- One that nobody holds: it goes, or another one. -/
theorem spin_far : ∀ (d n : Nat) (l : List P) (h : Nat) (p : P), h < l.length → d < l.length → d + 1 + l.length ≤ n → l[(h + d) % l.length]? = some p → ¬ 0 < p.pins →
    ∃ k q l2, Clr l l2 ∧ l[k]? = some q ∧ ¬ 0 < q.pins ∧ (spinL x n l h).1 = l2.set k x
  | d, 0, _, _, _, _, _, hn, _, _ => absurd hn (by omega)
  | d, n + 1, l, h, p, hh, hd, hn, hp, h1 => by
    have hg : l[h]? = some l[h] := List.getElem?_eq_getElem hh
    generalize l[h] = p0 at hg
    have hm : (h + 1) % l.length < l.length := Nat.mod_lt _ (by omega)
    by_cases hgo : 0 < p0.pins ∨ p0.ref = true
    · by_cases hd0 : d = 0
      · subst hd0
        rw [Nat.add_zero, Nat.mod_eq_of_lt hh, hg] at hp
        injection hp with hp
        subst hp
        have h5 := hgo.resolve_left h1
        unfold spinL
        rw [hg]
        simp only
        rw [if_neg h1, if_pos h5]
        have hlen : (l.set h { p0 with ref := false }).length = l.length := List.length_set
        have hback : ((h + 1) % l.length + (l.length - 1)) % l.length = h := by
          rw [Nat.mod_add_mod, show h + 1 + (l.length - 1) = h + l.length by omega, Nat.add_mod_right, Nat.mod_eq_of_lt hh]
        obtain ⟨e, k, q, l2, _, _, a3, a4, a5, _, a7⟩ := spin_near (x := x) (l.length - 1) n (l.set h { p0 with ref := false }) ((h + 1) % l.length) { p0 with ref := false } (by rw [hlen]; exact hm) (by rw [hlen]; omega) (by omega) (by rw [hlen, hback, List.getElem?_set_self hh]) h1 rfl
        obtain ⟨q', b1, b2, _⟩ := (Clr.one hg).back a4
        exact ⟨k, q', l2, (Clr.one hg).trans a3, b1, by rw [b2] at a5; exact a5, a7⟩
      · obtain ⟨m1, m2⟩ := mod_step hh (by omega) hd
        unfold spinL
        rw [hg]
        simp only
        by_cases h3 : 0 < p0.pins
        · rw [if_pos h3]
          exact spin_far (d - 1) n l ((h + 1) % l.length) p hm (by omega) (by omega) (by rw [m1]; exact hp) h1
        · rw [if_neg h3, if_pos (hgo.resolve_left h3)]
          have hlen : (l.set h { p0 with ref := false }).length = l.length := List.length_set
          obtain ⟨k, q, l2, a3, a4, a5, a7⟩ := spin_far (d - 1) n (l.set h { p0 with ref := false }) ((h + 1) % l.length) p (by rw [hlen]; exact hm) (by rw [hlen]; omega) (by rw [hlen]; omega) (by rw [hlen, m1, List.getElem?_set_ne (Ne.symm m2)]; exact hp) h1
          obtain ⟨q', b1, b2, _⟩ := (Clr.one hg).back a4
          exact ⟨k, q', l2, (Clr.one hg).trans a3, b1, by rw [b2] at a5; exact a5, a7⟩
    · have h3 : ¬ 0 < p0.pins := fun e => hgo (Or.inl e)
      have h4 : ¬ p0.ref = true := fun e => hgo (Or.inr e)
      unfold spinL
      rw [hg]
      simp only
      rw [if_neg h3, if_neg h4]
      exact ⟨h, p0, l, Clr.refl l, hg, h3, rfl⟩
/-- Each place is some way ahead of the hand. -/
theorem ahead {N h k : Nat} (hh : h < N) (hk : k < N) : ∃ d < N, (h + d) % N = k := by
  by_cases e : h ≤ k
  · exact ⟨k - h, by omega, by rw [show h + (k - h) = k by omega, Nat.mod_eq_of_lt hk]⟩
  · exact ⟨k + N - h, by omega, by rw [show h + (k + N - h) = k + N by omega, Nat.add_mod_right, Nat.mod_eq_of_lt hk]⟩
end
end Go.Proofs.Ytjjedadhkdpceaa.Cl
