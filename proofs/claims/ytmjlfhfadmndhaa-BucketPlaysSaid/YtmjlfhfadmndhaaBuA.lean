/- Buckets, plainly: entries by their keys; put, found, dropped; the order in which they come. No program. -/
import Derived.Test.YtmjlfhfadmndhaaLsA
namespace Go.Proofs.Ytmjlfhfadmndhaa.Bu
open Go.RowKit Ls

/-- An entry: its key, its tile, its slot. -/
structure E where
  key : ByteArray
  t : Int
  s : Int
def E.k (e : E) : List UInt8 := e.key.data.toList
def lt (a b : List UInt8) : Prop := Op.bytesLess a b = true
instance (a b : List UInt8) : Decidable (lt a b) := inferInstanceAs (Decidable (_ = true))
theorem lt_irrefl (a : List UInt8) : ¬ lt a a := by unfold lt; rw [less_irrefl]; simp
theorem lt_trans {a b c : List UInt8} (h : lt a b) (h' : lt b c) : lt a c := less_trans a b c h h'
theorem lt_asymm {a b : List UInt8} (h : lt a b) : ¬ lt b a := by unfold lt; rw [less_asymm a b h]; simp
theorem lt_total (a b : List UInt8) : lt a b ∨ a = b ∨ lt b a := by
  by_cases h : lt a b
  · exact Or.inl h
  · by_cases h' : lt b a
    · exact Or.inr (Or.inr h')
    · refine Or.inr (Or.inl (less_total a b ?_ ?_))
      · cases hb : Op.bytesLess a b
        · rfl
        · exact absurd hb h
      · cases hb : Op.bytesLess b a
        · rfl
        · exact absurd hb h'
theorem lt_ne {a b : List UInt8} (h : lt a b) : a ≠ b := fun e => by subst e; exact lt_irrefl a h
theorem key_ext {a b : E} (h : a.k = b.k) : a.key = b.key := Pac.bytesEq' h

/-- Keys rise. -/
def Rises (b : List E) : Prop := b.Pairwise (fun x y => lt x.k y.k)
/-- In its place; one of the same key goes. -/
def putL : List E → E → List E
  | [], e => [e]
  | x :: l, e => if lt x.k e.k then x :: putL l e else if x.k = e.k then e :: l else e :: x :: l
def dropL (b : List E) (k : List UInt8) : List E := b.filter (fun x => !decide (x.k = k))
def findL : List E → List UInt8 → Option E
  | [], _ => none
  | x :: l, k => if x.k = k then some x else findL l k
theorem find_some {k : List UInt8} : ∀ {b : List E} {e : E}, findL b k = some e → e ∈ b ∧ e.k = k
  | [], e, h => by cases h
  | x :: l, e, h => by
    unfold findL at h
    split at h
    · rename_i hk
      injection h with h
      subst h
      exact ⟨List.mem_cons_self .., hk⟩
    · obtain ⟨a, c⟩ := find_some h
      exact ⟨List.mem_cons_of_mem _ a, c⟩
theorem find_none {k : List UInt8} : ∀ {b : List E}, findL b k = none ↔ ∀ e ∈ b, e.k ≠ k
  | [] => by simp [findL]
  | x :: l => by
    unfold findL
    split
    · rename_i hk
      constructor
      · intro h; cases h
      · intro h; exact absurd hk (h x (List.mem_cons_self ..))
    · rename_i hk
      rw [find_none (b := l)]
      constructor
      · intro h e he
        rcases List.mem_cons.1 he with rfl | he
        · exact hk
        · exact h e he
      · intro h e he
        exact h e (List.mem_cons_of_mem _ he)
theorem rises_one {b : List E} (h : Rises b) {x y : E} (hx : x ∈ b) (hy : y ∈ b) (he : x.k = y.k) : x = y := by
  induction b with
  | nil => cases hx
  | cons a l ih =>
    have h' := List.pairwise_cons.1 h
    rcases List.mem_cons.1 hx with h1 | h1
    · rcases List.mem_cons.1 hy with h2 | h2
      · rw [h1, h2]
      · rw [h1] at he
        exact absurd he (lt_ne (h'.1 y h2))
    · rcases List.mem_cons.1 hy with h2 | h2
      · rw [h2] at he
        exact absurd he.symm (lt_ne (h'.1 x h1))
      · exact ih h'.2 h1 h2
theorem find_of {b : List E} (h : Rises b) {e : E} (he : e ∈ b) : findL b e.k = some e := by
  cases hf : findL b e.k with
  | none => exact absurd rfl (find_none.1 hf e he)
  | some x =>
    obtain ⟨h1, h2⟩ := find_some hf
    rw [rises_one h h1 he h2]
theorem mem_put : ∀ {b : List E} {e : E}, Rises b → ∀ x, x ∈ putL b e ↔ x = e ∨ (x ∈ b ∧ x.k ≠ e.k)
  | [], e, _, x => by simp [putL]
  | y :: l, e, h, x => by
    have h' := List.pairwise_cons.1 h
    unfold putL
    split
    · rename_i hy
      rw [List.mem_cons, mem_put h'.2 x, List.mem_cons]
      constructor
      · rintro (rfl | rfl | ⟨h1, h2⟩)
        · exact Or.inr ⟨Or.inl rfl, lt_ne hy⟩
        · exact Or.inl rfl
        · exact Or.inr ⟨Or.inr h1, h2⟩
      · rintro (rfl | ⟨rfl | h1, h2⟩)
        · exact Or.inr (Or.inl rfl)
        · exact Or.inl rfl
        · exact Or.inr (Or.inr ⟨h1, h2⟩)
    · rename_i hy
      split
      · rename_i hk
        rw [List.mem_cons, List.mem_cons]
        constructor
        · rintro (rfl | h1)
          · exact Or.inl rfl
          · refine Or.inr ⟨Or.inr h1, fun e2 => ?_⟩
            have := h'.1 x h1
            rw [e2, ← hk] at this
            exact lt_irrefl _ this
        · rintro (rfl | ⟨rfl | h1, h2⟩)
          · exact Or.inl rfl
          · exact absurd hk h2
          · exact Or.inr h1
      · rename_i hk
        have hey : lt e.k y.k := by
          rcases lt_total y.k e.k with h1 | h1 | h1
          · exact absurd h1 hy
          · exact absurd h1 hk
          · exact h1
        rw [List.mem_cons, List.mem_cons]
        constructor
        · rintro (rfl | rfl | h1)
          · exact Or.inl rfl
          · exact Or.inr ⟨Or.inl rfl, hk⟩
          · refine Or.inr ⟨Or.inr h1, fun e2 => ?_⟩
            have := lt_trans hey (h'.1 x h1)
            rw [e2] at this
            exact lt_irrefl _ this
        · rintro (rfl | ⟨h1, _⟩)
          · exact Or.inl rfl
          · exact Or.inr h1
theorem rises_put : ∀ {b : List E} {e : E}, Rises b → Rises (putL b e)
  | [], e, _ => List.pairwise_singleton _ _
  | y :: l, e, h => by
    have h' := List.pairwise_cons.1 h
    unfold putL
    split
    · rename_i hy
      refine List.pairwise_cons.2 ⟨fun x hx => ?_, rises_put h'.2⟩
      rcases (mem_put h'.2 x).1 hx with rfl | ⟨h1, _⟩
      · exact hy
      · exact h'.1 x h1
    · rename_i hy
      split
      · rename_i hk
        refine List.pairwise_cons.2 ⟨fun x hx => ?_, h'.2⟩
        rw [← hk]
        exact h'.1 x hx
      · rename_i hk
        have hey : lt e.k y.k := by
          rcases lt_total y.k e.k with h1 | h1 | h1
          · exact absurd h1 hy
          · exact absurd h1 hk
          · exact h1
        refine List.pairwise_cons.2 ⟨fun x hx => ?_, h⟩
        rcases List.mem_cons.1 hx with rfl | hx
        · exact hey
        · exact lt_trans hey (h'.1 x hx)
theorem find_put {b : List E} {e : E} (h : Rises b) : findL (putL b e) e.k = some e := find_of (rises_put h) ((mem_put h e).2 (Or.inl rfl))
theorem find_put_other {b : List E} {e : E} (h : Rises b) {k : List UInt8} (hk : k ≠ e.k) : findL (putL b e) k = findL b k := by
  cases hf : findL b k with
  | none =>
    refine find_none.2 fun x hx => ?_
    rcases (mem_put h x).1 hx with rfl | ⟨h1, _⟩
    · exact Ne.symm hk
    · exact find_none.1 hf x h1
  | some x =>
    obtain ⟨h1, h2⟩ := find_some hf
    rw [← h2]
    exact find_of (rises_put h) ((mem_put h x).2 (Or.inr ⟨h1, by rw [h2]; exact hk⟩))
theorem mem_drop {b : List E} {k : List UInt8} (x : E) : x ∈ dropL b k ↔ x ∈ b ∧ x.k ≠ k := by
  unfold dropL
  rw [List.mem_filter]
  simp
theorem rises_drop {b : List E} (h : Rises b) (k : List UInt8) : Rises (dropL b k) := List.Pairwise.sublist List.filter_sublist h
theorem find_drop {b : List E} (k : List UInt8) : findL (dropL b k) k = none := find_none.2 fun x hx => ((mem_drop x).1 hx).2
theorem find_drop_other {b : List E} (h : Rises b) {k k' : List UInt8} (hk : k' ≠ k) : findL (dropL b k) k' = findL b k' := by
  cases hf : findL b k' with
  | none => exact find_none.2 fun x hx => find_none.1 hf x ((mem_drop x).1 hx).1
  | some x =>
    obtain ⟨h1, h2⟩ := find_some hf
    rw [← h2]
    exact find_of (rises_drop h k) ((mem_drop x).2 ⟨h1, by rw [h2]; exact hk⟩)
theorem len_put : ∀ (b : List E) (e : E), b.length ≤ (putL b e).length ∧ (putL b e).length ≤ b.length + 1
  | [], _ => by simp [putL]
  | y :: l, e => by
    have ih := len_put l e
    unfold putL
    split
    · simp only [List.length_cons]; omega
    · split <;> simp only [List.length_cons] <;> omega
/-- A key that is there goes: one fewer. -/
theorem len_drop : ∀ {b : List E} {e : E}, Rises b → e ∈ b → (dropL b e.k).length + 1 = b.length
  | [], e, _, he => by cases he
  | y :: l, e, h, he => by
    have h' := List.pairwise_cons.1 h
    unfold dropL
    rw [List.filter_cons]
    by_cases hk : y.k = e.k
    · rw [if_neg (by simp [hk]), List.length_cons]
      have hall : l.filter (fun x => !decide (x.k = e.k)) = l := List.filter_eq_self.2 fun x hx => by
        have := lt_ne (h'.1 x hx)
        rw [hk] at this
        simp [Ne.symm this]
      rw [hall]
    · rw [if_pos (by simp [hk]), List.length_cons, List.length_cons]
      have hel : e ∈ l := by
        rcases List.mem_cons.1 he with rfl | he
        · exact absurd rfl hk
        · exact he
      have := len_drop h'.2 hel
      unfold dropL at this
      omega
/-- Rising ones of the same entries are the same. -/
theorem rises_unique : ∀ {a b : List E}, Rises a → Rises b → (∀ x, x ∈ a ↔ x ∈ b) → a = b
  | [], [], _, _, _ => rfl
  | [], y :: b, _, _, h => by have := (h y).2 (List.mem_cons_self ..); cases this
  | x :: a, [], _, _, h => by have := (h x).1 (List.mem_cons_self ..); cases this
  | x :: a, y :: b, ha, hb, h => by
    have ha' := List.pairwise_cons.1 ha
    have hb' := List.pairwise_cons.1 hb
    have hxy : x = y := by
      rcases List.mem_cons.1 ((h x).1 (List.mem_cons_self ..)) with e | e
      · exact e
      · rcases List.mem_cons.1 ((h y).2 (List.mem_cons_self ..)) with e2 | e2
        · exact e2.symm
        · exact absurd (ha'.1 y e2) (lt_asymm (hb'.1 x e))
    subst hxy
    rw [rises_unique ha'.2 hb'.2 (fun z => ?_)]
    constructor
    · intro hz
      rcases List.mem_cons.1 ((h z).1 (List.mem_cons_of_mem _ hz)) with e | e
      · subst e; exact absurd (ha'.1 z hz) (lt_irrefl _)
      · exact e
    · intro hz
      rcases List.mem_cons.1 ((h z).2 (List.mem_cons_of_mem _ hz)) with e | e
      · subst e; exact absurd (hb'.1 z hz) (lt_irrefl _)
      · exact e
/-- All that come are put, one behind the other. -/
def puts (b : List E) (l : List E) : List E := l.foldl putL b
theorem puts_snoc (b l : List E) (e : E) : puts b (l ++ [e]) = putL (puts b l) e := by unfold puts; simp
theorem rises_puts : ∀ (l : List E) {b : List E}, Rises b → Rises (puts b l)
  | [], _, h => h
  | _ :: l, _, h => rises_puts l (rises_put h)
/-- Of unlike keys all are there. -/
theorem mem_puts : ∀ (l : List E) {b : List E}, Rises b → l.Pairwise (fun x y => x.k ≠ y.k) → ∀ x, x ∈ puts b l ↔ x ∈ l ∨ (x ∈ b ∧ ∀ e ∈ l, x.k ≠ e.k)
  | [], b, _, _, x => by simp [puts]
  | e :: l, b, h, hl, x => by
    have hl' := List.pairwise_cons.1 hl
    show x ∈ puts (putL b e) l ↔ _
    rw [mem_puts l (rises_put h) hl'.2 x, mem_put h x, List.mem_cons]
    constructor
    · rintro (h1 | ⟨rfl | ⟨h1, h2⟩, h3⟩)
      · exact Or.inl (Or.inr h1)
      · exact Or.inl (Or.inl rfl)
      · refine Or.inr ⟨h1, fun y hy => ?_⟩
        rcases List.mem_cons.1 hy with rfl | hy
        · exact h2
        · exact h3 y hy
    · rintro ((rfl | h1) | ⟨h1, h2⟩)
      · exact Or.inr ⟨Or.inl rfl, fun y hy => hl'.1 y hy⟩
      · exact Or.inl h1
      · exact Or.inr ⟨Or.inr ⟨h1, h2 e (List.mem_cons_self ..)⟩, fun y hy => h2 y (List.mem_cons_of_mem _ hy)⟩
theorem rises_nil : Rises [] := List.Pairwise.nil
theorem unlike_perm {l l' : List E} (h : l.Pairwise (fun x y => x.k ≠ y.k)) (hp : l.Perm l') : l'.Pairwise (fun x y => x.k ≠ y.k) :=
  hp.pairwise h (fun {_ _} hne => Ne.symm hne)
/-- In whatever order they come. -/
theorem puts_perm {l l' : List E} (h : l.Pairwise (fun x y => x.k ≠ y.k)) (hp : l.Perm l') : puts [] l = puts [] l' := by
  refine rises_unique (rises_puts l rises_nil) (rises_puts l' rises_nil) fun x => ?_
  rw [mem_puts l rises_nil h x, mem_puts l' rises_nil (unlike_perm h hp) x, hp.mem_iff]
  simp
theorem len_puts : ∀ (l : List E) {b : List E}, Rises b → l.Pairwise (fun x y => x.k ≠ y.k) → (∀ x ∈ b, ∀ e ∈ l, x.k ≠ e.k) → (puts b l).length = b.length + l.length
  | [], b, _, _, _ => rfl
  | e :: l, b, h, hl, hd => by
    have hl' := List.pairwise_cons.1 hl
    show (puts (putL b e) l).length = _
    rw [len_puts l (rises_put h) hl'.2 (fun x hx y hy => ?_)]
    · have h1 : (dropL (putL b e) e.k).length + 1 = (putL b e).length := len_drop (rises_put h) ((mem_put h e).2 (Or.inl rfl))
      have h2 : dropL (putL b e) e.k = b := rises_unique (rises_drop (rises_put h) _) h fun x => by
        rw [mem_drop, mem_put h x]
        constructor
        · rintro ⟨rfl | ⟨h3, _⟩, h4⟩
          · exact absurd rfl h4
          · exact h3
        · intro h3
          have := hd x h3 e (List.mem_cons_self ..)
          exact ⟨Or.inr ⟨h3, this⟩, this⟩
      rw [h2] at h1
      rw [← h1, List.length_cons]
      omega
    · rcases (mem_put h x).1 hx with rfl | ⟨h1, _⟩
      · exact hl'.1 y hy
      · exact hd x h1 y (List.mem_cons_of_mem _ hy)
end Go.Proofs.Ytmjlfhfadmndhaa.Bu
