/- Texts LsA, BuA, BuB, one behind the other. -/
import Derived.Test.YtocmkjccaajnnaaMgP
/- The order of bytes. No program. -/
namespace Go.Proofs.Ytocmkjccaajnnaa.Ls
open Go.RowKit

theorem less_irrefl (l : List UInt8) : Op.bytesLess l l = false := by
  induction l with
  | nil => rfl
  | cons a l ih => simp [Op.bytesLess, ih]
theorem less_cons (a b : UInt8) (l m : List UInt8) : Op.bytesLess (a :: l) (b :: m) = true ↔ a.toNat < b.toNat ∨ (a = b ∧ Op.bytesLess l m = true) := by
  simp only [Op.bytesLess, Bool.or_eq_true, decide_eq_true_eq, Bool.and_eq_true, beq_iff_eq, UInt8.lt_iff_toNat_lt]
theorem less_asymm : ∀ (l m : List UInt8), Op.bytesLess l m = true → Op.bytesLess m l = false
  | [], [], h => by simp [Op.bytesLess] at h
  | [], _ :: _, _ => by simp [Op.bytesLess]
  | _ :: _, [], h => by simp [Op.bytesLess] at h
  | a :: l, b :: m, h => by
    have ih := less_asymm l m
    cases e : Op.bytesLess (b :: m) (a :: l) with
    | false => rfl
    | true =>
      rw [less_cons] at h e
      rcases h with h | ⟨rfl, h⟩
      · rcases e with e | ⟨rfl, _⟩
        · omega
        · omega
      · rcases e with e | ⟨_, e⟩
        · omega
        · rw [ih h] at e; cases e
theorem less_trans : ∀ (l m r : List UInt8), Op.bytesLess l m = true → Op.bytesLess m r = true → Op.bytesLess l r = true
  | _, [], _, h, _ => by simp [Op.bytesLess] at h
  | _, _ :: _, [], _, h => by simp [Op.bytesLess] at h
  | [], _ :: _, _ :: _, _, _ => by simp [Op.bytesLess]
  | a :: l, b :: m, c :: r, h, h' => by
    have ih := less_trans l m r
    rw [less_cons] at h h' ⊢
    rcases h with h | ⟨rfl, h⟩
    · rcases h' with h' | ⟨rfl, _⟩
      · exact Or.inl (by omega)
      · exact Or.inl h
    · rcases h' with h' | ⟨rfl, h'⟩
      · exact Or.inl h'
      · exact Or.inr ⟨rfl, ih h h'⟩
theorem less_total : ∀ (l m : List UInt8), Op.bytesLess l m = false → Op.bytesLess m l = false → l = m
  | [], [], _, _ => rfl
  | [], _ :: _, h, _ => by simp [Op.bytesLess] at h
  | _ :: _, [], _, h => by simp [Op.bytesLess] at h
  | a :: l, b :: m, h, h' => by
    have ih := less_total l m
    have n1 : ¬ (a.toNat < b.toNat ∨ (a = b ∧ Op.bytesLess l m = true)) := by rw [← less_cons, h]; simp
    have n2 : ¬ (b.toNat < a.toNat ∨ (b = a ∧ Op.bytesLess m l = true)) := by rw [← less_cons, h']; simp
    have e : a = b := UInt8.toNat_inj.1 (by omega)
    subst e
    have e1 : Op.bytesLess l m = false := by
      cases q : Op.bytesLess l m with
      | false => rfl
      | true => exact absurd (Or.inr ⟨rfl, q⟩) n1
    have e2 : Op.bytesLess m l = false := by
      cases q : Op.bytesLess m l with
      | false => rfl
      | true => exact absurd (Or.inr ⟨rfl, q⟩) n2
    rw [ih e1 e2]
end Go.Proofs.Ytocmkjccaajnnaa.Ls

/- Buckets, plainly: entries by their keys; put, found, dropped; the order in which they come. No program. -/
namespace Go.Proofs.Ytocmkjccaajnnaa.Bu
open Go.RowKit Ls

/-- An entry: its key, its tile, its slot. -/
structure E where
  key : ByteArray
  t : Int
  s : Int
def E.k (e : E) : List UInt8 := e.key.data.toList
def lt (a b : List UInt8) : Prop := Op.bytesLess a b = true
instance (a b : List UInt8) : Decidable (lt a b) := inferInstanceAs (Decidable (_ = true))
theorem lt_irrefl (a : List UInt8) : ¬ lt a a := by unfold lt; rw [less_irrefl]; simp
theorem lt_trans {a b c : List UInt8} (h : lt a b) (h' : lt b c) : lt a c := less_trans a b c h h'
theorem lt_asymm {a b : List UInt8} (h : lt a b) : ¬ lt b a := by unfold lt; rw [less_asymm a b h]; simp
theorem lt_total (a b : List UInt8) : lt a b ∨ a = b ∨ lt b a := by
  by_cases h : lt a b
  · exact Or.inl h
  · by_cases h' : lt b a
    · exact Or.inr (Or.inr h')
    · refine Or.inr (Or.inl (less_total a b ?_ ?_))
      · cases hb : Op.bytesLess a b
        · rfl
        · exact absurd hb h
      · cases hb : Op.bytesLess b a
        · rfl
        · exact absurd hb h'
theorem lt_ne {a b : List UInt8} (h : lt a b) : a ≠ b := fun e => by subst e; exact lt_irrefl a h
/-- Keys rise. -/
def Rises (b : List E) : Prop := b.Pairwise (fun x y => lt x.k y.k)
/-- In its place; one of the same key goes. -/
def putL : List E → E → List E
  | [], e => [e]
  | x :: l, e => if lt x.k e.k then x :: putL l e else if x.k = e.k then e :: l else e :: x :: l
def dropL (b : List E) (k : List UInt8) : List E := b.filter (fun x => !decide (x.k = k))
def findL : List E → List UInt8 → Option E
  | [], _ => none
  | x :: l, k => if x.k = k then some x else findL l k
theorem find_some {k : List UInt8} : ∀ {b : List E} {e : E}, findL b k = some e → e ∈ b ∧ e.k = k
  | [], e, h => by cases h
  | x :: l, e, h => by
    unfold findL at h
    split at h
    · rename_i hk
      injection h with h
      subst h
      exact ⟨List.mem_cons_self .., hk⟩
    · obtain ⟨a, c⟩ := find_some h
      exact ⟨List.mem_cons_of_mem _ a, c⟩
theorem find_none {k : List UInt8} : ∀ {b : List E}, findL b k = none ↔ ∀ e ∈ b, e.k ≠ k
  | [] => by simp [findL]
  | x :: l => by
    unfold findL
    split
    · rename_i hk
      constructor
      · intro h; cases h
      · intro h; exact absurd hk (h x (List.mem_cons_self ..))
    · rename_i hk
      rw [find_none (b := l)]
      constructor
      · intro h e he
        rcases List.mem_cons.1 he with rfl | he
        · exact hk
        · exact h e he
      · intro h e he
        exact h e (List.mem_cons_of_mem _ he)
theorem rises_one {b : List E} (h : Rises b) {x y : E} (hx : x ∈ b) (hy : y ∈ b) (he : x.k = y.k) : x = y := by
  induction b with
  | nil => cases hx
  | cons a l ih =>
    have h' := List.pairwise_cons.1 h
    rcases List.mem_cons.1 hx with h1 | h1
    · rcases List.mem_cons.1 hy with h2 | h2
      · rw [h1, h2]
      · rw [h1] at he
        exact absurd he (lt_ne (h'.1 y h2))
    · rcases List.mem_cons.1 hy with h2 | h2
      · rw [h2] at he
        exact absurd he.symm (lt_ne (h'.1 x h1))
      · exact ih h'.2 h1 h2
theorem find_of {b : List E} (h : Rises b) {e : E} (he : e ∈ b) : findL b e.k = some e := by
  cases hf : findL b e.k with
  | none => exact absurd rfl (find_none.1 hf e he)
  | some x =>
    obtain ⟨h1, h2⟩ := find_some hf
    rw [rises_one h h1 he h2]
theorem mem_put : ∀ {b : List E} {e : E}, Rises b → ∀ x, x ∈ putL b e ↔ x = e ∨ (x ∈ b ∧ x.k ≠ e.k)
  | [], e, _, x => by simp [putL]
  | y :: l, e, h, x => by
    have h' := List.pairwise_cons.1 h
    unfold putL
    split
    · rename_i hy
      rw [List.mem_cons, mem_put h'.2 x, List.mem_cons]
      constructor
      · rintro (rfl | rfl | ⟨h1, h2⟩)
        · exact Or.inr ⟨Or.inl rfl, lt_ne hy⟩
        · exact Or.inl rfl
        · exact Or.inr ⟨Or.inr h1, h2⟩
      · rintro (rfl | ⟨rfl | h1, h2⟩)
        · exact Or.inr (Or.inl rfl)
        · exact Or.inl rfl
        · exact Or.inr (Or.inr ⟨h1, h2⟩)
    · rename_i hy
      split
      · rename_i hk
        rw [List.mem_cons, List.mem_cons]
        constructor
        · rintro (rfl | h1)
          · exact Or.inl rfl
          · refine Or.inr ⟨Or.inr h1, fun e2 => ?_⟩
            have := h'.1 x h1
            rw [e2, ← hk] at this
            exact lt_irrefl _ this
        · rintro (rfl | ⟨rfl | h1, h2⟩)
          · exact Or.inl rfl
          · exact absurd hk h2
          · exact Or.inr h1
      · rename_i hk
        have hey : lt e.k y.k := by
          rcases lt_total y.k e.k with h1 | h1 | h1
          · exact absurd h1 hy
          · exact absurd h1 hk
          · exact h1
        rw [List.mem_cons, List.mem_cons]
        constructor
        · rintro (rfl | rfl | h1)
          · exact Or.inl rfl
          · exact Or.inr ⟨Or.inl rfl, hk⟩
          · refine Or.inr ⟨Or.inr h1, fun e2 => ?_⟩
            have := lt_trans hey (h'.1 x h1)
            rw [e2] at this
            exact lt_irrefl _ this
        · rintro (rfl | ⟨h1, _⟩)
          · exact Or.inl rfl
          · exact Or.inr h1
theorem rises_put : ∀ {b : List E} {e : E}, Rises b → Rises (putL b e)
  | [], e, _ => List.pairwise_singleton _ _
  | y :: l, e, h => by
    have h' := List.pairwise_cons.1 h
    unfold putL
    split
    · rename_i hy
      refine List.pairwise_cons.2 ⟨fun x hx => ?_, rises_put h'.2⟩
      rcases (mem_put h'.2 x).1 hx with rfl | ⟨h1, _⟩
      · exact hy
      · exact h'.1 x h1
    · rename_i hy
      split
      · rename_i hk
        refine List.pairwise_cons.2 ⟨fun x hx => ?_, h'.2⟩
        rw [← hk]
        exact h'.1 x hx
      · rename_i hk
        have hey : lt e.k y.k := by
          rcases lt_total y.k e.k with h1 | h1 | h1
          · exact absurd h1 hy
          · exact absurd h1 hk
          · exact h1
        refine List.pairwise_cons.2 ⟨fun x hx => ?_, h⟩
        rcases List.mem_cons.1 hx with rfl | hx
        · exact hey
        · exact lt_trans hey (h'.1 x hx)
theorem mem_drop {b : List E} {k : List UInt8} (x : E) : x ∈ dropL b k ↔ x ∈ b ∧ x.k ≠ k := by
  unfold dropL
  rw [List.mem_filter]
  simp
theorem rises_drop {b : List E} (h : Rises b) (k : List UInt8) : Rises (dropL b k) := List.Pairwise.sublist List.filter_sublist h
theorem len_put : ∀ (b : List E) (e : E), b.length ≤ (putL b e).length ∧ (putL b e).length ≤ b.length + 1
  | [], _ => by simp [putL]
  | y :: l, e => by
    have ih := len_put l e
    unfold putL
    split
    · simp only [List.length_cons]; omega
    · split <;> simp only [List.length_cons] <;> omega
/-- Rising ones of the same entries are the same. -/
theorem rises_unique : ∀ {a b : List E}, Rises a → Rises b → (∀ x, x ∈ a ↔ x ∈ b) → a = b
  | [], [], _, _, _ => rfl
  | [], y :: b, _, _, h => by have := (h y).2 (List.mem_cons_self ..); cases this
  | x :: a, [], _, _, h => by have := (h x).1 (List.mem_cons_self ..); cases this
  | x :: a, y :: b, ha, hb, h => by
    have ha' := List.pairwise_cons.1 ha
    have hb' := List.pairwise_cons.1 hb
    have hxy : x = y := by
      rcases List.mem_cons.1 ((h x).1 (List.mem_cons_self ..)) with e | e
      · exact e
      · rcases List.mem_cons.1 ((h y).2 (List.mem_cons_self ..)) with e2 | e2
        · exact e2.symm
        · exact absurd (ha'.1 y e2) (lt_asymm (hb'.1 x e))
    subst hxy
    rw [rises_unique ha'.2 hb'.2 (fun z => ?_)]
    constructor
    · intro hz
      rcases List.mem_cons.1 ((h z).1 (List.mem_cons_of_mem _ hz)) with e | e
      · subst e; exact absurd (ha'.1 z hz) (lt_irrefl _)
      · exact e
    · intro hz
      rcases List.mem_cons.1 ((h z).2 (List.mem_cons_of_mem _ hz)) with e | e
      · subst e; exact absurd (hb'.1 z hz) (lt_irrefl _)
      · exact e
/-- All that come are put, one behind the other. -/
def puts (b : List E) (l : List E) : List E := l.foldl putL b
theorem rises_nil : Rises [] := List.Pairwise.nil
end Go.Proofs.Ytocmkjccaajnnaa.Bu

/- Buckets, plainly: printed and parsed. No program. -/
namespace Go.Proofs.Ytocmkjccaajnnaa.Bu
open Go.RowKit Pac

/-- May it be? -/
structure IsB (b : List E) : Prop where
  ris : Rises b
  len : b.length ≤ 512
  key : ∀ e ∈ b, e.key.size ≤ 61
  t0 : ∀ e ∈ b, 0 ≤ e.t ∧ e.t < 64
  s0 : ∀ e ∈ b, 0 ≤ e.s ∧ e.s < 8
/-- One entry is read. -/
def readE (s : ByteArray) : E × ByteArray × Bool :=
  (⟨txtR s false 61, (btwR (txtS s false 61) (txtBad s false 61) 0 511) / 8, (btwR (txtS s false 61) (txtBad s false 61) 0 511) % 8⟩, numS (txtS s false 61) (txtBad s false 61), btwBad (txtS s false 61) (txtBad s false 61) 0 511)
def readEs : Nat → ByteArray → Bool → List E × ByteArray × Bool
  | 0, s, d => ([], s, d)
  | m + 1, s, d => if d = true then ([], s, d) else ((readE s).1 :: (readEs m (readE s).2.1 (readE s).2.2).1, (readEs m (readE s).2.1 (readE s).2.2).2)
def seenB (s : ByteArray) : List E × ByteArray × Bool := readEs (btwR s false 0 512).toNat (numS s false) (btwBad s false 0 512)
open Classical in
noncomputable def parseB (s : ByteArray) : Option (List E) := if (seenB s).2.2 = false ∧ (seenB s).2.1 = ⟨#[]⟩ ∧ IsB (seenB s).1 then some (seenB s).1 else none
end Go.Proofs.Ytocmkjccaajnnaa.Bu
