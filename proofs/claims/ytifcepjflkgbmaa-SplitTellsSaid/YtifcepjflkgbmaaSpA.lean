/- Splits, plainly: what may be, where a column is, groups joined. No program. -/
import Derived.Test.YtifcepjflkgbmaaPacL
namespace Go.Proofs.Ytifcepjflkgbmaa.Sp

/-- Is it a split of so many columns? -/
structure IsSplit (l : List (List Int)) (n : Nat) : Prop where
  n1 : 1 ≤ n
  n8 : n ≤ 8
  ne : ∀ g ∈ l, g ≠ []
  ris : ∀ g ∈ l, g.Pairwise (· < ·)
  hd : (l.map (fun g => g.headD 0)).Pairwise (· < ·)
  rng : ∀ x ∈ l.flatten, 0 ≤ x ∧ x < (n : Int)
  nd : l.flatten.Nodup
  len : l.flatten.length = n

theorem nodup_of_ris {l : List Int} (h : l.Pairwise (· < ·)) : l.Nodup := h.imp (fun {a b} hab e => by subst e; exact Int.lt_irrefl a hab)
/-- Rising from each to the next one, it rises. -/
theorem ris_of_step : ∀ (l : List Int), (∀ (k : Nat) (a b : Int), l[k]? = some a → l[k + 1]? = some b → a < b) → l.Pairwise (· < ·)
  | [], _ => List.Pairwise.nil
  | [a], _ => List.pairwise_singleton _ _
  | a :: b :: l, h => by
    have ih := ris_of_step (b :: l) (fun k x y hx hy => h (k + 1) x y (by simpa using hx) (by simpa using hy))
    have hab : a < b := h 0 a b rfl rfl
    refine List.pairwise_cons.2 ⟨fun x hx => ?_, ih⟩
    rcases List.mem_cons.1 hx with rfl | hx
    · exact hab
    · exact Int.lt_trans hab ((List.pairwise_cons.1 ih).1 x hx)
theorem step_of_ris {l : List Int} (h : l.Pairwise (· < ·)) {k : Nat} {a b : Int} (ha : l[k]? = some a) (hb : l[k + 1]? = some b) : a < b := by
  obtain ⟨hk, rfl⟩ := List.getElem?_eq_some_iff.1 ha
  obtain ⟨hk2, rfl⟩ := List.getElem?_eq_some_iff.1 hb
  exact List.pairwise_iff_getElem.1 h k (k + 1) hk hk2 (Nat.lt_succ_self k)

/-- No more unlike ones than there are. -/
theorem len_le_of_sub : ∀ (l m : List Int), l.Nodup → (∀ x ∈ l, x ∈ m) → l.length ≤ m.length
  | [], m, _, _ => Nat.zero_le _
  | a :: l, m, hn, hs => by
    have ha : a ∈ m := hs a (List.mem_cons_self ..)
    have hn' := List.nodup_cons.1 hn
    have ih := len_le_of_sub l (m.erase a) hn'.2 (fun x hx => by
      have hxa : x ≠ a := fun e => hn'.1 (by rw [← e]; exact hx)
      exact (List.mem_erase_of_ne hxa).2 (hs x (List.mem_cons_of_mem _ hx)))
    rw [List.length_erase_of_mem ha] at ih
    have : 0 < m.length := List.length_pos_of_mem ha
    simp only [List.length_cons]
    omega
def upTo (n : Nat) : List Int := (List.range n).map (fun (k : Nat) => (k : Int))
theorem mem_upTo {n : Nat} {c : Int} : c ∈ upTo n ↔ 0 ≤ c ∧ c < n := by
  unfold upTo
  simp only [List.mem_map, List.mem_range]
  constructor
  · rintro ⟨k, hk, rfl⟩
    omega
  · rintro ⟨h0, h1⟩
    exact ⟨c.toNat, by omega, by omega⟩
theorem upTo_len (n : Nat) : (upTo n).length = n := by unfold upTo; simp
/-- Each column is there. -/
theorem IsSplit.all {l : List (List Int)} {n : Nat} (h : IsSplit l n) {c : Int} (h0 : 0 ≤ c) (h1 : c < n) : c ∈ l.flatten := by
  apply Classical.byContradiction
  intro hc
  have := len_le_of_sub (c :: l.flatten) (upTo n) (List.nodup_cons.2 ⟨hc, h.nd⟩) (fun x hx => by
    rcases List.mem_cons.1 hx with rfl | hx
    · exact mem_upTo.2 ⟨h0, h1⟩
    · exact mem_upTo.2 (h.rng x hx))
  rw [List.length_cons, h.len, upTo_len] at this
  omega
/-- The group of a column. -/
theorem IsSplit.group {l : List (List Int)} {n : Nat} (h : IsSplit l n) {c : Int} (h0 : 0 ≤ c) (h1 : c < n) : ∃ (i : Nat) (g : List Int), l[i]? = some g ∧ c ∈ g := by
  obtain ⟨g, hg, hc⟩ := List.mem_flatten.1 (h.all h0 h1)
  obtain ⟨i, hi⟩ := List.mem_iff_getElem?.1 hg
  exact ⟨i, g, hi, hc⟩
theorem one_group : ∀ {l : List (List Int)} {i j : Nat} {g k : List Int} {c : Int}, l.flatten.Nodup → l[i]? = some g → l[j]? = some k → c ∈ g → c ∈ k → i = j
  | [], _, _, _, _, _, _, hi, _, _, _ => by simp at hi
  | x :: l, i, j, g, k, c, hn, hi, hj, hg, hk => by
    rw [List.flatten_cons, List.nodup_append] at hn
    obtain ⟨hx, hl, hd⟩ := hn
    cases i with
    | zero =>
      have hi : x = g := by simpa using hi
      subst hi
      cases j with
      | zero => rfl
      | succ j =>
        have hj : l[j]? = some k := by simpa using hj
        exact absurd rfl (hd c hg c (List.mem_flatten.2 ⟨k, List.mem_of_getElem? hj, hk⟩))
    | succ i =>
      have hi : l[i]? = some g := by simpa using hi
      cases j with
      | zero =>
        have hj : x = k := by simpa using hj
        subst hj
        exact absurd rfl (hd c hk c (List.mem_flatten.2 ⟨g, List.mem_of_getElem? hi, hg⟩))
      | succ j =>
        have hj : l[j]? = some k := by simpa using hj
        rw [one_group hl hi hj hg hk]
/-- Rising lists of the same ones are the same. -/
theorem ris_unique : ∀ {a b : List Int}, a.Pairwise (· < ·) → b.Pairwise (· < ·) → (∀ x, x ∈ a ↔ x ∈ b) → a = b
  | [], [], _, _, _ => rfl
  | [], y :: b, _, _, h => by have := (h y).2 (List.mem_cons_self ..); simp at this
  | x :: a, [], _, _, h => by have := (h x).1 (List.mem_cons_self ..); simp at this
  | x :: a, y :: b, ha, hb, h => by
    have ha' := List.pairwise_cons.1 ha
    have hb' := List.pairwise_cons.1 hb
    have hxy : x = y := by
      rcases List.mem_cons.1 ((h x).1 (List.mem_cons_self ..)) with e | e
      · exact e
      · rcases List.mem_cons.1 ((h y).2 (List.mem_cons_self ..)) with e2 | e2
        · exact e2.symm
        · have h1 := hb'.1 x e
          have h2 := ha'.1 y e2
          omega
    subst hxy
    rw [ris_unique ha'.2 hb'.2 (fun z => ?_)]
    constructor
    · intro hz
      rcases List.mem_cons.1 ((h z).1 (List.mem_cons_of_mem _ hz)) with e | e
      · have := ha'.1 z hz; omega
      · exact e
    · intro hz
      rcases List.mem_cons.1 ((h z).2 (List.mem_cons_of_mem _ hz)) with e | e
      · have := hb'.1 z hz; omega
      · exact e
/-- Two rising groups as one. -/
def mrg : List Int → List Int → List Int
  | [], b => b
  | a, [] => a
  | x :: a, y :: b => if x < y then x :: mrg a (y :: b) else y :: mrg (x :: a) b
theorem mrg_mem : ∀ (a b : List Int) (z : Int), z ∈ mrg a b ↔ z ∈ a ∨ z ∈ b
  | [], b, z => by simp [mrg]
  | x :: a, [], z => by simp [mrg]
  | x :: a, y :: b, z => by
    unfold mrg
    split
    · rw [List.mem_cons, mrg_mem a (y :: b) z, List.mem_cons (a := z) (b := x), or_assoc]
    · rw [List.mem_cons, mrg_mem (x :: a) b z, List.mem_cons (a := z) (b := y)]
      constructor
      · rintro (h | h | h)
        · exact Or.inr (Or.inl h)
        · exact Or.inl h
        · exact Or.inr (Or.inr h)
      · rintro (h | h | h)
        · exact Or.inr (Or.inl h)
        · exact Or.inl h
        · exact Or.inr (Or.inr h)
theorem mrg_ris : ∀ (a b : List Int), a.Pairwise (· < ·) → b.Pairwise (· < ·) → (∀ x ∈ a, x ∉ b) → (mrg a b).Pairwise (· < ·)
  | [], b, _, hb, _ => by simpa [mrg] using hb
  | x :: a, [], ha, _, _ => by simpa [mrg] using ha
  | x :: a, y :: b, ha, hb, hd => by
    have ha' := List.pairwise_cons.1 ha
    have hb' := List.pairwise_cons.1 hb
    unfold mrg
    split
    · rename_i hxy
      refine List.pairwise_cons.2 ⟨fun z hz => ?_, mrg_ris a (y :: b) ha'.2 hb (fun z hz => hd z (List.mem_cons_of_mem _ hz))⟩
      rcases (mrg_mem _ _ _).1 hz with h | h
      · exact ha'.1 z h
      · rcases List.mem_cons.1 h with rfl | h
        · exact hxy
        · exact Int.lt_trans hxy (hb'.1 z h)
    · rename_i hxy
      have hne : x ≠ y := fun e => hd x (List.mem_cons_self ..) (by rw [e]; exact List.mem_cons_self ..)
      have hyx : y < x := by omega
      refine List.pairwise_cons.2 ⟨fun z hz => ?_, mrg_ris (x :: a) b ha hb'.2 (fun z hz hzb => hd z hz (List.mem_cons_of_mem _ hzb))⟩
      rcases (mrg_mem _ _ _).1 hz with h | h
      · rcases List.mem_cons.1 h with rfl | h
        · exact hyx
        · exact Int.lt_trans hyx (ha'.1 z h)
      · exact hb'.1 z h
theorem mrg_len : ∀ (a b : List Int), (mrg a b).length = a.length + b.length
  | [], b => by simp [mrg]
  | x :: a, [] => by simp [mrg]
  | x :: a, y :: b => by
    unfold mrg
    split
    · rw [List.length_cons, mrg_len a (y :: b), List.length_cons, List.length_cons]; omega
    · rw [List.length_cons, mrg_len (x :: a) b, List.length_cons, List.length_cons]; omega
theorem mrg_head {x : Int} {a b : List Int} (h : ∀ y ∈ b, x < y) : (mrg (x :: a) b).headD 0 = x := by
  cases b with
  | nil => simp [mrg]
  | cons y b =>
    unfold mrg
    rw [if_pos (h y (List.mem_cons_self ..))]
    rfl
theorem mrg_perm : ∀ (a b : List Int), (mrg a b).Perm (a ++ b)
  | [], b => by simp [mrg]
  | x :: a, [] => by simp [mrg]
  | x :: a, y :: b => by
    unfold mrg
    split
    · exact (mrg_perm a (y :: b)).cons x
    · exact ((mrg_perm (x :: a) b).cons y).trans List.perm_middle.symm
/-- Two places in a list. -/
theorem two_places {α : Type} {l : List α} {a b : Nat} {x y : α} (hab : a < b) (ha : l[a]? = some x) (hb : l[b]? = some y) :
    ∃ p q r, l = p ++ x :: (q ++ y :: r) ∧ p.length = a ∧ q.length = b - a - 1 := by
  obtain ⟨hal, hax⟩ := List.getElem?_eq_some_iff.1 ha
  obtain ⟨hbl, hby⟩ := List.getElem?_eq_some_iff.1 hb
  have e1 : l = l.take a ++ x :: l.drop (a + 1) := by
    rw [← hax, ← List.drop_eq_getElem_cons hal, List.take_append_drop]
  have hb2 : (l.drop (a + 1))[b - a - 1]? = some y := by
    rw [List.getElem?_drop, show a + 1 + (b - a - 1) = b by omega]
    exact hb
  obtain ⟨hbl2, hby2⟩ := List.getElem?_eq_some_iff.1 hb2
  have e2 : l.drop (a + 1) = (l.drop (a + 1)).take (b - a - 1) ++ y :: (l.drop (a + 1)).drop (b - a - 1 + 1) := by
    conv => lhs; rw [← List.take_append_drop (b - a - 1) (l.drop (a + 1))]
    rw [List.drop_eq_getElem_cons hbl2, hby2]
  refine ⟨l.take a, (l.drop (a + 1)).take (b - a - 1), (l.drop (a + 1)).drop (b - a - 1 + 1), ?_, ?_, ?_⟩
  · rw [← e2]
    exact e1
  · rw [List.length_take]; omega
  · rw [List.length_take]
    omega
theorem join_perm (P A Q B R : List Int) : (P ++ (mrg A B ++ (Q ++ R))).Perm (P ++ (A ++ (Q ++ (B ++ R)))) := by
  refine List.Perm.append_left P ?_
  refine ((mrg_perm A B).append_right (Q ++ R)).trans ?_
  rw [List.append_assoc]
  refine List.Perm.append_left A ?_
  rw [← List.append_assoc, ← List.append_assoc]
  exact List.perm_append_comm.append_right R
theorem joined_split {p q r : List (List Int)} {ga gb : List Int} {n : Nat} (h : IsSplit (p ++ ga :: (q ++ gb :: r)) n) : IsSplit (p ++ mrg ga gb :: (q ++ r)) n := by
  have hflat : (p ++ mrg ga gb :: (q ++ r)).flatten.Perm (p ++ ga :: (q ++ gb :: r)).flatten := by
    simp only [List.flatten_append, List.flatten_cons]
    exact join_perm _ _ _ _ _
  have hga : ga ∈ p ++ ga :: (q ++ gb :: r) := by simp
  have hgb : gb ∈ p ++ ga :: (q ++ gb :: r) := by simp
  have ra := h.ris ga hga
  have rb := h.ris gb hgb
  have hdis : ∀ x ∈ ga, x ∉ gb := fun x hx hxb => by
    have hn := h.nd
    simp only [List.flatten_append, List.flatten_cons] at hn
    have hn2 := (List.nodup_append.1 hn).2.1
    exact (List.nodup_append.1 hn2).2.2 x hx x (by simp [hxb]) rfl
  have hd := h.hd
  simp only [List.map_append, List.map_cons] at hd
  have hab : ga.headD 0 < gb.headD 0 := by
    have h2 := (List.pairwise_append.1 hd).2.1
    exact (List.pairwise_cons.1 h2).1 _ (by simp)
  have hhead : (mrg ga gb).headD 0 = ga.headD 0 := by
    cases ga with
    | nil => exact absurd rfl (h.ne [] hga)
    | cons x a =>
      refine mrg_head fun y hy => ?_
      cases gb with
      | nil => simp at hy
      | cons z b =>
        have hxz : x < z := hab
        rcases List.mem_cons.1 hy with rfl | hy
        · exact hxz
        · exact Int.lt_trans hxz ((List.pairwise_cons.1 rb).1 y hy)
  refine ⟨h.n1, h.n8, fun g hg => ?_, fun g hg => ?_, ?_, fun x hx => h.rng x (hflat.mem_iff.1 hx), hflat.nodup_iff.2 h.nd, by rw [hflat.length_eq]; exact h.len⟩
  · simp only [List.mem_append, List.mem_cons] at hg
    rcases hg with hg | rfl | hg | hg
    · exact h.ne g (by simp [hg])
    · intro e
      have : (mrg ga gb).length = 0 := by rw [e]; rfl
      rw [mrg_len] at this
      exact h.ne ga hga (List.length_eq_zero_iff.1 (by omega))
    · exact h.ne g (by simp [hg])
    · exact h.ne g (by simp [hg])
  · simp only [List.mem_append, List.mem_cons] at hg
    rcases hg with hg | rfl | hg | hg
    · exact h.ris g (by simp [hg])
    · exact mrg_ris ga gb ra rb hdis
    · exact h.ris g (by simp [hg])
    · exact h.ris g (by simp [hg])
  · simp only [List.map_append, List.map_cons]
    rw [hhead]
    refine List.Pairwise.sublist ?_ hd
    refine List.Sublist.append_left (List.Sublist.cons_cons _ (List.Sublist.append_left (List.sublist_cons_self _ _) _)) _
/-- Where a group has gone, when b has come to a (a < b). -/
def went (a b i : Nat) : Nat := if i = b then a else if i < b then i else i - 1
theorem went_same {a b i k : Nat} (hab : a < b) : went a b i = went a b k ↔ i = k ∨ (i = a ∧ k = b) ∨ (i = b ∧ k = a) := by
  unfold went
  (repeat' split) <;> omega
theorem joined_group {p q r : List (List Int)} {ga gb g : List Int} {i : Nat} {c : Int} (hi : (p ++ ga :: (q ++ gb :: r))[i]? = some g) (hc : c ∈ g) :
    ∃ g', (p ++ mrg ga gb :: (q ++ r))[went p.length (p.length + (q.length + 1)) i]? = some g' ∧ c ∈ g' := by
  unfold went
  by_cases h1 : i < p.length
  · rw [if_neg (by omega), if_pos (by omega)]
    rw [List.getElem?_append_left h1] at hi ⊢
    exact ⟨g, hi, hc⟩
  · rw [List.getElem?_append_right (by omega)] at hi
    by_cases h2 : i = p.length
    · subst h2
      rw [if_neg (by omega), if_pos (by omega), List.getElem?_append_right (Nat.le_refl _)]
      simp only [Nat.sub_self, List.getElem?_cons_zero, Option.some.injEq] at hi ⊢
      subst hi
      exact ⟨_, rfl, (mrg_mem _ _ _).2 (Or.inl hc)⟩
    · obtain ⟨k, hk⟩ : ∃ k, i - p.length = k + 1 := ⟨i - p.length - 1, by omega⟩
      rw [hk, List.getElem?_cons_succ] at hi
      by_cases h3 : k < q.length
      · rw [if_neg (by omega), if_pos (by omega), List.getElem?_append_right (by omega), hk, List.getElem?_cons_succ, List.getElem?_append_left h3]
        rw [List.getElem?_append_left h3] at hi
        exact ⟨g, hi, hc⟩
      · rw [List.getElem?_append_right (by omega)] at hi
        by_cases h4 : k = q.length
        · subst h4
          rw [if_pos (by omega), List.getElem?_append_right (Nat.le_refl _)]
          simp only [Nat.sub_self, List.getElem?_cons_zero, Option.some.injEq] at hi ⊢
          subst hi
          exact ⟨_, rfl, (mrg_mem _ _ _).2 (Or.inr hc)⟩
        · obtain ⟨j, hj⟩ : ∃ j, k - q.length = j + 1 := ⟨k - q.length - 1, by omega⟩
          rw [hj, List.getElem?_cons_succ] at hi
          rw [if_neg (by omega), if_neg (by omega), List.getElem?_append_right (by omega)]
          rw [show i - 1 - p.length = (q.length + j) + 1 by omega, List.getElem?_cons_succ, List.getElem?_append_right (by omega), show q.length + j - q.length = j by omega]
          exact ⟨g, hi, hc⟩
end Go.Proofs.Ytifcepjflkgbmaa.Sp
