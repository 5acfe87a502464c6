/- Two groups joined: what comes out, plainly. -/
import Derived.Test.YtifcepjflkgbmaaSpO
namespace Go.Proofs.Ytifcepjflkgbmaa.Sp
open Go.RowKit Pac Lex

theorem out_seg {l : List (List Int)} {x y s : Nat} {g : List Int} : ∀ n, (∀ j < n, s + j ≠ x ∧ s + j ≠ y) → s + n ≤ l.length → outN l x y g (s + n) = outN l x y g s ++ (l.drop s).take n
  | 0, _, _ => by simp
  | n + 1, h, hl => by
    have hk : l[s + n]? = some (l[s + n]'(by omega)) := List.getElem?_eq_getElem _
    have h1 := h n (by omega)
    rw [show s + (n + 1) = (s + n) + 1 by omega, out_n h1.1 h1.2 hk, out_seg n (fun j hj => h j (by omega)) (by omega), List.append_assoc]
    congr 1
    have hd : (l.drop s)[n]? = some (l[s + n]'(by omega)) := by rw [List.getElem?_drop, hk]
    obtain ⟨hlt, e⟩ := List.getElem?_eq_some_iff.1 hd
    rw [List.take_succ_eq_append_getElem hlt, e]
theorem join_form {l : List (List Int)} {x y : Nat} (hxy : x < y) (hy : y < l.length) :
    ∃ p q r ga gb, l = p ++ ga :: (q ++ gb :: r) ∧ p.length = x ∧ p.length + (q.length + 1) = y ∧ joinN l x y = p ++ mrg ga gb :: (q ++ r) := by
  have ha : l[x]? = some (l[x]'(by omega)) := List.getElem?_eq_getElem _
  have hb : l[y]? = some (l[y]'hy) := List.getElem?_eq_getElem _
  have eg : mrg (l[x]?.getD []) (l[y]?.getD []) = mrg (l[x]'(by omega)) (l[y]'hy) := by rw [ha, hb]; rfl
  unfold joinN
  rw [eg]
  generalize (l[x]'(by omega)) = ga at ha
  generalize (l[y]'hy) = gb at hb
  clear eg
  obtain ⟨p, q, r, e, hp, hq⟩ := two_places hxy ha hb
  refine ⟨p, q, r, ga, gb, e, hp, by omega, ?_⟩
  have hl : l.length = x + 1 + q.length + 1 + r.length := by rw [e]; simp; omega
  have d0 : (l.drop 0).take x = p := by rw [List.drop_zero, e, ← hp, List.take_left]
  have d1 : (l.drop (x + 1)).take q.length = q := by
    rw [e, show p ++ ga :: (q ++ gb :: r) = (p ++ [ga]) ++ (q ++ gb :: r) by simp, List.drop_left' (by rw [List.length_append]; simp [hp]), List.take_left]
  have d2 : (l.drop (y + 1)).take r.length = r := by
    rw [e, show p ++ ga :: (q ++ gb :: r) = (p ++ [ga] ++ q ++ [gb]) ++ r by simp, List.drop_left' (by simp; omega), List.take_length]
  have s0 := out_seg (l := l) (x := x) (y := y) (s := 0) (g := mrg ga gb) x (fun j hj => by omega) (by omega)
  have s1 := out_seg (l := l) (x := x) (y := y) (s := x + 1) (g := mrg ga gb) q.length (fun j hj => by omega) (by omega)
  have s2 := out_seg (l := l) (x := x) (y := y) (s := y + 1) (g := mrg ga gb) r.length (fun j hj => by omega) (by omega)
  rw [d0, Nat.zero_add] at s0
  rw [d1, out_x, s0, show x + 1 + q.length = y by omega] at s1
  rw [d2, out_y hxy, s1, show y + 1 + r.length = l.length by omega] at s2
  rw [s2]
  show (([] ++ p) ++ [mrg ga gb]) ++ q ++ r = _
  simp
/-- Joined: a split, of one group fewer, and where each column has gone. -/
theorem joinI_split {l : List (List Int)} {n a b : Nat} (h : IsSplit l n) (ha : a < l.length) (hb : b < l.length) (hab : a ≠ b) :
    IsSplit (joinI l a b) n ∧ (joinI l a b).length + 1 = l.length ∧ ∀ c i k, atG c l = some (i, k) → ∃ k', atG c (joinI l a b) = some (went (min a b) (max a b) i, k') := by
  have e : joinI l a b = joinN l (min a b) (max a b) := by
    unfold joinI
    rw [if_neg (by omega)]
    congr 1 <;> omega
  rw [e]
  obtain ⟨p, q, r, ga, gb, el, hp, hq, ej⟩ := join_form (l := l) (x := min a b) (y := max a b) (by omega) (by omega)
  have hs : IsSplit (p ++ mrg ga gb :: (q ++ r)) n := joined_split (el ▸ h)
  rw [ej]
  refine ⟨hs, by rw [el]; simp; omega, fun c i k hc => ?_⟩
  obtain ⟨g, h1, h2⟩ := atG_get hc
  have hcg : c ∈ g := List.mem_of_getElem? h2
  rw [el] at h1
  obtain ⟨g', h3, h4⟩ := joined_group h1 hcg
  rw [hq, hp] at h3
  have hr := h.rng c (List.mem_flatten.2 ⟨g, by rw [el]; exact List.mem_of_getElem? h1, hcg⟩)
  obtain ⟨i', k', g2, h5, h6, h7⟩ := hs.found hr.1 hr.2
  have := one_group hs.nd h3 h6 h4 (List.mem_of_getElem? h7)
  exact ⟨k', by rw [h5, this]⟩
theorem joinI_sizes {l : List (List Int)} {n : Nat} {a b : Int} (h : IsSplit l n) : (joinI l a b).length ≤ 1000000 ∧ ∀ g ∈ joinI l a b, g.length ≤ 1000000 := by
  by_cases c : a < 0 ∨ b < 0 ∨ (l.length : Int) ≤ a ∨ (l.length : Int) ≤ b ∨ a = b
  · unfold joinI
    rw [if_pos c]
    exact h.sizes
  · have := (joinI_split (a := a.toNat) (b := b.toNat) h (by omega) (by omega) (by omega)).1
    rw [show ((a.toNat : Nat) : Int) = a by omega, show ((b.toNat : Nat) : Int) = b by omega] at this
    exact this.sizes
theorem joinI_self {l : List (List Int)} (a : Int) : joinI l a a = l := by
  unfold joinI
  rw [if_pos (by omega)]
theorem find_two {l : List (List Int)} {c : Int} {i k i' k' : Nat} {b b' : Bool} (h1 : b = true → atG c l = some (i, k)) (h2 : b = false → atG c l = none ∧ i = 0 ∧ k = 0) (h3 : b' = true → atG c l = some (i', k')) (h4 : b' = false → atG c l = none ∧ i' = 0 ∧ k' = 0) : b' = b ∧ i' = i ∧ k' = k := by
  cases e : atG c l with
  | none =>
    obtain ⟨rfl, rfl, rfl⟩ := find_no h1 h2 e
    exact find_no h3 h4 e
  | some p =>
    obtain ⟨u, v⟩ := p
    obtain ⟨rfl, rfl, rfl⟩ := find_yes h1 h2 e
    obtain ⟨rfl, rfl, rfl⟩ := find_yes h3 h4 e
    exact ⟨rfl, rfl, rfl⟩
end Go.Proofs.Ytifcepjflkgbmaa.Sp
