/- Whether groups are a split, index by index, plainly. No program. -/
import Derived.Test.YtifcepjflkgbmaaSpD
import Derived.OwnWalk
import Derived.Laws.OwnMore
namespace Go.Proofs.Ytifcepjflkgbmaa.Sp
open Go.RowKit Pac Lex

/-- The first i groups may be those of a split of n columns. -/
structure Good (l : List (List Int)) (n i : Nat) : Prop where
  grp : ∀ j < i, ∀ g, l[j]? = some g → g ≠ [] ∧ g.Pairwise (· < ·) ∧ ∀ x ∈ g, 0 ≤ x ∧ x < (n : Int)
  hd : ∀ j, j + 1 < i → ∀ g k, l[j]? = some g → l[j + 1]? = some k → g.headD 0 < k.headD 0
  nd : (l.take i).flatten.Nodup
theorem Good.zero (l : List (List Int)) (n : Nat) : Good l n 0 :=
  ⟨fun j hj => absurd hj (Nat.not_lt_zero j), fun j hj => absurd hj (Nat.not_lt_zero _), by simp⟩
theorem Good.split {l : List (List Int)} {n : Nat} (h : Good l n l.length) (n1 : 1 ≤ n) (n8 : n ≤ 8) (hn : l.flatten.length = n) : IsSplit l n := by
  have hg : ∀ g ∈ l, g ≠ [] ∧ g.Pairwise (· < ·) ∧ ∀ x ∈ g, 0 ≤ x ∧ x < (n : Int) := fun g hg => by
    obtain ⟨i, hi, e⟩ := List.mem_iff_getElem.1 hg
    exact h.grp i hi g (by rw [List.getElem?_eq_getElem hi, e])
  refine ⟨n1, n8, fun g k => (hg g k).1, fun g k => (hg g k).2.1, ?_, ?_, ?_, hn⟩
  · refine ris_of_step _ fun k a b ha hb => ?_
    rw [List.getElem?_map] at ha hb
    obtain ⟨x, hx, rfl⟩ := Option.map_eq_some_iff.1 ha
    obtain ⟨y, hy, rfl⟩ := Option.map_eq_some_iff.1 hb
    exact h.hd k (List.getElem?_eq_some_iff.1 hy).1 x y hx hy
  · intro x hx
    obtain ⟨g, hgl, hxg⟩ := List.mem_flatten.1 hx
    exact (hg g hgl).2.2 x hxg
  · have := h.nd
    rwa [List.take_length] at this
theorem IsSplit.grp {l : List (List Int)} {n : Nat} (h : IsSplit l n) {j : Nat} {g : List Int} (hg : l[j]? = some g) : g ≠ [] ∧ g.Pairwise (· < ·) ∧ ∀ x ∈ g, 0 ≤ x ∧ x < (n : Int) :=
  have hm := List.mem_of_getElem? hg
  ⟨h.ne g hm, h.ris g hm, fun x hx => h.rng x (List.mem_flatten.2 ⟨g, hm, hx⟩)⟩
theorem IsSplit.heads {l : List (List Int)} {n : Nat} (h : IsSplit l n) {j : Nat} {g k : List Int} (hg : l[j]? = some g) (hk : l[j + 1]? = some k) : g.headD 0 < k.headD 0 :=
  step_of_ris h.hd (k := j) (by rw [List.getElem?_map, hg]; rfl) (by rw [List.getElem?_map, hk]; rfl)
theorem take_flat {l : List (List Int)} {i : Nat} {g : List Int} (hg : l[i]? = some g) : (l.take (i + 1)).flatten = (l.take i).flatten ++ g := by
  rw [List.take_add_one, hg]
  simp
/-- What was seen already stands in no later place. -/
theorem not_seen {l : List (List Int)} {i t : Nat} {g : List Int} {c : Int} (h : l.flatten.Nodup) (hg : l[i]? = some g) (hc : g[t]? = some c) : c ∉ (l.take i).flatten ++ g.take t := by
  have e : l.flatten = ((l.take i).flatten ++ g.take t) ++ (c :: (g.drop (t + 1) ++ (l.drop (i + 1)).flatten)) := by
    obtain ⟨hi, e1⟩ := List.getElem?_eq_some_iff.1 hg
    obtain ⟨ht, e2⟩ := List.getElem?_eq_some_iff.1 hc
    have h1 : l = l.take i ++ g :: l.drop (i + 1) := by rw [← e1, List.getElem_cons_drop, List.take_append_drop]
    have h2 : g = g.take t ++ c :: g.drop (t + 1) := by rw [← e2, List.getElem_cons_drop, List.take_append_drop]
    have h3 : l.flatten = (l.take i).flatten ++ (g ++ (l.drop (i + 1)).flatten) := by
      have := congrArg List.flatten h1
      rwa [List.flatten_append, List.flatten_cons] at this
    rw [h3]
    have h4 : g ++ (l.drop (i + 1)).flatten = g.take t ++ (c :: (g.drop (t + 1) ++ (l.drop (i + 1)).flatten)) := by
      have := congrArg (· ++ (l.drop (i + 1)).flatten) h2
      simpa using this
    rw [h4, List.append_assoc]
  rw [e] at h
  have := (List.nodup_append.1 h).2.2
  intro hm
  exact this c hm c (List.mem_cons_self ..) rfl
/-- The first t of a group, behind the groups ahead. -/
structure Part (l : List (List Int)) (n i : Nat) (g : List Int) (t : Nat) : Prop where
  good : Good l n i
  ne : g ≠ []
  hd : ∀ j k, j + 1 = i → l[j]? = some k → k.headD 0 < g.headD 0
  ris : (g.take t).Pairwise (· < ·)
  rng : ∀ x ∈ g.take t, 0 ≤ x ∧ x < (n : Int)
  nd : ((l.take i).flatten ++ g.take t).Nodup
theorem Part.zero {l : List (List Int)} {n i : Nat} {g : List Int} (h : Good l n i) (ne : g ≠ []) (hd : ∀ j k, j + 1 = i → l[j]? = some k → k.headD 0 < g.headD 0) : Part l n i g 0 :=
  ⟨h, ne, hd, by simp, by simp, by simpa using h.nd⟩
theorem Part.next {l : List (List Int)} {n i t : Nat} {g : List Int} {c : Int} (h : Part l n i g t) (hc : g[t]? = some c) (h0 : 0 ≤ c) (h1 : c < n) (hs : c ∉ (l.take i).flatten ++ g.take t) (hr : ∀ b, 0 < t → g[t - 1]? = some b → b < c) : Part l n i g (t + 1) := by
  have e : g.take (t + 1) = g.take t ++ [c] := by rw [List.take_add_one, hc]; rfl
  refine ⟨h.good, h.ne, h.hd, ?_, ?_, ?_⟩
  · refine ris_of_step _ fun k a b ha hb => ?_
    rw [List.getElem?_take] at ha hb
    have hk : k + 1 < t + 1 := by
      split at hb
      · assumption
      · cases hb
    rw [if_pos (by omega)] at ha hb
    by_cases hkt : k + 1 < t
    · exact step_of_ris h.ris (k := k) (by rw [List.getElem?_take, if_pos (by omega)]; exact ha) (by rw [List.getElem?_take, if_pos hkt]; exact hb)
    · obtain rfl : t = k + 1 := by omega
      rw [hc] at hb
      injection hb with hb
      subst hb
      exact hr a (by omega) ha
  · intro x hx
    rw [e, List.mem_append, List.mem_singleton] at hx
    rcases hx with hx | rfl
    · exact h.rng x hx
    · exact ⟨h0, h1⟩
  · rw [e, ← List.append_assoc]
    refine List.nodup_append.2 ⟨h.nd, by simp, fun a ha b hb => ?_⟩
    rw [List.mem_singleton] at hb
    subst hb
    intro e
    subst e
    exact hs ha
theorem Part.done {l : List (List Int)} {n i : Nat} {g : List Int} (h : Part l n i g g.length) (hg : l[i]? = some g) : Good l n (i + 1) := by
  have e : g.take g.length = g := List.take_length
  have ris := h.ris
  have rng := h.rng
  have nd := h.nd
  rw [e] at ris rng nd
  refine ⟨fun j hj k hk => ?_, fun j hj k m hk hm => ?_, by rw [take_flat hg]; exact nd⟩
  · by_cases hji : j < i
    · exact h.good.grp j hji k hk
    · obtain rfl : j = i := by omega
      rw [hg] at hk
      injection hk with hk
      subst hk
      exact ⟨h.ne, ris, rng⟩
  · by_cases hji : j + 1 < i
    · exact h.good.hd j hji k m hk hm
    · obtain rfl : i = j + 1 := by omega
      rw [hg] at hm
      injection hm with hm
      subst hm
      exact h.hd j k rfl hk
/-- Which columns were seen. -/
def flags (F : List Int) (n : Nat) : List Value := (List.range n).map (fun (c : Nat) => Value.bool (decide ((c : Int) ∈ F)))
theorem flags_at {F : List Int} {n c : Nat} (hc : c < n) : (flags F n)[c]? = some (.bool (decide ((c : Int) ∈ F))) := by
  unfold flags
  rw [List.getElem?_map, List.getElem?_range hc]
  rfl
theorem flags_set {F : List Int} {n c : Nat} (hc : c < n) : (flags F n).set c (.bool true) = flags (F ++ [(c : Int)]) n := by
  have hl : ∀ F, (flags F n).length = n := fun F => by unfold flags; simp
  apply List.ext_getElem?
  intro j
  by_cases hj : j < n
  · rw [List.getElem?_set, flags_at hj, hl]
    by_cases hjc : c = j
    · subst hjc
      rw [if_pos rfl, if_pos hc, flags_at hc]
      congr 2
      exact (decide_eq_true (by simp)).symm
    · rw [if_neg hjc, flags_at hj]
      congr 2
      apply decide_eq_decide.2
      rw [List.mem_append, List.mem_singleton]
      constructor
      · exact Or.inl
      · rintro (h | h)
        · exact h
        · omega
  · rw [List.getElem?_eq_none (by rw [List.length_set, hl]; omega), List.getElem?_eq_none (by rw [hl]; omega)]
theorem flags_none (n : Nat) : flags [] n = List.replicate n (.bool false) := by
  unfold flags
  apply List.ext_getElem?
  intro j
  rw [List.getElem?_map, List.getElem?_replicate]
  by_cases hj : j < n
  · rw [if_pos hj, List.getElem?_range hj]
    rfl
  · rw [if_neg hj, List.getElem?_eq_none (by simpa using hj)]
    rfl
open Classical in
noncomputable def rightSp (l : List (List Int)) (cols : Int) : Bool := decide (∃ n : Nat, cols = n ∧ IsSplit l n)
open Classical in
theorem rightSp_nat {l : List (List Int)} {n : Nat} : (IsSplit l n → rightSp l n = true) ∧ (¬ IsSplit l n → rightSp l n = false) := by
  unfold rightSp
  constructor
  · exact fun h => decide_eq_true ⟨n, rfl, h⟩
  · refine fun h => decide_eq_false ?_
    rintro ⟨m, e, hm⟩
    obtain rfl : n = m := by omega
    exact h hm
open Classical in
theorem rightSp_out {l : List (List Int)} {cols : Int} (h : cols < 1 ∨ 8 < cols) : rightSp l cols = false := by
  unfold rightSp
  refine decide_eq_false ?_
  rintro ⟨m, e, hm⟩
  have := hm.n1
  have := hm.n8
  omega
end Go.Proofs.Ytifcepjflkgbmaa.Sp
