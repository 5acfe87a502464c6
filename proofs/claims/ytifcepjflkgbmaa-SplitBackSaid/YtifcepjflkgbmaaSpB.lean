/- Splits, plainly: the plain ones, how many; printed and read. No program. -/
import Derived.Test.YtifcepjflkgbmaaSpA
namespace Go.Proofs.Ytifcepjflkgbmaa.Sp
open Pac

theorem upTo_at {n k : Nat} {a : Int} (h : (upTo n)[k]? = some a) : k < n ∧ a = (k : Int) := by
  unfold upTo at h
  rw [List.getElem?_map] at h
  by_cases hk : k < n
  · rw [List.getElem?_range hk] at h
    exact ⟨hk, (Option.some.inj h).symm⟩
  · rw [List.getElem?_eq_none (by rw [List.length_range]; omega)] at h
    cases h
theorem upTo_ris (n : Nat) : (upTo n).Pairwise (· < ·) := ris_of_step _ fun k a b ha hb => by
  obtain ⟨_, rfl⟩ := upTo_at ha
  obtain ⟨_, rfl⟩ := upTo_at hb
  omega
def oneS (n : Nat) : List (List Int) := if n = 0 then [] else [upTo n]
def eachS (n : Nat) : List (List Int) := (upTo n).map (fun c => [c])
theorem each_flat (n : Nat) : (eachS n).flatten = upTo n := by
  unfold eachS
  generalize upTo n = l
  induction l with
  | nil => rfl
  | cons a l ih => simp only [List.map_cons, List.flatten_cons, ih]; rfl
theorem each_heads (n : Nat) : (eachS n).map (fun g => g.headD 0) = upTo n := by
  unfold eachS
  rw [List.map_map]
  exact (List.map_congr_left (fun x _ => rfl)).trans (List.map_id' _)
theorem one_split {n : Nat} (h1 : 1 ≤ n) (h8 : n ≤ 8) : IsSplit (oneS n) n := by
  have e : oneS n = [upTo n] := by unfold oneS; rw [if_neg (by omega)]
  rw [e]
  have hf : [upTo n].flatten = upTo n := by simp
  refine ⟨h1, h8, fun g hg => ?_, fun g hg => ?_, List.pairwise_singleton _ _, fun x hx => ?_, ?_, ?_⟩
  · obtain rfl := List.mem_singleton.1 hg
    intro e
    have := upTo_len n
    rw [e] at this
    simp at this
    omega
  · obtain rfl := List.mem_singleton.1 hg
    exact upTo_ris n
  · rw [hf] at hx
    exact mem_upTo.1 hx
  · rw [hf]
    exact nodup_of_ris (upTo_ris n)
  · rw [hf]
    exact upTo_len n
theorem each_split {n : Nat} (h1 : 1 ≤ n) (h8 : n ≤ 8) : IsSplit (eachS n) n := by
  refine ⟨h1, h8, fun g hg => ?_, fun g hg => ?_, ?_, fun x hx => ?_, ?_, ?_⟩
  · obtain ⟨c, _, rfl⟩ := List.mem_map.1 hg
    intro e
    cases e
  · obtain ⟨c, _, rfl⟩ := List.mem_map.1 hg
    exact List.pairwise_singleton _ _
  · rw [each_heads]
    exact upTo_ris n
  · rw [each_flat] at hx
    exact mem_upTo.1 hx
  · rw [each_flat]
    exact nodup_of_ris (upTo_ris n)
  · rw [each_flat]
    exact upTo_len n
theorem IsSplit.one_iff {l : List (List Int)} {n : Nat} (h : IsSplit l n) : l.length = 1 ↔ l = oneS n := by
  have e : oneS n = [upTo n] := by unfold oneS; rw [if_neg (by have := h.n1; omega)]
  constructor
  · intro h1
    match l, h1, h with
    | [g], _, h =>
      have hf : [g].flatten = g := by simp
      have : g = upTo n := ris_unique (h.ris g (List.mem_singleton.2 rfl)) (upTo_ris n) (fun x => by
        constructor
        · intro hx
          exact mem_upTo.2 (h.rng x (by rw [hf]; exact hx))
        · intro hx
          have hx := mem_upTo.1 hx
          have := h.all hx.1 hx.2
          rw [hf] at this
          exact this)
      rw [e, this]
  · intro hl
    rw [hl, e]
    rfl
theorem heads_in : ∀ {l : List (List Int)}, (∀ g ∈ l, g ≠ []) → ∀ x ∈ l.map (fun g => g.headD 0), x ∈ l.flatten
  | [], _, x, hx => by simp at hx
  | g :: l, hne, x, hx => by
    rw [List.flatten_cons, List.mem_append]
    rw [List.map_cons, List.mem_cons] at hx
    rcases hx with rfl | hx
    · refine Or.inl ?_
      cases g with
      | nil => exact absurd rfl (hne [] (List.mem_cons_self ..))
      | cons a g => exact List.mem_cons_self ..
    · exact Or.inr (heads_in (fun k hk => hne k (List.mem_cons_of_mem _ hk)) x hx)
/-- As many as there are groups, at least. -/
theorem len_flat : ∀ {l : List (List Int)}, (∀ g ∈ l, g ≠ []) → l.length ≤ l.flatten.length
  | [], _ => Nat.zero_le _
  | g :: l, hne => by
    have ih := len_flat (fun k hk => hne k (List.mem_cons_of_mem _ hk) : ∀ k ∈ l, k ≠ [])
    have : 0 < g.length := List.length_pos_iff.2 (hne g (List.mem_cons_self ..))
    rw [List.flatten_cons, List.length_append, List.length_cons]
    omega
theorem IsSplit.few {l : List (List Int)} {n : Nat} (h : IsSplit l n) : l.length ≤ n := by
  have := len_flat h.ne
  rw [h.len] at this
  exact this
theorem singles : ∀ {l : List (List Int)}, (∀ g ∈ l, g ≠ []) → l.flatten.length = l.length → l = (l.map (fun g => g.headD 0)).map (fun c => [c])
  | [], _, _ => rfl
  | g :: l, hne, hl => by
    have hne' : ∀ k ∈ l, k ≠ [] := fun k hk => hne k (List.mem_cons_of_mem _ hk)
    have h1 := len_flat hne'
    have h2 : 0 < g.length := List.length_pos_iff.2 (hne g (List.mem_cons_self ..))
    rw [List.flatten_cons, List.length_append, List.length_cons] at hl
    have ih := singles hne' (by omega)
    have hg1 : g.length = 1 := by omega
    have hg : g = [g.headD 0] := by
      match g, hg1 with
      | [a], _ => rfl
    rw [List.map_cons, List.map_cons, ← ih, ← hg]
theorem IsSplit.each_iff {l : List (List Int)} {n : Nat} (h : IsSplit l n) : l.length = n ↔ l = eachS n := by
  constructor
  · intro hl
    have hs := singles h.ne (by rw [h.len, hl])
    have hh : l.map (fun g => g.headD 0) = upTo n := ris_unique h.hd (upTo_ris n) (fun x => by
      constructor
      · intro hx
        exact mem_upTo.2 (h.rng x (heads_in h.ne x hx))
      · intro hx
        have hx := mem_upTo.1 hx
        have := h.all hx.1 hx.2
        rw [hs] at this
        obtain ⟨g, hg, hxg⟩ := List.mem_flatten.1 this
        obtain ⟨c, hc, rfl⟩ := List.mem_map.1 hg
        obtain rfl := List.mem_singleton.1 hxg
        exact hc)
    rw [hs, hh]
    rfl
  · intro hl
    rw [hl]
    unfold eachS
    rw [List.length_map, upTo_len]
theorem IsSplit.only {l : List (List Int)} {n m : Nat} (h : IsSplit l n) (h' : IsSplit l m) : n = m := by rw [← h.len, h'.len]

/-- Numbers, one behind the other. -/
def numsB : List Int → ByteArray
  | [] => ⟨#[]⟩
  | c :: l => encB (zig c) ++ numsB l
def printG (g : List Int) : ByteArray := encB (zig (g.length : Int)) ++ numsB g
def catG : List (List Int) → ByteArray
  | [] => ⟨#[]⟩
  | g :: l => printG g ++ catG l
def printSp (l : List (List Int)) : ByteArray := encB (zig (l.length : Int)) ++ catG l
def readNs : Nat → ByteArray → Bool → List Int × ByteArray × Bool
  | 0, s, d => ([], s, d)
  | m + 1, s, d => if d = true then ([], s, d) else (numR s false :: (readNs m (numS s false) (numBad s false)).1, (readNs m (numS s false) (numBad s false)).2)
/-- One group is read. -/
def readG (s : ByteArray) (d : Bool) : List Int × ByteArray × Bool := readNs (btwR s d 0 8).toNat (numS s d) (btwBad s d 0 8)
def readGs : Nat → ByteArray → Bool → List (List Int) × ByteArray × Bool
  | 0, s, d => ([], s, d)
  | m + 1, s, d => if d = true then ([], s, d) else ((readG s false).1 :: (readGs m (readG s false).2.1 (readG s false).2.2).1, (readGs m (readG s false).2.1 (readG s false).2.2).2)
def seenSp (s : ByteArray) (d : Bool) : List (List Int) × ByteArray × Bool := readGs (btwR s d 0 8).toNat (numS s d) (btwBad s d 0 8)
open Classical in
noncomputable def readSp (s : ByteArray) (d : Bool) (cols : Int) : List (List Int) × ByteArray × Bool :=
  if (seenSp s d).2.2 = false ∧ ∃ n : Nat, cols = n ∧ IsSplit (seenSp s d).1 n then seenSp s d else ([], (seenSp s d).2.1, true)
theorem empty_app (s : ByteArray) : (⟨#[]⟩ ++ s : ByteArray) = s := bytesEq' (by rw [app_list]; rfl)
theorem readNs_print : ∀ (g : List Int) (r : ByteArray), (∀ x ∈ g, -9223372036854775808 ≤ x ∧ x ≤ 9223372036854775807) → readNs g.length (numsB g ++ r) false = (g, r, false)
  | [], r, _ => by
    show ([], (⟨#[]⟩ ++ r : ByteArray), false) = _
    rw [empty_app]
  | c :: l, r, h => by
    have hc := h c (List.mem_cons_self ..)
    have ih := readNs_print l r (fun x hx => h x (List.mem_cons_of_mem _ hx))
    obtain ⟨e1, e2, e3⟩ := num_enc c (numsB l ++ r) hc.1 hc.2
    show (if false = true then _ else _) = _
    rw [if_neg (by simp)]
    simp only [numsB, app_assoc, e1, e2, e3, ih]
theorem readG_print (g : List Int) (r : ByteArray) (h8 : g.length ≤ 8) (h : ∀ x ∈ g, -9223372036854775808 ≤ x ∧ x ≤ 9223372036854775807) : readG (printG g ++ r) false = (g, r, false) := by
  obtain ⟨f1, f2, f3⟩ := btw_enc (g.length : Int) 0 8 (numsB g ++ r) (by omega) (by omega) (by omega) (by omega)
  unfold readG printG
  rw [app_assoc, f1, f2, f3, Int.toNat_natCast, readNs_print g r h]
theorem readGs_print : ∀ (l : List (List Int)) (r : ByteArray), (∀ g ∈ l, g.length ≤ 8 ∧ ∀ x ∈ g, -9223372036854775808 ≤ x ∧ x ≤ 9223372036854775807) → readGs l.length (catG l ++ r) false = (l, r, false)
  | [], r, _ => by
    show ([], (⟨#[]⟩ ++ r : ByteArray), false) = _
    rw [empty_app]
  | g :: l, r, h => by
    have hg := h g (List.mem_cons_self ..)
    have ih := readGs_print l r (fun k hk => h k (List.mem_cons_of_mem _ hk))
    have e := readG_print g (catG l ++ r) hg.1 hg.2
    show (if false = true then _ else _) = _
    rw [if_neg (by simp)]
    simp only [catG, app_assoc, e, ih]
theorem in_len : ∀ {l : List (List Int)} {g : List Int}, g ∈ l → g.length ≤ l.flatten.length
  | [], g, h => by simp at h
  | k :: l, g, h => by
    rw [List.flatten_cons, List.length_append]
    rcases List.mem_cons.1 h with rfl | h
    · omega
    · have := in_len h
      omega
theorem split_back {l : List (List Int)} {n : Nat} (h : IsSplit l n) (m : ByteArray) : readSp (printSp l ++ m) false n = (l, m, false) := by
  have hn := h.few
  have h8 := h.n8
  have hin : ∀ g ∈ l, g.length ≤ 8 ∧ ∀ x ∈ g, -9223372036854775808 ≤ x ∧ x ≤ 9223372036854775807 := fun g hg => by
    refine ⟨?_, fun x hx => ?_⟩
    · have := in_len hg
      rw [h.len] at this
      omega
    · have := h.rng x (List.mem_flatten.2 ⟨g, hg, hx⟩)
      omega
  have hS : seenSp (printSp l ++ m) false = (l, m, false) := by
    obtain ⟨f1, f2, f3⟩ := btw_enc (l.length : Int) 0 8 (catG l ++ m) (by omega) (by omega) (by omega) (by omega)
    unfold seenSp printSp
    rw [app_assoc, f1, f2, f3, Int.toNat_natCast, readGs_print l m hin]
  unfold readSp
  rw [hS, if_pos ⟨rfl, n, rfl, h⟩]
end Go.Proofs.Ytifcepjflkgbmaa.Sp
