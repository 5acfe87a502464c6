/- Two groups joined, plainly; a group of one's own sorted, a row of groups with one left out: the library's, in short. -/
import Derived.Test.YtifcepjflkgbmaaSpZ
namespace Go.Proofs.Ytifcepjflkgbmaa.Sp
open Go.RowKit Pac Lex

theorem out_erase {l : List (List Int)} {x y : Nat} {g : List Int} (hxy : x < y) : ∀ n ≤ l.length, outN l x y g n = ((l.set x g).take n).eraseIdx y
  | 0, _ => by simp [outN]
  | n + 1, hn => by
    have ih := out_erase hxy n (by omega) (l := l) (g := g)
    have hl : ((l.set x g).take n).length = n := by rw [List.length_take, List.length_set]; omega
    have e1 : (l.set x g)[n]? = some (if n = x then g else l[n]'(by omega)) := by
      rw [List.getElem?_set]
      by_cases h : x = n
      · rw [if_pos h, if_pos (by omega), if_pos h.symm]
      · rw [if_neg h, if_neg (fun e => h e.symm), List.getElem?_eq_getElem]
    rw [List.take_add_one, e1]
    show outN l x y g n ++ _ = _
    rw [ih]
    by_cases hnx : n = x
    · rw [if_pos hnx, if_pos hnx, List.eraseIdx_of_length_le (by rw [hl]; omega), List.eraseIdx_of_length_le (by rw [List.length_append, hl]; simp; omega)]
      rfl
    · rw [if_neg hnx, if_neg hnx]
      by_cases hny : n = y
      · rw [if_pos hny, List.eraseIdx_append_of_length_le (by rw [hl]; omega), List.eraseIdx_of_length_le (by rw [hl]; omega), hl, show y - n = 0 by omega]
        rfl
      · rw [if_neg hny, List.getElem?_eq_getElem (by omega)]
        by_cases hlt : n < y
        · rw [List.eraseIdx_of_length_le (by rw [hl]; omega), List.eraseIdx_of_length_le (by rw [List.length_append, hl]; simp; omega)]
          rfl
        · rw [List.eraseIdx_append_of_lt_length (by rw [hl]; omega)]
          rfl
theorem sort_mrg {a b : List Int} (ha : a.Pairwise (· < ·)) (hb : b.Pairwise (· < ·)) (hd : ∀ x ∈ a, x ∉ b) : (a ++ b).mergeSort (fun x y => decide (x ≤ y)) = mrg a b := by
  have hp := List.mergeSort_perm (a ++ b) (fun x y => decide (x ≤ y))
  have hs : ((a ++ b).mergeSort (fun x y => decide (x ≤ y))).Pairwise (· ≤ ·) := (List.pairwise_mergeSort (le := fun (x y : Int) => decide (x ≤ y)) (fun a b c h1 h2 => by simp at h1 h2 ⊢; omega) (fun a b => by simp; omega) (a ++ b)).imp (fun {x y} h => by simpa using h)
  have hn : (a ++ b).Nodup := List.nodup_append.2 ⟨nodup_of_ris ha, nodup_of_ris hb, fun x hx y hy e => hd x hx (by rw [e]; exact hy)⟩
  have hs2 : ((a ++ b).mergeSort (fun x y => decide (x ≤ y))).Pairwise (· < ·) := (hs.and (hp.nodup_iff.2 hn)).imp (fun {x y} h => by have := h.1; have := h.2; omega)
  refine ris_unique hs2 (mrg_ris a b ha hb hd) (fun z => ?_)
  rw [hp.mem_iff, mrg_mem, List.mem_append]
theorem IsSplit.apart {l : List (List Int)} {n x y : Nat} {ga gb : List Int} (h : IsSplit l n) (hxy : x < y) (ha : l[x]? = some ga) (hb : l[y]? = some gb) : ∀ z ∈ ga, z ∉ gb := fun z hz hz' => by
  have := one_group h.nd ha hb hz hz'
  omega

/-- One group changes, in its own block or in a new one. -/
theorem Free.put {w w' : World} {B x : Nat} {ks : List OG} {k k' : OG} (h : Free w B ks) (hx : ks[x]? = some k) (hg : w.grownBy w' (some k.b)) (hk : w'.ownsRow B 3 1 k'.v k'.g.length (Li.cellsL cellsI k'.g)) (hor : k'.b = k.b ∨ k'.b = w.heap.size) : Free w' B (ks.set x k') := by
  have hxl := (List.getElem?_eq_some_iff.1 hx).1
  have hbs : ∀ (j : Nat) (z : OG), ks[j]? = some z → j ≠ x → z.b ≠ k.b := fun j z hj hne e => by
    have h1 : (ks.map OG.b)[j]? = some z.b := by rw [List.getElem?_map, hj]; rfl
    have h2 : (ks.map OG.b)[x]? = some k.b := by rw [List.getElem?_map, hx]; rfl
    rw [e] at h1
    obtain ⟨j1, e1⟩ := List.getElem?_eq_some_iff.1 h1
    obtain ⟨j2, e2⟩ := List.getElem?_eq_some_iff.1 h2
    exact hne ((List.getElem_inj h.nd (i := j) (j := x) (h₀ := j1) (h₁ := j2)).1 (e1.trans e2.symm))
  refine ⟨fun z hz => ?_, ?_⟩
  · obtain ⟨j, hj⟩ := List.mem_iff_getElem?.1 hz
    rw [List.getElem?_set] at hj
    by_cases hjx : x = j
    · rw [if_pos hjx, if_pos (by omega)] at hj
      injection hj with hj
      subst hj
      exact hk
    · rw [if_neg hjx] at hj
      refine own_other (h.own z (List.mem_of_getElem? hj)) hg (Or.inr ?_)
      intro e
      have e : some z.b = some k.b := e
      injection e with e
      exact hbs j z hj (fun e => hjx e.symm) e
  · rw [List.map_set]
    rcases hor with e | e
    · rw [e]
      have h2 : (ks.map OG.b)[x]? = some k.b := by rw [List.getElem?_map, hx]; rfl
      obtain ⟨j2, e2⟩ := List.getElem?_eq_some_iff.1 h2
      rw [← e2, List.set_getElem_self]
      exact h.nd
    · rw [List.nodup_iff_pairwise_ne]
      rw [List.pairwise_iff_getElem]
      intro i j hi hj hij
      rw [List.length_set] at hi hj
      rw [List.getElem_set, List.getElem_set]
      have hlt : ∀ (i : Nat) (hi : i < (ks.map OG.b).length), (ks.map OG.b)[i] < w.heap.size := fun i hi => by
        rw [List.getElem_map]
        exact (h.lt (List.getElem_mem _)).2
      by_cases h1 : x = i
      · rw [if_pos h1, if_neg (by omega)]
        have := hlt j hj
        omega
      · rw [if_neg h1]
        by_cases h2 : x = j
        · rw [if_pos h2]
          have := hlt i hi
          omega
        · rw [if_neg h2]
          intro e
          have := (List.getElem_inj h.nd (i := i) (j := j) (h₀ := hi) (h₁ := hj)).1 e
          omega
theorem ints_map (g : List Int) : Li.cellsL cellsI g = g.map (Value.int .i64) := by unfold Li.cellsL cellsI; rw [List.map_eq_flatMap]
theorem sort_any {w : World} {B x : Nat} {ks : List OG} {k : OG} (h : Free w B ks) (hx : ks[x]? = some k) (hl : k.g.length ≤ 1000000) :
    Calls Try.prog 32 #[k.v] w fun e w' => e = .returned (.tuple #[]) ∧ Free w' B (ks.set x ⟨k.b, k.cp, k.g.mergeSort (fun x y => decide (x ≤ y))⟩) ∧ w.grownBy w' (some k.b) := by
  have hown := h.own k (List.mem_of_getElem? hx)
  rcases hown.2 with ⟨h2, _⟩ | ⟨g, cap, cur, e1, e2, e3, e4, e5, e6, e7⟩
  · cases h2
  · unfold OG.v at e1
    injection e1 with e1 _ e8
    injection e1 with e1
    injection e1 with e1
    subst e1 e8
    have hls : (k.g.mergeSort (fun x y => decide (x ≤ y))).length = k.g.length := List.length_mergeSort _
    rw [Nat.mul_one, ints_map] at e7
    refine (Try.slices_Sort_int k.b 0 k.cp k.g w (holds_of_blockI e3 e7) (Array.getElem?_eq_some_iff.1 e3).1 (by omega)).mono ?_
    rintro e w' ⟨rfl, n, os, rfl⟩
    refine ⟨rfl, h.put hx (grownBy_sortedI _) ?_ (Or.inl rfl), grownBy_sortedI _⟩
    have := ownsRow_sortedI (w := w) (base := B) (g := k.b) (cap := k.cp) (n := n) (os := os) (cur := cur) (ss := k.g) (ts := k.g.mergeSort (fun x y => decide (x ≤ y))) hls e2 e3 e4 e5 e6
    unfold OG.v
    rw [ints_map]
    show World.ownsRow _ B 3 1 (.slice (some ⟨k.b, 0, none⟩) (k.g.mergeSort _).length k.cp) (k.g.mergeSort _).length _
    rw [hls]
    exact this
theorem map_erase {α β : Type} (f : α → β) : ∀ (l : List α) (y : Nat), (l.map f).eraseIdx y = (l.eraseIdx y).map f
  | [], _ => by simp
  | a :: l, 0 => by simp
  | a :: l, y + 1 => by simp [map_erase f l y]
/-- A group's header. -/
def encG (z : G) : Value := .slice z.A z.g.length z.cp
instance inhG : Inhabited G := ⟨noG⟩
theorem grownBy_put {α : Type} [Inhabited α] (enc : α → Value) {w : World} {g n o : Nat} (d : Array α) : w.grownBy (Sort.putRow enc (Sort.ahead w n) g o d) (some g) := by
  refine ⟨rfl, rfl, rfl, by simp, fun k hk hne => ?_⟩
  have : g ≠ k := fun e => hne (by rw [e])
  simp [Sort.putRow, Sort.mapBlock, Sort.ahead, Array.getElem?_modify, this]
theorem delete_any {w : World} {B m y R : Nat} {ks : List OG} (h : Free w B ks) (hrow : w.ownsRow B 44 1 (.slice (some ⟨R, 0, none⟩) m m) m (ks.map OG.v)) (hy : y < m) (hm : m ≤ 1000000) :
    Calls Try.prog 33 #[.slice (some ⟨R, 0, none⟩) m m, .int .i64 (y : Int), .int .i64 ((y : Int) + 1)] w fun e w' => e = .returned (.slice (some ⟨R, 0, none⟩) (m - 1) m) ∧ HasLL w' B (some ⟨R, 0, none⟩) ((ks.eraseIdx y).map OG.g) ∧ w.grownBy w' (some R) := by
  obtain ⟨i0, hi, hz0, hz1, hz2⟩ := info_parts infoG
  have hlen : ks.length = m := by have := hrow.1; rwa [List.length_map, Nat.mul_one] at this
  have hsz : (ks.map OG.G).toArray.size = m := by simp [hlen]
  have hR : B ≤ R ∧ R < w.heap.size := hrow.lt R rfl
  have hH : Sort.Holds encG w R 0 (ks.map OG.G).toArray := by
    intro j hj
    rw [hsz] at hj
    rw [Nat.zero_add]
    refine ⟨?_, hrow.frozenAt j⟩
    rw [hrow.cellAt j (by omega), List.getElem?_map]
    have hjk : j < ks.length := by omega
    rw [List.getElem?_eq_getElem hjk]
    show some _ = some _
    congr 1
    rw [getElem!_pos _ j (by simp [hlen]; exact hj)]
    simp [encG, OG.G, OG.v]
  have key := Try.slices_Delete encG (fun z => rfl) noG Try.zeroValue44 i0 hi hz1 R 0 m y (y + 1) (ks.map OG.G).toArray w hH (by rw [hsz]; exact Nat.le_refl _) (by omega) (by omega) (by rw [hsz]; omega)
  rw [hsz, show m - (y + 1 - y) = m - 1 by omega, show (((y + 1 : Nat)) : Int) = (y : Int) + 1 by omega] at key
  refine key.mono ?_
  rintro e w' ⟨rfl, q, rfl⟩
  have hgr := grownBy_put encG (w := w) (g := R) (n := q) (o := 0) ((ks.map OG.G).toArray.toList.take y ++ (ks.map OG.G).toArray.toList.drop (y + 1) ++ List.replicate (y + 1 - y) noG).toArray
  refine ⟨rfl, ?_, hgr⟩
  have he : (ks.map OG.G).toArray.toList.take y ++ (ks.map OG.G).toArray.toList.drop (y + 1) = (ks.eraseIdx y).map OG.G := by
    rw [← List.eraseIdx_eq_take_drop_succ]
    exact map_erase OG.G ks y
  rw [he] at hgr ⊢
  have hl2 : (ks.eraseIdx y).length = m - 1 := by rw [List.length_eraseIdx_of_lt (by omega), hlen]
  refine ⟨(ks.eraseIdx y).map OG.G, by rw [List.map_map]; rfl, fun _ => ⟨R, 0, rfl, hR.1, Nat.lt_of_lt_of_le hR.2 hgr.size, fun j z hj i v hv => ?_⟩, fun z hz => ?_⟩
  · have hjl := (List.getElem?_eq_some_iff.1 hj).1
    rw [List.length_map, hl2] at hjl
    have hi0 : i = 0 := by
      have := (List.getElem?_eq_some_iff.1 hv).1
      rw [cellsG_len] at this
      omega
    subst hi0
    have hv' : v = encG z := by
      have hv : some (encG z) = some v := hv
      injection hv with hv
      exact hv.symm
    subst hv'
    have hs2 : ((ks.eraseIdx y).map OG.G ++ List.replicate (y + 1 - y) noG).toArray.size = m := by simp [hl2]; omega
    have := Sort.cell?_putRow encG (Sort.ahead w q) R 0 (ks.map OG.G).toArray ((ks.eraseIdx y).map OG.G ++ List.replicate (y + 1 - y) noG).toArray hH (by rw [hs2, hsz]) j (by rw [hs2]; omega)
    rw [Nat.mul_one]
    show (Sort.putRow _ _ _ _ _).cell? ⟨R, 0 + j, none⟩ = _
    rw [this]
    congr 2
    rw [getElem!_pos _ j (by rw [hs2]; omega)]
    have hj2 : ((ks.eraseIdx y).map OG.G ++ List.replicate (y + 1 - y) noG)[j]? = some z := by rw [List.getElem?_append_left (by rw [List.length_map, hl2]; exact hjl)]; exact hj
    obtain ⟨_, e3⟩ := List.getElem?_eq_some_iff.1 hj2
    simpa using e3
  · obtain ⟨k, hk, rfl⟩ := List.mem_map.1 hz
    have hk2 : k ∈ ks := List.mem_of_mem_eraseIdx hk
    have ho := own_other (h.own k hk2) hgr (Or.inr (own_kind hrow (h.own k hk2) (by decide) rfl))
    obtain ⟨A', c', e', hc, hl⟩ := Li.list_of_own cellsI_len ho rfl
    unfold OG.v at e'
    injection e' with e1 e2 e3
    subst e1 e3
    exact ⟨hl, hc⟩
end Go.Proofs.Ytifcepjflkgbmaa.Sp
