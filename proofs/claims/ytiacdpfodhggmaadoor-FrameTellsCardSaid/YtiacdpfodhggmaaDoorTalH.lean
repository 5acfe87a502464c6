/- Bytes of which up to four side by side are others: plainly, and in memory. -/
import Derived.Test.YtiacdpfodhggmaaDoorTalE
import Derived.Laws.IdiomStrings
import Derived.Lib.ConvBytes
import Derived.RegionTactic
import Derived.ChangeAlike
namespace Go.Proofs.YtiacdpfodhggmaaDoor.Tal
open Go.RowKit Go.Shelf

/-- Is one of the first ones no nought? -/
def oth (E : Nat → UInt8) : Nat → Bool
  | 0 => false
  | q + 1 => oth E q || (E q != 0)
/-- Bytes, of which so many behind the k-th are others. -/
def cur (S E : Nat → UInt8) (k q j : Nat) : UInt8 := if k ≤ j ∧ j < k + q then S j ^^^ E (j - k) else S j
theorem cur_zero (S E : Nat → UInt8) (k j : Nat) : cur S E k 0 j = S j := by
  unfold cur
  rw [if_neg (by omega)]
theorem cur_at (S E : Nat → UInt8) (k q : Nat) : cur S E k (q + 1) (k + q) = cur S E k q (k + q) ^^^ E q := by
  unfold cur
  rw [if_pos (by omega), if_neg (by omega)]
  congr 2
  omega
theorem cur_off (S E : Nat → UInt8) (k q j : Nat) (h : j ≠ k + q) : cur S E k (q + 1) j = cur S E k q j := by
  unfold cur
  by_cases h1 : k ≤ j ∧ j < k + q
  · rw [if_pos h1, if_pos (by omega)]
  · rw [if_neg h1, if_neg (by omega)]
theorem oth_iff (E : Nat → UInt8) (q : Nat) : oth E q = false ↔ ∀ j, j < q → E j = 0 := by
  induction q with
  | zero => simp [oth]
  | succ q ih =>
    simp only [oth, Bool.or_eq_false_iff, ih, bne_eq_false_iff_eq]
    constructor
    · rintro ⟨h1, h2⟩ j hj
      by_cases e : j = q
      · subst e; exact h2
      · exact h1 j (by omega)
    · intro h
      exact ⟨fun j hj => h j (by omega), h q (by omega)⟩

/-- The bytes behind all turns, as a list. -/
def curL (S E : Nat → UInt8) (k q n : Nat) : List UInt8 := (List.range n).map (cur S E k q)
theorem curL_length (S E : Nat → UInt8) (k q n : Nat) : (curL S E k q n).length = n := by simp [curL]
theorem curL_parts (l : List UInt8) (E : Nat → UInt8) (k q : Nat) (h : k + q ≤ l.length) :
    curL (fun j => l.getD j 0) E k q l.length = l.take k ++ turned ((l.drop k).take q) ((List.range q).map E) ++ l.drop (k + q) := by
  apply List.ext_getElem
  · simp [curL, turned]; omega
  · intro i h1 h2
    have hi : i < l.length := by simpa [curL] using h1
    simp only [curL, List.getElem_map, List.getElem_range]
    unfold cur
    by_cases c1 : i < k
    · rw [if_neg (by omega), List.getElem_append_left (by simp [turned]; omega), List.getElem_append_left (by simp; omega)]
      simp [hi]
    · by_cases c2 : i < k + q
      · rw [if_pos (by omega), List.getElem_append_left (by simp [turned]; omega), List.getElem_append_right (by simp; omega)]
        have e1 : i - min k l.length = i - k := by omega
        have e2 : k + (i - k) = i := by omega
        simp [turned, hi, e1, e2]
      · rw [if_neg (by omega), List.getElem_append_right (by simp [turned]; omega)]
        simp [turned, hi]
        congr 1
        omega
theorem turns_sum (l : List UInt8) (E : Nat → UInt8) (k q : Nat) (h : k + q ≤ l.length) (hq : q ≤ 4) :
    (crc (curL (fun j => l.getD j 0) E k q l.length) = crc l) ↔ oth E q = false := by
  rw [curL_parts l E k q h, oth_iff]
  have e : l.take k ++ (l.drop k).take q ++ l.drop (k + q) = l := by
    rw [List.append_assoc, ← List.drop_drop, List.take_append_drop, List.take_append_drop]
  have := crc_burst (l.take k) ((l.drop k).take q) ((List.range q).map E) (l.drop (k + q)) (by simp; omega) (by simpa using hq)
  rw [e] at this
  rw [this]
  constructor
  · intro h j hj
    exact h _ (by simp; exact ⟨j, hj, rfl⟩)
  · intro h b hb
    simp at hb
    obtain ⟨j, hj, rfl⟩ := hb
    exact h j hj
/-- The bytes of a text, in new memory. -/
theorem bytes_new (s : ByteArray) (w : World) : ∃ (W : World) (cap : Nat), (convert 9 26 (.string s)).run Tryd.prog w = .ok (.slice (some ⟨w.heap.size, 0, none⟩) s.size cap) W ∧ s.size ≤ cap ∧
    (∀ j, j < s.size → W.cell? ⟨w.heap.size, j, none⟩ = some (.int .u8 ((s.data.toList.getD j 0).toNat)) ∧ W.frozen? ⟨w.heap.size, j, none⟩ = false) ∧ Below w.heap.size w W := by
  have hc := Lib.run_convert_string_bytes (P := Tryd.prog) w 9 26 5 s Tryd.underlying9 Tryd.underlying26 Tryd.underlying5
  refine ⟨_, _, hc, grownCap_ge _ _ _ _, fun j hj => ⟨Lib.bytesWorld_cell w 5 s j hj, ?_⟩, ?_⟩
  · have hsz : s.size ≤ (Lib.bytesCells w 5 s).size := by unfold Lib.bytesCells; simp
    simp [World.frozen?, Lib.bytesWorld_at_new]
    omega
  · exact ⟨rfl, rfl, rfl, by rw [Lib.bytesWorld_size]; omega, fun k hk => Lib.bytesWorld_at_old w 5 s k hk⟩
/-- What the loop keeps: the text's bytes, so far turned, and those that turn them. -/
structure Turns (w wr : World) (S E : Nat → UInt8) (n k q : Nat) : Prop where
  b : ∀ j, j < n → wr.cell? ⟨w.heap.size + 1, j, none⟩ = some (.int .u8 (cur S E k q j).toNat)
  f : ∀ j, j < n → wr.frozen? ⟨w.heap.size + 1, j, none⟩ = false
  e : ∀ j, j < 4 → wr.cell? ⟨w.heap.size, j, none⟩ = some (.int .u8 (E j).toNat)
  keep : Below w.heap.size w wr
  size : w.heap.size + 1 < wr.heap.size
theorem box_cells (w : World) (E : Nat → UInt8) (T : TypeId) : ∀ j, j < 4 → (w.alloc (.cells #[.int .u8 (E 0).toNat, .int .u8 (E 1).toNat, .int .u8 (E 2).toNat, .int .u8 (E 3).toNat] T)).cell? ⟨w.heap.size, j, none⟩ = some (.int .u8 (E j).toNat) := by
  intro j hj
  match j, hj with
  | 0, _ => simp
  | 1, _ => simp
  | 2, _ => simp
  | 3, _ => simp
theorem add_zero_off (b j : Nat) : (⟨b, 0, none⟩ : Addr).add j = ⟨b, j, none⟩ := by unfold Addr.add; split <;> simp_all
theorem turns_next {w wr : World} {S E : Nat → UInt8} {n k q y : Nat} (h : Turns w wr S E n k q) (hn : k + q < n) (hy : (cur S E k q (k + q) ^^^ E q).toNat = y) :
    Turns w (wr.drew.setCell ⟨w.heap.size + 1, k + q, none⟩ (.int .u8 y)) S E n k (q + 1) := by
  have hs := h.size
  refine ⟨fun j hj => ?_, fun j hj => ?_, fun j hj => ?_, ?_, ?_⟩
  · by_cases e : j = k + q
    · subst e
      rw [cur_at, hy]
      exact World.cell?_setCell_same wr.drew _ _ (h.b (k + q) hn)
    · rw [cur_off S E k q j e]
      exact (World.cell?_setCell_other wr.drew _ _ _ (fun e' => e (by injection e' with _ e2; exact e2.symm))).trans (h.b j hj)
  · rw [World.frozen?_setCell]
    exact h.f j hj
  · exact (World.cell?_setCell_other wr.drew _ _ _ (fun e' => by injection e' with e1 _; omega)).trans (h.e j hj)
  · exact h.keep.drew.setCell (by simp) _
  · simpa using hs
theorem curL_get (S E : Nat → UInt8) (k q n j : Nat) (hj : j < (curL S E k q n).length) : (curL S E k q n)[j] = cur S E k q j := by
  simp [curL]
end Go.Proofs.YtiacdpfodhggmaaDoor.Tal
