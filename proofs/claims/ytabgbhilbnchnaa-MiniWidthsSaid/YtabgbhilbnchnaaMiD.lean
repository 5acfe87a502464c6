/- One cell more: a group's bytes, step by step. -/
import Derived.Test.YtabgbhilbnchnaaMiC
import Derived.Test.YtabgbhilbnchnaaMgO
import Derived.OwnWalk
import Derived.Laws.OwnMore
namespace Go.Proofs.Ytabgbhilbnchnaa.Mi
open Go.RowKit Pac Va Sc Ro Lex Go.Proofs.Ytabgbhilbnchnaa.Or

theorem app_empty (s : ByteArray) : (s ++ ⟨#[]⟩ : ByteArray) = s := bytesEq' (by rw [app_list]; simp)
theorem empty_of {s : ByteArray} (h : s.size = 0) : s = ⟨#[]⟩ := bytesEq' (by
  have h1 : s.data.toList.length = s.size := by simp
  rw [h] at h1
  exact List.eq_nil_of_length_eq_zero h1)
theorem part_add {f g : Nat → Bool} {j t : Nat} {b : Bool} (hs : ∀ i, i ≠ 8 * j + t → g i = f i) (hf : f (8 * j + t) = false) (hg : g (8 * j + t) = b) : ∀ m, part g j m = part f j m + (if t < m ∧ b = true then 2 ^ t else 0)
  | 0 => by simp [part]
  | m + 1 => by
    have h := part_add hs hf hg m
    show part g j m + (if g (8 * j + m) then 2 ^ m else 0) = (part f j m + (if f (8 * j + m) then 2 ^ m else 0)) + _
    by_cases e : m = t
    · subst e
      rw [h, hg, hf]
      cases b <;> simp
    · rw [hs (8 * j + m) (by omega), h]
      by_cases e2 : t < m
      · have e3 : t < m + 1 := by omega
        simp only [e2, e3, true_and]
        omega
      · have e3 : ¬ t < m + 1 := by omega
        simp only [e2, e3, false_and, if_false]
        omega
theorem part_none {f : Nat → Bool} {j t : Nat} (h : ∀ i, 8 * j + t ≤ i → f i = false) : ∀ m, t ≤ m → part f j m = part f j t
  | 0, hm => by rw [show t = 0 by omega]
  | m + 1, hm => by
    by_cases e : t = m + 1
    · rw [e]
    · show part f j m + (if f (8 * j + m) then 2 ^ m else 0) = _
      rw [h (8 * j + m) (by omega), part_none h m (by omega)]
      rfl
theorem part_same {f g : Nat → Bool} {j : Nat} : ∀ {m : Nat} (_ : ∀ i, i / 8 = j → g i = f i) (_ : m ≤ 8), part g j m = part f j m
  | 0, _, _ => rfl
  | m + 1, h, hm => by
    show part g j m + (if g (8 * j + m) then 2 ^ m else 0) = part f j m + (if f (8 * j + m) then 2 ^ m else 0)
    rw [part_same h (by omega), h (8 * j + m) (by omega)]
theorem isAt_snoc {d : List (Int × V)} {k : Int} {v : V} {n : Nat} (hn : d.length = n) : (∀ i, i ≠ n → isAt (d ++ [(k, v)]) i = isAt d i) ∧ isAt d n = false ∧ isAt (d ++ [(k, v)]) n = (v.k != 0) := by
  refine ⟨fun i hi => ?_, ?_, ?_⟩
  · unfold isAt
    by_cases h : i < d.length
    · rw [List.getElem?_append_left h]
    · rw [List.getElem?_eq_none (l := d) (by omega), List.getElem?_eq_none (by rw [List.length_append]; simp; omega)]
  · unfold isAt
    rw [List.getElem?_eq_none (by omega)]
  · unfold isAt
    rw [List.getElem?_append_right (by omega), hn, Nat.sub_self]
    rfl
/-- The mask's byte of a cell, so far. -/
def partAt (d : List (Int × V)) (n : Nat) : Nat := part (isAt d) (n / 8) 8
theorem partAt_lt {d : List (Int × V)} {n : Nat} (hn : d.length = n) : partAt d n < 2 ^ (n % 8) := by
  unfold partAt
  rw [part_none (t := n % 8) (fun i hi => by
    unfold isAt
    rw [List.getElem?_eq_none (by omega)]) 8 (by omega)]
  exact part_lt _ _ _
theorem mask_at {d : List (Int × V)} {n M : Nat} (hM : n < 8 * M) : (mask d M)[n / 8]? = some (UInt8.ofNat (partAt d n)) := by
  unfold mask
  rw [List.getElem?_map, List.getElem?_range (by omega)]
  rfl
theorem mask_zero {d : List (Int × V)} {k : Int} {v : V} {M : Nat} (hv : v.k = 0) : mask (d ++ [(k, v)]) M = mask d M := by
  unfold mask
  refine List.map_congr_left fun j hj => ?_
  congr 1
  have h := isAt_snoc (d := d) (k := k) (v := v) rfl
  have e : isAt (d ++ [(k, v)]) = isAt d := by
    funext i
    by_cases hi : i = d.length
    · rw [hi, h.2.1, h.2.2, hv]
      rfl
    · exact h.1 i hi
  rw [e]
theorem mask_snoc {d : List (Int × V)} {k : Int} {v : V} {n M : Nat} (hn : d.length = n) (hM : n < 8 * M) (hv : v.k ≠ 0) : mask (d ++ [(k, v)]) M = (mask d M).set (n / 8) (UInt8.ofNat (partAt d n + 2 ^ (n % 8))) := by
  apply List.ext_getElem?
  intro j
  have h := isAt_snoc (d := d) (k := k) (v := v) hn
  have e8 : n = 8 * (n / 8) + n % 8 := by omega
  by_cases hj : j < M
  · by_cases hjn : j = n / 8
    · subst hjn
      rw [List.getElem?_set_self (by rw [mask_len]; exact hj), mask_at hM]
      congr 2
      unfold partAt
      rw [part_add (f := isAt d) (t := n % 8) (b := true) (fun i hi => h.1 i (by omega)) (by rw [← e8]; exact h.2.1) (by rw [← e8, h.2.2]; simpa using hv) 8, if_pos ⟨by omega, rfl⟩]
    · rw [List.getElem?_set_ne (by omega)]
      unfold mask
      rw [List.getElem?_map, List.getElem?_map, List.getElem?_range hj]
      exact congrArg (fun x => some (UInt8.ofNat x)) (part_same (m := 8) (fun i hi => h.1 i (by omega)) (Nat.le_refl _))
  · rw [List.getElem?_eq_none (by rw [mask_len]; omega), List.getElem?_eq_none (by rw [List.length_set, mask_len]; omega)]
theorem or_bit {p t : Nat} (hp : p < 2 ^ t) (ht : t < 8) : bits .or .u8 (p : Int) ((2 ^ t : Nat) : Int) = ((UInt8.ofNat (p + 2 ^ t)).toNat : Int) := by
  have h2 : (2 : Nat) ^ t ≤ 2 ^ 7 := Nat.pow_le_pow_right (by decide) (by omega)
  have h3 : (2 : Nat) ^ 7 = 128 := by decide
  rw [u8_or_nat _ _ (by omega) (by omega), ofNat_toNat _ (by omega)]
  congr 1
  have := Nat.two_pow_add_eq_or_of_lt hp 1
  rw [Nat.mul_one] at this
  rw [Nat.or_comm, ← this, Nat.add_comm]
/-- Bytes as a list of values. -/
def nums (l : List UInt8) : List Value := (bys l).map (Value.int .u8)
theorem nums_len (l : List UInt8) : (nums l).length = l.length := by unfold nums; rw [List.length_map, bys_len]
theorem nums_at {l : List UInt8} {j : Nat} {b : UInt8} (h : l[j]? = some b) : (nums l)[j]? = some (.int .u8 (b.toNat : Int)) := by
  unfold nums bys
  rw [List.getElem?_map, List.getElem?_map, h]
  rfl
theorem nums_set (l : List UInt8) (j : Nat) (b : UInt8) : (nums l).set j (.int .u8 (b.toNat : Int)) = nums (l.set j b) := by
  unfold nums bys
  rw [List.map_set, List.map_set]
theorem made_mask (M : Nat) : (madeCells #[.int .u8 0] M).toList = nums (mask [] M) := by
  rw [toList_madeCells_one]
  apply List.ext_getElem?
  intro j
  by_cases hj : j < M
  · have e := mask_at (d := []) (n := 8 * j) (M := M) (by omega)
    rw [show 8 * j / 8 = j by omega] at e
    rw [nums_at e, List.getElem?_replicate, if_pos hj]
    have : partAt [] (8 * j) = 0 := by
      have := partAt_lt (d := []) (n := 0) rfl
      have h0 : ∀ m j, part (isAt []) j m = 0 := fun m j => by
        induction m with
        | zero => rfl
        | succ m ih => show part _ j m + _ = 0; rw [ih]; rfl
      exact h0 8 _
    rw [this]
    rfl
  · rw [List.getElem?_eq_none (by rw [List.length_replicate]; omega), List.getElem?_eq_none (by rw [nums_len, mask_len]; omega)]
theorem str_of_own {w : World} {base n : Nat} {v : Value} {l : List UInt8} (hown : w.ownsRow base 5 1 v n (nums l)) (hl : l ≠ []) : (convert 47 9 v).run Try.prog w = .ok (.string ⟨l.toArray⟩) w := by
  have hn : l.length = n := by have := hown.1; unfold nums at this; simpa [bys_len] using this
  have hown1 := hown
  obtain ⟨_, hcase⟩ := hown
  rcases hcase with ⟨_, h0⟩ | ⟨g, cap', cur, rfl, _, _, _, _, _, _⟩
  · exact absurd (List.eq_nil_of_length_eq_zero (by rw [hn]; exact h0)) hl
  · rw [run_convert_bytes_arg (P := Try.prog) w 47 5 Try.underlying47 Try.underlying5 g 0 _ cap' (bys l) (by rw [bys_len, hn]) (fun i hi => by
      rw [Nat.zero_add, hown1.cellAt i (by omega)]
      have : i < (bys l).length := by rw [bys_len, hn]; exact hi
      unfold nums
      simp [List.getD, List.getElem?_eq_getElem this]) 9 Try.underlying9, strOf_bys]
theorem threeBytes (w : World) (x y z : UInt8) : (convert 47 9 (.slice (some ⟨w.heap.size, 0, none⟩) 3 3)).run Try.prog (w.alloc (.cells #[.int .u8 (x.toNat : Int), .int .u8 (y.toNat : Int), .int .u8 (z.toNat : Int)] 5)) = .ok (.string ⟨#[x, y, z]⟩) (w.alloc (.cells #[.int .u8 (x.toNat : Int), .int .u8 (y.toNat : Int), .int .u8 (z.toNat : Int)] 5)) := by
  have := run_convert_bytes_arg (P := Try.prog) (w.alloc (.cells #[.int .u8 (x.toNat : Int), .int .u8 (y.toNat : Int), .int .u8 (z.toNat : Int)] 5)) 47 5 Try.underlying47 Try.underlying5 w.heap.size 0 3 3 [(x.toNat : Int), (y.toNat : Int), (z.toNat : Int)] rfl (by
    intro i hi
    match i, hi with
    | 0, _ => simp
    | 1, _ => simp
    | 2, _ => simp) 9 Try.underlying9
  rw [this]
  have h := strOf_bys [x, y, z]
  unfold bys at h
  simp only [List.map_cons, List.map_nil] at h
  rw [h]
theorem be_step (u q : Nat) (hu : u < 18446744073709551616) (hq : q < 8) : ∃ d : UInt8, (u : Int) / 2 ^ (8 * (7 - q)) % 256 = (d.toNat : Int) ∧ (be 8 u).take q ++ [d] = (be 8 u).take (q + 1) := by
  obtain ⟨d, e, h⟩ := part_step 0 u q hu hq
  refine ⟨d, e, ?_⟩
  have := congrArg (fun x : ByteArray => x.data.toList) h
  rw [app_list] at this
  have : 0 :: (be 8 u).take q ++ [d] = 0 :: (be 8 u).take (q + 1) := this
  simpa using this
theorem numW (n : Int) (h0 : -9223372036854775808 ≤ n) (h1 : n ≤ 9223372036854775807) : ∃ u : Nat, IntKind.u64.wrap n = (u : Int) ∧ u < 18446744073709551616 ∧ u = (n % 18446744073709551616).toNat :=
  ⟨(n % 18446744073709551616).toNat, by rw [wrapU]; omega, by omega, rfl⟩
/-- Bytes so far, as a text. -/
def FB (d : List (Int × V)) : ByteArray := ⟨(fix 0 d).toArray⟩
def HB (d : List (Int × V)) : ByteArray := ⟨(hp d).toArray⟩
theorem HB_snoc (d : List (Int × V)) (k : Int) (v : V) : HB d ++ v.s = HB (d ++ [(k, v)]) := bytesEq' (by rw [app_list]; unfold HB; rw [hp_snoc])
theorem HB_size (d : List (Int × V)) : (HB d).size = (hp d).length := by unfold HB; simp [ByteArray.size]
theorem FB_snoc (d : List (Int × V)) (k : Int) (v : V) {b : ByteArray} (hb : b.data.toList = one k v (HB d).size) : FB d ++ b = FB (d ++ [(k, v)]) := bytesEq' (by rw [app_list]; unfold FB; rw [fix_snoc, hb, HB_size, Nat.zero_add])
theorem FB_size (d : List (Int × V)) : (FB d).size ≤ 8 * d.length := by
  have : ∀ (c : List (Int × V)), wide (c.map (·.1)) ≤ 8 * c.length := fun c => by
    induction c with
    | nil => exact Nat.le_refl _
    | cons p c ih =>
      show oneW p.1 + wide (c.map (·.1)) ≤ 8 * (c.length + 1)
      have : oneW p.1 ≤ 8 := by unfold oneW; split <;> (try split) <;> omega
      omega
  have h : (FB d).size = (fix 0 d).length := by unfold FB; simp [ByteArray.size]
  rw [h, fix_len]
  exact this d
theorem HB_le {d : List (Int × V)} (h : ∀ p ∈ d, CellOk p) : (HB d).size ≤ 60 * d.length := by
  rw [HB_size]
  induction d with
  | nil => exact Nat.le_refl _
  | cons p c ih =>
    have h1 := ih (fun x hx => h x (List.mem_cons_of_mem _ hx))
    have h2 := right_sz (h p List.mem_cons_self).r
    show (p.2.s.data.toList ++ hp c).length ≤ 60 * (c.length + 1)
    rw [List.length_append]
    have h3 : p.2.s.data.toList.length = p.2.s.size := by simp
    omega
theorem take_snoc {α : Type} {l : List α} {n : Nat} {x : α} (h : l[n]? = some x) : l.take (n + 1) = l.take n ++ [x] := by
  obtain ⟨hlt, e⟩ := List.getElem?_eq_some_iff.1 h
  rw [List.take_succ_eq_append_getElem hlt, e]
end Go.Proofs.Ytabgbhilbnchnaa.Mi
