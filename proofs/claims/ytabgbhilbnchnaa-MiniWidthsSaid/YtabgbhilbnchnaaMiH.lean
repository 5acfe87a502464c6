/- Stage 9, a group's bytes, read cell by cell, plainly: what each cell is where bytes are a group's, and that it may be. -/
import Derived.Test.YtabgbhilbnchnaaMiC
namespace Go.Proofs.Ytabgbhilbnchnaa.Mi
open Pac Va Go.Proofs.Ytabgbhilbnchnaa.Or

/-- The kinds of all cells, in a row. -/
def kindsA (ks : List Int) : List Int := (List.replicate 8 ks).flatten
theorem flatMap_const {ks : List Int} : ∀ (l : List (List V)), l.flatMap (fun _ => ks) = (List.replicate l.length ks).flatten
  | [] => rfl
  | r :: l => by rw [List.flatMap_cons, flatMap_const l, List.length_cons, List.replicate_succ, List.flatten_cons]
theorem kindsA_flat {ks : List Int} {cells : List (List V)} (h : RightM ks cells) : (flat ks cells).map (·.1) = kindsA ks := by
  unfold flat kindsA
  rw [← h.len, ← flatMap_const cells, List.map_flatMap]
  have : ∀ (l : List (List V)), (∀ r ∈ l, r.length = ks.length) → l.flatMap (fun r => (ks.zip r).map (·.1)) = l.flatMap (fun _ => ks) := by
    intro l
    induction l with
    | nil => intro _; rfl
    | cons r l ih =>
      intro hl
      rw [List.flatMap_cons, List.flatMap_cons, ih (fun x hx => hl x (List.mem_cons_of_mem _ hx)), List.map_fst_zip (by rw [hl r List.mem_cons_self]; exact Nat.le_refl _)]
  exact this cells h.row
theorem kindsA_len (ks : List Int) : (kindsA ks).length = 8 * ks.length := by
  unfold kindsA
  simp [List.length_flatten, List.map_replicate]
  omega
theorem rep_at {ks : List Int} : ∀ {m i c : Nat} {k : Int}, i < m → ks[c]? = some k → ((List.replicate m ks).flatten)[i * ks.length + c]? = some k
  | 0, i, c, k, h, _ => absurd h (Nat.not_lt_zero _)
  | m + 1, 0, c, k, _, h => by
    rw [List.replicate_succ, List.flatten_cons, Nat.zero_mul, Nat.zero_add, List.getElem?_append_left (List.getElem?_eq_some_iff.1 h).1]
    exact h
  | m + 1, i + 1, c, k, hi, h => by
    rw [List.replicate_succ, List.flatten_cons, List.getElem?_append_right (by rw [Nat.add_mul]; omega), Nat.add_mul, Nat.one_mul, show i * ks.length + ks.length + c - ks.length = i * ks.length + c by omega]
    exact rep_at (by omega) h
theorem kindsA_at {ks : List Int} {i c : Nat} {k : Int} (hi : i < 8) (h : ks[c]? = some k) : (kindsA ks)[i * ks.length + c]? = some k := rep_at hi h
/-- Where the cell n begins. -/
def posA (ks : List Int) (n : Nat) : Nat := ks.length + wide ((kindsA ks).take n)
/-- Where the bytes of texts begin. -/
def heapA (ks : List Int) : Nat := ks.length + 8 * wide ks
theorem wide_app : ∀ (a b : List Int), wide (a ++ b) = wide a + wide b
  | [], b => by simp [wide]
  | x :: a, b => by
    show oneW x + wide (a ++ b) = oneW x + wide a + wide b
    rw [wide_app a b]
    omega
theorem wide_rep (ks : List Int) : ∀ m, wide ((List.replicate m ks).flatten) = m * wide ks
  | 0 => by simp [wide]
  | m + 1 => by
    rw [List.replicate_succ, List.flatten_cons, wide_app, wide_rep ks m, Nat.add_mul]
    omega
theorem pos_zero (ks : List Int) : posA ks 0 = ks.length := by unfold posA; simp [wide]
theorem pos_next {ks : List Int} {n : Nat} {k : Int} (h : (kindsA ks)[n]? = some k) : posA ks (n + 1) = posA ks n + oneW k := by
  unfold posA
  rw [List.take_add_one, h, wide_app]
  show _ + (_ + (oneW k + 0)) = _
  omega
theorem pos_end (ks : List Int) {n : Nat} (h : (kindsA ks).length ≤ n) : posA ks n = heapA ks := by
  unfold posA heapA
  rw [List.take_of_length_le h]
  unfold kindsA
  rw [wide_rep]
theorem wide_take (K : List Int) (n : Nat) : wide (K.take n) ≤ wide K := by
  have h := congrArg wide (List.take_append_drop n K)
  rw [wide_app] at h
  omega
theorem pos_le {ks : List Int} {n : Nat} : posA ks n ≤ heapA ks := by
  have h := pos_end ks (n := (kindsA ks).length) (Nat.le_refl _)
  rw [← h]
  unfold posA
  have := wide_take (kindsA ks) n
  rw [List.take_length]
  omega
/-- The bit of the cell n. -/
def bitA (s : ByteArray) (n : Nat) : Bool := ((s.data.toList[n / 8]?.getD 0).toNat / 2 ^ (n % 8)) % 2 == 1
/-- So many bytes from there on. -/
def bytesA (s : ByteArray) (at' m : Nat) : List UInt8 := (s.data.toList.drop at').take m
/-- A number out of its bytes, the highest first. -/
def unbe (l : List UInt8) : Nat := l.foldl (fun u b => u * 256 + b.toNat) 0
def sgn (u : Nat) : Int := if u < 9223372036854775808 then (u : Int) else (u : Int) - 18446744073709551616
/-- A cell, or none. -/
def decV (ks : List Int) (s : ByteArray) (k : Int) (n : Nat) : Option V :=
  if bitA s n = false then some vZ else
  if k = 1 then some ⟨1, sgn (unbe (bytesA s (posA ks n) 8)), ⟨#[]⟩⟩ else
  if k = 2 then (if (bytesA s (posA ks n) 1).headD 0 ≤ 1 then some ⟨2, (((bytesA s (posA ks n) 1).headD 0).toNat : Int), ⟨#[]⟩⟩ else none) else
  (if heapA ks + ((bytesA s (posA ks n) 3)[0]?.getD 0).toNat * 256 + ((bytesA s (posA ks n) 3)[1]?.getD 0).toNat + ((bytesA s (posA ks n) 3)[2]?.getD 0).toNat ≤ s.size ∧ ((bytesA s (posA ks n) 3)[2]?.getD 0).toNat ≤ 60 then
    some ⟨3, 0, s.extract (heapA ks + ((bytesA s (posA ks n) 3)[0]?.getD 0).toNat * 256 + ((bytesA s (posA ks n) 3)[1]?.getD 0).toNat) (heapA ks + ((bytesA s (posA ks n) 3)[0]?.getD 0).toNat * 256 + ((bytesA s (posA ks n) 3)[1]?.getD 0).toNat + ((bytesA s (posA ks n) 3)[2]?.getD 0).toNat)⟩
  else none)
theorem unbe_snoc (l : List UInt8) (b : UInt8) : unbe (l ++ [b]) = unbe l * 256 + b.toNat := by unfold unbe; rw [List.foldl_append]; rfl
theorem unbe_go : ∀ (l : List UInt8) (a : Nat), l.foldl (fun u b => u * 256 + b.toNat) a = a * 256 ^ l.length + unbe l
  | [], a => by simp [unbe]
  | b :: l, a => by
    show l.foldl _ (a * 256 + b.toNat) = a * 256 ^ (l.length + 1) + l.foldl _ (0 * 256 + b.toNat)
    rw [unbe_go l (a * 256 + b.toNat), unbe_go l (0 * 256 + b.toNat), Nat.add_mul, Nat.add_mul, Nat.pow_succ]
    rw [Nat.mul_assoc a 256, Nat.mul_comm 256]
    omega
theorem unbe_be : ∀ (f u : Nat), u < 256 ^ f → unbe (be f u) = u
  | 0, u, h => by
    simp at h
    subst h
    rfl
  | f + 1, u, h => by
    show (be f (u % 256 ^ f)).foldl _ (0 * 256 + (UInt8.ofNat (u / 256 ^ f)).toNat) = u
    have hq : 0 < 256 ^ f := Nat.pow_pos (by omega)
    rw [unbe_go, be_len, unbe_be f _ (Nat.mod_lt _ hq), ofNat_toNat _ (head_lt h), Nat.zero_mul, Nat.zero_add]
    rw [Nat.mul_comm]
    exact Nat.div_add_mod u _
theorem unbe_lt : ∀ (l : List UInt8), unbe l < 256 ^ l.length
  | [] => by simp [unbe]
  | b :: l => by
    have h1 := unbe_lt l
    have h2 := b.toNat_lt
    show l.foldl _ (0 * 256 + b.toNat) < 256 ^ (l.length + 1)
    rw [unbe_go, Nat.pow_succ, Nat.zero_mul, Nat.zero_add]
    have h3 : b.toNat * 256 ^ l.length + 256 ^ l.length ≤ 256 ^ l.length * 256 := by
      have : (b.toNat + 1) * 256 ^ l.length ≤ 256 * 256 ^ l.length := Nat.mul_le_mul_right _ (by omega)
      rw [Nat.add_mul, Nat.one_mul, Nat.mul_comm 256] at this
      exact this
    omega
theorem sgn_range (u : Nat) (h : u < 18446744073709551616) : -9223372036854775808 ≤ sgn u ∧ sgn u ≤ 9223372036854775807 := by
  unfold sgn
  split <;> omega
theorem sgn_mod {n : Int} (h0 : -9223372036854775808 ≤ n) (h1 : n ≤ 9223372036854775807) : sgn (n % 18446744073709551616).toNat = n := by
  unfold sgn
  split <;> omega
theorem bytesA_len (s : ByteArray) {a m : Nat} (h : a + m ≤ s.size) : (bytesA s a m).length = m := by
  unfold bytesA
  have : s.data.toList.length = s.size := by simp
  rw [List.length_take, List.length_drop]
  omega
theorem right1 (n : Int) : rightV ⟨1, n, ⟨#[]⟩⟩ = true := by
  unfold rightV
  rw [if_neg (show ¬ (1 : Int) = 0 by decide), if_pos rfl]
  exact (show (ByteArray.toList ⟨#[]⟩).isEmpty = true by decide +kernel)
theorem right2 {b : Nat} (h : b ≤ 1) : rightV ⟨2, (b : Int), ⟨#[]⟩⟩ = true := by
  have : b = 0 ∨ b = 1 := by omega
  rcases this with rfl | rfl <;> decide +kernel
theorem right3 {x : ByteArray} (h : x.size ≤ 60) : rightV ⟨3, 0, x⟩ = true := by
  unfold rightV
  rw [if_neg (show ¬ (3 : Int) = 0 by decide), if_neg (show ¬ (3 : Int) = 1 by decide), if_neg (show ¬ (3 : Int) = 2 by decide), if_pos rfl]
  simp only [Bool.and_eq_true, beq_self_eq_true, true_and, decide_eq_true_eq]
  show (x.size : Int) ≤ 60
  omega
theorem ok_of {k n : Int} {x : ByteArray} (k0 : 0 ≤ k) (k1 : k ≤ 3) (n0 : -9223372036854775808 ≤ n) (n1 : n ≤ 9223372036854775807) : V.Ok ⟨k, n, x⟩ := ⟨by show _ ≤ k; omega, by show k ≤ _; omega, n0, n1⟩
theorem one_1 (v : V) (h : Nat) : one 1 v h = be 8 (v.n % 18446744073709551616).toNat := by unfold one; rw [if_pos rfl]
theorem one_2 (v : V) (h : Nat) : one 2 v h = [UInt8.ofNat (v.n % 256).toNat] := by unfold one; rw [if_neg (by decide), if_pos rfl]
theorem one_3 (v : V) (h : Nat) : one 3 v h = [UInt8.ofNat ((if v.s.size = 0 then 0 else h) / 256), UInt8.ofNat (if v.s.size = 0 then 0 else h), UInt8.ofNat v.s.size] := by unfold one; rw [if_neg (by decide), if_neg (by decide)]
/-- What is read may be. -/
theorem dec_ok {ks : List Int} {s : ByteArray} {k : Int} {n : Nat} {v : V} (hk : k = 1 ∨ k = 2 ∨ k = 3) (hs : s.size ≤ 9223372036854775807) (hp : posA ks n + oneW k ≤ s.size) (h : decV ks s k n = some v) : CellOk (k, v) := by
  unfold decV at h
  split at h
  · injection h with h
    subst h
    exact ⟨hk, (show rightV vZ = true by decide +kernel), Or.inl rfl, ok_of (by decide) (by decide) (by decide) (by decide)⟩
  · split at h
    · rename_i h1
      subst h1
      injection h with h
      subst h
      have hl := bytesA_len s hp
      have hu := unbe_lt (bytesA s (posA ks n) (oneW 1))
      rw [hl] at hu
      have e8 : oneW 1 = 8 := rfl
      rw [e8] at hu
      have := sgn_range _ hu
      exact ⟨hk, right1 _, Or.inr rfl, ok_of (by decide) (by decide) this.1 this.2⟩
    · split at h
      · rename_i h2
        subst h2
        split at h
        · rename_i h3
          injection h with h
          subst h
          have h3 : ((bytesA s (posA ks n) 1).headD 0).toNat ≤ 1 := h3
          generalize ((bytesA s (posA ks n) 1).headD 0).toNat = b at h3
          exact ⟨hk, right2 h3, Or.inr rfl, ok_of (by decide) (by decide) (by omega) (by omega)⟩
        · cases h
      · split at h
        · rename_i h1 h2 h3
          have : k = 3 := by omega
          subst this
          injection h with h
          subst h
          obtain ⟨h3, h4⟩ := h3
          generalize heapA ks + ((bytesA s (posA ks n) 3)[0]?.getD 0).toNat * 256 + ((bytesA s (posA ks n) 3)[1]?.getD 0).toNat = a at h3 ⊢
          generalize ((bytesA s (posA ks n) 3)[2]?.getD 0).toNat = z at h3 h4 ⊢
          exact ⟨hk, right3 (by rw [ByteArray.size_extract]; omega), Or.inr rfl, ok_of (by decide) (by decide) (by decide) (by decide)⟩
        · cases h
theorem part_bit (f : Nat → Bool) (j : Nat) : ∀ (m i : Nat), i < m → part f j m / 2 ^ i % 2 = if f (8 * j + i) then 1 else 0
  | 0, i, h => absurd h (Nat.not_lt_zero _)
  | m + 1, i, h => by
    show (part f j m + if f (8 * j + m) then 2 ^ m else 0) / 2 ^ i % 2 = _
    have hl := part_lt f j m
    by_cases him : i < m
    · rw [← part_bit f j m i him]
      have e : ∃ q, (if f (8 * j + m) then 2 ^ m else 0) = 2 ^ i * (2 * q) := by
        split
        · refine ⟨2 ^ (m - i - 1), ?_⟩
          rw [← Nat.pow_succ', ← Nat.pow_add]
          congr 1
          omega
        · exact ⟨0, by simp⟩
      obtain ⟨q, e⟩ := e
      rw [e, Nat.add_mul_div_left _ _ (Nat.pow_pos (by omega))]
      omega
    · obtain rfl : i = m := by omega
      split
      · rw [Nat.add_div_right _ (Nat.pow_pos (by omega)), Nat.div_eq_of_lt hl]
      · rw [Nat.add_zero, Nat.div_eq_of_lt hl]
theorem wide_map (c : List (Int × V)) (n : Nat) : wide ((c.map (·.1)).take n) = (fix 0 (c.take n)).length := by rw [fix_len, List.map_take]
theorem hp_le : ∀ (c : List (Int × V)), (∀ p ∈ c, CellOk p) → (hp c).length ≤ 60 * c.length
  | [], _ => Nat.le_refl _
  | p :: c, h => by
    have h1 := hp_le c (fun q hq => h q (List.mem_cons_of_mem _ hq))
    have h2 := right_sz (h p List.mem_cons_self).r
    show (p.2.s.data.toList ++ hp c).length ≤ 60 * (c.length + 1)
    have h3 : p.2.s.data.toList.length = p.2.s.size := by simp
    rw [List.length_append]
    omega
theorem split_at {c : List (Int × V)} {n : Nat} {p : Int × V} (h : c[n]? = some p) : c = c.take n ++ p :: c.drop (n + 1) := by
  obtain ⟨hn, e⟩ := List.getElem?_eq_some_iff.1 h
  rw [← e, List.getElem_cons_drop, List.take_append_drop]
/-- Where bytes are a group's, each cell is read as it was. -/
theorem dec_print {ks : List Int} {cells : List (List V)} (h : RightM ks cells) (h8 : ks.length ≤ 8) {n : Nat} {k : Int} {v : V} (hn : (flat ks cells)[n]? = some (k, v)) : decV ks (printM ks cells) k n = some v := by
  have hK := kindsA_flat h
  have hfew := h.few
  have hok := h.ok
  have hs := printM_list ks cells
  have hsz : (printM ks cells).size = (printC (flat ks cells) ks.length).length := by rw [← hs]; simp
  generalize printM ks cells = s at hs hsz ⊢
  generalize flat ks cells = c at hn hK hfew hok hs hsz
  have hnl := (List.getElem?_eq_some_iff.1 hn).1
  have hv := hok (k, v) (List.mem_of_getElem? hn)
  have hc := split_at hn
  -- the bit
  have hbit : bitA s n = (v.k != 0) := by
    unfold bitA
    have e1 : s.data.toList[n / 8]? = some (UInt8.ofNat (part (isAt c) (n / 8) 8)) := by
      rw [hs]
      unfold printC
      rw [List.append_assoc, List.getElem?_append_left (by rw [mask_len]; omega)]
      unfold mask
      rw [List.getElem?_map, List.getElem?_range (by omega)]
      rfl
    have hl := part_lt (isAt c) (n / 8) 8
    rw [e1, Option.getD_some, ofNat_toNat _ (by simpa using hl), part_bit _ _ 8 (n % 8) (by omega), show 8 * (n / 8) + n % 8 = n by omega]
    unfold isAt
    rw [hn]
    cases hb : (v.k != 0) <;> simp [hb]
  -- the bytes of one width
  have hpos : posA ks n = ks.length + (fix 0 (c.take n)).length := by
    unfold posA
    rw [← hK, wide_map]
  have hby : bytesA s (posA ks n) (oneW k) = one k v (hp (c.take n)).length := by
    unfold bytesA
    rw [hs, hpos]
    unfold printC
    have e2 : fix 0 c = fix 0 (c.take n) ++ (one k v (0 + (hp (c.take n)).length) ++ fix (0 + (hp (c.take n)).length + v.s.size) (c.drop (n + 1))) := by
      conv => lhs; rw [hc]
      rw [fix_app]
      rfl
    rw [e2, List.append_assoc, List.append_assoc, List.append_assoc]
    have e3 : (mask c ks.length ++ (fix 0 (c.take n) ++ (one k v (0 + (hp (c.take n)).length) ++ (fix (0 + (hp (c.take n)).length + v.s.size) (c.drop (n + 1)) ++ hp c)))).drop (ks.length + (fix 0 (c.take n)).length) = one k v (0 + (hp (c.take n)).length) ++ (fix (0 + (hp (c.take n)).length + v.s.size) (c.drop (n + 1)) ++ hp c) := by
      rw [← List.append_assoc, List.drop_left' (by rw [List.length_append, mask_len])]
    rw [e3, List.take_left' (one_len _ _ _), Nat.zero_add]
  have hheap : heapA ks = ks.length + (fix 0 c).length := by
    rw [← pos_end ks (n := (kindsA ks).length) (Nat.le_refl _)]
    unfold posA
    rw [List.take_length, ← hK, fix_len]
  unfold decV
  rw [hbit]
  by_cases hz : v.k = 0
  · rw [if_pos (by simp [hz])]
    have h1 := right_s hv.r (by show v.k ≠ 3; omega)
    have e1 : v.s = ⟨#[]⟩ := h1.1
    have e2 : v.n = 0 := h1.2.1 hz
    obtain ⟨vk, vn, vs⟩ := v
    simp only at hz e1 e2
    rw [hz, e1, e2]
    rfl
  · rw [if_neg (by simp [hz])]
    have hvk : v.k = k := by
      rcases hv.z with h1 | h1
      · exact absurd h1 hz
      · exact h1
    rcases hv.k with rfl | rfl | rfl
    · rw [if_pos rfl]
      have h1 := right_s hv.r (by show v.k ≠ 3; omega)
      have e1 : v.s = ⟨#[]⟩ := h1.1
      have hby : bytesA s (posA ks n) 8 = one 1 v (hp (c.take n)).length := hby
      rw [hby, one_1]
      have ho : v.Ok := hv.ok
      rw [unbe_be 8 _ (by rw [show (256 : Nat) ^ 8 = 18446744073709551616 by decide]; omega), sgn_mod ho.n0 ho.n1]
      obtain ⟨vk, vn, vs⟩ := v
      simp only at hvk e1
      rw [hvk, e1]
    · rw [if_neg (by decide), if_pos rfl]
      have h1 := right_s hv.r (by show v.k ≠ 3; omega)
      have e1 : v.s = ⟨#[]⟩ := h1.1
      have e2 : v.n = 0 ∨ v.n = 1 := h1.2.2 hvk
      have hby : bytesA s (posA ks n) 1 = one 2 v (hp (c.take n)).length := hby
      rw [hby, one_2]
      obtain ⟨vk, vn, vs⟩ := v
      simp only at hvk e1 e2
      rw [hvk, e1]
      rcases e2 with rfl | rfl <;> rfl
    · rw [if_neg (by decide), if_neg (by decide)]
      have h1 := right_3 hv.r hvk
      have e2 : v.n = 0 := h1.1
      have e3 : v.s.size ≤ 60 := h1.2
      have hby : bytesA s (posA ks n) 3 = one 3 v (hp (c.take n)).length := hby
      rw [hby, one_3]
      have hh := hp_le (c.take n) (fun p hp => hok p (List.mem_of_mem_take hp))
      rw [List.length_take] at hh
      have hhp : hp c = hp (c.take n) ++ (v.s.data.toList ++ hp (c.drop (n + 1))) := by
        conv => lhs; rw [hc]
        rw [hp_app]
        rfl
      have hvl : v.s.data.toList.length = v.s.size := by simp
      generalize hH : (hp (c.take n)).length = H at hh ⊢
      simp only [List.getElem?_cons_zero, List.getElem?_cons_succ, Option.getD_some]
      have hsz2 : s.size = heapA ks + (H + (v.s.size + (hp (c.drop (n + 1))).length)) := by
        rw [hsz, hheap]
        unfold printC
        rw [List.length_append, List.length_append, mask_len, hhp, List.length_append, List.length_append, hH, hvl]
      by_cases h0 : v.s.size = 0
      · rw [if_pos h0, h0]
        have e0 : v.s = ⟨#[]⟩ := by
          exact bytesEq' (List.eq_nil_of_length_eq_zero (by rw [hvl]; exact h0))
        have ez : (UInt8.ofNat (0 / 256)).toNat = 0 := rfl
        rw [ez, if_pos ⟨by omega, by omega⟩]
        obtain ⟨vk, vn, vs⟩ := v
        simp only at hvk e0 e2
        rw [hvk, e0, e2]
        congr 2
        apply bytesEq'
        have : (s.extract (heapA ks + 0 * 256 + 0) (heapA ks + 0 * 256 + 0 + 0)).data.toList.length = 0 := by simp
        exact List.eq_nil_of_length_eq_zero this
      · rw [if_neg h0]
        have e4 : (UInt8.ofNat (H / 256)).toNat * 256 + (UInt8.ofNat H).toNat = H := by
          rw [ofNat_toNat _ (by omega)]
          have : (UInt8.ofNat H).toNat = H % 256 := by simp
          rw [this]
          omega
        have e5 : (UInt8.ofNat v.s.size).toNat = v.s.size := ofNat_toNat _ (by omega)
        rw [e5]
        have e6 : heapA ks + (UInt8.ofNat (H / 256)).toNat * 256 + (UInt8.ofNat H).toNat = heapA ks + H := by omega
        rw [e6, if_pos ⟨by omega, e3⟩]
        have e7 : s.extract (heapA ks + H) (heapA ks + H + v.s.size) = v.s := by
          apply bytesEq'
          rw [ByteArray.data_extract, Array.toList_extract, hs]
          unfold printC
          rw [hhp]
          rw [List.extract_eq_take_drop]
          rw [show heapA ks + H + v.s.size - (heapA ks + H) = v.s.size by omega]
          rw [← List.append_assoc (mask c ks.length ++ fix 0 c), List.drop_left' (by rw [List.length_append, List.length_append, mask_len, hheap, hH]), List.take_left' hvl]
        rw [e7]
        obtain ⟨vk, vn, vs⟩ := v
        simp only at hvk e2
        rw [hvk, e2]
/-- A cell, ahead of the look at whether it may be. -/
def rawV (ks : List Int) (s : ByteArray) (k : Int) (n : Nat) : Option V :=
  if bitA s n = false then some vZ else
  if k = 1 then some ⟨1, sgn (unbe (bytesA s (posA ks n) 8)), ⟨#[]⟩⟩ else
  if k = 2 then some ⟨2, (((bytesA s (posA ks n) 1).headD 0).toNat : Int), ⟨#[]⟩⟩ else
  if heapA ks + ((bytesA s (posA ks n) 3)[0]?.getD 0).toNat * 256 + ((bytesA s (posA ks n) 3)[1]?.getD 0).toNat + ((bytesA s (posA ks n) 3)[2]?.getD 0).toNat ≤ s.size then
    some ⟨3, 0, s.extract (heapA ks + ((bytesA s (posA ks n) 3)[0]?.getD 0).toNat * 256 + ((bytesA s (posA ks n) 3)[1]?.getD 0).toNat) (heapA ks + ((bytesA s (posA ks n) 3)[0]?.getD 0).toNat * 256 + ((bytesA s (posA ks n) 3)[1]?.getD 0).toNat + ((bytesA s (posA ks n) 3)[2]?.getD 0).toNat)⟩
  else none
theorem raw_none {ks : List Int} {s : ByteArray} {k : Int} {n : Nat} (h : rawV ks s k n = none) : decV ks s k n = none := by
  unfold rawV at h
  unfold decV
  split at h
  · cases h
  rw [if_neg (by assumption)]
  split at h
  · cases h
  rw [if_neg (by assumption)]
  split at h
  · cases h
  rw [if_neg (by assumption)]
  split at h
  · cases h
  · rename_i h1
    rw [if_neg (fun h2 => h1 h2.1)]
theorem raw_some {ks : List Int} {s : ByteArray} {k : Int} {n : Nat} {v : V} (h : rawV ks s k n = some v) : (rightV v = true → decV ks s k n = some v) ∧ (rightV v = false → decV ks s k n = none) := by
  unfold rawV at h
  unfold decV
  split at h
  · rename_i h0
    rw [if_pos h0]
    injection h with h
    subst h
    exact ⟨fun _ => rfl, fun h => by rw [show rightV vZ = true by decide +kernel] at h; cases h⟩
  rename_i h0
  rw [if_neg h0]
  split at h
  · rename_i h1
    rw [if_pos h1]
    injection h with h
    subst h
    exact ⟨fun _ => rfl, fun h => by rw [right1] at h; cases h⟩
  rename_i h1
  rw [if_neg h1]
  split at h
  · rename_i h2
    rw [if_pos h2]
    injection h with h
    subst h
    by_cases h3 : (bytesA s (posA ks n) 1).headD 0 ≤ 1
    · rw [if_pos h3]
      have h3 : ((bytesA s (posA ks n) 1).headD 0).toNat ≤ 1 := h3
      exact ⟨fun _ => rfl, fun h => by rw [right2 h3] at h; cases h⟩
    · rw [if_neg h3]
      refine ⟨fun h => ?_, fun _ => rfl⟩
      exfalso
      apply h3
      show ((bytesA s (posA ks n) 1).headD 0).toNat ≤ 1
      generalize ((bytesA s (posA ks n) 1).headD 0).toNat = b at h
      unfold rightV at h
      rw [if_neg (show ¬ (2 : Int) = 0 by decide), if_neg (show ¬ (2 : Int) = 1 by decide), if_pos rfl] at h
      simp only [Bool.and_eq_true, Bool.or_eq_true, beq_iff_eq] at h
      omega
  rename_i h2
  rw [if_neg h2]
  split at h
  · rename_i h3
    injection h with h
    subst h
    generalize heapA ks + ((bytesA s (posA ks n) 3)[0]?.getD 0).toNat * 256 + ((bytesA s (posA ks n) 3)[1]?.getD 0).toNat = a at h3 ⊢
    generalize ((bytesA s (posA ks n) 3)[2]?.getD 0).toNat = z at h3 ⊢
    have hz : (s.extract a (a + z)).size = z := by rw [ByteArray.size_extract]; omega
    by_cases h4 : z ≤ 60
    · rw [if_pos ⟨h3, h4⟩]
      exact ⟨fun _ => rfl, fun h => by rw [right3 (by rw [hz]; exact h4)] at h; cases h⟩
    · rw [if_neg (fun h => h4 h.2)]
      refine ⟨fun h => ?_, fun _ => rfl⟩
      have h := (right_3 h rfl).2
      have h : (s.extract a (a + z)).size ≤ 60 := h
      omega
  · cases h
/-- Cells that are read so. -/
def DecOk (ks : List Int) (s : ByteArray) (c : List (Int × V)) : Prop := ∀ (j : Nat) (p : Int × V), c[j]? = some p → decV ks s p.1 j = some p.2 ∧ CellOk p
theorem DecOk.nil (ks : List Int) (s : ByteArray) : DecOk ks s [] := fun j p h => by simp at h
theorem DecOk.snoc {ks : List Int} {s : ByteArray} {c : List (Int × V)} (h : DecOk ks s c) {k : Int} {v : V} (hd : decV ks s k c.length = some v) (ho : CellOk (k, v)) : DecOk ks s (c ++ [(k, v)]) := fun j p hj => by
  by_cases hl : j < c.length
  · rw [List.getElem?_append_left hl] at hj
    exact h j p hj
  · rw [List.getElem?_append_right (by omega)] at hj
    have hj0 : j - c.length = 0 := by
      have := (List.getElem?_eq_some_iff.1 hj).1
      simp at this
      omega
    rw [hj0] at hj
    simp only [List.getElem?_cons_zero, Option.some.injEq] at hj
    subst hj
    obtain rfl : j = c.length := by omega
    exact ⟨hd, ho⟩
/-- What is read whole is a group's cells; and no others have these bytes. -/
theorem DecOk.right {ks : List Int} {s : ByteArray} {rows : List (List V)} (h : DecOk ks s (flat ks rows)) (h8 : rows.length = 8) (hr : ∀ r ∈ rows, r.length = ks.length) : RightM ks rows :=
  ⟨h8, hr, fun p hp => by
    obtain ⟨j, hj⟩ := List.mem_iff_getElem?.1 hp
    exact (h j p hj).2⟩
theorem DecOk.only {ks : List Int} {s : ByteArray} {rows cells : List (List V)} (h : DecOk ks s (flat ks rows)) (h8 : rows.length = 8) (hr : ∀ r ∈ rows, r.length = ks.length) (hk8 : ks.length ≤ 8) (hc : RightM ks cells) (hs : printM ks cells = s) : rows = cells := by
  have hl : rows.length = cells.length := by rw [h8, hc.len]
  refine flat_inj hl hr hc.row ?_
  have hk := flat_kinds hl hr hc.row
  apply List.ext_getElem?
  intro j
  have hll : (flat ks rows).length = (flat ks cells).length := by simpa using congrArg List.length hk
  cases hj : (flat ks rows)[j]? with
  | none => rw [List.getElem?_eq_none (by have := List.getElem?_eq_none_iff.1 hj; omega)]
  | some p =>
    have hjl := (List.getElem?_eq_some_iff.1 hj).1
    have hq : (flat ks cells)[j]? = some ((flat ks cells)[j]'(by omega)) := List.getElem?_eq_getElem _
    generalize ((flat ks cells)[j]'(by omega)) = q at hq
    have h1 : ((flat ks rows).map (·.1))[j]? = some p.1 := by rw [List.getElem?_map, hj]; rfl
    rw [hk, List.getElem?_map, hq] at h1
    have h1 : q.1 = p.1 := Option.some.inj h1
    obtain ⟨k, v⟩ := p
    obtain ⟨k', u⟩ := q
    simp only at h1
    subst h1
    have h2 := (h j _ hj).1
    have h3 := dec_print hc hk8 hq
    rw [hs] at h3
    simp only at h2
    rw [h2] at h3
    injection h3 with h3
    rw [hq, h3]
theorem dec_none {ks : List Int} {s : ByteArray} {k : Int} {n : Nat} (hk8 : ks.length ≤ 8) (hn : (kindsA ks)[n]? = some k) (h : decV ks s k n = none) : readM ks s = none := read_none fun cells hc e => by
  have hK := kindsA_flat hc
  rw [← hK, List.getElem?_map] at hn
  obtain ⟨⟨k', v⟩, hv, e2⟩ := Option.map_eq_some_iff.1 hn
  have e2 : k' = k := e2
  subst e2
  have := dec_print hc hk8 hv
  rw [e, h] at this
  cases this
theorem print_heap {ks : List Int} {cells : List (List V)} (h : RightM ks cells) : heapA ks ≤ (printM ks cells).size := by
  have hs : (printM ks cells).size = (printC (flat ks cells) ks.length).length := by rw [← printM_list]; simp
  rw [hs, print_len, kindsA_flat h]
  have := pos_end ks (n := (kindsA ks).length) (Nat.le_refl _)
  unfold posA at this
  rw [List.take_length] at this
  omega
theorem small_none {ks : List Int} {s : ByteArray} (h : s.size < heapA ks) : readM ks s = none := read_none fun cells hc e => by
  have := print_heap hc
  rw [e] at this
  omega
end Go.Proofs.Ytabgbhilbnchnaa.Mi
