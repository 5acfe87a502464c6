/- Texts MiH, MiQ, MiR, MiS, MiU, MiV, MiW, MiX, MiK, one behind the other. -/
import Derived.Test.YtpnnkhpokangfaaDoorMgA
import Derived.BigQuiet
import Derived.Deep.CutRange
import Derived.Test.YtpnnkhpokangfaaDoorMgL
import Derived.Test.YtpnnkhpokangfaaDoorVaB
import Derived.Test.YtpnnkhpokangfaaDoorMgX
import Derived.Test.YtpnnkhpokangfaaDoorByB
/- Stage 9, a group's bytes, read cell by cell, plainly: what each cell is where bytes are a group's, and that it may be. -/
namespace Go.Proofs.YtpnnkhpokangfaaDoor.Mi
open Pac Va Go.Proofs.YtpnnkhpokangfaaDoor.Or

/-- The kinds of all cells, in a row. -/
def kindsA (ks : List Int) : List Int := (List.replicate 8 ks).flatten
theorem flatMap_const {ks : List Int} : ∀ (l : List (List V)), l.flatMap (fun _ => ks) = (List.replicate l.length ks).flatten
 | [] => rfl
 | r :: l => by rw [List.flatMap_cons, flatMap_const l, List.length_cons, List.replicate_succ, List.flatten_cons]
theorem kindsA_flat {ks : List Int} {cells : List (List V)} (h : RightM ks cells) : (flat ks cells).map (·.1) = kindsA ks := by
 unfold flat kindsA
 rw [← h.len, ← flatMap_const cells, List.map_flatMap]
 have : ∀ (l : List (List V)), (∀ r ∈ l, r.length = ks.length) → l.flatMap (fun r => (ks.zip r).map (·.1)) = l.flatMap (fun _ => ks) := by
  intro l
  induction l with
  | nil => intro _; rfl
  | cons r l ih =>
   intro hl
   rw [List.flatMap_cons, List.flatMap_cons, ih (fun x hx => hl x (List.mem_cons_of_mem _ hx)), List.map_fst_zip (by rw [hl r List.mem_cons_self]; exact Nat.le_refl _)]
 exact this cells h.row
theorem kindsA_len (ks : List Int) : (kindsA ks).length = 8 * ks.length := by
 unfold kindsA
 simp [List.length_flatten, List.map_replicate]
 omega
theorem rep_at {ks : List Int} : ∀ {m i c : Nat} {k : Int}, i < m → ks[c]? = some k → ((List.replicate m ks).flatten)[i * ks.length + c]? = some k
 | 0, i, c, k, h, _ => absurd h (Nat.not_lt_zero _)
 | m + 1, 0, c, k, _, h => by
  rw [List.replicate_succ, List.flatten_cons, Nat.zero_mul, Nat.zero_add, List.getElem?_append_left (List.getElem?_eq_some_iff.1 h).1]
  exact h
 | m + 1, i + 1, c, k, hi, h => by
  rw [List.replicate_succ, List.flatten_cons, List.getElem?_append_right (by rw [Nat.add_mul]; omega), Nat.add_mul, Nat.one_mul, show i * ks.length + ks.length + c - ks.length = i * ks.length + c by omega]
  exact rep_at (by omega) h
theorem kindsA_at {ks : List Int} {i c : Nat} {k : Int} (hi : i < 8) (h : ks[c]? = some k) : (kindsA ks)[i * ks.length + c]? = some k := rep_at hi h
/-- Where the cell n begins. -/
def posA (ks : List Int) (n : Nat) : Nat := ks.length + wide ((kindsA ks).take n)
/-- Where the bytes of texts begin. -/
def heapA (ks : List Int) : Nat := ks.length + 8 * wide ks
theorem wide_app : ∀ (a b : List Int), wide (a ++ b) = wide a + wide b
 | [], b => by simp [wide]
 | x :: a, b => by
  show oneW x + wide (a ++ b) = oneW x + wide a + wide b
  rw [wide_app a b]
  omega
theorem wide_rep (ks : List Int) : ∀ m, wide ((List.replicate m ks).flatten) = m * wide ks
 | 0 => by simp [wide]
 | m + 1 => by
  rw [List.replicate_succ, List.flatten_cons, wide_app, wide_rep ks m, Nat.add_mul]
  omega
theorem pos_zero (ks : List Int) : posA ks 0 = ks.length := by unfold posA; simp [wide]
theorem pos_next {ks : List Int} {n : Nat} {k : Int} (h : (kindsA ks)[n]? = some k) : posA ks (n + 1) = posA ks n + oneW k := by
 unfold posA
 rw [List.take_add_one, h, wide_app]
 show _ + (_ + (oneW k + 0)) = _
 omega
theorem pos_end (ks : List Int) {n : Nat} (h : (kindsA ks).length ≤ n) : posA ks n = heapA ks := by
 unfold posA heapA
 rw [List.take_of_length_le h]
 unfold kindsA
 rw [wide_rep]
theorem wide_take (K : List Int) (n : Nat) : wide (K.take n) ≤ wide K := by
 have h := congrArg wide (List.take_append_drop n K)
 rw [wide_app] at h
 omega
theorem pos_le {ks : List Int} {n : Nat} : posA ks n ≤ heapA ks := by
 have h := pos_end ks (n := (kindsA ks).length) (Nat.le_refl _)
 rw [← h]
 unfold posA
 have := wide_take (kindsA ks) n
 rw [List.take_length]
 omega
/-- The bit of the cell n. -/
def bitA (s : ByteArray) (n : Nat) : Bool := ((s.data.toList[n / 8]?.getD 0).toNat / 2 ^ (n % 8)) % 2 == 1
/-- So many bytes from there on. -/
def bytesA (s : ByteArray) (at' m : Nat) : List UInt8 := (s.data.toList.drop at').take m
/-- A number out of its bytes, the highest first. -/
def unbe (l : List UInt8) : Nat := l.foldl (fun u b => u * 256 + b.toNat) 0
def sgn (u : Nat) : Int := if u < 9223372036854775808 then (u : Int) else (u : Int) - 18446744073709551616
/-- A cell, or none. -/
def decV (ks : List Int) (s : ByteArray) (k : Int) (n : Nat) : Option V :=
 if bitA s n = false then some vZ else
 if k = 1 then some ⟨1, sgn (unbe (bytesA s (posA ks n) 8)), ⟨#[]⟩⟩ else
 if k = 2 then (if (bytesA s (posA ks n) 1).headD 0 ≤ 1 then some ⟨2, (((bytesA s (posA ks n) 1).headD 0).toNat : Int), ⟨#[]⟩⟩ else none) else
 (if heapA ks + ((bytesA s (posA ks n) 3)[0]?.getD 0).toNat * 256 + ((bytesA s (posA ks n) 3)[1]?.getD 0).toNat + ((bytesA s (posA ks n) 3)[2]?.getD 0).toNat ≤ s.size ∧ ((bytesA s (posA ks n) 3)[2]?.getD 0).toNat ≤ 60 then
  some ⟨3, 0, s.extract (heapA ks + ((bytesA s (posA ks n) 3)[0]?.getD 0).toNat * 256 + ((bytesA s (posA ks n) 3)[1]?.getD 0).toNat) (heapA ks + ((bytesA s (posA ks n) 3)[0]?.getD 0).toNat * 256 + ((bytesA s (posA ks n) 3)[1]?.getD 0).toNat + ((bytesA s (posA ks n) 3)[2]?.getD 0).toNat)⟩
 else none)
theorem unbe_snoc (l : List UInt8) (b : UInt8) : unbe (l ++ [b]) = unbe l * 256 + b.toNat := by unfold unbe; rw [List.foldl_append]; rfl
theorem unbe_go : ∀ (l : List UInt8) (a : Nat), l.foldl (fun u b => u * 256 + b.toNat) a = a * 256 ^ l.length + unbe l
 | [], a => by simp [unbe]
 | b :: l, a => by
  show l.foldl _ (a * 256 + b.toNat) = a * 256 ^ (l.length + 1) + l.foldl _ (0 * 256 + b.toNat)
  rw [unbe_go l (a * 256 + b.toNat), unbe_go l (0 * 256 + b.toNat), Nat.add_mul, Nat.add_mul, Nat.pow_succ]
  rw [Nat.mul_assoc a 256, Nat.mul_comm 256]
  omega
theorem unbe_be : ∀ (f u : Nat), u < 256 ^ f → unbe (be f u) = u
 | 0, u, h => by
  simp at h
  subst h
  rfl
 | f + 1, u, h => by
  show (be f (u % 256 ^ f)).foldl _ (0 * 256 + (UInt8.ofNat (u / 256 ^ f)).toNat) = u
  have hq : 0 < 256 ^ f := Nat.pow_pos (by omega)
  rw [unbe_go, be_len, unbe_be f _ (Nat.mod_lt _ hq), ofNat_toNat _ (head_lt h), Nat.zero_mul, Nat.zero_add]
  rw [Nat.mul_comm]
  exact Nat.div_add_mod u _
theorem unbe_lt : ∀ (l : List UInt8), unbe l < 256 ^ l.length
 | [] => by simp [unbe]
 | b :: l => by
  have h1 := unbe_lt l
  have h2 := b.toNat_lt
  show l.foldl _ (0 * 256 + b.toNat) < 256 ^ (l.length + 1)
  rw [unbe_go, Nat.pow_succ, Nat.zero_mul, Nat.zero_add]
  have h3 : b.toNat * 256 ^ l.length + 256 ^ l.length ≤ 256 ^ l.length * 256 := by
   have : (b.toNat + 1) * 256 ^ l.length ≤ 256 * 256 ^ l.length := Nat.mul_le_mul_right _ (by omega)
   rw [Nat.add_mul, Nat.one_mul, Nat.mul_comm 256] at this
   exact this
  omega
theorem sgn_range (u : Nat) (h : u < 18446744073709551616) : -9223372036854775808 ≤ sgn u ∧ sgn u ≤ 9223372036854775807 := by
 unfold sgn
 split <;> omega
theorem sgn_mod {n : Int} (h0 : -9223372036854775808 ≤ n) (h1 : n ≤ 9223372036854775807) : sgn (n % 18446744073709551616).toNat = n := by
 unfold sgn
 split <;> omega
theorem bytesA_len (s : ByteArray) {a m : Nat} (h : a + m ≤ s.size) : (bytesA s a m).length = m := by
 unfold bytesA
 have : s.data.toList.length = s.size := by simp
 rw [List.length_take, List.length_drop]
 omega
theorem right1 (n : Int) : rightV ⟨1, n, ⟨#[]⟩⟩ = true := by
 unfold rightV
 rw [if_neg (show ¬ (1 : Int) = 0 by decide), if_pos rfl]
 exact (show (ByteArray.toList ⟨#[]⟩).isEmpty = true by decide +kernel)
theorem right2 {b : Nat} (h : b ≤ 1) : rightV ⟨2, (b : Int), ⟨#[]⟩⟩ = true := by
 have : b = 0 ∨ b = 1 := by omega
 rcases this with rfl | rfl <;> decide +kernel
theorem right3 {x : ByteArray} (h : x.size ≤ 60) : rightV ⟨3, 0, x⟩ = true := by
 unfold rightV
 rw [if_neg (show ¬ (3 : Int) = 0 by decide), if_neg (show ¬ (3 : Int) = 1 by decide), if_neg (show ¬ (3 : Int) = 2 by decide), if_pos rfl]
 simp only [Bool.and_eq_true, beq_self_eq_true, true_and, decide_eq_true_eq]
 show (x.size : Int) ≤ 60
 omega
theorem ok_of {k n : Int} {x : ByteArray} (k0 : 0 ≤ k) (k1 : k ≤ 3) (n0 : -9223372036854775808 ≤ n) (n1 : n ≤ 9223372036854775807) : V.Ok ⟨k, n, x⟩ := ⟨by show _ ≤ k; omega, by show k ≤ _; omega, n0, n1⟩
theorem one_1 (v : V) (h : Nat) : one 1 v h = be 8 (v.n % 18446744073709551616).toNat := by unfold one; rw [if_pos rfl]
theorem one_2 (v : V) (h : Nat) : one 2 v h = [UInt8.ofNat (v.n % 256).toNat] := by unfold one; rw [if_neg (by decide), if_pos rfl]
theorem one_3 (v : V) (h : Nat) : one 3 v h = [UInt8.ofNat ((if v.s.size = 0 then 0 else h) / 256), UInt8.ofNat (if v.s.size = 0 then 0 else h), UInt8.ofNat v.s.size] := by unfold one; rw [if_neg (by decide), if_neg (by decide)]
/-- What is read may be. -/
theorem dec_ok {ks : List Int} {s : ByteArray} {k : Int} {n : Nat} {v : V} (hk : k = 1 ∨ k = 2 ∨ k = 3) (hs : s.size ≤ 9223372036854775807) (hp : posA ks n + oneW k ≤ s.size) (h : decV ks s k n = some v) : CellOk (k, v) := by
 unfold decV at h
 split at h
 ·injection h with h
  subst h
  exact ⟨hk, (show rightV vZ = true by decide +kernel), Or.inl rfl, ok_of (by decide) (by decide) (by decide) (by decide)⟩
 ·split at h
  ·rename_i h1
   subst h1
   injection h with h
   subst h
   have hl := bytesA_len s hp
   have hu := unbe_lt (bytesA s (posA ks n) (oneW 1))
   rw [hl] at hu
   have e8 : oneW 1 = 8 := rfl
   rw [e8] at hu
   have := sgn_range _ hu
   exact ⟨hk, right1 _, Or.inr rfl, ok_of (by decide) (by decide) this.1 this.2⟩
  ·split at h
   ·rename_i h2
    subst h2
    split at h
    ·rename_i h3
     injection h with h
     subst h
     have h3 : ((bytesA s (posA ks n) 1).headD 0).toNat ≤ 1 := h3
     generalize ((bytesA s (posA ks n) 1).headD 0).toNat = b at h3
     exact ⟨hk, right2 h3, Or.inr rfl, ok_of (by decide) (by decide) (by omega) (by omega)⟩
    ·cases h
   ·split at h
    ·rename_i h1 h2 h3
     have : k = 3 := by omega
     subst this
     injection h with h
     subst h
     obtain ⟨h3, h4⟩ := h3
     generalize heapA ks + ((bytesA s (posA ks n) 3)[0]?.getD 0).toNat * 256 + ((bytesA s (posA ks n) 3)[1]?.getD 0).toNat = a at h3 ⊢
     generalize ((bytesA s (posA ks n) 3)[2]?.getD 0).toNat = z at h3 h4 ⊢
     exact ⟨hk, right3 (by rw [ByteArray.size_extract]; omega), Or.inr rfl, ok_of (by decide) (by decide) (by decide) (by decide)⟩
    ·cases h
theorem part_bit (f : Nat → Bool) (j : Nat) : ∀ (m i : Nat), i < m → part f j m / 2 ^ i % 2 = if f (8 * j + i) then 1 else 0
 | 0, i, h => absurd h (Nat.not_lt_zero _)
 | m + 1, i, h => by
  show (part f j m + if f (8 * j + m) then 2 ^ m else 0) / 2 ^ i % 2 = _
  have hl := part_lt f j m
  by_cases him : i < m
  ·rw [← part_bit f j m i him]
   have e : ∃ q, (if f (8 * j + m) then 2 ^ m else 0) = 2 ^ i * (2 * q) := by
    split
    ·refine ⟨2 ^ (m - i - 1), ?_⟩
     rw [← Nat.pow_succ', ← Nat.pow_add]
     congr 1
     omega
    ·exact ⟨0, by simp⟩
   obtain ⟨q, e⟩ := e
   rw [e, Nat.add_mul_div_left _ _ (Nat.pow_pos (by omega))]
   omega
  ·obtain rfl : i = m := by omega
   split
   ·rw [Nat.add_div_right _ (Nat.pow_pos (by omega)), Nat.div_eq_of_lt hl]
   ·rw [Nat.add_zero, Nat.div_eq_of_lt hl]
theorem wide_map (c : List (Int × V)) (n : Nat) : wide ((c.map (·.1)).take n) = (fix 0 (c.take n)).length := by rw [fix_len, List.map_take]
theorem hp_le : ∀ (c : List (Int × V)), (∀ p ∈ c, CellOk p) → (hp c).length ≤ 60 * c.length
 | [], _ => Nat.le_refl _
 | p :: c, h => by
  have h1 := hp_le c (fun q hq => h q (List.mem_cons_of_mem _ hq))
  have h2 := right_sz (h p List.mem_cons_self).r
  show (p.2.s.data.toList ++ hp c).length ≤ 60 * (c.length + 1)
  have h3 : p.2.s.data.toList.length = p.2.s.size := by simp
  rw [List.length_append]
  omega
theorem split_at {c : List (Int × V)} {n : Nat} {p : Int × V} (h : c[n]? = some p) : c = c.take n ++ p :: c.drop (n + 1) := by
 obtain ⟨hn, e⟩ := List.getElem?_eq_some_iff.1 h
 rw [← e, List.getElem_cons_drop, List.take_append_drop]
/-- Where bytes are a group's, each cell is read as it was. -/
theorem dec_print {ks : List Int} {cells : List (List V)} (h : RightM ks cells) (h8 : ks.length ≤ 8) {n : Nat} {k : Int} {v : V} (hn : (flat ks cells)[n]? = some (k, v)) : decV ks (printM ks cells) k n = some v := by
 have hK := kindsA_flat h
 have hfew := h.few
 have hok := h.ok
 have hs := printM_list ks cells
 have hsz : (printM ks cells).size = (printC (flat ks cells) ks.length).length := by rw [← hs]; simp
 generalize printM ks cells = s at hs hsz ⊢
 generalize flat ks cells = c at hn hK hfew hok hs hsz
 have hnl := (List.getElem?_eq_some_iff.1 hn).1
 have hv := hok (k, v) (List.mem_of_getElem? hn)
 have hc := split_at hn
 -- the bit
 have hbit : bitA s n = (v.k != 0) := by
  unfold bitA
  have e1 : s.data.toList[n / 8]? = some (UInt8.ofNat (part (isAt c) (n / 8) 8)) := by
   rw [hs]
   unfold printC
   rw [List.append_assoc, List.getElem?_append_left (by rw [mask_len]; omega)]
   unfold mask
   rw [List.getElem?_map, List.getElem?_range (by omega)]
   rfl
  have hl := part_lt (isAt c) (n / 8) 8
  rw [e1, Option.getD_some, ofNat_toNat _ (by simpa using hl), part_bit _ _ 8 (n % 8) (by omega), show 8 * (n / 8) + n % 8 = n by omega]
  unfold isAt
  rw [hn]
  cases hb : (v.k != 0) <;> simp [hb]
 -- the bytes of one width
 have hpos : posA ks n = ks.length + (fix 0 (c.take n)).length := by
  unfold posA
  rw [← hK, wide_map]
 have hby : bytesA s (posA ks n) (oneW k) = one k v (hp (c.take n)).length := by
  unfold bytesA
  rw [hs, hpos]
  unfold printC
  have e2 : fix 0 c = fix 0 (c.take n) ++ (one k v (0 + (hp (c.take n)).length) ++ fix (0 + (hp (c.take n)).length + v.s.size) (c.drop (n + 1))) := by
   conv => lhs; rw [hc]
   rw [fix_app]
   rfl
  rw [e2, List.append_assoc, List.append_assoc, List.append_assoc]
  have e3 : (mask c ks.length ++ (fix 0 (c.take n) ++ (one k v (0 + (hp (c.take n)).length) ++ (fix (0 + (hp (c.take n)).length + v.s.size) (c.drop (n + 1)) ++ hp c)))).drop (ks.length + (fix 0 (c.take n)).length) = one k v (0 + (hp (c.take n)).length) ++ (fix (0 + (hp (c.take n)).length + v.s.size) (c.drop (n + 1)) ++ hp c) := by
   rw [← List.append_assoc, List.drop_left' (by rw [List.length_append, mask_len])]
  rw [e3, List.take_left' (one_len _ _ _), Nat.zero_add]
 have hheap : heapA ks = ks.length + (fix 0 c).length := by
  rw [← pos_end ks (n := (kindsA ks).length) (Nat.le_refl _)]
  unfold posA
  rw [List.take_length, ← hK, fix_len]
 unfold decV
 rw [hbit]
 by_cases hz : v.k = 0
 ·rw [if_pos (by simp [hz])]
  have h1 := right_s hv.r (by show v.k ≠ 3; omega)
  have e1 : v.s = ⟨#[]⟩ := h1.1
  have e2 : v.n = 0 := h1.2.1 hz
  obtain ⟨vk, vn, vs⟩ := v
  simp only at hz e1 e2
  rw [hz, e1, e2]
  rfl
 ·rw [if_neg (by simp [hz])]
  have hvk : v.k = k := by
   rcases hv.z with h1 | h1
   ·exact absurd h1 hz
   ·exact h1
  rcases hv.k with rfl | rfl | rfl
  ·rw [if_pos rfl]
   have h1 := right_s hv.r (by show v.k ≠ 3; omega)
   have e1 : v.s = ⟨#[]⟩ := h1.1
   have hby : bytesA s (posA ks n) 8 = one 1 v (hp (c.take n)).length := hby
   rw [hby, one_1]
   have ho : v.Ok := hv.ok
   rw [unbe_be 8 _ (by rw [show (256 : Nat) ^ 8 = 18446744073709551616 by decide]; omega), sgn_mod ho.n0 ho.n1]
   obtain ⟨vk, vn, vs⟩ := v
   simp only at hvk e1
   rw [hvk, e1]
  ·rw [if_neg (by decide), if_pos rfl]
   have h1 := right_s hv.r (by show v.k ≠ 3; omega)
   have e1 : v.s = ⟨#[]⟩ := h1.1
   have e2 : v.n = 0 ∨ v.n = 1 := h1.2.2 hvk
   have hby : bytesA s (posA ks n) 1 = one 2 v (hp (c.take n)).length := hby
   rw [hby, one_2]
   obtain ⟨vk, vn, vs⟩ := v
   simp only at hvk e1 e2
   rw [hvk, e1]
   rcases e2 with rfl | rfl <;> rfl
  ·rw [if_neg (by decide), if_neg (by decide)]
   have h1 := right_3 hv.r hvk
   have e2 : v.n = 0 := h1.1
   have e3 : v.s.size ≤ 60 := h1.2
   have hby : bytesA s (posA ks n) 3 = one 3 v (hp (c.take n)).length := hby
   rw [hby, one_3]
   have hh := hp_le (c.take n) (fun p hp => hok p (List.mem_of_mem_take hp))
   rw [List.length_take] at hh
   have hhp : hp c = hp (c.take n) ++ (v.s.data.toList ++ hp (c.drop (n + 1))) := by
    conv => lhs; rw [hc]
    rw [hp_app]
    rfl
   have hvl : v.s.data.toList.length = v.s.size := by simp
   generalize hH : (hp (c.take n)).length = H at hh ⊢
   simp only [List.getElem?_cons_zero, List.getElem?_cons_succ, Option.getD_some]
   have hsz2 : s.size = heapA ks + (H + (v.s.size + (hp (c.drop (n + 1))).length)) := by
    rw [hsz, hheap]
    unfold printC
    rw [List.length_append, List.length_append, mask_len, hhp, List.length_append, List.length_append, hH, hvl]
   by_cases h0 : v.s.size = 0
   ·rw [if_pos h0, h0]
    have e0 : v.s = ⟨#[]⟩ := by
     exact bytesEq' (List.eq_nil_of_length_eq_zero (by rw [hvl]; exact h0))
    have ez : (UInt8.ofNat (0 / 256)).toNat = 0 := rfl
    rw [ez, if_pos ⟨by omega, by omega⟩]
    obtain ⟨vk, vn, vs⟩ := v
    simp only at hvk e0 e2
    rw [hvk, e0, e2]
    congr 2
    apply bytesEq'
    have : (s.extract (heapA ks + 0 * 256 + 0) (heapA ks + 0 * 256 + 0 + 0)).data.toList.length = 0 := by simp
    exact List.eq_nil_of_length_eq_zero this
   ·rw [if_neg h0]
    have e4 : (UInt8.ofNat (H / 256)).toNat * 256 + (UInt8.ofNat H).toNat = H := by
     rw [ofNat_toNat _ (by omega)]
     have : (UInt8.ofNat H).toNat = H % 256 := by simp
     rw [this]
     omega
    have e5 : (UInt8.ofNat v.s.size).toNat = v.s.size := ofNat_toNat _ (by omega)
    rw [e5]
    have e6 : heapA ks + (UInt8.ofNat (H / 256)).toNat * 256 + (UInt8.ofNat H).toNat = heapA ks + H := by omega
    rw [e6, if_pos ⟨by omega, e3⟩]
    have e7 : s.extract (heapA ks + H) (heapA ks + H + v.s.size) = v.s := by
     apply bytesEq'
     rw [ByteArray.data_extract, Array.toList_extract, hs]
     unfold printC
     rw [hhp]
     rw [List.extract_eq_take_drop]
     rw [show heapA ks + H + v.s.size - (heapA ks + H) = v.s.size by omega]
     rw [← List.append_assoc (mask c ks.length ++ fix 0 c), List.drop_left' (by rw [List.length_append, List.length_append, mask_len, hheap, hH]), List.take_left' hvl]
    rw [e7]
    obtain ⟨vk, vn, vs⟩ := v
    simp only at hvk e2
    rw [hvk, e2]
/-- A cell, ahead of the look at whether it may be. -/
def rawV (ks : List Int) (s : ByteArray) (k : Int) (n : Nat) : Option V :=
 if bitA s n = false then some vZ else
 if k = 1 then some ⟨1, sgn (unbe (bytesA s (posA ks n) 8)), ⟨#[]⟩⟩ else
 if k = 2 then some ⟨2, (((bytesA s (posA ks n) 1).headD 0).toNat : Int), ⟨#[]⟩⟩ else
 if heapA ks + ((bytesA s (posA ks n) 3)[0]?.getD 0).toNat * 256 + ((bytesA s (posA ks n) 3)[1]?.getD 0).toNat + ((bytesA s (posA ks n) 3)[2]?.getD 0).toNat ≤ s.size then
  some ⟨3, 0, s.extract (heapA ks + ((bytesA s (posA ks n) 3)[0]?.getD 0).toNat * 256 + ((bytesA s (posA ks n) 3)[1]?.getD 0).toNat) (heapA ks + ((bytesA s (posA ks n) 3)[0]?.getD 0).toNat * 256 + ((bytesA s (posA ks n) 3)[1]?.getD 0).toNat + ((bytesA s (posA ks n) 3)[2]?.getD 0).toNat)⟩
 else none
theorem raw_none {ks : List Int} {s : ByteArray} {k : Int} {n : Nat} (h : rawV ks s k n = none) : decV ks s k n = none := by
 unfold rawV at h
 unfold decV
 split at h
 ·cases h
 rw [if_neg (by assumption)]
 split at h
 ·cases h
 rw [if_neg (by assumption)]
 split at h
 ·cases h
 rw [if_neg (by assumption)]
 split at h
 ·cases h
 ·rename_i h1
  rw [if_neg (fun h2 => h1 h2.1)]
theorem raw_some {ks : List Int} {s : ByteArray} {k : Int} {n : Nat} {v : V} (h : rawV ks s k n = some v) : (rightV v = true → decV ks s k n = some v) ∧ (rightV v = false → decV ks s k n = none) := by
 unfold rawV at h
 unfold decV
 split at h
 ·rename_i h0
  rw [if_pos h0]
  injection h with h
  subst h
  exact ⟨fun _ => rfl, fun h => by rw [show rightV vZ = true by decide +kernel] at h; cases h⟩
 rename_i h0
 rw [if_neg h0]
 split at h
 ·rename_i h1
  rw [if_pos h1]
  injection h with h
  subst h
  exact ⟨fun _ => rfl, fun h => by rw [right1] at h; cases h⟩
 rename_i h1
 rw [if_neg h1]
 split at h
 ·rename_i h2
  rw [if_pos h2]
  injection h with h
  subst h
  by_cases h3 : (bytesA s (posA ks n) 1).headD 0 ≤ 1
  ·rw [if_pos h3]
   have h3 : ((bytesA s (posA ks n) 1).headD 0).toNat ≤ 1 := h3
   exact ⟨fun _ => rfl, fun h => by rw [right2 h3] at h; cases h⟩
  ·rw [if_neg h3]
   refine ⟨fun h => ?_, fun _ => rfl⟩
   exfalso
   apply h3
   show ((bytesA s (posA ks n) 1).headD 0).toNat ≤ 1
   generalize ((bytesA s (posA ks n) 1).headD 0).toNat = b at h
   unfold rightV at h
   rw [if_neg (show ¬ (2 : Int) = 0 by decide), if_neg (show ¬ (2 : Int) = 1 by decide), if_pos rfl] at h
   simp only [Bool.and_eq_true, Bool.or_eq_true, beq_iff_eq] at h
   omega
 rename_i h2
 rw [if_neg h2]
 split at h
 ·rename_i h3
  injection h with h
  subst h
  generalize heapA ks + ((bytesA s (posA ks n) 3)[0]?.getD 0).toNat * 256 + ((bytesA s (posA ks n) 3)[1]?.getD 0).toNat = a at h3 ⊢
  generalize ((bytesA s (posA ks n) 3)[2]?.getD 0).toNat = z at h3 ⊢
  have hz : (s.extract a (a + z)).size = z := by rw [ByteArray.size_extract]; omega
  by_cases h4 : z ≤ 60
  ·rw [if_pos ⟨h3, h4⟩]
   exact ⟨fun _ => rfl, fun h => by rw [right3 (by rw [hz]; exact h4)] at h; cases h⟩
  ·rw [if_neg (fun h => h4 h.2)]
   refine ⟨fun h => ?_, fun _ => rfl⟩
   have h := (right_3 h rfl).2
   have h : (s.extract a (a + z)).size ≤ 60 := h
   omega
 ·cases h
/-- Cells that are read so. -/
def DecOk (ks : List Int) (s : ByteArray) (c : List (Int × V)) : Prop := ∀ (j : Nat) (p : Int × V), c[j]? = some p → decV ks s p.1 j = some p.2 ∧ CellOk p
theorem DecOk.nil (ks : List Int) (s : ByteArray) : DecOk ks s [] := fun j p h => by simp at h
theorem DecOk.snoc {ks : List Int} {s : ByteArray} {c : List (Int × V)} (h : DecOk ks s c) {k : Int} {v : V} (hd : decV ks s k c.length = some v) (ho : CellOk (k, v)) : DecOk ks s (c ++ [(k, v)]) := fun j p hj => by
 by_cases hl : j < c.length
 ·rw [List.getElem?_append_left hl] at hj
  exact h j p hj
 ·rw [List.getElem?_append_right (by omega)] at hj
  have hj0 : j - c.length = 0 := by
   have := (List.getElem?_eq_some_iff.1 hj).1
   simp at this
   omega
  rw [hj0] at hj
  simp only [List.getElem?_cons_zero, Option.some.injEq] at hj
  subst hj
  obtain rfl : j = c.length := by omega
  exact ⟨hd, ho⟩
/-- What is read whole is a group's cells; and no others have these bytes. -/
theorem DecOk.right {ks : List Int} {s : ByteArray} {rows : List (List V)} (h : DecOk ks s (flat ks rows)) (h8 : rows.length = 8) (hr : ∀ r ∈ rows, r.length = ks.length) : RightM ks rows :=
 ⟨h8, hr, fun p hp => by
  obtain ⟨j, hj⟩ := List.mem_iff_getElem?.1 hp
  exact (h j p hj).2⟩
theorem DecOk.only {ks : List Int} {s : ByteArray} {rows cells : List (List V)} (h : DecOk ks s (flat ks rows)) (h8 : rows.length = 8) (hr : ∀ r ∈ rows, r.length = ks.length) (hk8 : ks.length ≤ 8) (hc : RightM ks cells) (hs : printM ks cells = s) : rows = cells := by
 have hl : rows.length = cells.length := by rw [h8, hc.len]
 refine flat_inj hl hr hc.row ?_
 have hk := flat_kinds hl hr hc.row
 apply List.ext_getElem?
 intro j
 have hll : (flat ks rows).length = (flat ks cells).length := by simpa using congrArg List.length hk
 cases hj : (flat ks rows)[j]? with
 | none => rw [List.getElem?_eq_none (by have := List.getElem?_eq_none_iff.1 hj; omega)]
 | some p =>
  have hjl := (List.getElem?_eq_some_iff.1 hj).1
  have hq : (flat ks cells)[j]? = some ((flat ks cells)[j]'(by omega)) := List.getElem?_eq_getElem _
  generalize ((flat ks cells)[j]'(by omega)) = q at hq
  have h1 : ((flat ks rows).map (·.1))[j]? = some p.1 := by rw [List.getElem?_map, hj]; rfl
  rw [hk, List.getElem?_map, hq] at h1
  have h1 : q.1 = p.1 := Option.some.inj h1
  obtain ⟨k, v⟩ := p
  obtain ⟨k', u⟩ := q
  simp only at h1
  subst h1
  have h2 := (h j _ hj).1
  have h3 := dec_print hc hk8 hq
  rw [hs] at h3
  simp only at h2
  rw [h2] at h3
  injection h3 with h3
  rw [hq, h3]
theorem dec_none {ks : List Int} {s : ByteArray} {k : Int} {n : Nat} (hk8 : ks.length ≤ 8) (hn : (kindsA ks)[n]? = some k) (h : decV ks s k n = none) : readM ks s = none := read_none fun cells hc e => by
 have hK := kindsA_flat hc
 rw [← hK, List.getElem?_map] at hn
 obtain ⟨⟨k', v⟩, hv, e2⟩ := Option.map_eq_some_iff.1 hn
 have e2 : k' = k := e2
 subst e2
 have := dec_print hc hk8 hv
 rw [e, h] at this
 cases this
theorem print_heap {ks : List Int} {cells : List (List V)} (h : RightM ks cells) : heapA ks ≤ (printM ks cells).size := by
 have hs : (printM ks cells).size = (printC (flat ks cells) ks.length).length := by rw [← printM_list]; simp
 rw [hs, print_len, kindsA_flat h]
 have := pos_end ks (n := (kindsA ks).length) (Nat.le_refl _)
 unfold posA at this
 rw [List.take_length] at this
 omega
theorem small_none {ks : List Int} {s : ByteArray} (h : s.size < heapA ks) : readM ks s = none := read_none fun cells hc e => by
 have := print_heap hc
 rw [e] at this
 omega
end Go.Proofs.YtpnnkhpokangfaaDoor.Mi

/- A group's cells out of any bytes: the document's, walked. -/
namespace Go.Proofs.YtpnnkhpokangfaaDoor.Mi
open Go.RowKit Pac Va Sc Ro Lex Go.Proofs.YtpnnkhpokangfaaDoor.Or

set_option maxRecDepth 20000 in
theorem refWidth_any (k : Int) (w : World) : Calls Tryd.prog 67 #[.int .i64 k] w fun e w' => e = .returned (.int .i64 (oneW k : Nat)) ∧ w' = w := by
 unfold oneW
 go_enter Tryd.func67, Tryd.ntmps67
 by_cases h1 : k = 1
 ·subst h1
  go_wp2
  go_ret
  exact ⟨rfl, rfl⟩
 ·by_cases h2 : k = 2
  ·subst h2
   go_wp2
   go_ret
   exact ⟨rfl, rfl⟩
  ·rw [if_neg h1, if_neg h2]
   have e1 : (k == 1) = false := beq_eq_false_iff_ne.2 h1
   have e2 : (k == 2) = false := beq_eq_false_iff_ne.2 h2
   go_wp2
   go_ret
   exact ⟨rfl, rfl⟩

theorem or_byte {u : Nat} {b : UInt8} (h : u < 72057594037927936) : ∃ x : Nat, bits .or .u64 ((u : Int) * 256) (IntKind.u64.wrap (b.toNat : Int)) = (x : Int) ∧ x = u * 256 + b.toNat := by
 have hb := b.toNat_lt
 refine ⟨u * 256 + b.toNat, ?_, rfl⟩
 rw [show IntKind.u64.wrap (b.toNat : Int) = ((b.toNat : Nat) : Int) by rw [IntKind.wrap_u64]; omega, show ((u : Int) * 256) = ((u * 256 : Nat) : Int) by omega, u64_or_nat _ _ (by omega) (by omega)]
 have := Nat.two_pow_add_eq_or_of_lt (i := 8) (b := b.toNat) (by omega) u
 rw [show 2 ^ 8 * u = u * 256 by omega] at this
 rw [this]
theorem wrap_sgn {u : Nat} (h : u < 18446744073709551616) : IntKind.i64.wrap (u : Int) = sgn u := by
 rw [IntKind.wrap_i64]
 unfold sgn
 split <;> omega
theorem unbe_next {l : List UInt8} {b : Nat} {x : UInt8} (h : l[b]? = some x) : unbe (l.take (b + 1)) = unbe (l.take b) * 256 + x.toNat := by rw [List.take_add_one, h]; exact unbe_snoc _ _
theorem byte_at {e : ByteArray} {b : Nat} (h : b < e.size) : e.data.toList[b]? = some e[b] := by rw [List.getElem?_eq_getElem (by simpa using h)]; rfl
theorem zip_snoc {α β : Type} : ∀ {ks : List α} {L : List β} {k : α} {v : β}, ks[L.length]? = some k → ks.zip (L ++ [v]) = ks.zip L ++ [(k, v)]
 | [], L, k, v, h => by simp at h
 | x :: ks, [], k, v, h => by
  have h : x = k := by simpa using h
  subst h
  simp
 | x :: ks, y :: L, k, v, h => by
  have h : ks[L.length]? = some k := by simpa using h
  show (x, y) :: ks.zip (L ++ [v]) = (x, y) :: (ks.zip L ++ [(k, v)])
  rw [zip_snoc h]
theorem bit_read {s : ByteArray} {n j m : Nat} (hj : j < s.size) (e1 : n / 8 = j) (e2 : n % 8 = m) : (bits .and .u8 ((s[j].toNat : Int) / 2 ^ m) 1 == 1) = bitA s n := by
 have hb := s[j].toNat_lt
 have e3 : ((s[j].toNat : Int) / 2 ^ m) = ((s[j].toNat / 2 ^ m : Nat) : Int) := by push_cast; rfl
 have hlt : s[j].toNat / 2 ^ m < 256 := Nat.lt_of_le_of_lt (Nat.div_le_self _ _) hb
 have e4 := u8_and_nat (s[j].toNat / 2 ^ m) 1 hlt (by decide)
 rw [e3]
 rw [show ((1 : Int)) = ((1 : Nat) : Int) by rfl, e4, Nat.and_one_is_mod]
 unfold bitA
 have e5 : s.data.toList[n / 8]? = some s[j] := by
  rw [e1, List.getElem?_eq_getElem (by simpa using hj)]
  rfl
 rw [e5, e2, Option.getD_some]
 generalize s[j].toNat / 2 ^ m % 2 = x
 cases hx : (x == 1)
 ·have := beq_eq_false_iff_ne.1 hx
  exact beq_eq_false_iff_ne.2 (by omega)
 ·have := beq_iff_eq.1 hx
  exact beq_iff_eq.2 (by omega)
/-- Rows that lie apart. -/
def FreeM (w : World) (A : Option Addr) (m : Nat) (hs : List (Li.Gr V)) : Prop :=
 ∃ bt ot, A = some ⟨bt, ot, none⟩ ∧ ∀ (i : Nat) (x : Li.Gr V), hs[i]? = some x → ∃ b o, x.A = some ⟨b, o, none⟩ ∧ b ≠ bt ∧ (∀ k, w.frozen? ⟨b, k, none⟩ = false) ∧
  ∀ (j : Nat) (y : Li.Gr V), hs[j]? = some y → i ≠ j → ∀ b' o', y.A = some ⟨b', o', none⟩ → b ≠ b' ∨ o + m * 3 ≤ o' ∨ o' + m * 3 ≤ o
/-- What is read of any bytes, in rows that lie apart. -/
def ReadPostF (m : Nat) (o : Option (List (List V))) (w : World) (e : Ending) (w' : World) : Prop :=
 ∃ (v : Value) (b : Bool), e = .returned (.tuple #[v, .bool b]) ∧ b = o.isSome ∧ (∀ cells, o = some cells → ∃ A cp hs, v = .slice A 8 cp ∧ 8 ≤ cp ∧ cells.length = 8 ∧ hs.map Li.Gr.l = cells ∧ Li.HasL Li.cellsG 1 w' w.heap.size A hs ∧ (∀ x ∈ hs, HasV w' w.heap.size x.A x.l ∧ x.l.length ≤ x.cp) ∧ FreeM w' A m hs) ∧ Below w.heap.size w w'
theorem ReadPostF.bad {m : Nat} {o : Option (List (List V))} {w w' : World} {v : Value} (h : o = none) (hB : Below w.heap.size w w') : ReadPostF m o w (.returned (.tuple #[v, .bool false])) w' := by
 subst h
 exact ⟨v, false, rfl, rfl, fun c h => (by cases h), hB⟩
theorem ReadPostF.good {m R cp base : Nat} {o : Option (List (List V))} {w w' : World} {os : List (Li.OG V)} (h : o = some (os.map Li.OG.l)) (hb : w.heap.size ≤ base) (hown : w'.ownsRow base 35 1 (.slice (some ⟨R, 0, none⟩) 8 cp) 8 (os.map Li.OG.v)) (hF : Li.FreeG cellsV 3 37 w' base os) (hB : Below w.heap.size w w') : ReadPostF m o w (.returned (.tuple #[.slice (some ⟨R, 0, none⟩) 8 cp, .bool true])) w' := by
 subst h
 have hlen : os.length = 8 := by have := hown.1; rwa [List.length_map] at this
 refine ⟨_, true, rfl, rfl, fun c hc => ?_, hB⟩
 injection hc with hc
 subst hc
 have hown' := hown
 rw [← Li.cells_og] at hown'
 obtain ⟨A', c', e', hc, hl⟩ := Li.list_of_own Li.cellsG_len hown' (by rw [List.length_map, hlen])
 injection e' with e1 _ e3
 subst e1 e3
 refine ⟨_, _, os.map Li.OG.gr, rfl, hc, by rw [List.length_map, hlen], by rw [List.map_map]; rfl, hl.lower hb, fun x hx => ⟨(hF.has cellsV_len hx).1.lower hb, (hF.has cellsV_len hx).2⟩, R, 0, rfl, fun i x hi => ?_⟩
 rw [List.getElem?_map] at hi
 obtain ⟨y, hy, rfl⟩ := Option.map_eq_some_iff.1 hi
 have ho := hF.own y (List.mem_of_getElem? hy)
 refine ⟨y.b, 0, rfl, fun e => ?_, fun k => ho.frozenAt k, fun j x' hj hij b' o' e => Or.inl ?_⟩
 ·exact Li.own_kind ho hown (by decide) (b := y.b) rfl (by rw [e]; rfl)
 ·rw [List.getElem?_map] at hj
  obtain ⟨z, hz, rfl⟩ := Option.map_eq_some_iff.1 hj
  have hne := hF.ne hy hz hij
  unfold Li.OG.gr at e
  injection e with e
  injection e with e
  rw [← e]
  exact hne

set_option maxRecDepth 20000 in
set_option maxHeartbeats 16000000 in
theorem refRead_any (nm : ByteArray) (A1 A2 : Option Addr) (cp cp2 : Nat) (cs : List C) (g : List Int) (s : ByteArray) (lo1 lo2 : Nat) (w : World) (h1 : HasCols w lo1 A1 cs) (h2 : HasI w lo2 A2 g) (hl1 : cs.length ≤ 9223372036854775807) (hg : ∀ c ∈ g, 0 ≤ c ∧ c < cs.length) (hg1 : 1 ≤ g.length) (hg8 : g.length ≤ 8) (hkk : ∀ k ∈ kindsL cs g, k = 1 ∨ k = 2 ∨ k = 3) (hs : s.size ≤ 1000000) :
  Calls Tryd.prog 46 #[.agg #[.string nm, .slice A1 cs.length cp], .slice A2 g.length cp2, .string s] w (ReadPostF g.length (readM (kindsL cs g) s) w) := by
 have hnew := (Below.refl w.heap.size w).alloc (Nat.le_refl _) (.cells #[.string nm, .slice A1 cs.length cp] 24)
 have hx0 := Box2.new w (.string nm) (.slice A1 cs.length cp) 24
 have h1 := h1.below hnew (Nat.le_refl _)
 have h2 := h2.below hnew (Nat.le_refl _)
 generalize hw1 : w.alloc (.cells #[.string nm, .slice A1 cs.length cp] 24) = w1 at hx0 hnew h1 h2
 have hck := refKinds_any nm A1 A2 cp cp2 cs g lo1 lo2 w1 h1 h2 hl1 (by omega) hg
 obtain ⟨ks, hks⟩ : ∃ ks, kindsL cs g = ks := ⟨_, rfl⟩
 have hkl : ks.length = g.length := by rw [← hks, kinds_len]
 rw [hks] at hck hkk ⊢
 have hPB := fun (v : Value) (w' : World) (h : readM ks s = none) => ReadPostF.bad (m := g.length) (v := v) (w := w) (w' := w') h
 have hPG := fun (R cp base : Nat) (w' : World) (os : List (Li.OG V)) (h : readM ks s = some (os.map Li.OG.l)) => ReadPostF.good (m := g.length) (R := R) (cp := cp) (base := base) (w := w) (w' := w') (os := os) h
 generalize ReadPostF g.length (readM ks s) w = post at hPB hPG ⊢
 have HPB := Lib.hid hPB
 have HPG := Lib.hid hPG
 clear hPB hPG
 obtain ⟨K, hK⟩ : ∃ m, g.length = m := ⟨_, rfl⟩
 rw [hK] at hkl hg1 hg8 hck ⊢
 unfold KindsPost at hck
 rw [hkl] at hck
 obtain ⟨iV, hiV, hv0, hv1, hv2⟩ := info_parts infoV
 obtain ⟨iR, hiR, hr0, hr1, hr2⟩ := info_parts infoRow
 have HG := Lib.hid (And.intro hg (And.intro hK hks))
 have HK := Lib.hid (And.intro hkl hkk)
 have HC := Lib.hid (And.intro h1 h2)
 have c0 := hx0.c0
 have c1 := hx0.c1
 clear hkl hkk h1 h2 hg hK
 go_enter Tryd.func46, Tryd.ntmps46
 go_wp2_with fail
 clear hw1 c0 c1
 refine hck.mono ?_
 rintro e w2 ⟨AK, ck, rfl, _, hI, hy⟩
 have hx0 := hx0.below hy hx0.lt
 have HC := Lib.hid (And.intro (HC.out.1.below hy (Nat.le_refl _)) (HC.out.2.below hy (Nat.le_refl _)))
 have hB2 := hnew.trans (hy.mono hnew.size)
 clear hck hy hnew
 have eK : (8 * (K : Int) + 7) / 8 = (K : Int) := by omega
 have HI := Lib.hid hI
 have HX0 := Lib.hid hx0
 clear hI hx0
 go_upto_region 4 with fail
 simp only [eK]
 clear eK
 go_wp2
 go_loopw [10, 11] (fun x i wr => ∃ (t u : Nat), t ≤ K ∧ i = .int .i64 t ∧ x = .int .i64 u ∧ u ≤ 8 * t ∧ Hid (u = wide (ks.take t)) ∧ w2 = wr) (fun _ i _ => K - (intOf i).toNat)
 case atStart => exact ⟨0, 0, Nat.zero_le _, rfl, rfl, by omega, Lib.hid (by simp [wide]), rfl⟩
 case round =>
  obtain ⟨t, u, ht, rfl, rfl, hu, hU, rfl⟩ := hrel
  by_cases hlt : t < K
  ·have i1 : (t : Int) < (K : Int) := by omega
   have i0 : (0 : Int) ≤ (t : Int) := by omega
   have hkt : ks[t]? = some (ks[t]'(by rw [HK.out.1]; exact hlt)) := List.getElem?_eq_getElem _
   generalize (ks[t]'(by rw [HK.out.1]; exact hlt)) = kk at hkt
   obtain ⟨b3, o3, rfl, _, hlb3, f1⟩ := HI.out.at hkt
   have HU : Hid (u + oneW kk = wide (ks.take (t + 1))) := Lib.hid (by
    rw [List.take_add_one, hkt, wide_app, ← hU.out]
    show u + oneW kk = u + (oneW kk + 0)
    omega)
   have hw8 : oneW kk ≤ 8 := by unfold oneW; split <;> (try split) <;> omega
   have hc := refWidth_any kk w2
   generalize oneW kk = z at HU hw8 hc
   clear hkt
   go_wp2_with fail
   refine hc.mono ?_
   rintro e w3 ⟨rfl, rfl⟩
   clear hc f1
   go_wp2
   go_roundw
   case rel => exact ⟨t + 1, u + z, by omega, by go_num, by go_num, by omega, HU, by trivial⟩
   case measure => simp [intOf]; omega
  ·obtain rfl : t = K := by omega
   have hW : u = wide ks := by rw [hU.out, List.take_of_length_le (by rw [HK.out.1]; exact Nat.le_refl _)]
   have hH : heapA ks = t + 8 * u := by unfold heapA; rw [HK.out.1, hW]
   have HH := Lib.hid hH
   clear hW hH hU
   by_cases hsz : s.size < t + 8 * u
   ·have HQ := Lib.hid (HPB.out (.slice none 0 0) w2 (small_none (by rw [HH.out]; exact hsz)) hB2)
    go_wp2
    exact HQ.out
   ·have hsz' : t + 8 * u ≤ s.size := by omega
    go_wp2
    go_loopw [13, 14, 15] (fun x y i wr => ∃ (q pp : Nat) (sv : Value) (os : List (Li.OG V)), q ≤ 8 ∧ i = .int .i64 q ∧ x = .int .i64 pp ∧ y = sv ∧ wr.ownsRow w2.heap.size 35 1 sv q (os.map Li.OG.v) ∧ Hid (pp = posA ks (q * t) ∧ os.length = q ∧ (∀ r ∈ os.map Li.OG.l, r.length = t) ∧ DecOk ks s (flat ks (os.map Li.OG.l)) ∧ Li.FreeG cellsV 3 37 wr w2.heap.size os) ∧ Below w2.heap.size w2 wr) (fun _ _ i _ => 8 - (intOf i).toNat)
    case atStart => exact ⟨0, t, _, [], Nat.zero_le _, rfl, rfl, rfl, World.ownsRow_nil _ _ _ _, Lib.hid ⟨by rw [Nat.zero_mul, pos_zero, HK.out.1], rfl, fun r hr => by simp at hr, DecOk.nil _ _, Li.FreeG.nil _ _ _ _ _⟩, Below.refl _ _⟩
    case round =>
     obtain ⟨q, pp, sv, os, hq, rfl, rfl, rfl, hown, hP, hB⟩ := hrel
     obtain ⟨wq, rfl⟩ : ∃ wq, wq = wr := ⟨_, rfl⟩
     by_cases hq8 : q < 8
     ·have i1 : (q : Int) < 8 := by omega
      go_wp2
      go_loopw [13, 16, 17] (fun x y i wv => ∃ (c pp : Nat) (sv : Value) (L : List V), c ≤ t ∧ i = .int .i64 c ∧ x = .int .i64 pp ∧ y = sv ∧ wv.ownsRow wq.heap.size 37 3 sv c (Li.cellsL cellsV L) ∧ Hid (pp = posA ks (q * t + c) ∧ L.length = c ∧ DecOk ks s (flat ks (os.map Li.OG.l) ++ ks.zip L)) ∧ Below wq.heap.size wq wv) (fun _ _ i _ => t - (intOf i).toNat)
      case atStart => exact ⟨0, pp, _, [], Nat.zero_le _, rfl, rfl, rfl, World.ownsRow_nil _ _ _ _, Lib.hid ⟨hP.out.1, rfl, by simpa using hP.out.2.2.2.1⟩, Below.refl _ _⟩
      case round =>
       obtain ⟨c, pp', sv', L, hc, rfl, rfl, rfl, hownL, hL, hBv⟩ := hrel
       by_cases hct : c < t
       ·have i3 : (c : Int) < (t : Int) := by omega
        have i4 : (0 : Int) ≤ (c : Int) := by omega
        have hkt : ks[c]? = some (ks[c]'(by rw [HK.out.1]; exact hct)) := List.getElem?_eq_getElem _
        generalize (ks[c]'(by rw [HK.out.1]; exact hct)) = kk at hkt
        have HIv : HasI wr w1.heap.size AK ks := ((HI.out.below hB (Nat.le_refl _)).below hBv (Nat.le_refl _))
        obtain ⟨b3, o3, rfl, _, hlb3, f1⟩ := HIv.at hkt
        obtain ⟨n, hn⟩ : ∃ n, q * t + c = n := ⟨_, rfl⟩
        have eN : (q : Int) * (t : Int) + (c : Int) = (n : Int) := by rw [← hn]; push_cast; rfl
        have hKn : (kindsA ks)[n]? = some kk := by
         have := kindsA_at hq8 hkt
         rwa [HK.out.1, hn] at this
        have hpn := pos_next hKn
        have hpl := pos_le (ks := ks) (n := n + 1)
        have hp0 := hL.out.1
        rw [hn] at hp0
        rw [HH.out, hpn, ← hp0] at hpl
        have hn8 : n < 8 * t := by
         have : (q + 1) * t ≤ 8 * t := Nat.mul_le_mul_right _ hq8
         rw [Nat.add_mul] at this
         omega
        have hcw := refWidth_any kk
        obtain ⟨z, hz⟩ : ∃ z, oneW kk = z := ⟨_, rfl⟩
        rw [hz] at hcw hpl
        have HN := Lib.hid (And.intro hn (And.intro hKn (And.intro hpn (And.intro hp0 hz))))
        have hps : pp' + z ≤ s.size := by omega
        have k1 : (pp' : Int) ≤ (pp' : Int) + (z : Int) := by omega
        have k2 : (pp' : Int) + (z : Int) ≤ (s.size : Int) := by omega
        have k3 : IntKind.i64.wrap ((pp' : Int) + (z : Int)) = (pp' : Int) + (z : Int) := IntWalk.i64_in _ (by omega)
        have k4 : ((pp' : Int) + (z : Int)).toNat = pp' + z := by omega
        obtain ⟨j8, hj8⟩ : ∃ j8 : Nat, (n : Int) / 8 = (j8 : Int) := ⟨n / 8, by omega⟩
        obtain ⟨m8, hm8⟩ : ∃ m8 : Nat, (n : Int) % 8 = (m8 : Int) := ⟨n % 8, by omega⟩
        have hj8s : j8 < s.size := by omega
        have hm88 : m8 < 8 := by omega
        have hbit := bit_read hj8s (show n / 8 = j8 by omega) (show n % 8 = m8 by omega)
        have he : (s.extract pp' (pp' + z)).size = z := by rw [ByteArray.size_extract]; omega
        have hel : (s.extract pp' (pp' + z)).data.toList = bytesA s (posA ks n) z := by
         rw [ByteArray.data_extract, Array.toList_extract, List.extract_eq_take_drop, show pp' + z - pp' = z by omega, hp0]
         rfl
        have HEL := Lib.hid (And.intro he hel)
        have HKT := Lib.hid hkt
        have HKK := Lib.hid (HK.out.2 kk (List.mem_of_getElem? hkt))
        have ff := fun (o : Obj) => cell_below ((Below.refl wr.heap.size wr).alloc (Nat.le_refl _) o) f1
        clear hn hKn hpn hp0 hz hkt hpl he hel
        have kt1 : (t : Int) ≤ 8 := by omega
        go_upto_if 97 with ((refine (hcw _).mono ?_; rintro e w5 ⟨rfl, rfl⟩))
        clear hcw
        generalize s.extract pp' (pp' + z) = e at HEL ⊢
        go_cut [21, 22, 23, 24] from 59 to 161 (fun s21 s22 s23 s24 wx => ∃ v : V, rawV ks s kk n = some v ∧ Sc.Box3 wx wr.heap.size (.int .i64 v.k) (.int .i64 v.n) (.string v.s) ∧ Below wr.heap.size wr wx)
        case first =>
         have hy0 := (Below.refl wr.heap.size wr).alloc (Nat.le_refl _) (.cells #[.int .i64 0, .int .i64 0, .string ⟨#[]⟩] 37)
         cases hbb : bitA s n with
         | false =>
          rw [hbb] at hbit
          have HV : Hid (rawV ks s kk n = some vZ) := Lib.hid (by unfold rawV; rw [if_pos hbb])
          have hx := Sc.Box3.new wr (.int .i64 0) (.int .i64 0) (.string ⟨#[]⟩) 37
          clear hbb f1 ff
          go_wp2
          go_meet
          exact ⟨vZ, HV.out, hx, hy0⟩
         | true =>
          rw [hbb] at hbit
          have HB := Lib.hid hbb
          clear hbb f1
          rcases HKK.out with hk1 | hk2 | hk3
          ·subst hk1
           have HZ8 : Hid (z = 8) := Lib.hid HN.out.2.2.2.2.symm
           have hes : e.size = 8 := HEL.out.1.trans HZ8.out
           have HX := Lib.hid (Sc.Box3.new wr (.int .i64 1) (.int .i64 0) (.string ⟨#[]⟩) 37)
           clear hy0
           go_wp2
           generalize hW : wr.alloc (.cells #[.int .i64 1, .int .i64 0, .string ⟨#[]⟩] 37) = W at HX ⊢
           clear ff
           go_loopw [21, 22] (fun x i wx => ∃ (b uu : Nat), b ≤ 8 ∧ i = .int .i64 b ∧ x = .int .u64 uu ∧ uu < 256 ^ b ∧ Hid (uu = unbe (e.data.toList.take b)) ∧ W = wx) (fun _ i _ => 8 - (intOf i).toNat)
           case atStart => exact ⟨0, 0, Nat.zero_le _, rfl, rfl, by decide, Lib.hid rfl, rfl⟩
           case round =>
            obtain ⟨b, uu, hb8, rfl, rfl, hu2, hUU, rfl⟩ := hrel
            by_cases hlb : b < 8
            ·have hbe : b < e.size := by omega
             have hu56 : uu < 72057594037927936 := Nat.lt_of_lt_of_le hu2 (Nat.le_trans (Nat.pow_le_pow_right (by decide) (show b ≤ 7 by omega)) (by decide))
             obtain ⟨x, ex, hx⟩ := or_byte (b := e[b]) hu56
             have hb256 := e[b].toNat_lt
             have hx2 : x < 256 ^ (b + 1) := by rw [hx, Nat.pow_succ]; omega
             have HX2 : Hid (x = unbe (e.data.toList.take (b + 1))) := Lib.hid (by rw [hx, hUU.out, unbe_next (byte_at hbe)])
             clear hx hb256
             go_wp2
             go_roundw
             case rel => exact ⟨b + 1, x, by omega, by go_num, by go_num, hx2, HX2, by trivial⟩
             case measure => simp [intOf]; omega
            ·obtain rfl : b = 8 := by omega
             have hu64 : uu < 18446744073709551616 := by have : (256 : Nat) ^ 8 = 18446744073709551616 := by decide
                                                         omega
             have esg := wrap_sgn hu64
             have HU2 : Hid (unbe (bytesA s (posA ks n) 8) = uu) := Lib.hid (by
              have h1 := HEL.out.2
              rw [HZ8.out] at h1
              rw [← h1, hUU.out, List.take_of_length_le (by have : e.data.toList.length = e.size := by simp
                                                            omega)])
             have HY : Hid (Below wr.heap.size wr W) := Lib.hid (by rw [← hW]; exact (Below.refl wr.heap.size wr).alloc (Nat.le_refl _) _)
             have x1 := HX.out.c1
             have xf := HX.out.f 1
             clear hu2 hu64 hW
             go_wp2
             go_meet
             exact ⟨⟨1, sgn uu, ⟨#[]⟩⟩, by unfold rawV; rw [if_neg (by rw [HB.out]; decide), if_pos rfl, HU2.out], HX.out.set1 _, HY.out.setCell (Nat.le_refl _) _⟩
          ·subst hk2
           have HZ1 : Hid (z = 1) := Lib.hid HN.out.2.2.2.2.symm
           have hes : e.size = 1 := HEL.out.1.trans HZ1.out
           have hbe : 0 < e.size := by omega
           have HX := Lib.hid (Sc.Box3.new wr (.int .i64 2) (.int .i64 (e[0].toNat : Int)) (.string ⟨#[]⟩) 37)
           have HY := Lib.hid ((Below.refl wr.heap.size wr).alloc (Nat.le_refl _) (.cells #[.int .i64 2, .int .i64 (e[0].toNat : Int), .string ⟨#[]⟩] 37))
           have HV : Hid (rawV ks s 2 n = some ⟨2, (e[0].toNat : Int), ⟨#[]⟩⟩) := Lib.hid (by
            unfold rawV
            have h1 := HEL.out.2
            rw [HZ1.out] at h1
            rw [if_neg (by rw [HB.out]; decide), if_neg (by decide), if_pos rfl, ← h1]
            have h2 := byte_at hbe
            cases hl : e.data.toList with
            | nil => rw [hl] at h2; cases h2
            | cons y l =>
             rw [hl] at h2
             have h2 : y = e[0] := by simpa using h2
             rw [← h2]
             rfl)
           have hb256 := e[0].toNat_lt
           have esg : IntKind.i64.wrap ((e[0].toNat : Nat) : Int) = (e[0].toNat : Int) := IntWalk.i64_in _ (by omega)
           clear hy0
           go_wp2
           go_meet
           exact ⟨_, HV.out, HX.out, HY.out⟩
          ·subst hk3
           have HZ3 : Hid (z = 3) := Lib.hid HN.out.2.2.2.2.symm
           have hes : e.size = 3 := HEL.out.1.trans HZ3.out
           have hb0 : 0 < e.size := by omega
           have hb1 : 1 < e.size := by omega
           have hb2 : 2 < e.size := by omega
           have g0 := e[0].toNat_lt
           have g1 := e[1].toNat_lt
           have g2 := e[2].toNat_lt
           have HBY : Hid ((bytesA s (posA ks n) 3)[0]?.getD 0 = e[0] ∧ (bytesA s (posA ks n) 3)[1]?.getD 0 = e[1] ∧ (bytesA s (posA ks n) 3)[2]?.getD 0 = e[2]) := Lib.hid (by
            have h1 := HEL.out.2
            rw [HZ3.out] at h1
            rw [← h1, byte_at hb0, byte_at hb1, byte_at hb2]
            exact ⟨rfl, rfl, rfl⟩)
           have m0 : IntKind.i64.wrap (e[0].toNat : Int) = (e[0].toNat : Int) := IntWalk.i64_in _ (by omega)
           have m1 : IntKind.i64.wrap (e[1].toNat : Int) = (e[1].toNat : Int) := IntWalk.i64_in _ (by omega)
           have m2 : IntKind.i64.wrap (e[2].toNat : Int) = (e[2].toNat : Int) := IntWalk.i64_in _ (by omega)
           have m3 : IntKind.i64.wrap ((e[0].toNat : Int) * 256) = (e[0].toNat : Int) * 256 := IntWalk.i64_in _ (by omega)
           have m4 : IntKind.i64.wrap ((t : Int) + (u : Int) * 8 + (e[0].toNat : Int) * 256) = (t : Int) + (u : Int) * 8 + (e[0].toNat : Int) * 256 := IntWalk.i64_in _ (by omega)
           have m5 : IntKind.i64.wrap ((t : Int) + (u : Int) * 8 + (e[0].toNat : Int) * 256 + (e[1].toNat : Int)) = (t : Int) + (u : Int) * 8 + (e[0].toNat : Int) * 256 + (e[1].toNat : Int) := IntWalk.i64_in _ (by omega)
           have hraw : rawV ks s 3 n = if t + u * 8 + e[0].toNat * 256 + e[1].toNat + e[2].toNat ≤ s.size then some ⟨3, 0, s.extract (t + u * 8 + e[0].toNat * 256 + e[1].toNat) (t + u * 8 + e[0].toNat * 256 + e[1].toNat + e[2].toNat)⟩ else none := by
            unfold rawV
            rw [if_neg (by rw [HB.out]; decide), if_neg (by decide), if_neg (by decide), HBY.out.1, HBY.out.2.1, HBY.out.2.2, HH.out, Nat.mul_comm 8 u]
           clear hy0
           by_cases hs3 : t + u * 8 + e[0].toNat * 256 + e[1].toNat + e[2].toNat ≤ s.size
           ·rw [if_pos hs3] at hraw
            have HV := Lib.hid hraw
            have q1 : ¬ (s.size : Int) < (t : Int) + (u : Int) * 8 + (e[0].toNat : Int) * 256 + (e[1].toNat : Int) + (e[2].toNat : Int) := by omega
            clear hraw
            go_wp2
            go_quiet (fail)
            have hw := below_drewN (Below.refl wr.heap.size (wr.alloc (.cells #[.int .i64 3, .int .i64 0, .string ⟨#[]⟩] 37))) nq
            have hX := ((Sc.Box3.new wr (.int .i64 3) (.int .i64 0) (.string ⟨#[]⟩) 37).below (below_drewN (Below.refl (wr.heap.size + 1) (wr.alloc (.cells #[.int .i64 3, .int .i64 0, .string ⟨#[]⟩] 37))) nq) (Nat.lt_succ_self _))
            have HY := Lib.hid (((Below.refl wr.heap.size wr).alloc (Nat.le_refl _) (.cells #[.int .i64 3, .int .i64 0, .string ⟨#[]⟩] 37)).trans hw)
            generalize (wr.alloc (.cells #[.int .i64 3, .int .i64 0, .string ⟨#[]⟩] 37)).drewN nq = W at hX HY ⊢
            have HX := Lib.hid hX
            have x2 := hX.c2
            have xf := hX.f 2
            clear hw hX ff
            go_wp2
            all_goals
             go_meet
             exact ⟨_, HV.out, HX.out.set2 _, HY.out.setCell (Nat.le_refl _) _⟩
           ·rw [if_neg hs3] at hraw
            have HQ := Lib.hid (fun (w' : World) (h : Below w.heap.size w w') => HPB.out (.slice none 0 0) w' (dec_none (by rw [HK.out.1]; omega) HN.out.2.1 (raw_none hraw)) h)
            have q1 : (s.size : Int) < (t : Int) + (u : Int) * 8 + (e[0].toNat : Int) * 256 + (e[1].toNat : Int) + (e[2].toNat : Int) := by omega
            clear hraw
            go_wp2
            go_quiet (fail)
            have hw := below_drewN (Below.refl wr.heap.size (wr.alloc (.cells #[.int .i64 3, .int .i64 0, .string ⟨#[]⟩] 37))) nq
            have hy1 := ((Below.refl wr.heap.size wr).alloc (Nat.le_refl _) (.cells #[.int .i64 3, .int .i64 0, .string ⟨#[]⟩] 37)).trans hw
            have HZ := Lib.hid (HQ.out _ (hB2.trans ((hB.trans ((hBv.trans (hy1.mono hBv.size)).mono hB.size)).mono hB2.size)))
            clear hw hy1 ff
            go_wp2
            exact HZ.out
        case rest =>
         obtain ⟨v, hv, hx, hyc⟩ := hcut
         have hB3 := hB.trans ((hBv.trans (hyc.mono hBv.size)).mono hB.size)
         obtain ⟨hr1, hr0⟩ := raw_some hv
         have hcR := refRight_any v wc
         have hlen : (flat ks (os.map Li.OG.l) ++ ks.zip L).length = n := by
          rw [List.length_append, flat_len (fun r hr => by rw [hP.out.2.2.1 r hr, HK.out.1]), List.length_map, hP.out.2.1, HK.out.1, List.length_zip, HK.out.1, hL.out.2.1, ← HN.out.1]
          omega
         obtain ⟨vk, vn, vs⟩ := v
         have x0 := hx.c0
         have x1 := hx.c1
         have x2 := hx.c2
         clear hbit ff f1 hv
         cases hrv : rightV ⟨vk, vn, vs⟩ with
         | false =>
          rw [hrv] at hcR
          have HQ := Lib.hid (fun (w' : World) (h : Below w.heap.size w w') => HPB.out (.slice none 0 0) w' (dec_none (by rw [HK.out.1]; omega) HN.out.2.1 (hr0 hrv)) h)
          clear hr1 hr0 hrv
          go_wp2_with fail
          refine hcR.mono ?_
          rintro e w6 ⟨rfl, hw6⟩
          have HB := Lib.hid (hB2.trans ((hB3.trans (hw6.mono hB3.size)).mono hB2.size))
          clear hw6 hcR x0 x1 x2
          go_wp2
          exact HQ.out _ HB.out
         | true =>
          rw [hrv] at hcR
          have hdec := hr1 hrv
          have hle : posA ks n + oneW kk ≤ s.size := by rw [HN.out.2.2.2.2, ← HN.out.2.2.2.1]; exact hps
          have hok : CellOk (kk, ⟨vk, vn, vs⟩) := dec_ok HKK.out (by omega) hle hdec
          have hDn : DecOk ks s (flat ks (os.map Li.OG.l) ++ ks.zip (L ++ [(⟨vk, vn, vs⟩ : V)])) := by
           have hz : ks.zip (L ++ [(⟨vk, vn, vs⟩ : V)]) = ks.zip L ++ [(kk, ⟨vk, vn, vs⟩)] := by
            exact zip_snoc (by rw [hL.out.2.1]; exact HKT.out)
           rw [hz, ← List.append_assoc]
           refine DecOk.snoc hL.out.2.2 ?_ hok
           rw [hlen]
           exact hdec
          have HD := Lib.hid (And.intro hDn hok)
          have hownC := Li.own_below hownL hyc (Nat.le_refl _)
          clear hr1 hr0 hrv hdec hle hok hDn hownL
          go_wp2_with fail
          refine hcR.mono ?_
          rintro e w6 ⟨rfl, hw6⟩
          have hx6 := hx.below hw6 hx.lt
          have x0 := hx6.c0
          have x1 := hx6.c1
          have x2 := hx6.c2
          have hBv6 := (hBv.trans (hyc.mono hBv.size)).trans (hw6.mono (Nat.le_trans hBv.size hyc.size))
          have hown6 := Li.own_below hownC hw6 (Nat.le_refl _)
          have HW := Lib.hid (And.intro (hown6.alloc (.cells #[.int .i64 vk, .int .i64 vn, .string vs] 37)) (And.intro (hBv6.alloc hBv6.size (.cells #[.int .i64 vk, .int .i64 vn, .string vs] 37)) (heap_alloc_new w6 (.cells #[.int .i64 vk, .int .i64 vn, .string vs] 37))))
          clear hw6 hcR hownC hown6 hBv6 hx hx6
          go_wp2_with (at_builtin; go_must (refine wpList_append_own _ rfl _ _ 35 rfl wq.heap.size 37 iV (.agg #[.int .i64 0, .int .i64 0, .string ⟨#[]⟩]) 3 32 Tryd.underlying35 hiV hv0 hv1 hv2 rfl (by decide) u16 c (Li.cellsL cellsV L) rfl HW.out.1 ⟨w6.heap.size, 0, none⟩ 1 1 [.int .i64 vk, .int .i64 vn, .string vs] rfl rfl (World.news_of_block HW.out.2.2) (by simp [Value.oneCell']) (by unfold maxLen; omega) (by omega) HW.out.2.1.size ?_))
          intro v5 y5 hown5 hgrow5 _
          obtain ⟨hownW, hbW, hnW⟩ := HW.out
          have hB5 := hbW.grown hgrow5 hbW.size (fun k hk => (hownW.lt k hk).1)
          clear hownW hbW hnW hgrow5 HW x0 x1 x2
          go_wp2
          go_roundw
          case rel =>
           refine ⟨c + 1, pp' + z, _, L ++ [⟨vk, vn, vs⟩], by omega, by go_num, by go_num, rfl, ?_, Lib.hid ⟨?_, by rw [List.length_append, hL.out.2.1]; rfl, HD.out.1⟩, hB5⟩
           ·rw [Li.cellsL_snoc]
            exact hown5
           ·rw [← Nat.add_assoc, HN.out.1, HN.out.2.2.1, HN.out.2.2.2.2, HN.out.2.2.2.1]
          case measure => simp [intOf]; omega
       ·obtain rfl : c = t := by omega
        have hlt1 : 0 < c := by omega
        obtain ⟨gL, capL, rfl, hgL, hgl⟩ := hownL.form hlt1
        have hrow := Li.own_below hown hBv (Nat.le_refl _)
        have hB3 := hB.trans (hBv.mono hB.size)
        have hF : Li.FreeG cellsV 3 37 wr w2.heap.size (os ++ [⟨gL, capL, L⟩]) := (hP.out.2.2.2.2.below hBv (Nat.le_refl _)).push (x := ⟨gL, capL, L⟩) (by
         unfold Li.OG.v
         show World.ownsRow wr w2.heap.size 37 3 (.slice (some ⟨gL, 0, none⟩) L.length capL) L.length _
         rw [hL.out.2.1]
         exact Li.own_base hownL hB.size) (fun x hx => by
         have := (hP.out.2.2.2.2.lt hx).2
         show x.b ≠ gL
         omega)
        have hD2 : DecOk ks s (flat ks ((os ++ [(⟨gL, capL, L⟩ : Li.OG V)]).map Li.OG.l)) := by
         rw [List.map_append]
         have e : flat ks (os.map Li.OG.l ++ [(⟨gL, capL, L⟩ : Li.OG V)].map Li.OG.l) = flat ks (os.map Li.OG.l) ++ ks.zip L := by
          unfold flat
          rw [List.flatMap_append]
          simp
         rw [e]
         exact hL.out.2.2
        have hya := (Below.refl wr.heap.size wr).alloc (Nat.le_refl _) (.cells #[.slice (some ⟨gL, 0, none⟩) c capL] 35)
        have HF := Lib.hid (And.intro (hF.below hya (Nat.le_refl _)) hD2)
        have HW := Lib.hid (And.intro (hrow.alloc (.cells #[.slice (some ⟨gL, 0, none⟩) c capL] 35)) (And.intro (hB3.alloc hB3.size (.cells #[.slice (some ⟨gL, 0, none⟩) c capL] 35)) (heap_alloc_new wr (.cells #[.slice (some ⟨gL, 0, none⟩) c capL] 35))))
        clear hownL hrow hB3 hF hD2 hya hgL hgl hown
        go_wp2_with (at_builtin; go_must (refine wpList_append_own _ rfl _ _ 69 rfl w2.heap.size 35 iR (.slice none 0 0) 1 24 Tryd.underlying69 hiR hr0 hr1 hr2 rfl (by decide) u14 q (os.map Li.OG.v) rfl HW.out.1 ⟨wr.heap.size, 0, none⟩ 1 1 [.slice (some ⟨gL, 0, none⟩) c capL] rfl rfl (World.news_of_block HW.out.2.2) (by simp [Value.oneCell']) (by unfold maxLen; omega) (by omega) HW.out.2.1.size ?_))
        intro v5 y5 hown5 hgrow5 _
        obtain ⟨hownW, hbW, hnW⟩ := HW.out
        have hB5 := hbW.grown hgrow5 hbW.size (fun k hk => (hownW.lt k hk).1)
        have HF5 := Lib.hid (And.intro (HF.out.1.grown hownW (by decide) hgrow5) HF.out.2)
        clear hownW hbW hnW hgrow5 HW HF
        go_wp2
        go_roundw
        case rel =>
         refine ⟨q + 1, pp', _, os ++ [⟨gL, capL, L⟩], by omega, by go_num, rfl, rfl, ?_, Lib.hid ⟨?_, by rw [List.length_append, hP.out.2.1]; rfl, fun r hr => ?_, HF5.out.2, HF5.out.1⟩, hB5⟩
         ·rw [List.map_append]
          have e : [(⟨gL, capL, L⟩ : Li.OG V)].map Li.OG.v = [.slice (some ⟨gL, 0, none⟩) c capL] := by
           show [Value.slice _ L.length _] = _
           rw [hL.out.2.1]
          rw [e]
          exact hown5
         ·rw [hL.out.1, Nat.add_mul, Nat.one_mul]
         ·rw [List.map_append] at hr
          rcases List.mem_append.1 hr with hr | hr
          ·exact hP.out.2.2.1 r hr
          ·have hr : r ∈ [L] := hr
           rw [List.mem_singleton] at hr
           rw [hr]
           exact hL.out.2.1
        case measure => simp [intOf]; omega
     ·obtain rfl : q = 8 := by omega
      obtain ⟨gO, capO, rfl, hgO, hgl⟩ := hown.form (by decide)
      have hl8 : (os.map Li.OG.l).length = 8 := by rw [List.length_map]; exact hP.out.2.1
      have hrw : ∀ r ∈ os.map Li.OG.l, r.length = ks.length := fun r hr => by rw [hP.out.2.2.1 r hr, HK.out.1]
      have hRM : RightM ks (os.map Li.OG.l) := DecOk.right hP.out.2.2.2.1 hl8 hrw
      have hlen8 : os.length = 8 := hP.out.2.1
      have hown' := hown
      rw [← Li.cells_og] at hown'
      obtain ⟨A', c', e', hcc, hl⟩ := Li.list_of_own Li.cellsG_len hown' (by rw [List.length_map, hlen8])
      injection e' with e1 _ e3
      subst e1 e3
      have hVV : HasVV wq w2.heap.size (some ⟨gO, 0, none⟩) (os.map Li.OG.l) := ⟨os.map Li.OG.gr, by rw [List.map_map]; rfl, hl, fun x hx => hP.out.2.2.2.2.has cellsV_len hx⟩
      have hcP := refPrint_any nm A1 A2 (some ⟨gO, 0, none⟩) cp cp2 capO cs g (os.map Li.OG.l) lo1 lo2 w2.heap.size wq (HC.out.1.below hB (Nat.le_refl _)) (HC.out.2.below hB (Nat.le_refl _)) hVV hl1 (HG.out.1) (by rw [HG.out.2.1]; exact hg1) (by rw [HG.out.2.1]; exact hg8) (by rw [HG.out.2.2]; exact hRM)
      rw [HG.out.2.1, HG.out.2.2] at hcP
      have hxq := HX0.out.below hB HX0.out.lt
      have c0 := hxq.c0
      have c1 := hxq.c1
      by_cases hsame : printM ks (os.map Li.OG.l) = s
      ·have HQ := Lib.hid (fun (w' : World) => HPG.out gO capO w2.heap.size w' os (by rw [← hsame]; exact read_print hRM) hB2.size)
       have HF := Lib.hid (And.intro hown hP.out.2.2.2.2)
       rw [hsame] at hcP
       clear hown hown' hcc hl hVV hRM hsame hxq
       go_wp2_with fail
       refine hcP.mono ?_
       rintro e w6 ⟨rfl, hw6⟩
       have HE := Lib.hid (HQ.out w6 (Li.own_below HF.out.1 hw6 (Nat.le_refl _)) (HF.out.2.below hw6 (Nat.le_refl _)) (hB2.trans ((hB.trans (hw6.mono hB.size)).mono hB2.size)))
       clear hcP hw6 c0 c1
       go_wp2
       exact HE.out
      ·have hnone : readM ks s = none := read_none fun cells hc e => hsame (by rw [DecOk.only hP.out.2.2.2.1 hl8 hrw (by rw [HK.out.1]; omega) hc e]; exact e)
       have HQ := Lib.hid (fun (w' : World) => HPB.out (.slice none 0 0) w' hnone)
       generalize printM ks (os.map Li.OG.l) = x at hcP hsame
       clear hown hown' hcc hl hVV hRM hxq hnone
       go_wp2_with fail
       refine hcP.mono ?_
       rintro e w6 ⟨rfl, hw6⟩
       have HE := Lib.hid (HQ.out w6 (hB2.trans ((hB.trans (hw6.mono hB.size)).mono hB2.size)))
       have hne : (x.toList == s.toList) = false := beq_eq_false_iff_ne.2 (fun e => hsame (by apply bytesEq'; rw [← ByteArray.toList_eq, ← ByteArray.toList_eq]; exact e))
       clear hcP hw6 c0 c1
       go_wp2
       exact HE.out
end Go.Proofs.YtpnnkhpokangfaaDoor.Mi

/- A group's small calls: the program's, walked. -/
namespace Go.Proofs.YtpnnkhpokangfaaDoor.Mi
open Go.RowKit Pac Va Sc Ro Lex Go.Proofs.YtpnnkhpokangfaaDoor.Or

/-- May a value stand in a column of that kind? -/
def fitM (k : Int) (v : V) : Bool := rightV v && (v.k == 0 || v.k == k)
set_option maxRecDepth 20000 in
set_option maxHeartbeats 1600000 in
theorem fits_any (k : Int) (v : V) (w : World) : Calls Tryd.prog 78 #[.int .i64 k, v.v] w fun e w' => e = .returned (.bool (fitM k v)) ∧ Below w.heap.size w w' := by
 obtain ⟨vk, vn, vs⟩ := v
 have hR : fitM k ⟨vk, vn, vs⟩ = (rightV ⟨vk, vn, vs⟩ && (vk == 0 || vk == k)) := rfl
 generalize fitM k ⟨vk, vn, vs⟩ = r at hR ⊢
 have hx := Sc.Box3.new w (.int .i64 vk) (.int .i64 vn) (.string vs) 37
 have hnew := (Below.refl w.heap.size w).alloc (Nat.le_refl _) (.cells #[.int .i64 vk, .int .i64 vn, .string vs] 37)
 show Calls Tryd.prog 78 #[.int .i64 k, .agg #[.int .i64 vk, .int .i64 vn, .string vs]] w _
 generalize hw1 : w.alloc (.cells #[.int .i64 vk, .int .i64 vn, .string vs] 37) = w1 at hx hnew
 have hc := Va.right_any ⟨vk, vn, vs⟩ w1
 generalize rightV ⟨vk, vn, vs⟩ = rr at hR hc
 have c0 := hx.c0
 have c1 := hx.c1
 have c2 := hx.c2
 go_enter Tryd.func78, Tryd.ntmps78
 go_wp2_with fail
 clear hw1 c0 c1 c2
 refine hc.mono ?_
 rintro e w2 ⟨rfl, hy⟩
 have c0 := (hx.below hy hx.lt).c0
 have HB := Lib.hid (hnew.trans (hy.mono hnew.size))
 clear hc hx hnew hy
 cases rr with
 | false =>
  have HR : Hid (r = false) := Lib.hid hR
  clear hR
  go_wp2
  go_ret
  exact ⟨by rw [HR.out]; rfl, HB.out⟩
 | true =>
  by_cases h0 : vk = 0
  ·subst h0
   have HR : Hid (r = true) := Lib.hid hR
   clear hR
   go_wp2
   go_ret
   exact ⟨by rw [HR.out]; rfl, HB.out⟩
  ·have e0 : (vk == 0) = false := beq_eq_false_iff_ne.2 h0
   by_cases h1 : vk = k
   ·subst h1
    have HR : Hid (r = true) := Lib.hid (by rw [hR, e0]; simp)
    clear hR
    go_wp2
    go_ret
    exact ⟨by rw [HR.out]; rfl, HB.out⟩
   ·have e1 : (vk == k) = false := beq_eq_false_iff_ne.2 h1
    have HR : Hid (r = false) := Lib.hid (by rw [hR, e0, e1]; rfl)
    clear hR
    go_wp2
    go_ret
    exact ⟨by rw [HR.out]; rfl, HB.out⟩

set_option maxRecDepth 20000 in
theorem width_any (k : Int) (w : World) (hk : k = 1 ∨ k = 2 ∨ k = 3) : Calls Tryd.prog 66 #[.int .i64 k] w fun e w' => e = .returned (.int .i64 (oneW k : Nat)) ∧ w' = w := by
 rcases hk with rfl | rfl | rfl
 all_goals
  go_enter Tryd.func66, Tryd.ntmps66
  go_wp2
  go_ret
  exact ⟨rfl, rfl⟩

set_option maxRecDepth 20000 in
theorem marks_any (A : Option Addr) (K c : Nat) (w : World) (hK : K ≤ 1000000) : Calls Tryd.prog 62 #[.slice A K c] w fun e w' => e = .returned (.int .i64 (K : Nat)) ∧ w' = w := by
 have eK : (8 * (K : Int) + 8 - 1) / 8 = (K : Int) := by omega
 go_enter Tryd.func62, Tryd.ntmps62
 go_wp2
 go_ret
 refine ⟨?_, rfl⟩
 show Ending.returned (.int .i64 ((8 * (K : Int) + 8 - 1) / 8)) = _
 rw [eK]

set_option maxRecDepth 20000 in
set_option maxHeartbeats 1600000 in
theorem fixed_any (A : Option Addr) (c lo : Nat) (ks : List Int) (w : World) (h : HasI w lo A ks) (hk : ∀ k ∈ ks, k = 1 ∨ k = 2 ∨ k = 3) (h8 : ks.length ≤ 8) : Calls Tryd.prog 63 #[.slice A ks.length c] w fun e w' => e = .returned (.int .i64 ((8 * wide ks : Nat) : Int)) ∧ w' = w := by
 obtain ⟨ans, hans⟩ : ∃ a, 8 * wide ks = a := ⟨_, rfl⟩
 rw [hans]
 obtain ⟨K, hK⟩ : ∃ m, ks.length = m := ⟨_, rfl⟩
 rw [hK] at h8 ⊢
 have HI := Lib.hid h
 have HK := Lib.hid (And.intro hK (And.intro hk hans))
 clear h hK hk hans
 go_enter Tryd.func63, Tryd.ntmps63
 go_wp2
 go_loopw [3, 8] (fun x i wr => ∃ (t u : Nat), t ≤ K ∧ i = .int .i64 t ∧ x = .int .i64 u ∧ u ≤ 64 * t ∧ Hid (u = 8 * wide (ks.take t)) ∧ w = wr) (fun _ i _ => K - (intOf i).toNat)
 case atStart => exact ⟨0, 0, Nat.zero_le _, rfl, rfl, by omega, Lib.hid (by simp [wide]), rfl⟩
 case round =>
  obtain ⟨t, u, ht, rfl, rfl, hu, hU, rfl⟩ := hrel
  by_cases hlt : t < K
  ·have i1 : (t : Int) < (K : Int) := by omega
   have i0 : (0 : Int) ≤ (t : Int) := by omega
   have hkt : ks[t]? = some (ks[t]'(by rw [HK.out.1]; exact hlt)) := List.getElem?_eq_getElem _
   generalize (ks[t]'(by rw [HK.out.1]; exact hlt)) = kk at hkt
   obtain ⟨b3, o3, rfl, _, hlb3, f1⟩ := HI.out.at hkt
   have HU : Hid (u + 8 * oneW kk = 8 * wide (ks.take (t + 1))) := Lib.hid (by
    rw [List.take_add_one, hkt, wide_app, hU.out]
    show 8 * wide (ks.take t) + 8 * oneW kk = 8 * (wide (ks.take t) + (oneW kk + 0))
    omega)
   have hw8 : oneW kk ≤ 8 := by unfold oneW; split <;> (try split) <;> omega
   have hc := width_any kk w (HK.out.2.1 kk (List.mem_of_getElem? hkt))
   generalize oneW kk = z at HU hw8 hc
   clear hkt
   go_wp2_with fail
   refine hc.mono ?_
   rintro e w3 ⟨rfl, rfl⟩
   clear hc f1
   go_wp2
   go_roundw
   case rel => exact ⟨t + 1, u + 8 * z, by omega, by go_num, by go_num, by omega, HU, by trivial⟩
   case measure => simp [intOf]; omega
  ·obtain rfl : t = K := by omega
   have HW : Hid (u = ans) := Lib.hid (by rw [hU.out, List.take_of_length_le (by rw [HK.out.1]; exact Nat.le_refl _)]; exact HK.out.2.2)
   go_wp2
   go_ret
   exact ⟨by rw [HW.out]; rfl, rfl⟩

/-- A number's bytes, the lowest q of them laid. -/
def pnum (u q : Nat) : List UInt8 := List.replicate (8 - q) 0 ++ (be 8 u).drop (8 - q)
theorem pnum_len (u : Nat) {q : Nat} (h : q ≤ 8) : (pnum u q).length = 8 := by
 unfold pnum
 rw [List.length_append, List.length_replicate, List.length_drop, be_len]
 omega
theorem pnum_all (u : Nat) : pnum u 8 = be 8 u := by unfold pnum; simp
theorem pnum_step {u q r : Nat} (hu : u < 18446744073709551616) (hq : q < 8) (hr : r = u / 2 ^ (8 * q)) : (pnum u q).set (7 - q) (UInt8.ofNat r) = pnum u (q + 1) := by
 obtain ⟨d, e, h⟩ := be_step u (7 - q) hu (by omega)
 have hd : UInt8.ofNat r = d := by
  apply UInt8.toNat_inj.1
  rw [show 7 - (7 - q) = q by omega] at e
  have e2 : ((u / 2 ^ (8 * q) : Nat) : Int) % 256 = (d.toNat : Int) := by rw [← e]; push_cast; rfl
  rw [← hr] at e2
  have : (UInt8.ofNat r).toNat = r % 256 := by simp
  rw [this]
  omega
 rw [hd]
 have hat : (be 8 u)[7 - q]? = some d := by
  have h2 := congrArg (fun l : List UInt8 => l[7 - q]?) h
  rw [List.getElem?_append_right (by rw [List.length_take, be_len]; omega), List.length_take, be_len, show 7 - q - min (7 - q) 8 = 0 by omega, List.getElem?_take, if_pos (by omega)] at h2
  exact h2.symm
 unfold pnum
 have e3 : (be 8 u).drop (8 - (q + 1)) = d :: (be 8 u).drop (8 - q) := by
  rw [show 8 - (q + 1) = 7 - q by omega, show 8 - q = 7 - q + 1 by omega]
  obtain ⟨hl, e4⟩ := List.getElem?_eq_some_iff.1 hat
  rw [← e4, List.getElem_cons_drop]
 rw [e3, show 8 - q = (8 - (q + 1)) + 1 by omega, List.replicate_succ', List.append_assoc, List.set_append_right _ _ (by rw [List.length_replicate]; omega), List.length_replicate, show 7 - q - (8 - (q + 1)) = 0 by omega]
 rfl
theorem made_num (u : Nat) : (madeCells #[.int .u8 0] 8).toList = nums (pnum u 0) := by
 have h : (be 8 u).drop 8 = [] := List.drop_of_length_le (by rw [be_len]; exact Nat.le_refl _)
 unfold pnum
 rw [toList_madeCells_one, Nat.sub_zero, h]
 rfl
/-- Bytes that a call makes. -/
def BytesPost (l : List UInt8) (w : World) (e : Ending) (w' : World) : Prop :=
 ∃ b c, e = .returned (.slice (some ⟨b, 0, none⟩) l.length c) ∧ (∀ (j : Nat) (u : Value), (nums l)[j]? = some u → w'.cell? ((⟨b, 0, none⟩ : Addr).add j) = some u) ∧ Below w.heap.size w w'
theorem BytesPost.own {l : List UInt8} {w w' : World} {g n c base : Nat} (h : w'.ownsRow base 5 1 (.slice (some ⟨g, 0, none⟩) n c) n (nums l)) (hB : Below w.heap.size w w') : BytesPost l w (.returned (.slice (some ⟨g, 0, none⟩) n c)) w' := by
 have hn : l.length = n := by have := h.1; rw [nums_len] at this; omega
 subst hn
 refine ⟨g, c, rfl, fun j u hj => ?_, hB⟩
 have hl := (List.getElem?_eq_some_iff.1 hj).1
 rw [nums_len] at hl
 have hadd : (⟨g, 0, none⟩ : Addr).add j = ⟨g, j, none⟩ := by unfold Addr.add; split <;> simp_all
 rw [hadd, h.cellAt j (by omega)]
 exact hj
theorem BytesPost.block {l : List UInt8} {w w' : World} {g c : Nat} {C : Array Value} {t : TypeId} (h : w'.heap[g]? = some (.cells C t (0, 0))) (hC : C.toList = nums l) (hB : Below w.heap.size w w') : BytesPost l w (.returned (.slice (some ⟨g, 0, none⟩) l.length c)) w' := by
 refine ⟨g, c, rfl, fun j u hj => ?_, hB⟩
 have hadd : (⟨g, 0, none⟩ : Addr).add j = ⟨g, j, none⟩ := by unfold Addr.add; split <;> simp_all
 rw [hadd, cell_of_row w' g _ C t (0, 0) h]
 rw [← hC] at hj
 simpa using hj

set_option maxRecDepth 20000 in
set_option maxHeartbeats 1600000 in
theorem printNum_any (n : Int) (w : World) (h0 : -9223372036854775808 ≤ n) (h1 : n ≤ 9223372036854775807) : Calls Tryd.prog 79 #[.int .i64 n] w (BytesPost (be 8 (n % 18446744073709551616).toNat) w) := by
 obtain ⟨i0, hi, hz0, hz1, hz2⟩ := info_parts infoByte
 obtain ⟨u, eu, hu, hu2⟩ := numW n h0 h1
 rw [← hu2]
 have hPG := fun (w' : World) (h : w'.ownsRow w.heap.size 5 1 (.slice (some ⟨w.heap.size, 0, none⟩) 8 8) 8 (nums (pnum u 8))) (hB : Below w.heap.size w w') => BytesPost.own h hB
 rw [pnum_all] at hPG
 generalize hpost : BytesPost (be 8 u) w = post at hPG ⊢
 have HPG := Lib.hid hPG
 clear hPG hpost hu2 h0 h1
 go_enter Tryd.func79, Tryd.ntmps79
 go_wp2_with (at_make; go_must (refine wpList_make_full _ rfl _ _ 89 rfl w.heap.size 5 i0 (.int .u8 0) 1 Tryd.underlying89 hi hz0 hz1 _ _ _ _ 8 rfl rfl rfl rfl (by rw [hz2]; decide) (by unfold maxLen; omega) (Nat.le_refl _) ?_))
 intro w3 hown3 hgrow3
 rw [made_num u] at hown3
 have hy : Below w.heap.size w w3 := (Below.refl _ _).grown hgrow3 (Nat.le_refl _) (fun k hk => by cases hk)
 clear hgrow3
 go_wp2
 go_loopw [4, 11] (fun x i wr => ∃ (q r : Nat), q ≤ 8 ∧ i = .int .i64 q ∧ x = .int .u64 r ∧ r < 18446744073709551616 ∧ Hid (r = u / 2 ^ (8 * q)) ∧ wr.ownsRow w.heap.size 5 1 (.slice (some ⟨w.heap.size, 0, none⟩) 8 8) 8 (nums (pnum u q)) ∧ Below w.heap.size w wr) (fun _ i _ => 8 - (intOf i).toNat)
 case atStart => exact ⟨0, u, Nat.zero_le _, rfl, rfl, hu, Lib.hid (by simp), hown3, hy⟩
 case round =>
  clear hown3 hy
  obtain ⟨q, r, hq, rfl, rfl, hr, hR, hown, hB⟩ := hrel
  by_cases hlt : q < 8
  ·have i1 : (q : Int) < 8 := by omega
   obtain ⟨p, hp⟩ : ∃ p, 7 - q = p := ⟨_, rfl⟩
   have eP : (7 : Int) - (q : Int) = (p : Int) := by omega
   have hp8 : (p : Int) < 8 := by omega
   have hp0 : (0 : Int) ≤ (p : Int) := by omega
   obtain ⟨d, hd⟩ : ∃ d : UInt8, d = UInt8.ofNat r := ⟨_, rfl⟩
   have ed : (r : Int) % 256 = (d.toNat : Int) := by rw [hd]; simp
   obtain ⟨pv, hpv⟩ : ∃ v, (nums (pnum u q))[p]? = some v := ⟨_, List.getElem?_eq_getElem (by rw [nums_len, pnum_len u (by omega)]; omega)⟩
   have s1 := hown.cellAt p (by omega)
   have s2 := hown.frozenAt p
   rw [hpv] at s1
   have hst := hown.stored p (.int .u8 (d.toNat : Int))
   rw [nums_set, ← hp, hd, pnum_step hu hlt hR.out, hp, ← hd] at hst
   have HST := Lib.hid (And.intro hst.1 (hB.grown hst.2 hB.size (fun k hk => (hown.lt k hk).1)))
   have HR2 : Hid (r / 256 = u / 2 ^ (8 * (q + 1))) := Lib.hid (by rw [hR.out, Nat.div_div_eq_div_mul, show 8 * (q + 1) = 8 * q + 8 by omega, Nat.pow_add])
   clear hst hown hpv hd hp
   go_wp2
   clear s1 s2
   go_roundw
   case rel => exact ⟨q + 1, r / 256, by omega, by go_num, by go_num, by omega, HR2, HST.out.1, HST.out.2⟩
   case measure => simp [intOf]; omega
  ·obtain rfl : q = 8 := by omega
   have HQ := Lib.hid (HPG.out wr hown hB)
   clear hown
   go_wp2
   exact HQ.out

/-- The number whose bytes these are, of a text's first eight. -/
def num8 (s : ByteArray) : Int := sgn (unbe (s.data.toList.take 8))
set_option maxRecDepth 20000 in
set_option maxHeartbeats 1600000 in
theorem readNum_any (s : ByteArray) (w : World) (hs : 8 ≤ s.size) (hs2 : s.size ≤ 1000000) : Calls Tryd.prog 76 #[.string s] w fun e w' => e = .returned (.int .i64 (num8 s)) ∧ w' = w := by
 obtain ⟨ans, hans⟩ : ∃ a, num8 s = a := ⟨_, rfl⟩
 rw [hans]
 have HA := Lib.hid hans
 clear hans
 go_enter Tryd.func76, Tryd.ntmps76
 go_wp2
 go_loopw [3, 5] (fun x i wx => ∃ (b uu : Nat), b ≤ 8 ∧ i = .int .i64 b ∧ x = .int .u64 uu ∧ uu < 256 ^ b ∧ Hid (uu = unbe (s.data.toList.take b)) ∧ w = wx) (fun _ i _ => 8 - (intOf i).toNat)
 case atStart => exact ⟨0, 0, Nat.zero_le _, rfl, rfl, by decide, Lib.hid rfl, rfl⟩
 case round =>
  obtain ⟨b, uu, hb8, rfl, rfl, hu2, hUU, rfl⟩ := hrel
  by_cases hlb : b < 8
  ·have hbe : b < s.size := by omega
   have hu56 : uu < 72057594037927936 := Nat.lt_of_lt_of_le hu2 (Nat.le_trans (Nat.pow_le_pow_right (by decide) (show b ≤ 7 by omega)) (by decide))
   obtain ⟨x, ex, hx⟩ := or_byte (b := s[b]) hu56
   have hb256 := s[b].toNat_lt
   have hx2 : x < 256 ^ (b + 1) := by rw [hx, Nat.pow_succ]; omega
   have HX2 : Hid (x = unbe (s.data.toList.take (b + 1))) := Lib.hid (by rw [hx, hUU.out, unbe_next (byte_at hbe)])
   clear hx hb256
   go_wp2
   go_roundw
   case rel => exact ⟨b + 1, x, by omega, by go_num, by go_num, hx2, HX2, by trivial⟩
   case measure => simp [intOf]; omega
  ·obtain rfl : b = 8 := by omega
   have hu64 : uu < 18446744073709551616 := by have : (256 : Nat) ^ 8 = 18446744073709551616 := by decide
                                               omega
   have esg := wrap_sgn hu64
   have HU2 : Hid (sgn uu = ans) := Lib.hid (by rw [← HA.out, hUU.out]; rfl)
   clear hu2 hu64
   go_wp2
   go_ret
   exact ⟨by rw [← HU2.out]; rfl, rfl⟩
end Go.Proofs.YtpnnkhpokangfaaDoor.Mi

/- A group's kinds, whether cells may be: the program's, walked. -/
namespace Go.Proofs.YtpnnkhpokangfaaDoor.Mi
open Go.RowKit Pac Va Sc Ro Lex Go.Proofs.YtpnnkhpokangfaaDoor.Or

def KindsOfPost (ks : List Int) (w : World) (e : Ending) (w' : World) : Prop :=
 ∃ A c, e = .returned (.tuple #[.slice A ks.length c, .bool true]) ∧ ks.length ≤ c ∧ HasI w' w.heap.size A ks ∧ Below w.heap.size w w'
set_option maxRecDepth 20000 in
set_option maxHeartbeats 3200000 in
theorem kindsOf_any (nm : ByteArray) (A1 A2 : Option Addr) (cp cp2 : Nat) (cs : List C) (g : List Int) (lo1 lo2 : Nat) (w : World) (h1 : HasCols w lo1 A1 cs) (h2 : HasI w lo2 A2 g) (hl1 : cs.length ≤ 9223372036854775807) (hl2 : g.length ≤ 1000000) (hg : ∀ c ∈ g, 0 ≤ c ∧ c < cs.length) :
  Calls Tryd.prog 61 #[.agg #[.string nm, .slice A1 cs.length cp], .slice A2 g.length cp2] w (KindsOfPost (kindsL cs g) w) := by
 obtain ⟨i0, hi, hz0, hz1, hz2⟩ := info_parts infoInt
 obtain ⟨ks, hks⟩ : ∃ ks, kindsL cs g = ks := ⟨_, rfl⟩
 have hkl : ks.length = g.length := by rw [← hks, kinds_len]
 have HAT : Hid (∀ (q : Nat) (c : Int) (x : C), g[q]? = some c → cs[c.toNat]? = some x → ks[q]? = some x.k) := Lib.hid (fun q c x h1 h2 => by rw [← hks]; exact kinds_at h1 h2)
 rw [hks]
 clear hks
 have hP := fun (w' : World) (A : Option Addr) (c : Nat) (hc : ks.length ≤ c) (hi : HasI w' w.heap.size A ks) (hB : Below w.heap.size w w') => (show KindsOfPost ks w (.returned (.tuple #[.slice A ks.length c, .bool true])) w' from ⟨A, c, rfl, hc, hi, hB⟩)
 generalize KindsOfPost ks w = post at hP ⊢
 obtain ⟨m, hm⟩ : ∃ m, g.length = m := ⟨_, rfl⟩
 obtain ⟨mc, hmc⟩ : ∃ m, cs.length = m := ⟨_, rfl⟩
 have hnew := (Below.refl w.heap.size w).alloc (Nat.le_refl _) (.cells #[.string nm, .slice A1 cs.length cp] 24)
 have hx0 := Box2.new w (.string nm) (.slice A1 cs.length cp) 24
 have h1 := h1.below hnew (Nat.le_refl _)
 have h2 := h2.below hnew (Nat.le_refl _)
 rw [hm] at hl2 hkl ⊢
 rw [hmc] at hl1 hg hx0 hnew h1 h2 ⊢
 rw [hkl] at hP
 generalize hw1 : w.alloc (.cells #[.string nm, .slice A1 mc cp] 24) = w1 at hx0 hnew h1 h2
 have hgb := hx0.lt
 have hbw := hnew.size
 have HP := Lib.hid hP
 have HA := Lib.hid h1
 have HB := Lib.hid h2
 have HM := Lib.hid (And.intro hm (And.intro hmc (And.intro hg hkl)))
 have HN := Lib.hid hnew
 clear h1 h2 hm hmc hg hkl hP hnew
 go_enter Tryd.func61, Tryd.ntmps61
 go_wp2
 clear hw1
 generalize hg0 : w.heap.size = g0 at hx0 hgb hbw ⊢
 generalize hbase : w1.heap.size = base at hgb hbw
 go_loopw [6, 11] (fun x i wr => ∃ (q : Nat) (sv : Value), q ≤ m ∧ i = .int .i64 q ∧ x = sv ∧ wr.ownsRow base 3 1 sv q (Li.cellsL cellsI (ks.take q)) ∧ Below base w1 wr) (fun _ i _ => m - (intOf i).toNat)
 case atStart => exact ⟨0, _, Nat.zero_le _, rfl, rfl, World.ownsRow_nil _ _ _ _, hbase ▸ Below.refl _ w1⟩
 case round =>
  obtain ⟨q, sv, hq, rfl, rfl, hown, hB⟩ := hrel
  by_cases hlt : q < m
  ·obtain ⟨hm, hmc, hg, hkl⟩ := HM.out
   have hg2 : g[q]? = some (g[q]'(by rw [hm]; exact hlt)) := List.getElem?_eq_getElem _
   have hr := hg _ (List.mem_of_getElem? hg2)
   generalize (g[q]'(by rw [hm]; exact hlt)) = c at hg2 hr
   obtain ⟨cn, rfl⟩ : ∃ cn : Nat, c = (cn : Int) := ⟨c.toNat, by omega⟩
   have hcn : cn < mc := by omega
   have hg1 : cs[cn]? = some (cs[cn]'(by rw [hmc]; exact hcn)) := List.getElem?_eq_getElem _
   generalize (cs[cn]'(by rw [hmc]; exact hcn)) = x at hg1
   have hkx := HAT.out q (cn : Int) x hg2 (by rw [Int.toNat_natCast]; exact hg1)
   obtain ⟨b2, o2, rfl, hlo2, hlb2, e0⟩ := HasI.at HB.out hg2
   obtain ⟨b1, o1, rfl, hlo1, hlb1, hcc⟩ := HA.out (fun e => by rw [e] at hg1; simp at hg1)
   obtain ⟨_, d1, _⟩ := hcc cn x hg1
   obtain ⟨_, ck, _⟩ := x
   simp only at d1 hkx
   have e0 := cell_below (hbase ▸ hB) e0
   have d1 := cell_below (hbase ▸ hB) d1
   have x1 := (hx0.below hB hgb).c1
   have HKX : Hid (ks.take (q + 1) = ks.take q ++ [ck]) := Lib.hid (by
    obtain ⟨hlt', e⟩ := List.getElem?_eq_some_iff.1 hkx
    rw [List.take_succ_eq_append_getElem hlt', e])
   clear hcc hg1 hg2 hkx hm hmc hg hkl
   have i1 : (q : Int) < (m : Int) := by omega
   have i0' : (0 : Int) ≤ (q : Int) := by omega
   have j1 : (cn : Int) < (mc : Int) := by omega
   have j0 : (0 : Int) ≤ (cn : Int) := by omega
   have HW := Lib.hid (And.intro (hown.alloc (.cells #[.int .i64 ck] 3)) (And.intro (hB.alloc (hbase ▸ hB.size) (.cells #[.int .i64 ck] 3)) (heap_alloc_new wr (.cells #[.int .i64 ck] 3))))
   have hbs := hB.size
   clear hown hB
   go_wp2_with (at_builtin; go_must (refine wpList_append_own _ rfl _ _ 67 rfl base 3 i0 (.int .i64 0) 1 8 Tryd.underlying67 hi hz0 hz1 hz2 rfl (by decide) u6 q (Li.cellsL cellsI (ks.take q)) rfl HW.out.1 ⟨wr.heap.size, 0, none⟩ 1 1 [.int .i64 ck] rfl rfl (World.news_of_block HW.out.2.2) (by simp [Value.oneCell']) (by unfold maxLen; omega) (by omega) (hbase ▸ HW.out.2.1.size) ?_))
   intro v5 y5 hown5 hgrow5 _
   have hB5 := HW.out.2.1.grown hgrow5 (hbase ▸ HW.out.2.1.size) (fun k hk => (HW.out.1.lt k hk).1)
   clear hgrow5 HW x1 d1 e0
   go_wp2
   go_roundw
   case rel =>
    refine ⟨q + 1, _, by omega, by go_num, rfl, ?_, hB5⟩
    rw [HKX.out, Li.cellsL_snoc]
    exact hown5
   case measure => simp [intOf]; omega
  ·obtain rfl : q = m := by omega
   have hkl := HM.out.2.2.2
   rw [List.take_of_length_le (by omega)] at hown
   obtain ⟨A, c, rfl, hc, hl⟩ := Li.list_of_own (R := cellsI) (fun _ => rfl) hown hkl
   have hQ := HP.out _ A c (by omega) (hl.lower (hg0 ▸ hbw)) (HN.out.trans (hB.mono (hg0 ▸ hbw)))
   have HQ := Lib.hid hQ
   clear hQ
   go_wp2
   exact HQ.out

set_option maxRecDepth 20000 in
set_option maxHeartbeats 6400000 in
theorem areCells_any (A A3 : Option Addr) (c cp3 lo lo3 : Nat) (ks : List Int) (cells : List (List V)) (w : World) (h : HasI w lo A ks) (h3 : HasVV w lo3 A3 cells) (hl8 : cells.length = 8) (hrow : ∀ r ∈ cells, r.length = ks.length) (hk8 : ks.length ≤ 8) :
  Calls Tryd.prog 73 #[.slice A ks.length c, .slice A3 8 cp3] w fun e w' => e = .returned (.bool ((flat ks cells).all fun p => fitM p.1 p.2)) ∧ Below w.heap.size w w' := by
 obtain ⟨ans, hans⟩ : ∃ b, ((flat ks cells).all fun p => fitM p.1 p.2) = b := ⟨_, rfl⟩
 rw [hans]
 obtain ⟨K, hK⟩ : ∃ m, ks.length = m := ⟨_, rfl⟩
 rw [hK] at hrow hk8 ⊢
 have HA := Lib.hid h
 have HV := Lib.hid h3
 have HM := Lib.hid (And.intro hl8 (And.intro hrow (And.intro hK hans)))
 clear h h3 hl8 hrow hK hans
 go_enter Tryd.func73, Tryd.ntmps73
 go_wp2
 go_loopw [14] (fun i wr => ∃ (q : Nat), q ≤ 8 ∧ i = .int .i64 q ∧ Hid (((flat ks cells).take (q * K)).all (fun p => fitM p.1 p.2) = true) ∧ Below w.heap.size w wr) (fun i _ => 8 - (intOf i).toNat)
 case atStart => exact ⟨0, Nat.zero_le _, rfl, Lib.hid (by simp), Below.refl _ w⟩
 case round =>
  obtain ⟨q, hq, rfl, hH, hB⟩ := hrel
  by_cases hlt : q < 8
  ·have i1 : (q : Int) < 8 := by omega
   have i0' : (0 : Int) ≤ (q : Int) := by omega
   have hgr : cells[q]? = some (cells[q]'(by rw [HM.out.1]; exact hlt)) := List.getElem?_eq_getElem _
   have hrw := HM.out.2.1 _ (List.mem_of_getElem? hgr)
   generalize (cells[q]'(by rw [HM.out.1]; exact hlt)) = r at hgr hrw
   obtain ⟨b1, o1, A5, c5, rfl, _, _, d1, hI1, _⟩ := (HV.out.below hB (Nat.le_refl _)).at hgr
   rw [hrw] at d1
   have HR := Lib.hid (And.intro hgr (And.intro hrw hI1))
   clear hgr hrw hI1
   go_wp2
   clear d1
   obtain ⟨wq, rfl⟩ : ∃ wq, wq = wr := ⟨_, rfl⟩
   go_loopw [25] (fun i wx => ∃ (t : Nat), t ≤ K ∧ i = .int .i64 t ∧ Hid (((flat ks cells).take (q * K + t)).all (fun p => fitM p.1 p.2) = true) ∧ Below wq.heap.size wq wx) (fun i _ => K - (intOf i).toNat)
   case atStart => exact ⟨0, Nat.zero_le _, rfl, hH, Below.refl _ _⟩
   case round =>
    clear hH
    obtain ⟨t, ht, rfl, hH, hBv⟩ := hrel
    by_cases htl : t < K
    ·have j1 : (t : Int) < (K : Int) := by omega
     have j0 : (0 : Int) ≤ (t : Int) := by omega
     obtain ⟨hl8, hrow, hK, hans⟩ := HM.out
     obtain ⟨hgr, hrw, hI1⟩ := HR.out
     have hgv : r[t]? = some (r[t]'(by omega)) := List.getElem?_eq_getElem _
     generalize (r[t]'(by omega)) = v at hgv
     have hgk : ks[t]? = some (ks[t]'(by omega)) := List.getElem?_eq_getElem _
     generalize (ks[t]'(by omega)) = kk at hgk
     have hfl := flat_at (ks := ks) (by rw [hK]; exact hrow) hgr hgv hgk
     rw [hK] at hfl
     obtain ⟨b2, o2, rfl, _, _, e0, e1, e2⟩ := HasV.at (hI1.below hBv (Nat.le_refl _)) hgv
     obtain ⟨b3, o3, rfl, _, _, f1⟩ := HasI.at ((HA.out.below hB (Nat.le_refl _)).below hBv (Nat.le_refl _)) hgk
     obtain ⟨vk, vn, vs⟩ := v
     simp only at e0 e1 e2
     have hts := take_snoc hfl
     have HBad : Hid (fitM kk ⟨vk, vn, vs⟩ = false → ans = false) := Lib.hid (fun e => by
      rw [← hans, List.all_eq_false]
      exact ⟨_, List.mem_of_getElem? hfl, by rw [show fitM kk ⟨vk, vn, vs⟩ = false from e]; exact Bool.false_ne_true⟩)
     have HGood : Hid (fitM kk ⟨vk, vn, vs⟩ = true → ((flat ks cells).take (q * K + (t + 1))).all (fun p => fitM p.1 p.2) = true) := Lib.hid (fun e => by
      rw [show q * K + (t + 1) = q * K + t + 1 by omega, hts, List.all_append, hH.out]
      show (true && (fitM kk ⟨vk, vn, vs⟩ && true)) = true
      rw [e]
      rfl)
     have hcf := fun W : World => fits_any kk ⟨vk, vn, vs⟩ W
     generalize fitM kk ⟨vk, vn, vs⟩ = fb at HBad HGood hcf
     have hY := Sc.Box3.new wr (.int .i64 vk) (.int .i64 vn) (.string vs) 37
     have hBw := (Below.refl wr.heap.size wr).alloc (Nat.le_refl _) (.cells #[.int .i64 vk, .int .i64 vn, .string vs] 37)
     have HD0 : Hid (∀ W : World, Sc.Box3 W wr.heap.size (.int .i64 vk) (.int .i64 vn) (.string vs) → Below wr.heap.size wr W → W.cell? ⟨b3, o3 + t, none⟩ = some (.int .i64 kk) ∧ W.cell? ⟨wr.heap.size, 0, none⟩ = some (.int .i64 vk) ∧ W.cell? ⟨wr.heap.size, 1, none⟩ = some (.int .i64 vn) ∧ W.cell? ⟨wr.heap.size, 2, none⟩ = some (.string vs)) := Lib.hid (fun W hX hW => ⟨cell_below hW f1, hX.c0, hX.c1, hX.c2⟩)
     have HY := Lib.hid (And.intro hY hBw)
     clear hfl hts hgr hrw hI1 hgv hgk hl8 hrow hK hans hY hBw f1
     go_wp2_with fail
     have hYv := HY.out.1.drew
     have hBw := HY.out.2.drew
     have hD0 := HD0.out
     have hD := hD0 _ hYv hBw
     generalize hgv0 : wr.heap.size = gv at hYv hBw hD hD0 ⊢
     cases fb with
     | true =>
      have HG2 := Lib.hid (HGood.out rfl)
      clear HGood HBad
      refine Lex.region_lex (ops := naops) (calls := nacalls) naord (fun W => W.cell? ⟨b3, o3 + t, none⟩ = some (.int .i64 kk) ∧ W.cell? ⟨gv, 0, none⟩ = some (.int .i64 vk) ∧ W.cell? ⟨gv, 1, none⟩ = some (.int .i64 vn) ∧ W.cell? ⟨gv, 2, none⟩ = some (.string vs)) (by kernel_rfl) (by kernel_rfl) nasel (by kernel_rfl) (by kernel_rfl) nalex (hD) ?_
      unfold naord
      refine Lex.step_take (.slice (some ⟨b3, o3, none⟩) K c) na0 rfl (Lex.want_none rfl) (by intro Wx hSw; (try dsimp only at hSw); go_simp; (try (first | (with_reducible rfl) | assumption | rfl))) ?_
      simp only [Act.put, List.setIfInBounds_toArray, List.set_cons_zero, List.set_cons_succ]
      refine Lex.step_take (.int .i64 t) na1 rfl (Lex.want_none rfl) (by intro Wx hSw; (try dsimp only at hSw); go_simp; (try (first | (with_reducible rfl) | assumption | rfl))) ?_
      simp only [Act.put, List.setIfInBounds_toArray, List.set_cons_zero, List.set_cons_succ]
      refine Lex.step_take (.pointer (some ⟨b3, o3 + t, none⟩)) na2 rfl (Lex.want_none rfl) (by intro Wx hSw; (try dsimp only at hSw); go_simp; (try (first | (with_reducible rfl) | assumption | rfl))) ?_
      simp only [Act.put, List.setIfInBounds_toArray, List.set_cons_zero, List.set_cons_succ]
      refine Lex.step_take (.int .i64 kk) na3 rfl (Lex.want_none rfl) (by intro Wx hSw; (try dsimp only at hSw); go_simp; (try (first | (with_reducible rfl) | assumption | rfl))) ?_
      simp only [Act.put, List.setIfInBounds_toArray, List.set_cons_zero, List.set_cons_succ]
      refine Lex.step_take (.agg #[.int .i64 vk, .int .i64 vn, .string vs]) na4 rfl (Lex.want_none rfl) (by intro Wx hSw; (try dsimp only at hSw); go_simp; (try (first | (with_reducible rfl) | assumption | rfl))) ?_
      simp only [Act.put, List.setIfInBounds_toArray, List.set_cons_zero, List.set_cons_succ]
      refine Lex.step_call na5 rfl (Lex.want_none rfl) (fun K hK => ?_)
      go_simp
      refine (hcf _).mono ?_
      rintro e y1 ⟨rfl, hy1⟩
      have hD := hD0 _ (hYv.below hy1 hYv.lt) (hBw.trans (hy1.mono (hgv0 ▸ hBw.size)))
      have hBw := hBw.trans (hy1.mono (hgv0 ▸ hBw.size))
      clear hy1 hcf
      refine hK.out _ _ _ (fun _ h => h) hD ?_
      clear hK K
      try simp only [Act.put, List.setIfInBounds_toArray, List.set_cons_zero, List.set_cons_succ]
      refine Lex.step_take (.bool false) na6 rfl (Lex.want_none rfl) (by intro Wx hSw; (try dsimp only at hSw); go_simp; (try (first | (with_reducible rfl) | assumption | rfl))) ?_
      simp only [Act.put, List.setIfInBounds_toArray, List.set_cons_zero, List.set_cons_succ]
      refine NoPanic.normal ?_
      clear hD hD0 hYv
      go_wp2
      go_roundw
      case rel => exact ⟨t + 1, by omega, by go_num, HG2, hBv.trans (hBw.mono (hgv0 ▸ hBv.size))⟩
      case measure => simp [intOf]; omega
     | false =>
      have HQ := Lib.hid (HBad.out rfl)
      clear HGood HBad
      refine Lex.region_lex (ops := naops) (calls := nacalls) naord (fun W => W.cell? ⟨b3, o3 + t, none⟩ = some (.int .i64 kk) ∧ W.cell? ⟨gv, 0, none⟩ = some (.int .i64 vk) ∧ W.cell? ⟨gv, 1, none⟩ = some (.int .i64 vn) ∧ W.cell? ⟨gv, 2, none⟩ = some (.string vs)) (by kernel_rfl) (by kernel_rfl) nasel (by kernel_rfl) (by kernel_rfl) nalex (hD) ?_
      unfold naord
      refine Lex.step_take (.slice (some ⟨b3, o3, none⟩) K c) na0 rfl (Lex.want_none rfl) (by intro Wx hSw; (try dsimp only at hSw); go_simp; (try (first | (with_reducible rfl) | assumption | rfl))) ?_
      simp only [Act.put, List.setIfInBounds_toArray, List.set_cons_zero, List.set_cons_succ]
      refine Lex.step_take (.int .i64 t) na1 rfl (Lex.want_none rfl) (by intro Wx hSw; (try dsimp only at hSw); go_simp; (try (first | (with_reducible rfl) | assumption | rfl))) ?_
      simp only [Act.put, List.setIfInBounds_toArray, List.set_cons_zero, List.set_cons_succ]
      refine Lex.step_take (.pointer (some ⟨b3, o3 + t, none⟩)) na2 rfl (Lex.want_none rfl) (by intro Wx hSw; (try dsimp only at hSw); go_simp; (try (first | (with_reducible rfl) | assumption | rfl))) ?_
      simp only [Act.put, List.setIfInBounds_toArray, List.set_cons_zero, List.set_cons_succ]
      refine Lex.step_take (.int .i64 kk) na3 rfl (Lex.want_none rfl) (by intro Wx hSw; (try dsimp only at hSw); go_simp; (try (first | (with_reducible rfl) | assumption | rfl))) ?_
      simp only [Act.put, List.setIfInBounds_toArray, List.set_cons_zero, List.set_cons_succ]
      refine Lex.step_take (.agg #[.int .i64 vk, .int .i64 vn, .string vs]) na4 rfl (Lex.want_none rfl) (by intro Wx hSw; (try dsimp only at hSw); go_simp; (try (first | (with_reducible rfl) | assumption | rfl))) ?_
      simp only [Act.put, List.setIfInBounds_toArray, List.set_cons_zero, List.set_cons_succ]
      refine Lex.step_call na5 rfl (Lex.want_none rfl) (fun K hK => ?_)
      go_simp
      refine (hcf _).mono ?_
      rintro e y1 ⟨rfl, hy1⟩
      have hD := hD0 _ (hYv.below hy1 hYv.lt) (hBw.trans (hy1.mono (hgv0 ▸ hBw.size)))
      have hBw := hBw.trans (hy1.mono (hgv0 ▸ hBw.size))
      clear hy1 hcf
      refine hK.out _ _ _ (fun _ h => h) hD ?_
      clear hK K
      try simp only [Act.put, List.setIfInBounds_toArray, List.set_cons_zero, List.set_cons_succ]
      refine Lex.step_take (.bool true) na6 rfl (Lex.want_none rfl) (by intro Wx hSw; (try dsimp only at hSw); go_simp; (try (first | (with_reducible rfl) | assumption | rfl))) ?_
      simp only [Act.put, List.setIfInBounds_toArray, List.set_cons_zero, List.set_cons_succ]
      refine NoPanic.normal ?_
      clear hD hD0 hYv
      have HB := Lib.hid (hB.trans ((hBv.trans (hBw.mono (hgv0 ▸ hBv.size))).mono hB.size))
      go_wp2
      go_ret
      exact ⟨by rw [HQ.out]; rfl, HB.out⟩
    ·obtain rfl : t = K := by omega
     have HH : Hid (((flat ks cells).take ((q + 1) * t)).all (fun p => fitM p.1 p.2) = true) := Lib.hid (by rw [Nat.add_mul, Nat.one_mul]; exact hH.out)
     have HB := Lib.hid (hB.trans (hBv.mono hB.size))
     go_wp2
     go_roundw
     case rel => exact ⟨q + 1, by omega, by go_num, HH, HB.out⟩
     case measure => simp [intOf]; omega
  ·obtain rfl : q = 8 := by omega
   have HQ : Hid (ans = true) := Lib.hid (by
    obtain ⟨hl8, hrow, hK, hans⟩ := HM.out
    have h1 := hH.out
    rw [List.take_of_length_le (by rw [flat_len (ks := ks) (by rw [hK]; exact hrow), hl8, hK]; exact Nat.le_refl _)] at h1
    rw [← hans]
    exact h1)
   go_wp2
   go_ret
   exact ⟨by rw [HQ.out]; rfl, hB⟩
end Go.Proofs.YtpnnkhpokangfaaDoor.Mi

/- A group without any cell, a cell's bytes, a cell of bytes: the program's, walked. -/
namespace Go.Proofs.YtpnnkhpokangfaaDoor.Mi
open Go.RowKit Pac Va Sc Ro Lex Go.Proofs.YtpnnkhpokangfaaDoor.Or

theorem made_rows : (madeCells #[.slice none 0 0] 8).toList = List.replicate 8 (.slice none 0 0) := toList_madeCells_one _ _
/-- Rows that nobody else's. -/
def EmptyF (m : Nat) (w : World) (e : Ending) (w' : World) : Prop :=
 ∃ os : List (Li.OG V), e = .returned (.slice (some ⟨w.heap.size, 0, none⟩) 8 8) ∧ os.map Li.OG.l = emptyM m ∧ w'.ownsRow w.heap.size 35 1 (.slice (some ⟨w.heap.size, 0, none⟩) 8 8) 8 (os.map Li.OG.v) ∧ Li.FreeG cellsV 3 37 w' w.heap.size os ∧ Below w.heap.size w w'
theorem rest_set (l : List Value) (z x : Value) {q : Nat} (hq : q < 8) (hl : l.length = q) : (l ++ List.replicate (8 - q) z).set q x = (l ++ [x]) ++ List.replicate (8 - (q + 1)) z := by
 rw [List.set_append_right _ _ (by omega), hl, Nat.sub_self, show 8 - q = (8 - (q + 1)) + 1 by omega, List.replicate_succ, List.set_cons_zero]
 simp

set_option maxRecDepth 20000 in
set_option maxHeartbeats 3200000 in
theorem emptyF_any (A2 : Option Addr) (cp2 m : Nat) (w : World) (hm : m ≤ 1000000) :
  Calls Tryd.prog 64 #[.slice A2 m cp2] w (EmptyF m w) := by
 obtain ⟨i0, hi, hz0, hz1, hz2⟩ := info_parts infoV
 obtain ⟨i2, hi2, hy0, hy1, hy2⟩ := info_parts infoRow
 have hPG := fun (w' : World) (os : List (Li.OG V)) (hown : w'.ownsRow w.heap.size 35 1 (.slice (some ⟨w.heap.size, 0, none⟩) 8 8) 8 (os.map Li.OG.v)) (hF : Li.FreeG cellsV 3 37 w' w.heap.size os) (e : os.map Li.OG.l = emptyM m) (hB : Below w.heap.size w w') =>
  (show EmptyF m w (.returned (.slice (some ⟨w.heap.size, 0, none⟩) 8 8)) w' from ⟨os, rfl, e, hown, hF, hB⟩)
 generalize EmptyF m w = post at hPG ⊢
 have HPG := Lib.hid hPG
 clear hPG
 go_enter Tryd.func64, Tryd.ntmps64
 go_wp2_with (at_make; go_must (refine wpList_make_full _ rfl _ _ 69 rfl w.heap.size 35 i2 (.slice none 0 0) 1 Tryd.underlying69 hi2 hy0 hy1 _ _ _ _ 8 rfl rfl rfl rfl (by rw [hy2]; omega) (by unfold maxLen; omega) (Nat.le_refl _) ?_))
 intro w1 hown1 hgrow1
 have hb1 : Below w.heap.size w w1 := (Below.refl _ _).grown hgrow1 (Nat.le_refl _) (fun k hk => by cases hk)
 rw [made_rows] at hown1
 clear hgrow1
 go_wp2
 go_loopw [8] (fun i wr => ∃ (q : Nat) (os : List (Li.OG V)), q ≤ 8 ∧ i = .int .i64 q ∧ wr.ownsRow w.heap.size 35 1 (.slice (some ⟨w.heap.size, 0, none⟩) 8 8) 8 (os.map Li.OG.v ++ List.replicate (8 - q) (.slice none 0 0)) ∧ Hid (os.length = q ∧ os.map Li.OG.l = List.replicate q (List.replicate m vZ) ∧ Li.FreeG cellsV 3 37 wr w.heap.size os) ∧ Below w.heap.size w wr) (fun i _ => 8 - (intOf i).toNat)
 case atStart => exact ⟨0, [], Nat.zero_le _, rfl, hown1, Lib.hid ⟨rfl, rfl, Li.FreeG.nil _ _ _ _ _⟩, hb1⟩
 case round =>
  clear hown1 hb1
  obtain ⟨q, os, hq, rfl, hown, hH, hB⟩ := hrel
  by_cases hlt : q < 8
  ·have i1 : (q : Int) < 8 := by omega
   have i0' : (0 : Int) ≤ (q : Int) := by omega
   go_wp2_with (at_make; go_must (refine wpList_make_full _ rfl _ _ 35 rfl wr.heap.size 37 i0 (.agg #[.int .i64 0, .int .i64 0, .string ⟨#[]⟩]) 3 Tryd.underlying35 hi hz0 hz1 _ _ _ _ m rfl rfl rfl rfl (by rw [hz2]; omega) (by unfold maxLen; omega) (Nat.le_refl _) ?_))
   intro w1 hown1 hgrow1
   rw [made_vals] at hown1
   have hy1 : Below wr.heap.size wr w1 := (Below.refl _ _).grown hgrow1 (Nat.le_refl _) (fun k hk => by cases hk)
   have hownR := Li.own_below hown hy1 (Nat.le_refl _)
   have hF : Li.FreeG cellsV 3 37 w1 w.heap.size (os ++ [⟨wr.heap.size, m, List.replicate m vZ⟩]) := (hH.out.2.2.below hy1 (Nat.le_refl _)).push (x := ⟨wr.heap.size, m, List.replicate m vZ⟩) (by
    unfold Li.OG.v
    show World.ownsRow w1 w.heap.size 37 3 (.slice (some ⟨wr.heap.size, 0, none⟩) (List.replicate m vZ).length m) (List.replicate m vZ).length _
    rw [List.length_replicate]
    exact Li.own_base hown1 hB.size) (fun x hx => by
    have := (hH.out.2.2.lt hx).2
    show x.b ≠ wr.heap.size
    omega)
   obtain ⟨hlen, hls, _⟩ := hH.out
   have hmv : (os.map Li.OG.v).length = q := by rw [List.length_map, hlen]
   have s1 := hownR.cellAt q (by omega)
   have s2 := hownR.frozenAt q
   have hat : (os.map Li.OG.v ++ List.replicate (8 - q) (Value.slice none 0 0))[q]? = some (.slice none 0 0) := by
    rw [List.getElem?_append_right (by omega), hmv, Nat.sub_self, List.getElem?_replicate, if_pos (by omega)]
   rw [hat] at s1
   have hst := hownR.stored q (.slice (some ⟨wr.heap.size, 0, none⟩) m m)
   rw [rest_set _ _ _ hlt hmv] at hst
   have hF2 := hF.grown hownR (by decide) hst.2
   have HX : Hid ((os ++ [(⟨wr.heap.size, m, List.replicate m vZ⟩ : Li.OG V)]).length = q + 1 ∧ (os ++ [(⟨wr.heap.size, m, List.replicate m vZ⟩ : Li.OG V)]).map Li.OG.l = List.replicate (q + 1) (List.replicate m vZ) ∧ Li.FreeG cellsV 3 37 (w1.setCell ⟨w.heap.size, q, none⟩ (.slice (some ⟨wr.heap.size, 0, none⟩) m m)) w.heap.size (os ++ [⟨wr.heap.size, m, List.replicate m vZ⟩])) :=
    Lib.hid ⟨by rw [List.length_append, hlen]; rfl, by rw [List.map_append, hls, empty_snoc]; rfl, hF2⟩
   have hnv : (os ++ [(⟨wr.heap.size, m, List.replicate m vZ⟩ : Li.OG V)]).map Li.OG.v = os.map Li.OG.v ++ [.slice (some ⟨wr.heap.size, 0, none⟩) m m] := by
    rw [List.map_append]
    show _ ++ [Value.slice _ (List.replicate m vZ).length _] = _
    rw [List.length_replicate]
   rw [← hnv] at hst
   have HST := Lib.hid (And.intro hst.1 ((hB.trans (hy1.mono hB.size)).grown hst.2 (Nat.le_trans hB.size hy1.size) (fun k hk => (hownR.lt k hk).1)))
   clear hown hown1 hgrow1 hy1 hownR hF hlen hls hmv hat hst hF2 hnv hB
   go_wp2
   clear s1 s2
   go_roundw
   case rel => exact ⟨q + 1, _, by omega, by go_num, HST.out.1, HX, HST.out.2⟩
   case measure => simp [intOf]; omega
  ·obtain rfl : q = 8 := by omega
   have HQ := Lib.hid (HPG.out wr os (by simpa using hown) hH.out.2.2 hH.out.2.1 hB)
   clear hown
   go_wp2
   exact HQ.out

set_option maxRecDepth 20000 in
set_option maxHeartbeats 3200000 in
theorem printCell_any (k : Int) (v : V) (h : Nat) (w : World) (hc : CellOk (k, v)) (hh : h ≤ 1000000) :
  Calls Tryd.prog 74 #[.int .i64 k, v.v, .int .i64 (h : Int)] w (BytesPost (one k v h) w) := by
 obtain ⟨vk, vn, vs⟩ := v
 have hx := Sc.Box3.new w (.int .i64 vk) (.int .i64 vn) (.string vs) 37
 have hnew := (Below.refl w.heap.size w).alloc (Nat.le_refl _) (.cells #[.int .i64 vk, .int .i64 vn, .string vs] 37)
 show Calls Tryd.prog 74 #[.int .i64 k, .agg #[.int .i64 vk, .int .i64 vn, .string vs], .int .i64 (h : Int)] w _
 generalize hw1 : w.alloc (.cells #[.int .i64 vk, .int .i64 vn, .string vs] 37) = w1 at hx hnew
 have c1 := hx.c1
 have c2 := hx.c2
 have hv := right_sz hc.r
 simp only at hv
 have ho := hc.ok
 rcases hc.k with hk | hk | hk
 ·simp only at hk
  subst hk
  have hp := printNum_any vn w1 ho.n0 ho.n1
  have HPG := Lib.hid (fun (b c : Nat) (w' : World) (hl : ∀ (j : Nat) (u : Value), (nums (be 8 (vn % 18446744073709551616).toNat))[j]? = some u → w'.cell? ((⟨b, 0, none⟩ : Addr).add j) = some u) (hB : Below w.heap.size w w') => (show BytesPost (one 1 ⟨vk, vn, vs⟩ h) w (.returned (.slice (some ⟨b, 0, none⟩) 8 c)) w' from by
   rw [one_1]
   exact ⟨b, c, by rw [be_len], hl, hB⟩))
  generalize BytesPost (one 1 ⟨vk, vn, vs⟩ h) w = post at HPG ⊢
  clear ho hc hv
  go_enter Tryd.func74, Tryd.ntmps74
  go_wp2_with fail
  refine hp.mono ?_
  rintro e w2 ⟨b, c, rfl, hl, hy⟩
  rw [be_len]
  have HQ := Lib.hid (HPG.out b c w2 hl (hnew.trans (hy.mono hnew.size)))
  clear hp hl hy
  go_wp2
  exact HQ.out
 ·simp only at hk
  subst hk
  obtain ⟨d, hd⟩ : ∃ d : UInt8, d = UInt8.ofNat (vn % 256).toNat := ⟨_, rfl⟩
  have ed : vn % 256 = (d.toNat : Int) := by rw [hd, ofNat_toNat _ (by omega)]; omega
  have HQ : Hid (BytesPost (one 2 ⟨vk, vn, vs⟩ h) w (.returned (.slice (some ⟨w1.heap.size, 0, none⟩) 1 1)) (w1.alloc (.cells #[.int .u8 (d.toNat : Int)] 5))) := Lib.hid (by
   have e1 : one 2 ⟨vk, vn, vs⟩ h = [d] := by rw [one_2, hd]
   rw [e1]
   exact BytesPost.block (l := [d]) (heap_alloc_new w1 _) rfl (hnew.alloc hnew.size _))
  generalize BytesPost (one 2 ⟨vk, vn, vs⟩ h) w = post at HQ ⊢
  clear ho hc hv hd
  go_enter Tryd.func74, Tryd.ntmps74
  go_wp2
  exact HQ.out
 ·simp only at hk
  subst hk
  by_cases hvs : vs.size = 0
  ·have evs := empty_of hvs
   subst evs
   have HQ : Hid (BytesPost (one 3 ⟨vk, vn, ⟨#[]⟩⟩ h) w (.returned (.slice (some ⟨w1.heap.size, 0, none⟩) 3 3)) (w1.alloc (.cells #[.int .u8 0, .int .u8 0, .int .u8 0] 5))) := Lib.hid (by
    have e1 : one 3 ⟨vk, vn, ⟨#[]⟩⟩ h = [0, 0, 0] := by
     rw [one_3]
     have h0 : (⟨#[]⟩ : ByteArray).size = 0 := rfl
     simp only [h0, if_true]
     rfl
    rw [e1]
    exact BytesPost.block (l := [0, 0, 0]) (heap_alloc_new w1 _) rfl (hnew.alloc hnew.size _))
   generalize BytesPost (one 3 ⟨vk, vn, ⟨#[]⟩⟩ h) w = post at HQ ⊢
   clear ho hc hv
   go_enter Tryd.func74, Tryd.ntmps74
   go_wp2
   exact HQ.out
  ·obtain ⟨x, hx1⟩ : ∃ x : UInt8, x = UInt8.ofNat (h / 256) := ⟨_, rfl⟩
   obtain ⟨y, hy1⟩ : ∃ y : UInt8, y = UInt8.ofNat h := ⟨_, rfl⟩
   obtain ⟨z, hz1⟩ : ∃ z : UInt8, z = UInt8.ofNat vs.size := ⟨_, rfl⟩
   have ex : (h : Int) / 256 % 256 = (x.toNat : Int) := by
    have : x.toNat = h / 256 % 256 := by rw [hx1]; simp
    omega
   have ey : (h : Int) % 256 = (y.toNat : Int) := by rw [hy1]; simp
   have ez : (vs.size : Int) = (z.toNat : Int) := by rw [hz1, ofNat_toNat _ (by omega)]
   have HQ : Hid (BytesPost (one 3 ⟨vk, vn, vs⟩ h) w (.returned (.slice (some ⟨w1.heap.size, 0, none⟩) 3 3)) (w1.alloc (.cells #[.int .u8 ((h : Int) / 256 % 256), .int .u8 ((h : Int) % 256), .int .u8 (vs.size : Int)] 5))) := Lib.hid (by
    rw [ex, ey, ez]
    have e1 : one 3 ⟨vk, vn, vs⟩ h = [x, y, z] := by
     rw [one_3, if_neg (by simpa using hvs), hx1, hy1, hz1]
    rw [e1]
    exact BytesPost.block (l := [x, y, z]) (heap_alloc_new w1 _) rfl (hnew.alloc hnew.size _))
   generalize BytesPost (one 3 ⟨vk, vn, vs⟩ h) w = post at HQ ⊢
   have hv0 : vs.toList.isEmpty = false := by
    cases e : vs.toList.isEmpty with
    | false => rfl
    | true =>
     refine absurd ?_ hvs
     have := List.isEmpty_iff.1 e
     rw [ByteArray.toList_eq] at this
     have h1 : vs.data.toList.length = vs.size := by simp
     rw [← h1, this]
     rfl
   clear ho hc hx1 hy1 hz1 ex ey ez
   go_enter Tryd.func74, Tryd.ntmps74
   go_wp2
   exact HQ.out

/-- A cell out of bytes. -/
def readC (k : Int) (f h : ByteArray) : V :=
 if k = 1 then ⟨1, num8 f, ⟨#[]⟩⟩ else if k = 2 then ⟨2, ((f.data.toList[0]?.getD 0).toNat : Int), ⟨#[]⟩⟩ else ⟨3, 0, h.extract 0 (min (f.data.toList[2]?.getD 0).toNat h.size)⟩
theorem readC_1 (f h : ByteArray) : readC 1 f h = ⟨1, num8 f, ⟨#[]⟩⟩ := rfl
theorem readC_2 (f h : ByteArray) : readC 2 f h = ⟨2, ((f.data.toList[0]?.getD 0).toNat : Int), ⟨#[]⟩⟩ := rfl
theorem readC_3 (f h : ByteArray) : readC 3 f h = ⟨3, 0, h.extract 0 (min (f.data.toList[2]?.getD 0).toNat h.size)⟩ := rfl
set_option maxRecDepth 20000 in
set_option maxHeartbeats 3200000 in
theorem readCell_any (k : Int) (f h : ByteArray) (w : World) (hk : k = 1 ∨ k = 2 ∨ k = 3) (hf : oneW k ≤ f.size) (hf2 : f.size ≤ 1000000) (hh : h.size ≤ 1000000) :
  Calls Tryd.prog 65 #[.int .i64 k, .string f, .string h] w fun e w' => e = .returned (readC k f h).v ∧ Below w.heap.size w w' := by
 have hnew := (Below.refl w.heap.size w).alloc (Nat.le_refl _) (.cells #[.int .i64 0, .int .i64 0, .string ⟨#[]⟩] 37)
 have hx := Sc.Box3.new w (.int .i64 0) (.int .i64 0) (.string ⟨#[]⟩) 37
 generalize hw1 : w.alloc (.cells #[.int .i64 0, .int .i64 0, .string ⟨#[]⟩] 37) = w1 at hx hnew
 have c0 := hx.c0
 have c1 := hx.c1
 have c2 := hx.c2
 have cf := hx.f
 rcases hk with rfl | rfl | rfl
 ·have hc := readNum_any f w1 hf hf2
  rw [readC_1]
  generalize num8 f = n at hc ⊢
  go_enter Tryd.func65, Tryd.ntmps65
  go_wp2_with fail
  refine hc.mono ?_
  rintro e w2 ⟨rfl, rfl⟩
  have hX := ((hx.set0 (.int .i64 1)).set1 (.int .i64 n)).set2 (.string ⟨#[]⟩)
  have hB := ((hnew.setCell (p := ⟨w.heap.size, 0, none⟩) (Nat.le_refl _) (.int .i64 1)).setCell (p := ⟨w.heap.size, 1, none⟩) (Nat.le_refl _) (.int .i64 n)).setCell (p := ⟨w.heap.size, 2, none⟩) (Nat.le_refl _) (.string ⟨#[]⟩)
  have HX := Lib.hid (And.intro hX hB)
  clear hc hX hB
  go_wp2
  refine bodyPost_ret (results_three rfl _ _ w.heap.size _ _ _ rfl HX.out.1.c0 HX.out.1.c1 HX.out.1.c2) rfl ?_
  exact ⟨rfl, HX.out.2⟩
 ·rw [readC_2]
  have hf0 : 0 < f.size := hf
  have hb := byte_at hf0
  have hb8 := f[0].toNat_lt
  have e1 : wrap64 (f[0].toNat : Int) = (f[0].toNat : Int) := by unfold wrap64; omega
  rw [hb, Option.getD_some]
  have hX := ((hx.set0 (.int .i64 2)).set1 (.int .i64 (f[0].toNat : Int))).set2 (.string ⟨#[]⟩)
  have hB := ((hnew.setCell (p := ⟨w.heap.size, 0, none⟩) (Nat.le_refl _) (.int .i64 2)).setCell (p := ⟨w.heap.size, 1, none⟩) (Nat.le_refl _) (.int .i64 (f[0].toNat : Int))).setCell (p := ⟨w.heap.size, 2, none⟩) (Nat.le_refl _) (.string ⟨#[]⟩)
  have HX := Lib.hid (And.intro hX hB)
  clear hX hB hb hb8
  go_enter Tryd.func65, Tryd.ntmps65
  go_wp2
  refine bodyPost_ret (results_three rfl _ _ w.heap.size _ _ _ rfl HX.out.1.c0 HX.out.1.c1 HX.out.1.c2) rfl ?_
  exact ⟨rfl, HX.out.2⟩
 ·rw [readC_3]
  have hf0 : 2 < f.size := hf
  have hb := byte_at hf0
  have hb8 := f[2].toNat_lt
  obtain ⟨y, hy⟩ : ∃ y : Nat, f[2].toNat = y := ⟨_, rfl⟩
  have e1 : wrap64 (f[2].toNat : Int) = (y : Int) := by rw [hy]; unfold wrap64; omega
  rw [hb, Option.getD_some, hy]
  have y0 : (0 : Int) ≤ (y : Int) := by omega
  by_cases hle : y ≤ h.size
  ·have y1 : (y : Int) ≤ (h.size : Int) := by omega
   rw [Nat.min_eq_left hle]
   have hX := ((hx.set0 (.int .i64 3)).set1 (.int .i64 0)).set2 (.string (h.extract 0 y))
   have hB := ((hnew.setCell (p := ⟨w.heap.size, 0, none⟩) (Nat.le_refl _) (.int .i64 3)).setCell (p := ⟨w.heap.size, 1, none⟩) (Nat.le_refl _) (.int .i64 0)).setCell (p := ⟨w.heap.size, 2, none⟩) (Nat.le_refl _) (.string (h.extract 0 y))
   have HX := Lib.hid (And.intro hX hB)
   clear hX hB hb hb8 hy
   go_enter Tryd.func65, Tryd.ntmps65
   go_wp2
   refine bodyPost_ret (results_three rfl _ _ w.heap.size _ _ _ rfl HX.out.1.c0 HX.out.1.c1 HX.out.1.c2) rfl ?_
   exact ⟨rfl, HX.out.2⟩
  ·have y1 : ¬ (y : Int) ≤ (h.size : Int) := by omega
   rw [Nat.min_eq_right (by omega)]
   have hext : h.extract 0 h.size = h := by
    apply bytesEq'
    rw [ByteArray.data_extract, Array.toList_extract, List.extract_eq_take_drop, List.drop_zero, Nat.sub_zero]
    exact List.take_of_length_le (by simp)
   rw [hext]
   have hX := ((hx.set0 (.int .i64 3)).set1 (.int .i64 0)).set2 (.string h)
   have hB := ((hnew.setCell (p := ⟨w.heap.size, 0, none⟩) (Nat.le_refl _) (.int .i64 3)).setCell (p := ⟨w.heap.size, 1, none⟩) (Nat.le_refl _) (.int .i64 0)).setCell (p := ⟨w.heap.size, 2, none⟩) (Nat.le_refl _) (.string h)
   have HX := Lib.hid (And.intro hX hB)
   clear hX hB hb hb8 hy
   go_enter Tryd.func65, Tryd.ntmps65
   go_wp2
   refine bodyPost_ret (results_three rfl _ _ w.heap.size _ _ _ rfl HX.out.1.c0 HX.out.1.c1 HX.out.1.c2) rfl ?_
   exact ⟨rfl, HX.out.2⟩
end Go.Proofs.YtpnnkhpokangfaaDoor.Mi

/- A group's bytes: the program's, walked. -/
namespace Go.Proofs.YtpnnkhpokangfaaDoor.Mi
open Go.RowKit Pac Va Sc Ro Lex Go.Proofs.YtpnnkhpokangfaaDoor.Or

theorem box_grown {w w' : World} {g : Nat} {v0 v1 v2 : Value} {row : Option Nat} (h : Sc.Box3 w g v0 v1 v2) (hg : w.grownBy w' row) (hne : row ≠ some g) : Sc.Box3 w' g v0 v1 v2 := by
 have hb := hg.block g h.lt (fun e => hne e.symm)
 have hc : ∀ i, w'.cell? ⟨g, i, none⟩ = w.cell? ⟨g, i, none⟩ := fun i => by simp [World.cell?, hb]
 have hf : ∀ i, w'.frozen? ⟨g, i, none⟩ = w.frozen? ⟨g, i, none⟩ := fun i => by simp [World.frozen?, hb]
 exact ⟨(hc 0).trans h.c0, (hc 1).trans h.c1, (hc 2).trans h.c2, fun i => (hf i).trans (h.f i)⟩
theorem fit_cell {k : Int} {v : V} (hk : k = 1 ∨ k = 2 ∨ k = 3) (ho : v.Ok) (h : fitM k v = true) : CellOk (k, v) := by
 unfold fitM at h
 simp only [Bool.and_eq_true, Bool.or_eq_true, beq_iff_eq] at h
 exact ⟨hk, h.1, h.2, ho⟩
theorem cell_fit {k : Int} {v : V} (h : CellOk (k, v)) : fitM k v = true := by
 unfold fitM
 simp only [Bool.and_eq_true, Bool.or_eq_true, beq_iff_eq]
 exact ⟨h.r, h.z⟩
theorem flat_mem {ks : List Int} {cells : List (List V)} {p : Int × V} (h : p ∈ flat ks cells) : p.1 ∈ ks ∧ ∃ r ∈ cells, p.2 ∈ r := by
 unfold flat at h
 obtain ⟨r, hr, hp⟩ := List.mem_flatMap.1 h
 obtain ⟨k, v⟩ := p
 have := List.of_mem_zip hp
 exact ⟨this.1, r, hr, this.2⟩
theorem all_right {ks : List Int} {cells : List (List V)} (hl : cells.length = 8) (hrow : ∀ r ∈ cells, r.length = ks.length) (hkk : ∀ k ∈ ks, k = 1 ∨ k = 2 ∨ k = 3) (hok : ∀ r ∈ cells, ∀ v ∈ r, v.Ok) (h : ((flat ks cells).all fun p => fitM p.1 p.2) = true) : RightM ks cells :=
 ⟨hl, hrow, fun p hp => by
  obtain ⟨h1, r, hr, h2⟩ := flat_mem hp
  exact fit_cell (hkk _ h1) (hok r hr _ h2) (List.all_eq_true.1 h p hp)⟩
theorem right_all {ks : List Int} {cells : List (List V)} (h : RightM ks cells) : ((flat ks cells).all fun p => fitM p.1 p.2) = true := List.all_eq_true.2 (fun p hp => cell_fit (h.ok p hp))
/-- What is printed of any rows. -/
noncomputable def printW (ks : List Int) (cells : List (List V)) : ByteArray := if ((flat ks cells).all fun p => fitM p.1 p.2) = true then printM ks cells else ⟨#[]⟩
set_option maxRecDepth 20000 in
set_option maxHeartbeats 16000000 in
theorem printW_any (nm : ByteArray) (A1 A2 A3 : Option Addr) (cp cp2 cp3 : Nat) (cs : List C) (g : List Int) (cells : List (List V)) (lo1 lo2 lo3 : Nat) (w : World) (h1 : HasCols w lo1 A1 cs) (h2 : HasI w lo2 A2 g) (h3 : HasVV w lo3 A3 cells) (hl1 : cs.length ≤ 9223372036854775807) (hg : ∀ c ∈ g, 0 ≤ c ∧ c < cs.length) (hg1 : 1 ≤ g.length) (hg8 : g.length ≤ 8) (hkk : ∀ k ∈ kindsL cs g, k = 1 ∨ k = 2 ∨ k = 3) (hl8 : cells.length = 8) (hrow : ∀ r ∈ cells, r.length = g.length) (hok : ∀ r ∈ cells, ∀ v ∈ r, v.Ok) :
  Calls Tryd.prog 57 #[.agg #[.string nm, .slice A1 cs.length cp], .slice A2 g.length cp2, .slice A3 8 cp3] w fun e w' => e = .returned (.string (printW (kindsL cs g) cells)) ∧ Below w.heap.size w w' := by
 obtain ⟨i0, hi, hz0, hz1, hz2⟩ := info_parts infoByte
 have hnew := (Below.refl w.heap.size w).alloc (Nat.le_refl _) (.cells #[.string nm, .slice A1 cs.length cp] 24)
 have hx0 := Box2.new w (.string nm) (.slice A1 cs.length cp) 24
 have h1 := h1.below hnew (Nat.le_refl _)
 have h2 := h2.below hnew (Nat.le_refl _)
 have h3 := h3.below hnew (Nat.le_refl _)
 generalize hw1 : w.alloc (.cells #[.string nm, .slice A1 cs.length cp] 24) = w1 at hx0 hnew h1 h2 h3
 have hck := kindsOf_any nm A1 A2 cp cp2 cs g lo1 lo2 w1 h1 h2 hl1 (by omega) hg
 obtain ⟨ks, hks⟩ : ∃ ks, kindsL cs g = ks := ⟨_, rfl⟩
 have hkl : ks.length = g.length := by rw [← hks, kinds_len]
 rw [hks] at hck hkk ⊢
 rw [← hkl] at hrow
 clear hks h1 h2 hg
 obtain ⟨K, hK⟩ : ∃ m, g.length = m := ⟨_, rfl⟩
 rw [hK] at hkl hg1 hg8 hck ⊢
 unfold KindsOfPost at hck
 have hca := fun (A : Option Addr) (c : Nat) (W : World) (hI : HasI W w1.heap.size A ks) (hV : HasVV W lo3 A3 cells) => areCells_any A A3 c cp3 w1.heap.size lo3 ks cells W hI hV hl8 hrow (by omega)
 have hW1 : ((flat ks cells).all fun p => fitM p.1 p.2) = true → printW ks cells = printM ks cells := fun h => by unfold printW; rw [if_pos h]
 have hW0 : ((flat ks cells).all fun p => fitM p.1 p.2) = false → printW ks cells = ⟨#[]⟩ := fun h => by unfold printW; rw [if_neg (by rw [h]; decide)]
 have hRM : ((flat ks cells).all fun p => fitM p.1 p.2) = true → RightM ks cells := all_right hl8 hrow hkk hok
 rw [hkl] at hck hca
 generalize ((flat ks cells).all fun p => fitM p.1 p.2) = ok at hca hW1 hW0 hRM
 generalize hA : printM ks cells = ans at hW1
 generalize printW ks cells = pw at hW1 hW0 ⊢
 have HKK := Lib.hid (And.intro hkl hA)
 have HV := Lib.hid h3
 have HCA := Lib.hid hca
 have c0 := hx0.c0
 have c1 := hx0.c1
 clear hkl hA hK h3 hrow hkk hok hca
 go_enter Tryd.func57, Tryd.ntmps57
 go_wp2_with fail
 clear hw1 c0 c1 hx0
 refine hck.mono ?_
 rintro e w2 ⟨AK, ck, rfl, _, hI, hy⟩
 have hca := HCA.out AK ck w2 hI (HV.out.below hy (Nat.le_refl _))
 have HV := Lib.hid (HV.out.below hy (Nat.le_refl _))
 have HI := Lib.hid hI
 have hB2 := hnew.trans (hy.mono hnew.size)
 have hgs := hy.size
 clear hck hy hnew hI HCA
 go_wp2_with fail
 refine hca.mono ?_
 rintro e w3 ⟨rfl, hy⟩
 have HV := Lib.hid (HV.out.below hy (Nat.le_refl _))
 have HI := Lib.hid (HI.out.below hy (Nat.le_refl _))
 have hB3 := hB2.trans (hy.mono hB2.size)
 clear hca hy hB2
 cases ok with
 | false =>
  have HQ := Lib.hid (hW0 rfl)
  clear hW0 hW1 hRM
  go_wp2
  go_ret
  exact ⟨by rw [HQ.out]; rfl, hB3⟩
 | true =>
  have HW := Lib.hid (hW1 rfl)
  have hr := hRM rfl
  have hcm := fun W : World => marks_any AK K ck W (by omega)
  clear hW0 hW1 hRM
  go_wp2_with fail
  refine (hcm _).mono ?_
  rintro e w4 ⟨rfl, rfl⟩
  clear hcm
  go_wp2_with (at_make; go_must (refine wpList_make_full _ rfl _ _ 89 rfl w4.heap.size 5 i0 (.int .u8 0) 1 Tryd.underlying89 hi hz0 hz1 _ _ _ _ K rfl rfl rfl rfl (by rw [hz2]; omega) (by unfold maxLen; omega) (Nat.le_refl _) ?_))
  intro w5 hown5 hgrow5
  rw [made_mask] at hown5
  have hy : Below w4.heap.size w4 w5 := (Below.refl _ _).grown hgrow5 (Nat.le_refl _) (fun k hk => by cases hk)
  have HA := Lib.hid (And.intro HV.out HI.out)
  have HB3 := Lib.hid hB3
  have HR := Lib.hid (And.intro hr (And.intro HKK.out.1 HKK.out.2))
  have hTh0 : Three w5 w4.heap.size K (mask ((flat ks cells).take 0) K) (fix 0 ((flat ks cells).take 0)) (hp ((flat ks cells).take 0)) (.slice none 0 0) (.slice none 0 0) := ⟨hown5, World.ownsRow_nil _ _ _ _, World.ownsRow_nil _ _ _ _, fun b e => by cases e⟩
  clear hgrow5 hB3 hr hown5 HV HI HKK
  generalize hbase : w4.heap.size = base at hTh0 hy ⊢
  go_wp2
  go_loopw [10, 11, 12, 36] (fun x y z i wr => ∃ (q n : Nat) (sv hv : Value), q ≤ 8 ∧ i = .int .i64 q ∧ z = .int .i64 n ∧ x = sv ∧ y = hv ∧ Hid (q * K = n) ∧ Three wr base K (mask ((flat ks cells).take n) K) (fix 0 ((flat ks cells).take n)) (hp ((flat ks cells).take n)) sv hv ∧ Below base w4 wr) (fun _ _ _ i _ => 8 - (intOf i).toNat)
  case atStart => exact ⟨0, 0, _, _, Nat.zero_le _, rfl, rfl, rfl, rfl, Lib.hid (by simp), hTh0, hy⟩
  case round =>
   clear hTh0 hy
   obtain ⟨q, n0, sv, hv, hq, rfl, rfl, rfl, rfl, hN, hTh, hB⟩ := hrel
   by_cases hlt : q < 8
   ·have i1 : (q : Int) < 8 := by omega
    have i0' : (0 : Int) ≤ (q : Int) := by omega
    have hl8 := HR.out.1.len
    have hgr : cells[q]? = some (cells[q]'(by omega)) := List.getElem?_eq_getElem _
    have hrw := HR.out.1.row _ (List.mem_of_getElem? hgr)
    generalize (cells[q]'(by omega)) = r at hgr hrw
    rw [HR.out.2.1] at hrw
    have hB0 : Below w4.heap.size w4 wr := hbase ▸ hB
    obtain ⟨b1, o1, A5, c5, rfl, _, _, d1, hI1, _⟩ := HA.out.1.at hgr
    rw [hrw] at d1
    have d1 := cell_below hB0 d1
    have HRr := Lib.hid (And.intro hgr (And.intro hrw hI1))
    have HTh := Lib.hid (And.intro hTh hB)
    clear hgr hrw hI1 hB0 hl8 hTh hB
    go_wp2
    clear d1
    go_loopw [10, 11, 12, 42] (fun x y z i wr => ∃ (t n : Nat) (sv hv : Value), t ≤ K ∧ i = .int .i64 t ∧ z = .int .i64 n ∧ x = sv ∧ y = hv ∧ Hid (q * K + t = n) ∧ Three wr base K (mask ((flat ks cells).take n) K) (fix 0 ((flat ks cells).take n)) (hp ((flat ks cells).take n)) sv hv ∧ Below base w4 wr) (fun _ _ _ i _ => K - (intOf i).toNat)
    case atStart => exact ⟨0, n0, _, _, Nat.zero_le _, rfl, rfl, rfl, rfl, Lib.hid (by rw [Nat.add_zero]; exact hN.out), HTh.out.1, HTh.out.2⟩
    case round =>
     clear HTh
     obtain ⟨t, n, sv, hv, ht, rfl, rfl, rfl, rfl, HN, hTh, hB⟩ := hrel
     by_cases htl : t < K
     ·have j1 : (t : Int) < (K : Int) := by omega
      have j0 : (0 : Int) ≤ (t : Int) := by omega
      obtain ⟨hr, hkl, _⟩ := HR.out
      obtain ⟨hgr, hrw, hI1⟩ := HRr.out
      have hgv : r[t]? = some (r[t]'(by omega)) := List.getElem?_eq_getElem _
      generalize (r[t]'(by omega)) = v at hgv
      have hgk : ks[t]? = some (ks[t]'(by omega)) := List.getElem?_eq_getElem _
      generalize (ks[t]'(by omega)) = kk at hgk
      have hfl := flat_at hr.row hgr hgv hgk
      rw [hkl, HN.out] at hfl
      have hokv := hr.ok _ (List.mem_of_getElem? hfl)
      have hfew := hr.few
      rw [hkl] at hfew
      have hnlt := (List.getElem?_eq_some_iff.1 hfl).1
      have hts := take_snoc hfl
      have hdl : ((flat ks cells).take n).length = n := by rw [List.length_take]; omega
      have hTs := HB_le (d := (flat ks cells).take n) (fun p hp => hr.ok p (List.mem_of_mem_take hp))
      have hSs := FB_size ((flat ks cells).take n)
      have hSl : (FB ((flat ks cells).take n)).size = (fix 0 ((flat ks cells).take n)).length := by unfold FB; simp [ByteArray.size]
      rw [HB_size, hdl] at hTs
      rw [hSl, hdl] at hSs
      have hn64 : n < 64 := by omega
      obtain ⟨d, hd⟩ : ∃ d, (flat ks cells).take n = d := ⟨_, rfl⟩
      rw [hd] at hdl hTs hSs hTh hts
      have HTS : Hid ((flat ks cells).take (n + 1) = d ++ [(kk, v)]) := Lib.hid hts
      obtain ⟨fl, hfl'⟩ : ∃ m, (fix 0 d).length = m := ⟨_, rfl⟩
      obtain ⟨hl, hhl'⟩ : ∃ m, (hp d).length = m := ⟨_, rfl⟩
      rw [hfl'] at hSs
      rw [hhl'] at hTs
      have hfx := hTh.fx
      rw [hfl'] at hfx
      obtain ⟨Af, cf, rfl⟩ := own_form hfx
      have hhx := hTh.hp
      rw [hhl'] at hhx
      obtain ⟨Ah, ch, rfl⟩ := own_form hhx
      have hB0 : Below w4.heap.size w4 wr := hbase ▸ hB
      obtain ⟨b2, o2, rfl, _, _, e0, e1, e2⟩ := HasV.at (hI1.below hB0 (Nat.le_refl _)) hgv
      obtain ⟨b3, o3, rfl, _, hlb3, f1⟩ := HasI.at HA.out.2 hgk
      obtain ⟨vk, vn, vs⟩ := v
      simp only at e0 e1 e2
      have hvs := right_sz hokv.r
      simp only at hvs
      have HK := Lib.hid hfl'
      have hgf : (Value.slice Af fl cf).ownBlock ≠ some wr.heap.size := fun e => by
       have := (hTh.fx.lt _ e).2
       omega
      have hD0 : ∀ W' : World, Below base w4 W' → Sc.Box3 W' wr.heap.size (.int .i64 vk) (.int .i64 vn) (.string vs) → W'.cell? ⟨b3, o3 + t, none⟩ = some (.int .i64 kk) ∧ W'.cell? ⟨wr.heap.size, 0, none⟩ = some (.int .i64 vk) ∧ W'.cell? ⟨wr.heap.size, 1, none⟩ = some (.int .i64 vn) ∧ W'.cell? ⟨wr.heap.size, 2, none⟩ = some (.string vs) := fun W' hW hX => ⟨cell_below (hbase ▸ hW) f1, hX.c0, hX.c1, hX.c2⟩
      have hX := Sc.Box3.new wr (.int .i64 vk) (.int .i64 vn) (.string vs) 37
      have hThA := hTh.below ((Below.refl wr.heap.size wr).alloc (Nat.le_refl _) (.cells #[.int .i64 vk, .int .i64 vn, .string vs] 37)) (Nat.le_refl _)
      have hBw := hB.alloc (Nat.le_of_lt hTh.lt) (.cells #[.int .i64 vk, .int .i64 vn, .string vs] 37)
      have hbl := hTh.lt
      by_cases hvk : vk = 0
      ·subst hvk
       have hmz := mask_zero (d := d) (k := kk) (v := ⟨0, vn, vs⟩) (M := K) rfl
       rw [← hts] at hmz
       rw [← hmz] at hThA
       have HT0 := Lib.hid (And.intro hThA (And.intro hX (And.intro hBw (And.intro hgf hD0))))
       clear hThA hX hBw hgf hD0 hTh hB hB0 hfx hhx hmz hts hfl hgv hgk hgr hrw hI1 hr hkl hfew hnlt hd f1 hSl
       go_wp2_with fail
       obtain ⟨hTh, hX, hBw, hgf, hD0⟩ := HT0.out
       clear HT0 e0 e1 e2
       generalize hgv0 : wr.heap.size = gv at hX hgf hD0 ⊢
       generalize wr.alloc (.cells #[.int .i64 0, .int .i64 vn, .string vs] 37) = W at hTh hX hBw ⊢
       obtain ⟨vk, hvk⟩ : ∃ k : Int, (0 : Int) = k := ⟨_, rfl⟩
       rw [hvk] at hX hD0 hokv HTS
       clear hvk
       have hcp := fun W' : World => printCell_any kk ⟨vk, vn, vs⟩ hl W' hokv (by omega)
       have hol := one_len kk ⟨vk, vn, vs⟩ hl
       obtain ⟨oz, hoz1⟩ : ∃ m, oneW kk = m := ⟨_, rfl⟩
       rw [hoz1] at hol
       have hoz : 0 < oz := by rw [← hoz1]; unfold oneW; split <;> (try split) <;> omega
       have hoz8 : oz ≤ 8 := by rw [← hoz1]; unfold oneW; split <;> (try split) <;> omega
       unfold BytesPost at hcp
       have HD0 := Lib.hid hD0
       have HT := Lib.hid (And.intro hTh (And.intro hX hBw))
       have HC := Lib.hid (And.intro hcp (And.intro hol hfl'))
       clear hTh hX hBw hcp hol hD0 hfl'
       go_wp2_with fail
       have hTh := HT.out.1.below (Below.refl W.heap.size W).drew (Nat.le_refl _)
       have hX := HT.out.2.1.drew
       have hBw := HT.out.2.2.drew
       have hD0 := HD0.out
       have hcp := HC.out.1
       have hol := HC.out.2.1
       have hfl' := HC.out.2.2
       have hD := hD0 _ hBw hX
       refine Lex.region_lex (ops := ncops) (calls := nccalls) ncord (fun W => W.cell? ⟨b3, o3 + t, none⟩ = some (.int .i64 kk) ∧ W.cell? ⟨gv, 0, none⟩ = some (.int .i64 vk) ∧ W.cell? ⟨gv, 1, none⟩ = some (.int .i64 vn) ∧ W.cell? ⟨gv, 2, none⟩ = some (.string vs)) (by kernel_rfl) (by kernel_rfl) ncsel (by kernel_rfl) (by kernel_rfl) nclex (hD) ?_
       unfold ncord
       refine Lex.step_take (.slice Af fl cf) nc0 rfl (Lex.want_none rfl) (by intro Wx hSw; (try dsimp only at hSw); go_simp; (try (first | (with_reducible rfl) | assumption | rfl))) ?_
       simp only [Act.put, List.setIfInBounds_toArray, List.set_cons_zero, List.set_cons_succ]
       refine Lex.step_take (.slice (some ⟨b3, o3, none⟩) K ck) nc1 rfl (Lex.want_none rfl) (by intro Wx hSw; (try dsimp only at hSw); go_simp; (try (first | (with_reducible rfl) | assumption | rfl))) ?_
       simp only [Act.put, List.setIfInBounds_toArray, List.set_cons_zero, List.set_cons_succ]
       refine Lex.step_take (.int .i64 t) nc2 rfl (Lex.want_none rfl) (by intro Wx hSw; (try dsimp only at hSw); go_simp; (try (first | (with_reducible rfl) | assumption | rfl))) ?_
       simp only [Act.put, List.setIfInBounds_toArray, List.set_cons_zero, List.set_cons_succ]
       refine Lex.step_take (.pointer (some ⟨b3, o3 + t, none⟩)) nc3 rfl (Lex.want_none rfl) (by intro Wx hSw; (try dsimp only at hSw); go_simp; (try (first | (with_reducible rfl) | assumption | rfl))) ?_
       simp only [Act.put, List.setIfInBounds_toArray, List.set_cons_zero, List.set_cons_succ]
       refine Lex.step_take (.int .i64 kk) nc4 rfl (Lex.want_none rfl) (by intro Wx hSw; (try dsimp only at hSw); go_simp; (try (first | (with_reducible rfl) | assumption | rfl))) ?_
       simp only [Act.put, List.setIfInBounds_toArray, List.set_cons_zero, List.set_cons_succ]
       refine Lex.step_take (.agg #[.int .i64 vk, .int .i64 vn, .string vs]) nc5 rfl (Lex.want_none rfl) (by intro Wx hSw; (try dsimp only at hSw); go_simp; (try (first | (with_reducible rfl) | assumption | rfl))) ?_
       simp only [Act.put, List.setIfInBounds_toArray, List.set_cons_zero, List.set_cons_succ]
       refine Lex.step_take (.slice Ah hl ch) nc6 rfl (Lex.want_none rfl) (by intro Wx hSw; (try dsimp only at hSw); go_simp; (try (first | (with_reducible rfl) | assumption | rfl))) ?_
       simp only [Act.put, List.setIfInBounds_toArray, List.set_cons_zero, List.set_cons_succ]
       refine Lex.step_take (.int .i64 (hl : Int)) nc7 rfl (Lex.want_none rfl) (by intro Wx hSw; (try dsimp only at hSw); go_simp; (try (first | (with_reducible rfl) | assumption | rfl))) ?_
       simp only [Act.put, List.setIfInBounds_toArray, List.set_cons_zero, List.set_cons_succ]
       refine Lex.step_call nc8 rfl (Lex.want_none rfl) (fun K hK => ?_)
       go_simp
       refine (hcp _).mono ?_
       rintro e y1 ⟨pb, pc, rfl, hnl, hy1⟩
       rw [hol]
       have hD := hD0 _ (hBw.trans (hy1.mono (Nat.le_of_lt hTh.lt))) (hX.below hy1 hX.lt)
       have hX := hX.below hy1 hX.lt
       have hBw := hBw.trans (hy1.mono (Nat.le_of_lt hTh.lt))
       have hTh := hTh.below hy1 (Nat.le_refl _)
       clear hcp hy1
       refine hK.out _ _ _ (fun _ h => h) hD ?_
       clear hK K
       try simp only [Act.put, List.setIfInBounds_toArray, List.set_cons_zero, List.set_cons_succ]
       refine Lex.step_call nc9 rfl (Lex.want_none rfl) (fun K hK => ?_)
       refine wp_append_lies _ (.tmp 60) (.tmp 68) 89 (by rfl) (base + 1) 5 i0 (.int .u8 0) 1 1 Tryd.underlying89 hi hz0 hz1 hz2 rfl (by omega) (.slice Af fl cf) fl (nums (fix 0 d)) (by rfl) (hfl' ▸ hTh.fx) ⟨pb, 0, none⟩ oz pc (nums (one kk ⟨vk, vn, vs⟩ hl)) (by rfl) (by rw [nums_len, hol, Nat.mul_one]) hnl (nums_one _) hoz (by unfold maxLen; omega) (by omega) hTh.lt _ rfl ?_
       intro g5 cap5 y3 hown5 hgrow5 hat5 hlt5
       have hTh3 := hTh.fix (l := one kk ⟨vk, vn, vs⟩ hl) (n := fl + oz) (c := cap5) (by rw [nums_app]; exact hown5) (by rw [List.length_append, hfl', hol]) hgrow5 hat5
       have hX3 := box_grown hX hgrow5 hgf
       have hB3 := hBw.grown hgrow5 (Nat.le_of_lt hTh.lt) (fun k hk => Nat.le_of_succ_le (hTh.fx.lt k hk).1)
       have hD := hD0 _ hB3 hX3
       refine hK.out _ _ _ (fun _ h => h) hD ?_
       clear hK K
       try simp only [Act.put, List.setIfInBounds_toArray, List.set_cons_zero, List.set_cons_succ]
       refine Lex.step_take (.slice (some ⟨g5, 0, none⟩) (fl + oz) cap5) nc10 rfl (Lex.want_none rfl) (by intro Wx hSw; (try dsimp only at hSw); go_simp; (try (first | (with_reducible rfl) | assumption | rfl))) ?_
       simp only [Act.put, List.setIfInBounds_toArray, List.set_cons_zero, List.set_cons_succ]
       refine NoPanic.normal ?_
       have x2 := hX3.c2
       have HT3 := Lib.hid hTh3
       have HB3 := Lib.hid hB3
       clear hD hD0 hTh hX hBw hown5 hgrow5 hat5 hnl hX3 hTh3 hB3 hfl' hol HC HT HD0
       go_wp2_with (at_builtin; go_must (refine wpList_append_string_lies _ rfl _ _ 89 9 rfl (base + 1) 5 i0 Tryd.underlying89 Tryd.underlying9 hi hz0 hz1 hz2 (.slice Ah hl ch) hl (nums (hp d)) rfl (hhl' ▸ HT3.out.hp) vs rfl (by omega) HT3.out.lt ?_))
       intro v6 y6 hown6 hgrow6 hat6
       rw [nums_str, ← nums_app] at hown6
       have hTh6 := HT3.out.heap (l := vs.data.toList) hown6 (by rw [List.length_append, hhl']; simp) hgrow6 hat6
       have hB6 := HB3.out.grown hgrow6 (Nat.le_of_lt HT3.out.lt) (fun k hk => Nat.le_of_succ_le (HT3.out.hp.lt k hk).1)
       have HT6 : Hid (Three y6 base K (mask ((flat ks cells).take (n + 1)) K) (fix 0 ((flat ks cells).take (n + 1))) (hp ((flat ks cells).take (n + 1))) (.slice (some ⟨g5, 0, none⟩) (fl + oz) cap5) v6) := Lib.hid (by
        rw [HTS.out, fix_snoc, hp_snoc, Nat.zero_add, hhl', ← HTS.out]
        exact hTh6)
       clear hown6 hgrow6 hat6 hTh6 HT3 HB3 x2
       go_wp2
       go_roundw
       case rel => exact ⟨t + 1, n + 1, _, _, by omega, by go_num, by go_num, rfl, rfl, Lib.hid (by rw [← HN.out]; omega), HT6.out, hB6⟩
       case measure => simp [intOf]; omega
      ·have hvk' : (vk != 0) = true := bne_iff_ne.2 hvk
       obtain ⟨z, hz⟩ : ∃ z : UInt8, z = UInt8.ofNat (partAt d n + 2 ^ (n % 8)) := ⟨_, rfl⟩
       have hp8 := partAt_lt hdl
       have h28 : (2 : Nat) ^ (n % 8) ≤ 2 ^ 7 := Nat.pow_le_pow_right (by decide) (by omega)
       have ez0 : bits .or .u8 ((partAt d n : Nat) : Int) ((2 : Int) ^ (n % 8) % 256) = (z.toNat : Int) := by
        rw [hz, ← or_bit hp8 (by omega)]
        congr 1
        have : ((2 ^ (n % 8) : Nat) : Int) = (2 : Int) ^ (n % 8) := by push_cast; rfl
        rw [← this]
        omega
       have hma := nums_at (mask_at (d := d) (n := n) (M := K) (by omega))
       rw [ofNat_toNat _ (by omega)] at hma
       have s1 := hThA.mar.cellAt (n / 8) (by omega)
       have s2 := hThA.mar.frozenAt (n / 8)
       rw [hma] at s1
       have n1 : (n : Int) / 8 < (K : Int) := by omega
       have n0 : (0 : Int) ≤ (n : Int) / 8 := by omega
       have hmk := hThA.mark (n / 8) z
       have hms := mask_snoc (d := d) (k := kk) (v := ⟨vk, vn, vs⟩) (n := n) (M := K) hdl (by omega) hvk
       rw [← hts, ← hz] at hms
       rw [← hms] at hmk
       have hX2 := box_grown hX hmk.2 (fun e => by injection e with e; omega)
       have hBw2 := hBw.grown hmk.2 (Nat.le_of_lt hThA.lt) (fun k hk => by have hk : some base = some k := hk; injection hk with hk; omega)
       have hbne : base ≠ wr.heap.size := Nat.ne_of_lt hbl
       have hwc : (wr.alloc (.cells #[.int .i64 vk, .int .i64 vn, .string vs] 37)).setCell ⟨base, n / 8, none⟩ (.int .u8 (z.toNat : Int)) = (wr.setCell ⟨base, n / 8, none⟩ (.int .u8 (z.toNat : Int))).alloc (.cells #[.int .i64 vk, .int .i64 vn, .string vs] 37) := by go_simp
       rw [hwc] at hmk hX2 hBw2
       have HT0 := Lib.hid (And.intro hmk.1 (And.intro hX2 (And.intro hBw2 (And.intro hgf hD0))))
       clear hwc hbne
       generalize partAt d n = pb at ez0 s1
       clear hThA hX hBw hgf hD0 hTh hB hB0 hfx hhx hts hfl hgv hgk hgr hrw hI1 hr hkl hfew hnlt hd f1 hSl hmk hX2 hBw2 hms hz hma hp8 h28
       go_wp2_with fail
       go_region
       obtain ⟨hTh, hX, hBw, hgf, hD0⟩ := HT0.out
       clear HT0 e0 e1 e2 s1 s2 ez0
       generalize hgv0 : wr.heap.size = gv at hX hgf hD0 ⊢
       have hTh := hTh.below (Below.refl _ _).drew (Nat.le_refl _)
       have hX := hX.drew
       have hBw := hBw.drew
       generalize ((wr.setCell ⟨base, n / 8, none⟩ (.int .u8 (z.toNat : Int))).alloc (.cells #[.int .i64 vk, .int .i64 vn, .string vs] 37)).drew = W at hTh hX hBw ⊢
       have hcp := fun W' : World => printCell_any kk ⟨vk, vn, vs⟩ hl W' hokv (by omega)
       have hol := one_len kk ⟨vk, vn, vs⟩ hl
       obtain ⟨oz, hoz1⟩ : ∃ m, oneW kk = m := ⟨_, rfl⟩
       rw [hoz1] at hol
       have hoz : 0 < oz := by rw [← hoz1]; unfold oneW; split <;> (try split) <;> omega
       have hoz8 : oz ≤ 8 := by rw [← hoz1]; unfold oneW; split <;> (try split) <;> omega
       unfold BytesPost at hcp
       have HD0 := Lib.hid hD0
       have HT := Lib.hid (And.intro hTh (And.intro hX hBw))
       have HC := Lib.hid (And.intro hcp (And.intro hol hfl'))
       clear hTh hX hBw hcp hol hD0 hfl'
       go_wp2_with fail
       have hTh := HT.out.1.below (Below.refl W.heap.size W).drew (Nat.le_refl _)
       have hX := HT.out.2.1.drew
       have hBw := HT.out.2.2.drew
       have hD0 := HD0.out
       have hcp := HC.out.1
       have hol := HC.out.2.1
       have hfl' := HC.out.2.2
       have hD := hD0 _ hBw hX
       refine Lex.region_lex (ops := ncops) (calls := nccalls) ncord (fun W => W.cell? ⟨b3, o3 + t, none⟩ = some (.int .i64 kk) ∧ W.cell? ⟨gv, 0, none⟩ = some (.int .i64 vk) ∧ W.cell? ⟨gv, 1, none⟩ = some (.int .i64 vn) ∧ W.cell? ⟨gv, 2, none⟩ = some (.string vs)) (by kernel_rfl) (by kernel_rfl) ncsel (by kernel_rfl) (by kernel_rfl) nclex (hD) ?_
       unfold ncord
       refine Lex.step_take (.slice Af fl cf) nc0 rfl (Lex.want_none rfl) (by intro Wx hSw; (try dsimp only at hSw); go_simp; (try (first | (with_reducible rfl) | assumption | rfl))) ?_
       simp only [Act.put, List.setIfInBounds_toArray, List.set_cons_zero, List.set_cons_succ]
       refine Lex.step_take (.slice (some ⟨b3, o3, none⟩) K ck) nc1 rfl (Lex.want_none rfl) (by intro Wx hSw; (try dsimp only at hSw); go_simp; (try (first | (with_reducible rfl) | assumption | rfl))) ?_
       simp only [Act.put, List.setIfInBounds_toArray, List.set_cons_zero, List.set_cons_succ]
       refine Lex.step_take (.int .i64 t) nc2 rfl (Lex.want_none rfl) (by intro Wx hSw; (try dsimp only at hSw); go_simp; (try (first | (with_reducible rfl) | assumption | rfl))) ?_
       simp only [Act.put, List.setIfInBounds_toArray, List.set_cons_zero, List.set_cons_succ]
       refine Lex.step_take (.pointer (some ⟨b3, o3 + t, none⟩)) nc3 rfl (Lex.want_none rfl) (by intro Wx hSw; (try dsimp only at hSw); go_simp; (try (first | (with_reducible rfl) | assumption | rfl))) ?_
       simp only [Act.put, List.setIfInBounds_toArray, List.set_cons_zero, List.set_cons_succ]
       refine Lex.step_take (.int .i64 kk) nc4 rfl (Lex.want_none rfl) (by intro Wx hSw; (try dsimp only at hSw); go_simp; (try (first | (with_reducible rfl) | assumption | rfl))) ?_
       simp only [Act.put, List.setIfInBounds_toArray, List.set_cons_zero, List.set_cons_succ]
       refine Lex.step_take (.agg #[.int .i64 vk, .int .i64 vn, .string vs]) nc5 rfl (Lex.want_none rfl) (by intro Wx hSw; (try dsimp only at hSw); go_simp; (try (first | (with_reducible rfl) | assumption | rfl))) ?_
       simp only [Act.put, List.setIfInBounds_toArray, List.set_cons_zero, List.set_cons_succ]
       refine Lex.step_take (.slice Ah hl ch) nc6 rfl (Lex.want_none rfl) (by intro Wx hSw; (try dsimp only at hSw); go_simp; (try (first | (with_reducible rfl) | assumption | rfl))) ?_
       simp only [Act.put, List.setIfInBounds_toArray, List.set_cons_zero, List.set_cons_succ]
       refine Lex.step_take (.int .i64 (hl : Int)) nc7 rfl (Lex.want_none rfl) (by intro Wx hSw; (try dsimp only at hSw); go_simp; (try (first | (with_reducible rfl) | assumption | rfl))) ?_
       simp only [Act.put, List.setIfInBounds_toArray, List.set_cons_zero, List.set_cons_succ]
       refine Lex.step_call nc8 rfl (Lex.want_none rfl) (fun K hK => ?_)
       go_simp
       refine (hcp _).mono ?_
       rintro e y1 ⟨pb, pc, rfl, hnl, hy1⟩
       rw [hol]
       have hD := hD0 _ (hBw.trans (hy1.mono (Nat.le_of_lt hTh.lt))) (hX.below hy1 hX.lt)
       have hX := hX.below hy1 hX.lt
       have hBw := hBw.trans (hy1.mono (Nat.le_of_lt hTh.lt))
       have hTh := hTh.below hy1 (Nat.le_refl _)
       clear hcp hy1
       refine hK.out _ _ _ (fun _ h => h) hD ?_
       clear hK K
       try simp only [Act.put, List.setIfInBounds_toArray, List.set_cons_zero, List.set_cons_succ]
       refine Lex.step_call nc9 rfl (Lex.want_none rfl) (fun K hK => ?_)
       refine wp_append_lies _ (.tmp 60) (.tmp 68) 89 (by rfl) (base + 1) 5 i0 (.int .u8 0) 1 1 Tryd.underlying89 hi hz0 hz1 hz2 rfl (by omega) (.slice Af fl cf) fl (nums (fix 0 d)) (by rfl) (hfl' ▸ hTh.fx) ⟨pb, 0, none⟩ oz pc (nums (one kk ⟨vk, vn, vs⟩ hl)) (by rfl) (by rw [nums_len, hol, Nat.mul_one]) hnl (nums_one _) hoz (by unfold maxLen; omega) (by omega) hTh.lt _ rfl ?_
       intro g5 cap5 y3 hown5 hgrow5 hat5 hlt5
       have hTh3 := hTh.fix (l := one kk ⟨vk, vn, vs⟩ hl) (n := fl + oz) (c := cap5) (by rw [nums_app]; exact hown5) (by rw [List.length_append, hfl', hol]) hgrow5 hat5
       have hX3 := box_grown hX hgrow5 hgf
       have hB3 := hBw.grown hgrow5 (Nat.le_of_lt hTh.lt) (fun k hk => Nat.le_of_succ_le (hTh.fx.lt k hk).1)
       have hD := hD0 _ hB3 hX3
       refine hK.out _ _ _ (fun _ h => h) hD ?_
       clear hK K
       try simp only [Act.put, List.setIfInBounds_toArray, List.set_cons_zero, List.set_cons_succ]
       refine Lex.step_take (.slice (some ⟨g5, 0, none⟩) (fl + oz) cap5) nc10 rfl (Lex.want_none rfl) (by intro Wx hSw; (try dsimp only at hSw); go_simp; (try (first | (with_reducible rfl) | assumption | rfl))) ?_
       simp only [Act.put, List.setIfInBounds_toArray, List.set_cons_zero, List.set_cons_succ]
       refine NoPanic.normal ?_
       have x2 := hX3.c2
       have HT3 := Lib.hid hTh3
       have HB3 := Lib.hid hB3
       clear hD hD0 hTh hX hBw hown5 hgrow5 hat5 hnl hX3 hTh3 hB3 hfl' hol HC HT HD0
       go_wp2_with (at_builtin; go_must (refine wpList_append_string_lies _ rfl _ _ 89 9 rfl (base + 1) 5 i0 Tryd.underlying89 Tryd.underlying9 hi hz0 hz1 hz2 (.slice Ah hl ch) hl (nums (hp d)) rfl (hhl' ▸ HT3.out.hp) vs rfl (by omega) HT3.out.lt ?_))
       intro v6 y6 hown6 hgrow6 hat6
       rw [nums_str, ← nums_app] at hown6
       have hTh6 := HT3.out.heap (l := vs.data.toList) hown6 (by rw [List.length_append, hhl']; simp) hgrow6 hat6
       have hB6 := HB3.out.grown hgrow6 (Nat.le_of_lt HT3.out.lt) (fun k hk => Nat.le_of_succ_le (HT3.out.hp.lt k hk).1)
       have HT6 : Hid (Three y6 base K (mask ((flat ks cells).take (n + 1)) K) (fix 0 ((flat ks cells).take (n + 1))) (hp ((flat ks cells).take (n + 1))) (.slice (some ⟨g5, 0, none⟩) (fl + oz) cap5) v6) := Lib.hid (by
        rw [HTS.out, fix_snoc, hp_snoc, Nat.zero_add, hhl', ← HTS.out]
        exact hTh6)
       clear hown6 hgrow6 hat6 hTh6 HT3 HB3 x2
       go_wp2
       go_roundw
       case rel => exact ⟨t + 1, n + 1, _, _, by omega, by go_num, by go_num, rfl, rfl, Lib.hid (by rw [← HN.out]; omega), HT6.out, hB6⟩
       case measure => simp [intOf]; omega
     ·obtain rfl : t = K := by omega
      go_wp2
      go_roundw
      case rel => exact ⟨q + 1, n, _, _, by omega, by go_num, rfl, rfl, rfl, Lib.hid (by rw [Nat.add_mul, Nat.one_mul]; exact HN.out), hTh, hB⟩
      case measure => simp [intOf]; omega
   ·obtain rfl : q = 8 := by omega
    obtain ⟨hr, hkl, hans⟩ := HR.out
    have hfl : (flat ks cells).length = 8 * K := by rw [flat_len hr.row, hr.len, hkl]
    rw [List.take_of_length_le (by rw [hfl, ← hN.out]; exact Nat.le_refl _)] at hTh
    have e4 := str_own hTh.mar
    have e5 := str_own hTh.fx
    have e6 := str_own hTh.hp
    have hQ : ((⟨(mask (flat ks cells) K).toArray⟩ : ByteArray) ++ (⟨(fix 0 (flat ks cells)).toArray⟩ : ByteArray)) ++ (⟨(hp (flat ks cells)).toArray⟩ : ByteArray) = ans := by
     rw [← hans]
     apply bytesEq'
     rw [app_list, app_list, printM_list, hkl]
     rfl
    have hSs := FB_size (flat ks cells)
    have hTs := HB_le hr.ok
    have hMs : (⟨(mask (flat ks cells) K).toArray⟩ : ByteArray).size = K := by simp [ByteArray.size, mask_len]
    rw [hfl] at hSs hTs
    have hSs : (⟨(fix 0 (flat ks cells)).toArray⟩ : ByteArray).size ≤ 8 * (8 * K) := hSs
    have hTs : (⟨(hp (flat ks cells)).toArray⟩ : ByteArray).size ≤ 60 * (8 * K) := hTs
    generalize (⟨(mask (flat ks cells) K).toArray⟩ : ByteArray) = MB at hQ hMs e4
    generalize (⟨(fix 0 (flat ks cells)).toArray⟩ : ByteArray) = S at hQ hSs e5
    generalize (⟨(hp (flat ks cells)).toArray⟩ : ByteArray) = T at hQ hTs e6
    have HQ := Lib.hid hQ
    have hms2 : (MB ++ S).size = K + S.size := by rw [ByteArray.size_append, hMs]
    have HB9 := Lib.hid (HB3.out.trans ((hbase ▸ hB : Below w4.heap.size w4 wr).mono HB3.out.size))
    clear hQ hTh hans hr hB
    go_wp2
    go_ret
    exact ⟨by rw [HW.out, ← HQ.out]; rfl, HB9.out⟩
end Go.Proofs.YtpnnkhpokangfaaDoor.Mi

/- A group's cells out of bytes, from the first one on, plainly; a value stored into rows of one's own. -/
namespace Go.Proofs.YtpnnkhpokangfaaDoor.Mi
open Go.RowKit Pac Va Sc Ro Lex Go.Proofs.YtpnnkhpokangfaaDoor.Or

theorem readC_ok {k : Int} {f h : ByteArray} (hk : k = 1 ∨ k = 2 ∨ k = 3) : (readC k f h).Ok := by
 rcases hk with rfl | rfl | rfl
 ·have hu := unbe_lt (f.data.toList.take 8)
  have hl : (f.data.toList.take 8).length ≤ 8 := by rw [List.length_take]; omega
  have h8 : (256 : Nat) ^ (f.data.toList.take 8).length ≤ 256 ^ 8 := Nat.pow_le_pow_right (by decide) hl
  have hs := sgn_range _ (Nat.lt_of_lt_of_le hu (Nat.le_trans h8 (by decide)))
  exact ok_of (by decide) (by decide) hs.1 hs.2
 ·have hb := (f.data.toList[0]?.getD 0).toNat_lt
  rw [readC_2]
  exact ok_of (by decide) (by decide) (by omega) (by omega)
 ·exact ok_of (by decide) (by decide) (by decide) (by decide)
theorem readC_size {k : Int} {f h : ByteArray} (hk : k = 1 ∨ k = 2 ∨ k = 3) : (readC k f h).s.size ≤ h.size := by
 rcases hk with rfl | rfl | rfl
 ·exact Nat.zero_le _
 ·exact Nat.zero_le _
 ·rw [readC_3]
  show (h.extract 0 _).size ≤ _
  rw [ByteArray.size_extract]
  omega
/-- Where bytes are a cell's, it is read as it was. -/
theorem readC_back {k : Int} {v : V} {H : Nat} {f h : ByteArray} {fr hr : List UInt8} (hc : CellOk (k, v)) (hz : v.k ≠ 0) (hf : f.data.toList = one k v H ++ fr) (hh : h.data.toList = v.s.data.toList ++ hr) : readC k f h = v := by
 have hvk : v.k = k := by
  rcases hc.z with h1 | h1
  ·exact absurd h1 hz
  ·exact h1
 rcases hc.k with hk | hk | hk
 ·simp only at hk
  subst hk
  have h1 := right_s hc.r (by show v.k ≠ 3; omega)
  have e1 : v.s = ⟨#[]⟩ := h1.1
  have ho : v.Ok := hc.ok
  have e3 : num8 f = v.n := by
   unfold num8
   rw [hf, one_1, List.take_left' (be_len 8 _), unbe_be 8 _ (by rw [show (256 : Nat) ^ 8 = 18446744073709551616 by decide]; omega), sgn_mod ho.n0 ho.n1]
  rw [readC_1, e3]
  obtain ⟨vk, vn, vs⟩ := v
  simp only at hvk e1
  rw [hvk, e1]
 ·simp only at hk
  subst hk
  have h1 := right_s hc.r (by show v.k ≠ 3; omega)
  have e1 : v.s = ⟨#[]⟩ := h1.1
  have e2 : v.n = 0 ∨ v.n = 1 := h1.2.2 hvk
  rw [readC_2, hf, one_2]
  obtain ⟨vk, vn, vs⟩ := v
  simp only at hvk e1 e2
  rw [hvk, e1]
  rcases e2 with rfl | rfl <;> rfl
 ·simp only at hk
  subst hk
  have h1 := right_3 hc.r hvk
  have e2 : v.n = 0 := h1.1
  have e3 : v.s.size ≤ 60 := h1.2
  have hvl : v.s.data.toList.length = v.s.size := by simp
  have hhs : h.size = v.s.size + hr.length := by
   have : h.data.toList.length = h.size := by simp
   rw [← this, hh, List.length_append, hvl]
  have e4 : (UInt8.ofNat v.s.size).toNat = v.s.size := ofNat_toNat _ (by omega)
  have e5 : h.extract 0 v.s.size = v.s := by
   apply bytesEq'
   rw [ByteArray.data_extract, Array.toList_extract, List.extract_eq_take_drop, List.drop_zero, Nat.sub_zero, hh, List.take_left' hvl]
  rw [readC_3, hf, one_3]
  show (⟨3, 0, h.extract 0 (min (UInt8.ofNat v.s.size).toNat h.size)⟩ : V) = v
  rw [e4, Nat.min_eq_left (by omega), e5]
  obtain ⟨vk, vn, vs⟩ := v
  simp only at hvk e2
  rw [hvk, e2]
theorem bit_print {ks : List Int} {cells : List (List V)} (h : RightM ks cells) (h8 : ks.length ≤ 8) {n : Nat} {k : Int} {v : V} (hn : (flat ks cells)[n]? = some (k, v)) : bitA (printM ks cells) n = (v.k != 0) := by
 have hd := dec_print h h8 hn
 have hv := h.ok (k, v) (List.mem_of_getElem? hn)
 cases hb : bitA (printM ks cells) n with
 | false =>
  unfold decV at hd
  rw [if_pos hb] at hd
  injection hd with hd
  rw [← hd]
  rfl
 | true =>
  unfold decV at hd
  rw [if_neg (by rw [hb]; decide)] at hd
  have hz : v.k ≠ 0 := by
   split at hd
   ·injection hd with hd
    rw [← hd]
    show (1 : Int) ≠ 0
    decide
   ·split at hd
    ·split at hd
     ·injection hd with hd
      rw [← hd]
      show (2 : Int) ≠ 0
      decide
     ·cases hd
    ·split at hd
     ·injection hd with hd
      rw [← hd]
      show (3 : Int) ≠ 0
      decide
     ·cases hd
  exact (bne_iff_ne.2 hz).symm
theorem zero_cell {k : Int} {v : V} (h : CellOk (k, v)) (hz : v.k = 0) : v = vZ := by
 have h1 := right_s h.r (by show v.k ≠ 3; omega)
 have e1 : v.s = ⟨#[]⟩ := h1.1
 have e2 : v.n = 0 := h1.2.1 hz
 obtain ⟨vk, vn, vs⟩ := v
 simp only at hz e1 e2
 rw [hz, e1, e2]
 rfl
/-- How far reading has come: of any cells whose bytes s is, the first n are read; what is left of their fixed bytes, of their heap. -/
def Upto (ks : List Int) (s : ByteArray) (M : List (List V)) (n : Nat) (f h : ByteArray) : Prop :=
 ∀ cells, RightM ks cells → printM ks cells = s → (flat ks M).take n = (flat ks cells).take n ∧ f.data.toList = fix (hp ((flat ks cells).take n)).length ((flat ks cells).drop n) ∧ h.data.toList = hp ((flat ks cells).drop n)
/-- What hasn't been read yet is nothing. -/
def Blank (ks : List Int) (M : List (List V)) (n : Nat) : Prop := ∀ (j : Nat) (p : Int × V), n ≤ j → (flat ks M)[j]? = some p → p.2 = vZ
theorem sub_list (s : ByteArray) (a b : Nat) : (s.extract a b).data.toList = (s.data.toList.drop a).take (b - a) := by rw [ByteArray.data_extract, Array.toList_extract, List.extract_eq_take_drop]
theorem ba_len (b : ByteArray) : b.data.toList.length = b.size := by simp
theorem upto_start {ks : List Int} {s : ByteArray} (M : List (List V)) (m : Nat) (hm : m = s.size) : Upto ks s M 0 ((s.extract ks.length m).extract 0 (8 * wide ks)) ((s.extract ks.length m).extract (8 * wide ks) (s.extract ks.length m).size) := fun cells hc e => by
 have hs : s.data.toList = printC (flat ks cells) ks.length := by rw [← e, printM_list]
 have hw : (fix 0 (flat ks cells)).length = 8 * wide ks := by
  rw [fix_len, kindsA_flat hc]
  unfold kindsA
  rw [wide_rep]
 have h1 : (s.extract ks.length m).data.toList = fix 0 (flat ks cells) ++ hp (flat ks cells) := by
  rw [sub_list, hs]
  unfold printC
  rw [List.append_assoc, List.drop_left' (mask_len _ _)]
  have hsz : s.data.toList.length = s.size := by simp
  rw [hs] at hsz
  unfold printC at hsz
  rw [List.length_append, List.length_append, mask_len] at hsz
  exact List.take_of_length_le (by rw [List.length_append]; omega)
 refine ⟨by simp, ?_, ?_⟩
 ·rw [sub_list, h1, List.drop_zero, Nat.sub_zero, List.take_left' hw]
  rfl
 ·rw [sub_list, h1, List.drop_left' hw, List.drop_zero]
  have := ba_len (s.extract ks.length m)
  rw [h1, List.length_append] at this
  exact List.take_of_length_le (by omega)
/-- One cell more. -/
theorem flat_set {ks : List Int} : ∀ {M : List (List V)} {q t : Nat} {r : List V} {k : Int} {u : V}, (∀ x ∈ M, x.length = ks.length) → M[q]? = some r → ks[t]? = some k → flat ks (M.set q (r.set t u)) = (flat ks M).set (q * ks.length + t) (k, u)
 | [], q, t, r, k, u, _, h, _ => by simp at h
 | x :: M, 0, t, r, k, u, hM, h, hk => by
  simp only [List.getElem?_cons_zero, Option.some.injEq] at h
  subst h
  have hl := hM x List.mem_cons_self
  have ht := (List.getElem?_eq_some_iff.1 hk).1
  show ks.zip (x.set t u) ++ flat ks M = (ks.zip x ++ flat ks M).set (0 * ks.length + t) (k, u)
  rw [Nat.zero_mul, Nat.zero_add, List.set_append_left _ _ (by rw [zip_len hl]; exact ht)]
  congr 1
  apply List.ext_getElem?
  intro j
  by_cases hj : j = t
  ·subst hj
   rw [List.getElem?_set_self (by rw [zip_len hl]; exact ht), List.getElem?_zip_eq_some]
   exact ⟨hk, List.getElem?_set_self (by omega)⟩
  ·rw [List.getElem?_set_ne (Ne.symm hj)]
   have e : (x.set t u)[j]? = x[j]? := List.getElem?_set_ne (Ne.symm hj)
   have : ∀ {a b : List V}, a[j]? = b[j]? → a.length = b.length → (ks.zip a)[j]? = (ks.zip b)[j]? := fun {a b} h hl => by
    unfold List.zip
    rw [List.getElem?_zipWith, List.getElem?_zipWith, h]
   exact this e (by rw [List.length_set])
 | x :: M, q + 1, t, r, k, u, hM, h, hk => by
  rw [List.getElem?_cons_succ] at h
  have ih := flat_set (fun y hy => hM y (List.mem_cons_of_mem _ hy)) h hk (u := u)
  have hl := hM x List.mem_cons_self
  show ks.zip x ++ flat ks (M.set q (r.set t u)) = (ks.zip x ++ flat ks M).set ((q + 1) * ks.length + t) (k, u)
  rw [ih, List.set_append_right _ _ (by rw [zip_len hl, Nat.add_mul]; omega), zip_len hl, show (q + 1) * ks.length + t - ks.length = q * ks.length + t by rw [Nat.add_mul]; omega]
theorem take_set {α : Type} {l : List α} {n : Nat} {x : α} (h : n < l.length) : (l.set n x).take (n + 1) = l.take n ++ [x] := by
 have e : (l.set n x)[n]? = some x := List.getElem?_set_self h
 rw [take_snoc e]
 congr 1
 apply List.ext_getElem?
 intro j
 rw [List.getElem?_take, List.getElem?_take]
 by_cases hj : j < n
 ·rw [if_pos hj, if_pos hj, List.getElem?_set_ne (by omega)]
 ·rw [if_neg hj, if_neg hj]
theorem drop_cons {α : Type} {l : List α} {n : Nat} {x : α} (h : l[n]? = some x) : l.drop n = x :: l.drop (n + 1) := by
 obtain ⟨hl, e⟩ := List.getElem?_eq_some_iff.1 h
 rw [← e, List.getElem_cons_drop]
section
variable {ks : List Int} {s f h : ByteArray} {M : List (List V)} {q t n : Nat} {r : List V} {k : Int}
theorem cell_there (hM : ∀ x ∈ M, x.length = ks.length) (h8 : M.length = 8) (hq : M[q]? = some r) (hk : ks[t]? = some k) (hn : q * ks.length + t = n) {cells : List (List V)} (hc : RightM ks cells) : ∃ v, (flat ks cells)[n]? = some (k, v) ∧ CellOk (k, v) := by
 have hq8 : q < 8 := by have := (List.getElem?_eq_some_iff.1 hq).1; omega
 have ht := (List.getElem?_eq_some_iff.1 hk).1
 have hg : cells[q]? = some (cells[q]'(by rw [hc.len]; exact hq8)) := List.getElem?_eq_getElem _
 have hl := hc.row _ (List.mem_of_getElem? hg)
 generalize (cells[q]'(by rw [hc.len]; exact hq8)) = r' at hg hl
 have hv : r'[t]? = some (r'[t]'(by omega)) := List.getElem?_eq_getElem _
 have hf := flat_at hc.row hg hv hk
 rw [hn] at hf
 exact ⟨_, hf, hc.ok _ (List.mem_of_getElem? hf)⟩
/-- Nothing stands there. -/
theorem upto_skip (hU : Upto ks s M n f h) (hB : Blank ks M n) (hM : ∀ x ∈ M, x.length = ks.length) (h8 : M.length = 8) (hk8 : ks.length ≤ 8) (hq : M[q]? = some r) (hk : ks[t]? = some k) (hn : q * ks.length + t = n) (hb : bitA s n = false) :
  Upto ks s M (n + 1) (f.extract (oneW k) f.size) h ∧ Blank ks M (n + 1) := by
 have ht := (List.getElem?_eq_some_iff.1 hk).1
 have hrl := hM r (List.mem_of_getElem? hq)
 refine ⟨fun cells hc e => ?_, fun j p hj hp => hB j p (by omega) hp⟩
 obtain ⟨h1, h2, h3⟩ := hU cells hc e
 obtain ⟨v, hv, hvo⟩ := cell_there hM h8 hq hk hn hc
 have hbv := bit_print hc hk8 hv
 rw [e, hb] at hbv
 have hvz : v = vZ := zero_cell hvo (by simpa using hbv.symm)
 subst hvz
 have hr : r[t]? = some (r[t]'(by omega)) := List.getElem?_eq_getElem _
 have hf := flat_at hM hq hr hk
 rw [hn] at hf
 have hz : (r[t]'(by omega)) = vZ := hB n _ (Nat.le_refl _) hf
 rw [hz] at hf
 have hts := take_snoc hv
 have hd := drop_cons hv
 refine ⟨?_, ?_, ?_⟩
 ·rw [take_snoc hf, hts, h1]
 ·rw [hd] at h2
  have h2 : f.data.toList = one k vZ (hp ((flat ks cells).take n)).length ++ fix ((hp ((flat ks cells).take n)).length + vZ.s.size) ((flat ks cells).drop (n + 1)) := h2
  rw [sub_list, hts, hp_snoc]
  have hl := congrArg List.length h2
  have hfl : f.data.toList.length = f.size := by simp
  rw [List.length_append, one_len, hfl] at hl
  rw [h2, List.drop_left' (one_len _ _ _), List.take_of_length_le (by omega)]
  congr 1
  rw [List.length_append]
  rfl
 ·rw [h3, hd]
  rfl
/-- What stands there is read. -/
theorem upto_read (hU : Upto ks s M n f h) (hB : Blank ks M n) (hM : ∀ x ∈ M, x.length = ks.length) (h8 : M.length = 8) (hk8 : ks.length ≤ 8) (hq : M[q]? = some r) (hk : ks[t]? = some k) (hn : q * ks.length + t = n) (hb : bitA s n = true) :
  Upto ks s (M.set q (r.set t (readC k f h))) (n + 1) (f.extract (oneW k) f.size) (h.extract (readC k f h).s.size h.size) ∧ Blank ks (M.set q (r.set t (readC k f h))) (n + 1) := by
 have ht := (List.getElem?_eq_some_iff.1 hk).1
 have hrl := hM r (List.mem_of_getElem? hq)
 have hq8 := (List.getElem?_eq_some_iff.1 hq).1
 have hfs := flat_set hM hq hk (u := readC k f h)
 rw [hn] at hfs
 have hnl : n < (flat ks M).length := by
  rw [flat_len hM, h8, ← hn]
  have : (q + 1) * ks.length ≤ 8 * ks.length := Nat.mul_le_mul_right _ (by omega)
  rw [Nat.add_mul] at this
  omega
 refine ⟨fun cells hc e => ?_, fun j p hj hp => ?_⟩
 ·obtain ⟨h1, h2, h3⟩ := hU cells hc e
  obtain ⟨v, hv, hvo⟩ := cell_there hM h8 hq hk hn hc
  have hbv := bit_print hc hk8 hv
  rw [e, hb] at hbv
  have hvz : v.k ≠ 0 := by simpa using hbv.symm
  have hts := take_snoc hv
  have hd := drop_cons hv
  rw [hd] at h2 h3
  have h2 : f.data.toList = one k v (hp ((flat ks cells).take n)).length ++ fix ((hp ((flat ks cells).take n)).length + v.s.size) ((flat ks cells).drop (n + 1)) := h2
  have h3 : h.data.toList = v.s.data.toList ++ hp ((flat ks cells).drop (n + 1)) := h3
  have hr := readC_back hvo hvz h2 h3
  have hvl : v.s.data.toList.length = v.s.size := by simp
  refine ⟨?_, ?_, ?_⟩
  ·rw [hfs, take_set hnl, hts, h1, hr]
  ·rw [sub_list, hts, hp_snoc]
   have hl := congrArg List.length h2
   have hfl : f.data.toList.length = f.size := by simp
   rw [List.length_append, one_len, hfl] at hl
   rw [h2, List.drop_left' (one_len _ _ _), List.take_of_length_le (by omega)]
   congr 1
   rw [List.length_append, hvl]
  ·rw [hr, sub_list]
   have hl := congrArg List.length h3
   have hhl : h.data.toList.length = h.size := by simp
   rw [List.length_append, hvl, hhl] at hl
   rw [h3, List.drop_left' hvl, List.take_of_length_le (by omega)]
 ·rw [hfs, List.getElem?_set_ne (by omega)] at hp
  exact hB j p (by omega) hp
end
theorem upto_end {ks : List Int} {s f h : ByteArray} {M : List (List V)} (hU : Upto ks s M (8 * ks.length) f h) (hM : ∀ x ∈ M, x.length = ks.length) (h8 : M.length = 8) {cells : List (List V)} (hc : RightM ks cells) (e : printM ks cells = s) : M = cells := by
 have h1 := (hU cells hc e).1
 rw [List.take_of_length_le (by rw [flat_len hM, h8]; exact Nat.le_refl _), List.take_of_length_le hc.few] at h1
 exact flat_inj (by rw [h8, hc.len]) hM hc.row h1
theorem bit_sub {s : ByteArray} {K n : Nat} (hn : n / 8 < K) (hs : K ≤ s.size) : bitA (s.extract 0 K) n = bitA s n := by
 unfold bitA
 rw [sub_list, List.drop_zero, Nat.sub_zero, List.getElem?_take, if_pos hn]
theorem blank_empty {ks : List Int} : Blank ks (emptyM ks.length) 0 := fun j p _ hp => by
 have hm := List.mem_of_getElem? hp
 unfold flat emptyM at hm
 obtain ⟨r, hr, hm⟩ := List.mem_flatMap.1 hm
 rw [List.eq_of_mem_replicate hr] at hm
 obtain ⟨k, v⟩ := p
 exact List.eq_of_mem_replicate (List.of_mem_zip hm).2
/-- A value stored into its place. -/
theorem cellsV_set : ∀ (l : List V) (i : Nat) (v : V), i < l.length → (((Li.cellsL cellsV l).set (i * 3) (.int .i64 v.k)).set (i * 3 + 1) (.int .i64 v.n)).set (i * 3 + 2) (.string v.s) = Li.cellsL cellsV (l.set i v)
 | [], i, v, h => by simp at h
 | x :: l, 0, v, _ => by
  show (((cellsV x ++ Li.cellsL cellsV l).set 0 _).set 1 _).set 2 _ = cellsV v ++ Li.cellsL cellsV l
  rfl
 | x :: l, i + 1, v, h => by
  have ih := cellsV_set l i v (by simpa using h)
  show (((cellsV x ++ Li.cellsL cellsV l).set ((i + 1) * 3) _).set ((i + 1) * 3 + 1) _).set ((i + 1) * 3 + 2) _ = cellsV x ++ Li.cellsL cellsV (l.set i v)
  have hx := cellsV_len x
  rw [List.set_append_right _ _ (by omega), List.set_append_right _ _ (by omega), List.set_append_right _ _ (by omega), hx, ← ih, show (i + 1) * 3 - 3 = i * 3 by omega, show (i + 1) * 3 + 1 - 3 = i * 3 + 1 by omega, show (i + 1) * 3 + 2 - 3 = i * 3 + 2 by omega]
def putV (w : World) (b i : Nat) (v : V) : World := ((w.setCell ⟨b, i * 3, none⟩ (.int .i64 v.k)).setCell ⟨b, i * 3 + 1, none⟩ (.int .i64 v.n)).setCell ⟨b, i * 3 + 2, none⟩ (.string v.s)
section
variable {w : World} {B q i : Nat} {os : List (Li.OG V)} {x : Li.OG V} {v : V}
theorem putV_free (h : Li.FreeG cellsV 3 37 w B os) (hq : os[q]? = some x) (hi : i < x.l.length) : Li.FreeG cellsV 3 37 (putV w x.b i v) B (os.set q ⟨x.b, x.cp, x.l.set i v⟩) := by
 have hx := h.own x (List.mem_of_getElem? hq)
 have hb : (os.set q ⟨x.b, x.cp, x.l.set i v⟩).map Li.OG.b = os.map Li.OG.b := by
  rw [List.map_set]
  apply List.ext_getElem?
  intro j
  by_cases hj : q = j
  ·subst hj
   have hl := (List.getElem?_eq_some_iff.1 hq).1
   rw [List.getElem?_set_self (by rw [List.length_map]; exact hl), List.getElem?_map, hq]
   rfl
  ·rw [List.getElem?_set_ne hj]
 have s1 := hx.stored (i * 3) (.int .i64 v.k)
 have s2 := s1.1.stored (i * 3 + 1) (.int .i64 v.n)
 have s3 := s2.1.stored (i * 3 + 2) (.string v.s)
 refine ⟨fun z hz => ?_, by rw [hb]; exact h.nd⟩
 obtain ⟨j, hj⟩ := List.mem_iff_getElem?.1 hz
 by_cases hjq : q = j
 ·subst hjq
  rw [List.getElem?_set_self (List.getElem?_eq_some_iff.1 hq).1] at hj
  injection hj with hj
  subst hj
  have := s3.1
  rw [cellsV_set x.l i v hi] at this
  show World.ownsRow _ B _ 3 (.slice (some ⟨x.b, 0, none⟩) (x.l.set i v).length x.cp) (x.l.set i v).length _
  rw [List.length_set]
  exact this
 ·rw [List.getElem?_set_ne hjq] at hj
  have hne : z.b ≠ x.b := h.ne hj hq (Ne.symm hjq)
  have hz := h.own z (List.mem_of_getElem? hj)
  have no : ∀ b, z.v.ownBlock = some b → some x.b ≠ some b := fun b e1 e2 => by
   have e1 : some z.b = some b := e1
   rw [← e1] at e2
   injection e2 with e2
   exact hne e2.symm
  exact own_other' (own_other' (own_other' hz s1.2 no) s2.2 no) s3.2 no
theorem putV_row {R : Nat} (h : Li.FreeG cellsV 3 37 w B os) (hq : os[q]? = some x) (ho : w.ownsRow B 35 1 (.slice (some ⟨R, 0, none⟩) 8 8) 8 (os.map Li.OG.v)) : (putV w x.b i v).ownsRow B 35 1 (.slice (some ⟨R, 0, none⟩) 8 8) 8 ((os.set q ⟨x.b, x.cp, x.l.set i v⟩).map Li.OG.v) := by
 have hx := h.own x (List.mem_of_getElem? hq)
 have hv : (os.set q ⟨x.b, x.cp, x.l.set i v⟩).map Li.OG.v = os.map Li.OG.v := by
  rw [List.map_set]
  apply List.ext_getElem?
  intro j
  by_cases hj : q = j
  ·subst hj
   have hl := (List.getElem?_eq_some_iff.1 hq).1
   rw [List.getElem?_set_self (by rw [List.length_map]; exact hl), List.getElem?_map, hq]
   show some (Value.slice _ (x.l.set i v).length _) = some (Value.slice _ x.l.length _)
   rw [List.length_set]
  ·rw [List.getElem?_set_ne hj]
 rw [hv]
 have s1 := hx.stored (i * 3) (.int .i64 v.k)
 have s2 := s1.1.stored (i * 3 + 1) (.int .i64 v.n)
 have s3 := s2.1.stored (i * 3 + 2) (.string v.s)
 have no : ∀ b, (Value.slice (some ⟨R, 0, none⟩) 8 8).ownBlock = some b → some x.b ≠ some b := fun b e1 e2 => by
  exact Li.own_kind ho hx (by decide) e1 e2
 exact own_other' (own_other' (own_other' ho s1.2 no) s2.2 no) s3.2 no
theorem putV_below {w0 : World} {B0 : Nat} (h : Li.FreeG cellsV 3 37 w B os) (hq : os[q]? = some x) (hB : Below B0 w0 w) (hb : B0 ≤ B) : Below B0 w0 (putV w x.b i v) := by
 have hx := h.lt (List.mem_of_getElem? hq)
 have hlb : B0 ≤ x.b := Nat.le_trans hb hx.1
 unfold putV
 exact ((hB.setCell (p := ⟨x.b, i * 3, none⟩) hlb _).setCell (p := ⟨x.b, i * 3 + 1, none⟩) hlb _).setCell (p := ⟨x.b, i * 3 + 2, none⟩) hlb _
end
end Go.Proofs.YtpnnkhpokangfaaDoor.Mi

/- A group's cells out of any bytes: the program's, walked. -/
namespace Go.Proofs.YtpnnkhpokangfaaDoor.Mi
open Go.RowKit Pac Va Sc Ro Lex Go.Proofs.YtpnnkhpokangfaaDoor.Or

theorem wide_le : ∀ ks : List Int, wide ks ≤ 8 * ks.length
 | [] => Nat.le_refl _
 | k :: ks => by
  have h := wide_le ks
  show oneW k + wide ks ≤ 8 * (ks.length + 1)
  have : oneW k ≤ 8 := by unfold oneW; split <;> (try split) <;> omega
  omega
/-- Reading, so far. -/
structure Rd (ks : List Int) (s : ByteArray) (K base n : Nat) (f h : ByteArray) (os : List (Li.OG V)) (w : World) : Prop where
 row : w.ownsRow base 35 1 (.slice (some ⟨base, 0, none⟩) 8 8) 8 (os.map Li.OG.v)
 free : Li.FreeG cellsV 3 37 w base os
 len : os.length = 8
 k : ∀ r ∈ os.map Li.OG.l, r.length = K
 ok : ∀ r ∈ os.map Li.OG.l, ∀ v ∈ r, v.Ok
 upto : Upto ks s (os.map Li.OG.l) n f h
 blank : Blank ks (os.map Li.OG.l) n
 fs : f.size = wide ((kindsA ks).drop n)
 hs : h.size ≤ 1000000
section
variable {ks : List Int} {s f h : ByteArray} {K base n q t b c B : Nat} {os : List (Li.OG V)} {w w' : World} {l : List V} {k : Int}
theorem Rd.below (r : Rd ks s K base n f h os w) (hb : Below B w w') (hB : w.heap.size ≤ B) : Rd ks s K base n f h os w' := ⟨Li.own_below r.row hb hB, r.free.below hb hB, r.len, r.k, r.ok, r.upto, r.blank, r.fs, r.hs⟩
theorem Rd.lt (r : Rd ks s K base n f h os w) : base < w.heap.size := (r.row.lt base rfl).2
theorem Rd.lrow (r : Rd ks s K base n f h os w) (hq : os[q]? = some ⟨b, c, l⟩) : l.length = K ∧ (os.map Li.OG.l)[q]? = some l := by
 have h1 : (os.map Li.OG.l)[q]? = some l := by rw [List.getElem?_map, hq]; rfl
 exact ⟨r.k l (List.mem_of_getElem? h1), h1⟩
theorem Rd.wide (r : Rd ks s K base n f h os w) (hkl : ks.length = K) (hq : q < 8) (hk : ks[t]? = some k) (hn : q * K + t = n) : f.size = oneW k + wide ((kindsA ks).drop (n + 1)) := by
 have h1 := kindsA_at hq hk
 rw [hkl, hn] at h1
 rw [r.fs, drop_cons h1]
 rfl
theorem Rd.cell (r : Rd ks s K base n f h os w) (hq : os[q]? = some ⟨b, c, l⟩) {v : V} (ht : l[t]? = some v) : w.cell? ⟨b, t * 3, none⟩ = some (.int .i64 v.k) ∧ w.cell? ⟨b, t * 3 + 1, none⟩ = some (.int .i64 v.n) ∧ w.cell? ⟨b, t * 3 + 2, none⟩ = some (.string v.s) ∧ ∀ i, w.frozen? ⟨b, i, none⟩ = false := by
 have hx := r.free.own _ (List.mem_of_getElem? hq)
 have hl := (List.getElem?_eq_some_iff.1 ht).1
 have hlen : (Li.cellsL cellsV l).length = l.length * 3 := Li.cellsL_len cellsV_len l
 have e : ∀ i < 3, ∀ u, (cellsV v)[i]? = some u → w.cell? ⟨b, t * 3 + i, none⟩ = some u := fun i hi u hu => by
  rw [hx.cellAt (t * 3 + i) (by show t * 3 + i < l.length * 3; omega)]
  exact Li.cellsL_at cellsV_len l t v ht i u hu
 exact ⟨e 0 (by decide) _ rfl, e 1 (by decide) _ rfl, e 2 (by decide) _ rfl, fun i => hx.frozenAt i⟩
theorem Rd.skip (r : Rd ks s K base n f h os w) (hkl : ks.length = K) (hk8 : K ≤ 8) (hq : os[q]? = some ⟨b, c, l⟩) (hk : ks[t]? = some k) (hn : q * K + t = n) (hb : bitA s n = false) : Rd ks s K base (n + 1) (f.extract (oneW k) f.size) h os w := by
 obtain ⟨h1, h2⟩ := r.lrow hq
 have hq8 : q < 8 := by have := (List.getElem?_eq_some_iff.1 hq).1; have := r.len; omega
 have hu := upto_skip r.upto r.blank (by rw [hkl]; exact r.k) (by rw [List.length_map]; exact r.len) (by omega) h2 hk (by rw [hkl]; exact hn) hb
 have hw := r.wide hkl hq8 hk hn
 exact ⟨r.row, r.free, r.len, r.k, r.ok, hu.1, hu.2, by rw [ByteArray.size_extract]; omega, r.hs⟩
theorem Rd.zero (r : Rd ks s K base n f h os w) (hkl : ks.length = K) (hq : os[q]? = some ⟨b, c, l⟩) (hk : ks[t]? = some k) (hn : q * K + t = n) : l[t]? = some vZ := by
 obtain ⟨h1, h2⟩ := r.lrow hq
 have ht := (List.getElem?_eq_some_iff.1 hk).1
 have hl : l[t]? = some (l[t]'(by omega)) := List.getElem?_eq_getElem _
 have hf := flat_at (by rw [hkl]; exact r.k) h2 hl hk
 rw [hkl, hn] at hf
 have := r.blank n _ (Nat.le_refl _) hf
 rw [hl]
 exact congrArg some this
theorem Rd.read (r : Rd ks s K base n f h os w) (hkl : ks.length = K) (hk8 : K ≤ 8) (hq : os[q]? = some ⟨b, c, l⟩) (hk : ks[t]? = some k) (hkk : k = 1 ∨ k = 2 ∨ k = 3) (hn : q * K + t = n) (hb : bitA s n = true) :
  Rd ks s K base (n + 1) (f.extract (oneW k) f.size) (h.extract (readC k f h).s.size h.size) (os.set q ⟨b, c, l.set t (readC k f h)⟩) (putV w b t (readC k f h)) := by
 obtain ⟨h1, h2⟩ := r.lrow hq
 have ht := (List.getElem?_eq_some_iff.1 hk).1
 have hq8 : q < 8 := by have := (List.getElem?_eq_some_iff.1 hq).1; have := r.len; omega
 have hu := upto_read r.upto r.blank (by rw [hkl]; exact r.k) (by rw [List.length_map]; exact r.len) (by omega) h2 hk (by rw [hkl]; exact hn) hb
 have hw := r.wide hkl hq8 hk hn
 have hm : (os.set q ⟨b, c, l.set t (readC k f h)⟩).map Li.OG.l = (os.map Li.OG.l).set q (l.set t (readC k f h)) := by rw [List.map_set]
 have hi : t < l.length := by omega
 refine ⟨putV_row (x := ⟨b, c, l⟩) r.free hq r.row, putV_free (x := ⟨b, c, l⟩) r.free hq hi, by rw [List.length_set]; exact r.len, fun x hx => ?_, fun x hx v hv => ?_, by rw [hm]; exact hu.1, by rw [hm]; exact hu.2, by rw [ByteArray.size_extract]; omega, by have := r.hs; rw [ByteArray.size_extract]; omega⟩
 ·rw [hm] at hx
  rcases List.mem_or_eq_of_mem_set hx with hx | rfl
  ·exact r.k x hx
  ·rw [List.length_set]
   exact h1
 ·rw [hm] at hx
  rcases List.mem_or_eq_of_mem_set hx with hx | rfl
  ·exact r.ok x hx v hv
  ·rcases List.mem_or_eq_of_mem_set hv with hv | rfl
   ·exact r.ok l (List.mem_of_getElem? h2) v hv
   ·exact readC_ok hkk
end
set_option maxRecDepth 20000 in
set_option maxHeartbeats 16000000 in
theorem readF_any (nm : ByteArray) (A1 A2 : Option Addr) (cp cp2 : Nat) (cs : List C) (g : List Int) (s : ByteArray) (lo1 lo2 : Nat) (w : World) (h1 : HasCols w lo1 A1 cs) (h2 : HasI w lo2 A2 g) (hl1 : cs.length ≤ 9223372036854775807) (hg : ∀ c ∈ g, 0 ≤ c ∧ c < cs.length) (hg1 : 1 ≤ g.length) (hg8 : g.length ≤ 8) (hkk : ∀ k ∈ kindsL cs g, k = 1 ∨ k = 2 ∨ k = 3) (hs : s.size ≤ 1000000) :
  Calls Tryd.prog 44 #[.agg #[.string nm, .slice A1 cs.length cp], .slice A2 g.length cp2, .string s] w (ReadPostF g.length (readM (kindsL cs g) s) w) := by
 have hnew := (Below.refl w.heap.size w).alloc (Nat.le_refl _) (.cells #[.string nm, .slice A1 cs.length cp] 24)
 have hx0 := Box2.new w (.string nm) (.slice A1 cs.length cp) 24
 have h1 := h1.below hnew (Nat.le_refl _)
 have h2 := h2.below hnew (Nat.le_refl _)
 generalize hw1 : w.alloc (.cells #[.string nm, .slice A1 cs.length cp] 24) = w1 at hx0 hnew h1 h2
 have hck := kindsOf_any nm A1 A2 cp cp2 cs g lo1 lo2 w1 h1 h2 hl1 (by omega) hg
 obtain ⟨ks, hks⟩ : ∃ ks, kindsL cs g = ks := ⟨_, rfl⟩
 have hkl : ks.length = g.length := by rw [← hks, kinds_len]
 rw [hks] at hck hkk ⊢
 have hPB := fun (v : Value) (w' : World) (h : readM ks s = none) => ReadPostF.bad (m := g.length) (v := v) (w := w) (w' := w') h
 have hPG := fun (R cp base : Nat) (w' : World) (os : List (Li.OG V)) (h : readM ks s = some (os.map Li.OG.l)) => ReadPostF.good (m := g.length) (R := R) (cp := cp) (base := base) (w := w) (w' := w') (os := os) h
 generalize ReadPostF g.length (readM ks s) w = post at hPB hPG ⊢
 have HPB := Lib.hid hPB
 have HPG := Lib.hid hPG
 clear hPB hPG
 have hcf := fun (A : Option Addr) (c lo : Nat) (W : World) (hI : HasI W lo A ks) => fixed_any A c lo ks W hI hkk (by omega)
 obtain ⟨K, hK⟩ : ∃ m, g.length = m := ⟨_, rfl⟩
 rw [hK] at hkl hg1 hg8 hck ⊢
 unfold KindsOfPost at hck
 rw [hkl] at hck hcf
 obtain ⟨u, hu⟩ : ∃ u, 8 * wide ks = u := ⟨_, rfl⟩
 have hub : u ≤ 512 := by have := wide_le ks; omega
 rw [hu] at hcf
 have HG := Lib.hid (And.intro hg (And.intro hK hks))
 have HK := Lib.hid (And.intro hkl (And.intro hkk hu))
 have HC := Lib.hid (And.intro h1 h2)
 have HX0 := Lib.hid hx0
 have HCF := Lib.hid hcf
 have c0 := hx0.c0
 have c1 := hx0.c1
 clear hkl hkk h1 h2 hg hK hu hcf hx0
 go_enter Tryd.func44, Tryd.ntmps44
 go_wp2_with fail
 clear hw1 c0 c1
 refine hck.mono ?_
 rintro e w2 ⟨AK, ck, rfl, _, hI, hy⟩
 have HX0 := Lib.hid (HX0.out.below hy HX0.out.lt)
 have HC := Lib.hid (And.intro (HC.out.1.below hy (Nat.le_refl _)) (HC.out.2.below hy (Nat.le_refl _)))
 have hB2 := hnew.trans (hy.mono hnew.size)
 have HI := Lib.hid hI
 have HCF := Lib.hid (fun (W : World) (h : HasI W w1.heap.size AK ks) => HCF.out AK ck w1.heap.size W h)
 have hcm := fun W : World => marks_any AK K ck W (by omega)
 clear hck hy hnew hI
 go_wp2_with fail
 refine (hcm _).mono ?_
 rintro e w3 ⟨rfl, rfl⟩
 have hcf := HCF.out w3 HI.out
 go_wp2_with fail
 refine hcf.mono ?_
 rintro e w4 ⟨rfl, rfl⟩
 clear hcf
 by_cases hsz : s.size < K + u
 ·have HQ := Lib.hid (HPB.out (.slice none 0 0) w4 (small_none (by unfold heapA; rw [HK.out.1, HK.out.2.2]; exact hsz)) hB2)
  have hsi : (s.size : Int) < (K : Int) + (u : Int) := by omega
  clear hcm
  go_wp2
  exact HQ.out
 ·have hsi : ¬ (s.size : Int) < (K : Int) + (u : Int) := by omega
  have k0 : (0 : Int) ≤ (K : Int) := by omega
  have k1 : (K : Int) ≤ (s.size : Int) := by omega
  have hcfN := fun n : Nat => HCF.out (w4.drewN n) (HI.out.below (below_drewN (Below.refl w4.heap.size w4) n) (Nat.le_refl _))
  go_wp2_with fail
  go_quiet ((go_at_call 62; exact Calls.quiet_of_same (hcm _)))
  have hb5 := below_drewN (Below.refl w4.heap.size w4) nq
  generalize w4.drewN nq = w5 at hb5 ⊢
  have hcfN := fun n : Nat => HCF.out (w5.drewN n) ((HI.out.below hb5 (Nat.le_refl _)).below (below_drewN (Below.refl w5.heap.size w5) n) (Nat.le_refl _))
  have hrs : (s.extract K s.size).size = s.size - K := by rw [ByteArray.size_extract]; omega
  have hmk : (s.extract 0 K).size = K := by rw [ByteArray.size_extract]; omega
  have HBIT : Hid (∀ n, n / 8 < K → bitA (s.extract 0 K) n = bitA s n) := Lib.hid (fun n hn => bit_sub hn (by omega))
  have HUP : Hid (∀ M, Upto ks s M 0 ((s.extract K s.size).extract 0 u) ((s.extract K s.size).extract u (s.extract K s.size).size)) := Lib.hid (fun M => by
   have := upto_start (ks := ks) (s := s) M s.size rfl
   rw [HK.out.1, HK.out.2.2] at this
   exact this)
  generalize s.extract K s.size = F0 at hrs HUP ⊢
  generalize s.extract 0 K = mk at hmk HBIT ⊢
  have u0 : (0 : Int) ≤ (u : Int) := by omega
  have u1 : (u : Int) ≤ (F0.size : Int) := by omega
  have HRS := Lib.hid hrs
  clear hrs
  have hb5 := Lib.hid hb5
  go_wp2_with fail
  go_quiet ((go_at_call 63; exact Calls.quiet_of_same (hcfN _)))
  have hb6 := hb5.out.trans ((below_drewN (Below.refl w5.heap.size w5) nq).mono hb5.out.size)
  generalize w5.drewN nq = w6 at hb6 ⊢
  have hf0 : (F0.extract 0 u).size = u := by have := HRS.out; rw [ByteArray.size_extract]; omega
  have hh0 : (F0.extract u F0.size).size ≤ 1000000 := by have := HRS.out; rw [ByteArray.size_extract]; omega
  generalize F0.extract 0 u = f0 at hf0 HUP ⊢
  generalize F0.extract u F0.size = h0 at hh0 HUP ⊢
  have hce := emptyF_any A2 cp2 K w6 (by omega)
  clear hcfN hcm u0 u1 k0 k1 hsi hb5
  go_wp2_with fail
  refine hce.mono ?_
  rintro e w7 ⟨os0, rfl, hel, hown, hF, hy⟩
  have hB6 := hB2.trans (hb6.mono hB2.size)
  have HI := Lib.hid (HI.out.below hb6 (Nat.le_refl _))
  have HC := Lib.hid (And.intro (HC.out.1.below hb6 (Nat.le_refl _)) (HC.out.2.below hb6 (Nat.le_refl _)))
  have HX0 := Lib.hid (HX0.out.below hb6 HX0.out.lt)
  have hR0 : Rd ks s K w6.heap.size 0 f0 h0 os0 w7 := ⟨hown, hF, by have := congrArg List.length hel; rw [List.length_map] at this; simpa [emptyM] using this, fun r hr => by
   rw [hel] at hr
   unfold emptyM at hr
   rw [List.eq_of_mem_replicate hr, List.length_replicate], fun r hr v hv => by
   rw [hel] at hr
   unfold emptyM at hr
   rw [List.eq_of_mem_replicate hr] at hv
   rw [List.eq_of_mem_replicate hv]
   exact ok_of (by decide) (by decide) (by decide) (by decide), HUP.out _, by
   rw [hel, ← HK.out.1]
   exact blank_empty, by
   rw [hf0, ← HK.out.2.2, List.drop_zero]
   unfold kindsA
   rw [wide_rep], hh0⟩
  clear hce hel hown hF hb6 hf0 hh0 HUP hb5
  generalize hbase : w6.heap.size = base at hR0 hy ⊢
  go_wp2
  go_loopw [12, 13, 15, 58] (fun x y z i wr => ∃ (q n : Nat) (f h : ByteArray) (os : List (Li.OG V)), q ≤ 8 ∧ i = .int .i64 q ∧ z = .int .i64 n ∧ x = .string f ∧ y = .string h ∧ Hid (q * K = n) ∧ Rd ks s K base n f h os wr ∧ Below base w6 wr) (fun _ _ _ i _ => 8 - (intOf i).toNat)
  case atStart => exact ⟨0, 0, f0, h0, os0, Nat.zero_le _, rfl, rfl, rfl, rfl, Lib.hid (by simp), hR0, hy⟩
  case round =>
   clear hR0 hy
   obtain ⟨q, n0, f, h, os, hq, rfl, rfl, rfl, rfl, hN, hR, hB⟩ := hrel
   by_cases hlt : q < 8
   ·have i1 : (q : Int) < 8 := by omega
    have i0 : (0 : Int) ≤ (q : Int) := by omega
    have hxq : os[q]? = some (os[q]'(by have := hR.len; omega)) := List.getElem?_eq_getElem _
    generalize (os[q]'(by have := hR.len; omega)) = x at hxq
    obtain ⟨xb, xc, xl⟩ := x
    have hxl := (hR.lrow hxq).1
    have d0 := hR.row.cellAt q (by omega)
    rw [List.getElem?_map, hxq] at d0
    have d1 : wr.cell? ⟨base, q, none⟩ = some (.slice (some ⟨xb, 0, none⟩) xl.length xc) := d0
    rw [hxl] at d1
    clear d0
    have HX : Hid (∃ l, os[q]? = some ⟨xb, xc, l⟩) := Lib.hid ⟨xl, hxq⟩
    have HR := Lib.hid (And.intro hR hB)
    clear hR hB hxl hxq
    go_wp2
    clear d1
    go_loopw [12, 13, 15, 64] (fun x y z i wr => ∃ (t n : Nat) (f h : ByteArray) (os : List (Li.OG V)), t ≤ K ∧ i = .int .i64 t ∧ z = .int .i64 n ∧ x = .string f ∧ y = .string h ∧ Hid (q * K + t = n) ∧ Hid (∃ l, os[q]? = some ⟨xb, xc, l⟩) ∧ Rd ks s K base n f h os wr ∧ Below base w6 wr) (fun _ _ _ i _ => K - (intOf i).toNat)
    case atStart => exact ⟨0, n0, f, h, os, Nat.zero_le _, rfl, rfl, rfl, rfl, Lib.hid (by rw [Nat.add_zero]; exact hN.out), HX, HR.out.1, HR.out.2⟩
    case round =>
     clear HR HX
     obtain ⟨t, n, f, h, os, ht, rfl, rfl, rfl, rfl, HN, HX, hR, hB⟩ := hrel
     by_cases htl : t < K
     ·have j1 : (t : Int) < (K : Int) := by omega
      have j0 : (0 : Int) ≤ (t : Int) := by omega
      have hgk : ks[t]? = some (ks[t]'(by rw [HK.out.1]; exact htl)) := List.getElem?_eq_getElem _
      generalize (ks[t]'(by rw [HK.out.1]; exact htl)) = kk at hgk
      have hkv := HK.out.2.1 kk (List.mem_of_getElem? hgk)
      have hw := hR.wide HK.out.1 hlt hgk HN.out
      have hn8 : n < 8 * K := by
       have h1 : (q + 1) * K ≤ 8 * K := Nat.mul_le_mul_right _ hlt
       rw [Nat.add_mul] at h1
       have := HN.out
       omega
      obtain ⟨b3, o3, rfl, _, hlb3, f1⟩ := HasI.at HI.out hgk
      have f1 := cell_below (hbase ▸ hB) f1
      obtain ⟨j8, hj8⟩ : ∃ j8 : Nat, (n : Int) / 8 = (j8 : Int) := ⟨n / 8, by omega⟩
      obtain ⟨m8, hm8⟩ : ∃ m8 : Nat, (n : Int) % 8 = (m8 : Int) := ⟨n % 8, by omega⟩
      have hj8s : j8 < mk.size := by omega
      have hm88 : m8 < 8 := by omega
      have hbit := bit_read hj8s (show n / 8 = j8 by omega) (show n % 8 = m8 by omega)
      rw [HBIT.out n (by omega)] at hbit
      have hcw := fun W : World => width_any kk W hkv
      have hfs : f.size ≤ 1000000 := by
       have h1 := wide_le ((kindsA ks).drop n)
       rw [List.length_drop, kindsA_len, HK.out.1] at h1
       have h2 := hR.fs
       omega
      have hhs := hR.hs
      obtain ⟨z, hz⟩ : ∃ z, oneW kk = z := ⟨_, rfl⟩
      have hzf : z ≤ f.size := by omega
      have z0 : (0 : Int) ≤ (z : Int) := by omega
      have z1 : (z : Int) ≤ (f.size : Int) := by omega
      obtain ⟨xl, hxq⟩ := HX.out
      cases hbb : bitA s n with
      | false =>
       rw [hbb] at hbit
       have hc := hR.cell hxq (hR.zero HK.out.1 hxq hgk HN.out)
       have c2 : wr.cell? ⟨xb, t * 3 + 2, none⟩ = some (.string ⟨#[]⟩) := hc.2.2.1
       have hR2 := hR.skip HK.out.1 hg8 hxq hgk HN.out hbb
       rw [hz] at hR2 hcw
       have HR2 := Lib.hid (And.intro hR2 hB)
       clear hc hR hR2 hB hxq hgk hw hbb hz
       go_wp2_with fail
       refine (hcw _).mono ?_
       rintro e w8 ⟨rfl, rfl⟩
       clear hcw hbit
       go_wp2
       go_roundw
       case rel => exact ⟨t + 1, n + 1, _, h, os, by omega, by go_num, by go_num, rfl, by trivial, Lib.hid (by rw [← HN.out]; omega), HX, HR2.out.1, HR2.out.2⟩
       case measure => simp [intOf]; omega
      | true =>
       rw [hbb] at hbit
       have hcr := fun W : World => readCell_any kk f h W hkv (by omega) hfs hhs
       have hus := readC_size (f := f) (h := h) hkv
       have hc := hR.cell hxq (hR.zero HK.out.1 hxq hgk HN.out)
       have HRD := Lib.hid (fun (W : World) (hR : Rd ks s K base n f h os W) => hR.read HK.out.1 hg8 hxq hgk hkv HN.out hbb)
       have HRB := Lib.hid (fun (W : World) (hR : Rd ks s K base n f h os W) (hB : Below base w6 W) => (putV_below (x := ⟨xb, xc, xl⟩) (i := t) (v := readC kk f h) hR.free hxq hB (Nat.le_refl _)))
       have htl2 : t < xl.length := by rw [(hR.lrow hxq).1]; exact htl
       have HX2 : Hid ((os.set q ⟨xb, xc, xl.set t (readC kk f h)⟩)[q]? = some ⟨xb, xc, xl.set t (readC kk f h)⟩) := Lib.hid (by rw [List.getElem?_set_self (by have := hR.len; omega)])
       have HX3 : Hid ((xl.set t (readC kk f h))[t]? = some (readC kk f h)) := Lib.hid (by rw [List.getElem?_set_self htl2])
       rw [hz] at HRD hcw
       generalize readC kk f h = uv at hcr hus HRD HRB HX2 HX3
       obtain ⟨uk, un, us⟩ := uv
       have hcr : ∀ W : World, Calls Tryd.prog 65 #[.int .i64 kk, .string f, .string h] W fun e w' => e = .returned (.agg #[.int .i64 uk, .int .i64 un, .string us]) ∧ Below W.heap.size W w' := hcr
       have hus : us.size ≤ h.size := hus
       have v0 : (0 : Int) ≤ (us.size : Int) := by omega
       have v1 : (us.size : Int) ≤ (h.size : Int) := by omega
       have HR := Lib.hid (And.intro hR hB)
       have HCC := Lib.hid hc
       clear hc hR hB hxq hgk hw hbb hz
       go_wp2_with fail
       refine (hcr _).mono ?_
       rintro e w8 ⟨rfl, hy8⟩
       have hlt8 := HR.out.1.lt
       have hR8 := HR.out.1.below hy8 (Nat.le_refl _)
       have hB8 := HR.out.2.trans (hy8.mono (Nat.le_of_lt hlt8))
       have hR9 := HRD.out w8 hR8
       have hB9 := HRB.out w8 hR8 hB8
       have hc9 := (hR9.cell HX2.out HX3.out).2.2.1
       have x0 := cell_below hy8 HCC.out.1
       have x1 := cell_below hy8 HCC.out.2.1
       have x2 := cell_below hy8 HCC.out.2.2.1
       obtain ⟨xl8, hx8⟩ := HX.out
       have xf := fun i => (hR8.free.own _ (List.mem_of_getElem? hx8)).frozenAt i
       have xf : ∀ i, w8.frozen? ⟨xb, i, none⟩ = false := xf
       have HR9 := Lib.hid (And.intro hR9 (And.intro hB9 hc9))
       clear hcr hy8 hR8 hB8 hR9 hB9 hc9 hlt8 hbit hx8
       go_wp2_with fail
       obtain ⟨hR9, hB9, c2⟩ := HR9.out
       clear x0 x1 x2 xf HR9 HCC HRD HRB
       unfold putV at hR9 hB9 c2
       simp only at hR9 hB9 c2
       generalize ((w8.setCell ⟨xb, t * 3, none⟩ (.int .i64 uk)).setCell ⟨xb, t * 3 + 1, none⟩ (.int .i64 un)).setCell ⟨xb, t * 3 + 2, none⟩ (.string us) = w9 at hR9 hB9 c2 ⊢
       have HR9 := Lib.hid (And.intro hR9 hB9)
       clear hR9 hB9
       refine (hcw _).mono ?_
       rintro e w10 ⟨rfl, rfl⟩
       clear hcw
       go_wp2
       go_roundw
       case rel => exact ⟨t + 1, n + 1, _, _, _, by omega, by go_num, by go_num, rfl, rfl, Lib.hid (by rw [← HN.out]; omega), Lib.hid ⟨_, HX2.out⟩, HR9.out.1, HR9.out.2⟩
       case measure => simp [intOf]; omega
     ·obtain rfl : t = K := by omega
      go_wp2
      go_roundw
      case rel => exact ⟨q + 1, n, f, h, os, by omega, by go_num, by trivial, rfl, rfl, Lib.hid (by rw [Nat.add_mul, Nat.one_mul]; exact HN.out), hR, hB⟩
      case measure => simp [intOf]; omega
   ·obtain rfl : q = 8 := by omega
    have hB0 : Below w6.heap.size w6 wr := hbase ▸ hB
    have hlen8 : os.length = 8 := hR.len
    have hl8 : (os.map Li.OG.l).length = 8 := by rw [List.length_map]; exact hlen8
    have hown' := hR.row
    rw [← Li.cells_og] at hown'
    obtain ⟨A', c', e', hcc, hl⟩ := Li.list_of_own Li.cellsG_len hown' (by rw [List.length_map, hlen8])
    injection e' with e1 _ e3
    subst e1 e3
    have hVV : HasVV wr base (some ⟨base, 0, none⟩) (os.map Li.OG.l) := ⟨os.map Li.OG.gr, by rw [List.map_map]; rfl, hl, fun x hx => hR.free.has cellsV_len hx⟩
    have hcP := printW_any nm A1 A2 (some ⟨base, 0, none⟩) cp cp2 8 cs g (os.map Li.OG.l) lo1 lo2 base wr (HC.out.1.below hB0 (Nat.le_refl _)) (HC.out.2.below hB0 (Nat.le_refl _)) hVV hl1 HG.out.1 (by rw [HG.out.2.1]; exact hg1) (by rw [HG.out.2.1]; exact hg8) (by rw [HG.out.2.2]; exact HK.out.2.1) hl8 (by rw [HG.out.2.1]; exact hR.k) hR.ok
    rw [HG.out.2.1, HG.out.2.2] at hcP
    have hxq := HX0.out.below hB0 HX0.out.lt
    have c0 := hxq.c0
    have c1 := hxq.c1
    have hrw : ∀ r ∈ os.map Li.OG.l, r.length = ks.length := by rw [HK.out.1]; exact hR.k
    by_cases hsame : printW ks (os.map Li.OG.l) = s
    ·have hall : ((flat ks (os.map Li.OG.l)).all fun p => fitM p.1 p.2) = true := by
      cases e : ((flat ks (os.map Li.OG.l)).all fun p => fitM p.1 p.2) with
      | true => rfl
      | false =>
       unfold printW at hsame
       rw [if_neg (by rw [e]; decide)] at hsame
       rw [← hsame] at hsz
       exact absurd (show (⟨#[]⟩ : ByteArray).size < K + u from by show 0 < K + u; omega) hsz
     have hRM := all_right hl8 hrw HK.out.2.1 hR.ok hall
     have hpm : printM ks (os.map Li.OG.l) = s := by
      unfold printW at hsame
      rwa [if_pos hall] at hsame
     have HQ := Lib.hid (fun (w' : World) => HPG.out base 8 base w' os (by rw [← hpm]; exact read_print hRM) (hbase ▸ hB6.size))
     have HF := Lib.hid (And.intro hR.row (And.intro hR.free hB0))
     rw [hsame] at hcP
     have HB6 := Lib.hid hB6
     clear hown' hcc hl hVV hRM hsame hxq hpm hall hR hB hB0 hB6 hrw
     go_wp2_with fail
     refine hcP.mono ?_
     rintro e w8 ⟨rfl, hw8⟩
     have HE := Lib.hid (HQ.out w8 (Li.own_below HF.out.1 hw8 (Nat.le_refl _)) (HF.out.2.1.below hw8 (Nat.le_refl _)) (HB6.out.trans ((HF.out.2.2.trans (hw8.mono HF.out.2.2.size)).mono HB6.out.size)))
     clear hcP hw8 c0 c1
     go_wp2
     exact HE.out
    ·have hnone : readM ks s = none := read_none fun cells hc e => hsame (by
      have hU := hR.upto
      rw [← hN.out, ← HK.out.1] at hU
      have hM := upto_end hU hrw hl8 hc e
      rw [hM]
      unfold printW
      rw [if_pos (right_all hc), e])
     have HQ := Lib.hid (fun (w' : World) => HPB.out (.slice none 0 0) w' hnone)
     have HF := Lib.hid (And.intro hB0 hB6)
     generalize printW ks (os.map Li.OG.l) = x at hcP hsame
     clear hown' hcc hl hVV hxq hnone hR hB hB0 hB6 hrw
     go_wp2_with fail
     refine hcP.mono ?_
     rintro e w8 ⟨rfl, hw8⟩
     have HE := Lib.hid (HQ.out w8 (HF.out.2.trans ((HF.out.1.trans (hw8.mono HF.out.1.size)).mono HF.out.2.size)))
     have hne : (x.toList == s.toList) = false := beq_eq_false_iff_ne.2 (fun e => hsame (by apply bytesEq'; rw [← ByteArray.toList_eq, ← ByteArray.toList_eq]; exact e))
     clear hcP hw8 c0 c1
     go_wp2
     exact HE.out
end Go.Proofs.YtpnnkhpokangfaaDoor.Mi

/- What the program's three calls of a group say. -/
namespace Go.Proofs.YtpnnkhpokangfaaDoor.Mi
open Go.RowKit Pac Va Sc Ro Lex

/-- What is read of any bytes. -/
def ReadPost (o : Option (List (List V))) (w : World) (e : Ending) (w' : World) : Prop :=
 ∃ (v : Value) (b : Bool), e = .returned (.tuple #[v, .bool b]) ∧ b = o.isSome ∧ (∀ cells, o = some cells → ∃ A cp, v = .slice A cells.length cp ∧ HasVV w' w.heap.size A cells) ∧ Below w.heap.size w w'
theorem right_ok {ks : List Int} {cells : List (List V)} (h : RightM ks cells) : ∀ r ∈ cells, ∀ v ∈ r, v.Ok := fun r hr v hv => by
 obtain ⟨i, hi⟩ := List.mem_iff_getElem?.1 hr
 obtain ⟨j, hj⟩ := List.mem_iff_getElem?.1 hv
 have hl := h.row r hr
 have hjl := (List.getElem?_eq_some_iff.1 hj).1
 have hk : ks[j]? = some (ks[j]'(by omega)) := List.getElem?_eq_getElem _
 exact (h.ok _ (List.mem_of_getElem? (flat_at h.row hi hj hk))).ok
theorem print_any (nm : ByteArray) (A1 A2 A3 : Option Addr) (cp cp2 cp3 : Nat) (cs : List C) (g : List Int) (cells : List (List V)) (lo1 lo2 lo3 : Nat) (w : World) (h1 : HasCols w lo1 A1 cs) (h2 : HasI w lo2 A2 g) (h3 : HasVV w lo3 A3 cells) (hG : Grp nm cs g) (hr : RightM (kindsL cs g) cells) :
  Calls Tryd.prog 57 #[.agg #[.string nm, .slice A1 cs.length cp], .slice A2 g.length cp2, .slice A3 8 cp3] w fun e w' => e = .returned (.string (printM (kindsL cs g) cells)) ∧ Below w.heap.size w w' := by
 have h := printW_any nm A1 A2 A3 cp cp2 cp3 cs g cells lo1 lo2 lo3 w h1 h2 h3 (by have := hG.len; omega) hG.at' hG.g1 hG.g8 (kinds_ok hG) hr.len (fun r hr' => by rw [hr.row r hr', kinds_len]) (right_ok hr)
 unfold printW at h
 rwa [if_pos (right_all hr)] at h
theorem read_any (nm : ByteArray) (A1 A2 : Option Addr) (cp cp2 : Nat) (cs : List C) (g : List Int) (s : ByteArray) (lo1 lo2 : Nat) (w : World) (h1 : HasCols w lo1 A1 cs) (h2 : HasI w lo2 A2 g) (hG : Grp nm cs g) (hs : s.size ≤ 1000000) :
  Calls Tryd.prog 44 #[.agg #[.string nm, .slice A1 cs.length cp], .slice A2 g.length cp2, .string s] w (ReadPost (readM (kindsL cs g) s) w) := by
 refine (readF_any nm A1 A2 cp cp2 cs g s lo1 lo2 w h1 h2 (by have := hG.len; omega) hG.at' hG.g1 hG.g8 (kinds_ok hG) hs).mono ?_
 rintro e w' ⟨v, b, he, hb, hc, hB⟩
 refine ⟨v, b, he, hb, fun cells ho => ?_, hB⟩
 obtain ⟨A, cp', hs', hv, _, h8, hl, hL, hx, _⟩ := hc cells ho
 exact ⟨A, cp', by rw [h8]; exact hv, hs', hl, hL, hx⟩
end Go.Proofs.YtpnnkhpokangfaaDoor.Mi
