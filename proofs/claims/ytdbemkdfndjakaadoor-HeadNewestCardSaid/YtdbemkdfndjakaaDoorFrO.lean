/- The document's sum, bit by bit, and its seal, walked. -/
import Derived.Test.YtdbemkdfndjakaaDoorQuA
namespace Go.Proofs.YtdbemkdfndjakaaDoor.Fr
open Go.RowKit Tal Lf
/-- A step of one bit, and one that takes a bit in. -/
def bst (x : Nat) : Nat := x / 2 ^^^ (if x % 2 = 1 then 3988292384 else 0)
def nxt (r b : Nat) : Nat := r / 2 ^^^ (if r % 2 ^^^ b = 1 then 3988292384 else 0)
theorem xor_half (a b : Nat) : (a ^^^ b) / 2 = a / 2 ^^^ b / 2 := by
  have := Nat.shiftRight_xor_distrib (a := a) (b := b) (i := 1)
  simpa [Nat.shiftRight_eq_div_pow] using this
theorem xor_par (a b : Nat) : (a ^^^ b) % 2 = a % 2 ^^^ b % 2 := Nat.xor_mod_two_pow (n := 1)
theorem bst_even (x c : Nat) : bst (x ^^^ 2 * c) = bst x ^^^ c := by
  unfold bst
  rw [xor_half, xor_par, show 2 * c / 2 = c by omega, show 2 * c % 2 = 0 by omega, Nat.xor_zero, Nat.xor_assoc, Nat.xor_assoc, Nat.xor_comm c]
theorem split_low (c : Nat) : c = c % 2 ^^^ 2 * (c / 2) := by
  apply Nat.eq_of_testBit_eq
  intro i
  rw [Nat.testBit_xor]
  cases i with
  | zero => simp [Nat.testBit_zero]
  | succ i =>
    have e1 : (c % 2).testBit (i + 1) = false := by rw [Nat.testBit_succ, show c % 2 / 2 = 0 by omega, Nat.zero_testBit]
    have e2 : (2 * (c / 2)).testBit (i + 1) = c.testBit (i + 1) := by rw [Nat.testBit_succ, Nat.testBit_succ, show 2 * (c / 2) / 2 = c / 2 by omega]
    rw [e1, e2]; simp
theorem nxt_bst (r b : Nat) (hb : b < 2) : nxt r b = bst (r ^^^ b) := by
  unfold nxt bst
  rw [xor_half, xor_par, show b / 2 = 0 by omega, show b % 2 = b by omega, Nat.xor_zero]
theorem bst_in (r c : Nat) : bst (r ^^^ c) = nxt r (c % 2) ^^^ (c / 2) := by
  have h : r ^^^ c = (r ^^^ c % 2) ^^^ 2 * (c / 2) := by rw [Nat.xor_assoc, ← split_low]
  rw [h, bst_even, nxt_bst _ _ (by omega)]
theorem split16 (x : Nat) : x = x % 16 ^^^ 2 * (2 * (2 * (2 * (x / 16)))) := by
  have h : x = x % 16 ^^^ 16 * (x / 16) := by
    apply Nat.eq_of_testBit_eq
    intro i
    rw [Nat.testBit_xor, show 16 * (x / 16) = 2 ^ 4 * (x / 16) from rfl, Nat.testBit_two_pow_mul, show x % 16 = x % 2 ^ 4 from rfl, Nat.testBit_mod_two_pow, show x / 16 = x / 2 ^ 4 from rfl, Nat.testBit_div_two_pow]
    by_cases hi : i < 4
    · simp [hi, Nat.not_le.2 hi]
    · simp [hi, Nat.le_of_not_lt hi, Nat.sub_add_cancel (Nat.le_of_not_lt hi)]
  rw [show 2 * (2 * (2 * (2 * (x / 16)))) = 16 * (x / 16) by omega]
  exact h
theorem four_small : ∀ m, m < 16 → bst (bst (bst (bst m))) = hv m := by decide
/-- Four steps of one bit are a half byte's. -/
theorem four_bst (x : Nat) : bst (bst (bst (bst x))) = nib x := by
  have h := split16 x
  have e : bst (bst (bst (bst (x % 16 ^^^ 2 * (2 * (2 * (2 * (x / 16)))))))) = bst (bst (bst (bst (x % 16)))) ^^^ x / 16 := by
    rw [bst_even, bst_even, bst_even, bst_even]
  rw [four_small (x % 16) (Nat.mod_lt _ (by decide)), ← h] at e
  rw [e]
  unfold nib
  exact Nat.xor_comm _ _
/-- Eight bits taken in, the lowest first. -/
def in8 (r b : Nat) : Nat := nxt (nxt (nxt (nxt (nxt (nxt (nxt (nxt r (b % 2)) (b / 2 % 2)) (b / 4 % 2)) (b / 8 % 2)) (b / 16 % 2)) (b / 32 % 2)) (b / 64 % 2)) (b / 128 % 2)
theorem in8_eq (r b : Nat) (hb : b < 256) : in8 r b = nib (nib (r ^^^ b)) := by
  rw [← four_bst, ← four_bst, bst_in, bst_in, bst_in, bst_in, bst_in, bst_in, bst_in, bst_in]
  simp only [Nat.div_div_eq_div_mul, Nat.reduceMul]
  rw [show b / 256 = 0 by omega, Nat.xor_zero]
  rfl
def bitAt (l : List UInt8) (i : Nat) : Nat := (l.getD (i / 8) 0).toNat / 2 ^ (i % 8) % 2
/-- What stands there behind i bits. -/
def brun (l : List UInt8) : Nat → Nat
  | 0 => 4294967295
  | i + 1 => nxt (brun l i) (bitAt l i)
theorem bitAt_at (l : List UInt8) (k j : Nat) (hj : j < 8) : bitAt l (8 * k + j) = (l.getD k 0).toNat / 2 ^ j % 2 := by
  unfold bitAt
  rw [show (8 * k + j) / 8 = k by omega, show (8 * k + j) % 8 = j by omega]
theorem brun_next (l : List UInt8) (k : Nat) : brun l (8 * (k + 1)) = in8 (brun l (8 * k)) (l.getD k 0).toNat := by
  have b0 := bitAt_at l k 0 (by decide)
  have b1 := bitAt_at l k 1 (by decide)
  have b2 := bitAt_at l k 2 (by decide)
  have b3 := bitAt_at l k 3 (by decide)
  have b4 := bitAt_at l k 4 (by decide)
  have b5 := bitAt_at l k 5 (by decide)
  have b6 := bitAt_at l k 6 (by decide)
  have b7 := bitAt_at l k 7 (by decide)
  rw [show 8 * (k + 1) = 8 * k + 7 + 1 by omega]
  show nxt (nxt (nxt (nxt (nxt (nxt (nxt (nxt (brun l (8 * k)) (bitAt l (8 * k + 0))) (bitAt l (8 * k + 1))) (bitAt l (8 * k + 2))) (bitAt l (8 * k + 3))) (bitAt l (8 * k + 4))) (bitAt l (8 * k + 5))) (bitAt l (8 * k + 6))) (bitAt l (8 * k + 7)) = _
  rw [b0, b1, b2, b3, b4, b5, b6, b7]
  simp only [Nat.reducePow, Nat.div_one]
  rfl
theorem brun_bytes (l : List UInt8) : ∀ k, k ≤ l.length → brun l (8 * k) = run 4294967295 (l.take k) := by
  intro k
  induction k with
  | zero => intro _; rfl
  | succ k ih =>
    intro hk
    rw [brun_next, ih (by omega), in8_eq _ _ (byte_lt _), List.take_succ_eq_append_getElem (by omega), run_snoc]
    unfold Tal.step
    rw [List.getD_eq_getElem?_getD, List.getElem?_eq_getElem (by omega)]
    rfl
theorem nxt_lt {r b : Nat} (h : r < 4294967296) : nxt r b < 4294967296 := by
  unfold nxt
  exact xor_lt (by omega) (by split <;> decide)
theorem brun_all (s : ByteArray) : brun s.data.toList (8 * s.size) = run 4294967295 s.data.toList := by
  have h := brun_bytes s.data.toList s.size (by simp)
  rwa [List.take_of_length_le (by simp)] at h
theorem bit_of (s : ByteArray) (k : Nat) (h : k / 8 < s.size) : bits .and .u32 (((s[k / 8]'h).toNat : Int) / 2 ^ (k % 8) % 4294967296) 1 = ((bitAt s.data.toList k : Nat) : Int) := by
  have hb := (s[k / 8]'h).toNat_lt
  have e : (s.data.toList.getD (k / 8) 0) = s[k / 8]'h := by rw [List.getD_eq_getElem?_getD, byte_of h]; rfl
  unfold bitAt
  rw [e]
  generalize (s[k / 8]'h).toNat = a at hb
  have e2 : (a : Int) / 2 ^ (k % 8) = ((a / 2 ^ (k % 8) : Nat) : Int) := by push_cast; rfl
  have hq : a / 2 ^ (k % 8) ≤ a := Nat.div_le_self _ _
  rw [e2]
  generalize a / 2 ^ (k % 8) = q at hq
  rw [show ((q : Nat) : Int) % 4294967296 = ((q : Nat) : Int) by omega, show (1 : Int) = ((1 : Nat) : Int) from rfl, u32_and_nat _ _ (by omega) (by omega), show q &&& 1 = q % 2 from Nat.and_one_is_mod q]
theorem bitAt_lt (l : List UInt8) (i : Nat) : bitAt l i < 2 := by unfold bitAt; exact Nat.mod_lt _ (by decide)
/-- A step as it is walked. -/
theorem bit_walk (r b : Nat) (hr : r < 4294967296) (hb : b < 2) : ∃ o : Nat, o < 2 ∧ bits .xor .u32 (bits .and .u32 (r : Int) 1) (b : Int) = (o : Int) ∧ (o = 1 → ∃ z : Nat, z < 4294967296 ∧ bits .xor .u32 ((r : Int) / 2) 3988292384 = (z : Int) ∧ z = nxt r b) ∧ (¬ o = 1 → r / 2 = nxt r b) := by
  refine ⟨r % 2 ^^^ b, by rcases Nat.mod_two_eq_zero_or_one r with h | h <;> rcases (by omega : b = 0 ∨ b = 1) with h2 | h2 <;> rw [h, h2] <;> decide, ?_, ?_, ?_⟩
  · rw [show (1 : Int) = ((1 : Nat) : Int) from rfl, u32_and_nat _ _ hr (by omega), show r &&& 1 = r % 2 from Nat.and_one_is_mod r, u32_xor_nat _ _ (by omega) (by omega)]
  · intro h
    refine ⟨nxt r b, nxt_lt hr, ?_, rfl⟩
    rw [show (r : Int) / 2 = ((r / 2 : Nat) : Int) by omega, show (3988292384 : Int) = ((3988292384 : Nat) : Int) from rfl, u32_xor_nat _ _ (by omega) (by omega)]
    unfold nxt
    rw [if_pos h]
  · intro h
    unfold nxt
    rw [if_neg h, Nat.xor_zero]
set_option maxRecDepth 20000 in
set_option maxHeartbeats 1600000 in
theorem refOf_any (s : ByteArray) (w : World) (hs : s.size ≤ 1000000) :
    Calls Tryd.prog 47 #[.string s] w fun e w' => e = .returned (.int .u32 (crc s.data.toList)) ∧ w' = w := by
  go_enter Tryd.func47, Tryd.ntmps47
  go_wp2
  go_loop [3, 4] (fun v i => ∃ k : Nat, k ≤ 8 * s.size ∧ i = .int .i64 k ∧ ∃ x : Nat, x < 4294967296 ∧ v = .int .u32 x ∧ Hid (x = brun s.data.toList k)) (fun _ i => 8 * s.size - (intOf i).toNat)
  case atStart => exact ⟨0, Nat.zero_le _, rfl, 4294967295, by omega, rfl, Lib.hid rfl⟩
  case round =>
    obtain ⟨k, hk, rfl, x, hx, rfl, hr⟩ := hrel
    by_cases hlt : k < 8 * s.size
    · have HB := Lib.hid (bit_of s k (by omega))
      have HW := Lib.hid (bit_walk x (bitAt s.data.toList k) hx (bitAt_lt _ _))
      have hnx : Hid (brun s.data.toList (k + 1) = nxt (brun s.data.toList k) (bitAt s.data.toList k)) := Lib.hid rfl
      rw [← hr.out] at hnx
      go_wp2
      · rename (_ == _) = true => hc
        obtain ⟨o, ho, h1, h2, h3⟩ := HW.out
        rw [HB.out, h1] at hc
        have ho1 : o = 1 := by have h5 := beq_iff_eq.1 hc; omega
        obtain ⟨z, hz, h4, hzn⟩ := h2 ho1
        rw [h4]
        clear hc
        go_round
        case rel => exact ⟨k + 1, by omega, by go_num, z, hz, rfl, Lib.hid (by rw [hzn, hnx.out])⟩
        case measure => simp [intOf]; omega
      · rename (_ == _) = false => hc
        obtain ⟨o, ho, h1, h2, h3⟩ := HW.out
        rw [HB.out, h1] at hc
        have ho1 : ¬ o = 1 := by have h5 := beq_eq_false_iff_ne.1 hc; omega
        clear hc
        go_round
        case rel => exact ⟨k + 1, by omega, by go_num, x / 2, by omega, by go_num, Lib.hid (by rw [h3 ho1, hnx.out])⟩
        case measure => simp [intOf]; omega
    · obtain rfl : k = 8 * s.size := by omega
      obtain ⟨z, hz, e1⟩ := not_walk x hx
      have HZ := Lib.hid hz
      clear hz
      go_wp2
      go_ret
      exact ⟨by rw [HZ.out, hr.out, brun_all]; rfl, rfl⟩
end Go.Proofs.YtdbemkdfndjakaaDoor.Fr
