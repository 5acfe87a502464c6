/- The number that bytes begin with, plainly. No program. -/
import Derived.Test.YtjjedadhkdpceaaPacB
namespace Go.Proofs.Ytjjedadhkdpceaa.Pac
open Go.RowKit

def val : List UInt8 → Nat
  | [] => 0
  | b :: r => b.toNat % 128 + 128 * val r
theorem val_snoc (l : List UInt8) (b : UInt8) : val (l ++ [b]) = val l + b.toNat % 128 * 128 ^ l.length := by
  induction l with
  | nil => simp [val]
  | cons a l ih =>
    simp only [List.cons_append, val, ih, List.length_cons, Nat.pow_succ]
    generalize 128 ^ l.length = q
    rw [Nat.mul_add, Nat.add_assoc]
    congr 2
    rw [Nat.mul_comm 128, Nat.mul_assoc]
theorem val_lt (l : List UInt8) : val l < 128 ^ l.length := by
  induction l with
  | nil => simp [val]
  | cons a l ih =>
    simp only [val, List.length_cons, Nat.pow_succ]
    omega
/-- A form has its end where the first small byte is, and tells its number. -/
theorem enc_shape (f u : Nat) (h : u < 128 ^ f) (hf : 1 ≤ f) : ∃ q b, encF f u = q ++ [b] ∧ b.toNat < 128 ∧ (∀ x ∈ q, 128 ≤ x.toNat) ∧ val (encF f u) = u := by
  induction f generalizing u with
  | zero => omega
  | succ f ih =>
    simp only [encF]
    split
    · rename_i hu
      refine ⟨[], UInt8.ofNat u, rfl, by rw [ofNat_toNat _ (by omega)]; exact hu, by simp, ?_⟩
      simp only [val]
      rw [ofNat_toNat _ (by omega)]
      omega
    · rename_i hu
      have hf1 : 1 ≤ f := by
        rcases Nat.eq_zero_or_pos f with h0 | h0
        · subst h0; simp at h; omega
        · exact h0
      have hlt : u / 128 < 128 ^ f := by
        rw [Nat.pow_succ] at h
        exact Nat.div_lt_of_lt_mul (by omega)
      obtain ⟨q, b, e, hb, hq, hv⟩ := ih (u / 128) hlt hf1
      refine ⟨UInt8.ofNat (u % 128 + 128) :: q, b, by rw [e]; rfl, hb, ?_, ?_⟩
      · intro x hx
        rcases List.mem_cons.1 hx with rfl | hx
        · rw [ofNat_toNat _ (by omega)]; omega
        · exact hq x hx
      · simp only [val]
        rw [hv, ofNat_toNat _ (by omega)]
        omega
theorem first_small {q q' r r' : List UInt8} {b b' : UInt8} (hq : ∀ x ∈ q, 128 ≤ x.toNat) (hb : b.toNat < 128) (hq' : ∀ x ∈ q', 128 ≤ x.toNat) (hb' : b'.toNat < 128)
    (h : q ++ b :: r = q' ++ b' :: r') : q = q' ∧ b = b' ∧ r = r' := by
  induction q generalizing q' with
  | nil =>
    cases q' with
    | nil => simp at h; exact ⟨rfl, h⟩
    | cons x q' =>
      simp at h
      have := hq' x (by simp)
      rw [← h.1] at this
      omega
  | cons a q ih =>
    cases q' with
    | nil =>
      simp at h
      have := hq a (by simp)
      rw [h.1] at this
      omega
    | cons x q' =>
      simp only [List.cons_append, List.cons.injEq] at h
      obtain ⟨h1, h2, h3⟩ := ih (fun y hy => hq y (by simp [hy])) (fun y hy => hq' y (by simp [hy])) h.2
      exact ⟨by rw [h.1, h1], h2, h3⟩

/-- The number that bytes begin with, and what stands behind. -/
def rdN (l : List UInt8) : Option (Nat × List UInt8) :=
  match decF 10 l with
  | some (u, r) => if u < 18446744073709551616 then some (u, r) else none
  | none => none
theorem rdN_some {l r : List UInt8} {u : Nat} (h : rdN l = some (u, r)) : l = enc u ++ r ∧ u < 18446744073709551616 := by
  unfold rdN at h
  split at h
  · rename_i u' r' hd
    split at h
    · rename_i hu
      simp only [Option.some.injEq, Prod.mk.injEq] at h
      obtain ⟨rfl, rfl⟩ := h
      exact ⟨(enc_dec 10 _ _ _ hd).1, hu⟩
    · cases h
  · cases h
theorem rdN_enc (u : Nat) (r : List UInt8) (hu : u < 18446744073709551616) : rdN (enc u ++ r) = some (u, r) := by
  unfold rdN enc
  rw [dec_enc 10 u r (lt_pow10 hu) (by omega)]
  simp [hu]
theorem rdN_yes {l : List UInt8} {u k : Nat} (hu : u < 18446744073709551616) (h : enc u = l.take k) : rdN l = some (u, l.drop k) := by
  have := rdN_enc u (l.drop k) hu
  rwa [h, List.take_append_drop] at this
theorem rdN_no {l : List UInt8} {u k : Nat} {b : UInt8} (hk : l.take (k + 1) = l.take k ++ [b]) (hq : ∀ x ∈ l.take k, 128 ≤ x.toNat) (hb : b.toNat < 128) (hu : u = val (l.take (k + 1)) % 18446744073709551616)
    (h : enc u ≠ l.take (k + 1)) : rdN l = none := by
  rcases hr : rdN l with _ | ⟨v, r⟩
  · rfl
  · exfalso
    obtain ⟨e, hv⟩ := rdN_some hr
    obtain ⟨q, c, e2, hc, hq2, hval⟩ := enc_shape 10 v (lt_pow10 hv) (by omega)
    have e3 : l.take k ++ b :: l.drop (k + 1) = q ++ c :: r := by
      have h1 : l.take k ++ b :: l.drop (k + 1) = l := by
        have := List.take_append_drop (k + 1) l
        rw [hk] at this
        simpa using this
      rw [h1, e]
      unfold enc
      rw [e2]
      simp
    obtain ⟨h1, h2, _⟩ := first_small hq hb hq2 hc e3
    apply h
    rw [hu, hk, h1, h2, ← e2, hval, Nat.mod_eq_of_lt hv]
    rfl
theorem rdN_end {l : List UInt8} (hq : ∀ x ∈ l.take 10, 128 ≤ x.toNat) : rdN l = none := by
  rcases hr : rdN l with _ | ⟨v, r⟩
  · rfl
  · exfalso
    obtain ⟨e, hv⟩ := rdN_some hr
    obtain ⟨q, c, e2, hc, hq2, _⟩ := enc_shape 10 v (lt_pow10 hv) (by omega)
    have hl : (encF 10 v).length ≤ 10 := encF_len 10 v
    have : c ∈ l.take 10 := by
      rw [e]
      unfold enc
      rw [e2]
      rw [e2] at hl
      rw [List.take_append]
      apply List.mem_append_left
      rw [List.take_of_length_le hl]
      simp
    have := hq c this
    omega

theorem orStep (k u c : Nat) (hk : k ≤ 9) (hu : u < 128 ^ k) (hc : c < 256) :
    bits .or .u64 (u : Int) (IntKind.u64.wrap (IntKind.u64.wrap (bits .andNot .u8 (c : Int) 128) * 2 ^ (k * 7))) = (((u + c % 128 * 128 ^ k) % 18446744073709551616 : Nat) : Int) := by
  have e1 : bits .andNot .u8 (c : Int) 128 = ((c % 128 : Nat) : Int) := by
    rw [show (128 : Int) = ((128 : Nat) : Int) from rfl, u8_andNot_nat _ _ hc (by omega), nat_mask7]
  have e2 : IntKind.u64.wrap ((c % 128 : Nat) : Int) = ((c % 128 : Nat) : Int) := by rw [wrapU]; omega
  rw [e1, e2]
  have e3 : IntKind.u64.wrap (((c % 128 : Nat) : Int) * 2 ^ (k * 7)) = ((c % 128 * 128 ^ k % 18446744073709551616 : Nat) : Int) := by
    rw [wrapU]
    have : (2 : Int) ^ (k * 7) = ((128 ^ k : Nat) : Int) := by
      rw [Nat.mul_comm, Int.pow_mul]
      simp
    rw [this]
    simp
  rw [e3]
  have hp : 128 ^ k ∣ 18446744073709551616 ∧ 128 ^ k = 2 ^ (7 * k) ∧ 128 ^ k ≤ 9223372036854775808 := by
    refine ⟨?_, by rw [Nat.pow_mul], ?_⟩
    · have : k = 0 ∨ k = 1 ∨ k = 2 ∨ k = 3 ∨ k = 4 ∨ k = 5 ∨ k = 6 ∨ k = 7 ∨ k = 8 ∨ k = 9 := by omega
      rcases this with rfl | rfl | rfl | rfl | rfl | rfl | rfl | rfl | rfl | rfl <;> decide
    · have : k = 0 ∨ k = 1 ∨ k = 2 ∨ k = 3 ∨ k = 4 ∨ k = 5 ∨ k = 6 ∨ k = 7 ∨ k = 8 ∨ k = 9 := by omega
      rcases this with rfl | rfl | rfl | rfl | rfl | rfl | rfl | rfl | rfl | rfl <;> decide
  obtain ⟨⟨t, ht⟩, h2, h3⟩ := hp
  rw [u64_or_nat _ _ (by omega) (by omega), Nat.or_comm]
  generalize hq : 128 ^ k = q at *
  have hy : c % 128 * q % 18446744073709551616 = q * (c % 128 % t) := by
    rw [ht, Nat.mul_comm (c % 128) q, Nat.mul_mod_mul_left]
  have hq0 : 0 < q := by omega
  have ht0 : 0 < t := by
    rcases Nat.eq_zero_or_pos t with h | h
    · subst h; omega
    · exact h
  have hlt : q * (c % 128 % t) + u < 18446744073709551616 := by
    have h4 : c % 128 % t + 1 ≤ t := Nat.mod_lt _ ht0
    have h5 : q * (c % 128 % t + 1) ≤ q * t := Nat.mul_le_mul_left q h4
    rw [Nat.mul_add] at h5
    omega
  rw [hy, nat_join (7 * k) _ _ (by rw [← h2]; exact Nat.mul_mod_right _ _) (by rw [← h2]; exact hu)]
  congr 1
  generalize q * (c % 128 % t) = y at hlt hy
  generalize c % 128 * q = p at hy
  omega
end Go.Proofs.Ytjjedadhkdpceaa.Pac
