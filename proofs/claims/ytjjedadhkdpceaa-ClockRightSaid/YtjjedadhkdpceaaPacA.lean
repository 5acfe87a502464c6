/- Numbers by seven bits in each byte, plainly: written, read, one form each. No program. -/
import Derived.Laws.BitsAllLaws
namespace Go.Proofs.Ytjjedadhkdpceaa.Pac

/-- The number of a number: 0, -1, 1, -2, 2 .. are 0, 1, 2, 3, 4 .. -/
def zig (n : Int) : Nat := if 0 ≤ n then (2 * n).toNat else (-2 * n - 1).toNat
def unzig (u : Nat) : Int := if u % 2 = 0 then (u / 2 : Nat) else -((u / 2 : Nat) : Int) - 1
theorem unzig_zig (n : Int) : unzig (zig n) = n := by
  unfold zig unzig
  split <;> split <;> omega
theorem zig_unzig (u : Nat) : zig (unzig u) = u := by
  unfold zig unzig
  split <;> split <;> omega
theorem zig_inj {n m : Int} (h : zig n = zig m) : n = m := by rw [← unzig_zig n, h, unzig_zig]
theorem zig_lt (n : Int) (h0 : -9223372036854775808 ≤ n) (h1 : n ≤ 9223372036854775807) : zig n < 18446744073709551616 := by
  unfold zig
  split <;> omega
theorem unzig_range (u : Nat) (h : u < 18446744073709551616) : -9223372036854775808 ≤ unzig u ∧ unzig u ≤ 9223372036854775807 := by
  unfold unzig
  split <;> omega
/-- What is nearer to 0 has the smaller number. -/
theorem zig_half (n : Int) : zig (n.tdiv 2) ≤ zig n := by
  unfold zig
  have h1 : 0 ≤ n → n.tdiv 2 = n / 2 := fun h => Int.tdiv_eq_ediv_of_nonneg h
  have h2 : n < 0 → n.tdiv 2 = -((-n) / 2) := fun h => by
    have := Int.neg_tdiv (-n) 2
    rw [Int.neg_neg] at this
    rw [this, Int.tdiv_eq_ediv_of_nonneg (by omega)]
  by_cases h : 0 ≤ n
  · rw [h1 h, if_pos (by omega), if_pos h]
    omega
  · rw [h2 (by omega), if_neg h]
    split <;> omega

def encF : Nat → Nat → List UInt8
  | 0, _ => []
  | f + 1, u => if u < 128 then [UInt8.ofNat u] else UInt8.ofNat (u % 128 + 128) :: encF f (u / 128)
def decF : Nat → List UInt8 → Option (Nat × List UInt8)
  | 0, _ => none
  | _ + 1, [] => none
  | f + 1, b :: r => if b.toNat < 128 then some (b.toNat, r) else
      match decF f r with
      | none => none
      | some (v, r') => if v = 0 then none else some (b.toNat - 128 + 128 * v, r')
/-- The bytes of a number below 2^64. -/
def enc (u : Nat) : List UInt8 := encF 10 u
theorem encF_pos (f u : Nat) : 1 ≤ (encF (f + 1) u).length := by
  simp only [encF]
  split <;> simp
theorem encF_len (f u : Nat) : (encF f u).length ≤ f := by
  induction f generalizing u with
  | zero => simp [encF]
  | succ f ih =>
    simp only [encF]
    split
    · simp
    · have := ih (u / 128)
      simp; omega
theorem encF_mono (f u v : Nat) (h : u ≤ v) : (encF f u).length ≤ (encF f v).length := by
  induction f generalizing u v with
  | zero => simp [encF]
  | succ f ih =>
    simp only [encF]
    split
    · split
      · simp
      · simp
    · split
      · omega
      · have := ih (u / 128) (v / 128) (by omega)
        simp; omega
theorem ofNat_toNat (n : Nat) (h : n < 256) : (UInt8.ofNat n).toNat = n := by simp; omega
theorem dec_enc (f u : Nat) (r : List UInt8) (h : u < 128 ^ f) (hf : 1 ≤ f) : decF f (encF f u ++ r) = some (u, r) := by
  induction f generalizing u with
  | zero => omega
  | succ f ih =>
    simp only [encF]
    split
    · rename_i hu
      simp only [List.cons_append, List.nil_append, decF]
      rw [ofNat_toNat u (by omega), if_pos hu]
    · rename_i hu
      have hf1 : 1 ≤ f := by
        rcases Nat.eq_zero_or_pos f with h0 | h0
        · subst h0; simp at h; omega
        · exact h0
      have hlt : u / 128 < 128 ^ f := by
        rw [Nat.pow_succ] at h
        exact Nat.div_lt_of_lt_mul (by omega)
      simp only [List.cons_append, decF]
      rw [ofNat_toNat (u % 128 + 128) (by omega), if_neg (by omega), ih (u / 128) hlt hf1]
      simp only
      rw [if_neg (by omega)]
      congr 2
      omega
theorem enc_dec (f u : Nat) (s r : List UInt8) (h : decF f s = some (u, r)) : s = encF f u ++ r ∧ u < 128 ^ f := by
  induction f generalizing u s r with
  | zero => simp [decF] at h
  | succ f ih =>
    cases s with
    | nil => simp [decF] at h
    | cons b s =>
      simp only [decF] at h
      have hb : b.toNat < 256 := b.toNat_lt
      split at h
      · rename_i hb1
        simp only [Option.some.injEq, Prod.mk.injEq] at h
        obtain ⟨rfl, rfl⟩ := h
        have hp : 1 ≤ 128 ^ f := Nat.pos_of_ne_zero (by simp)
        refine ⟨?_, by rw [Nat.pow_succ]; omega⟩
        simp only [encF]
        rw [if_pos hb1]
        simp
      · rename_i hb1
        cases hd : decF f s with
        | none => rw [hd] at h; cases h
        | some p =>
          obtain ⟨v, r'⟩ := p
          rw [hd] at h
          simp only at h
          split at h
          · cases h
          · rename_i hv
            simp only [Option.some.injEq, Prod.mk.injEq] at h
            obtain ⟨rfl, rfl⟩ := h
            obtain ⟨rfl, hlt⟩ := ih v s r' hd
            refine ⟨?_, by rw [Nat.pow_succ]; omega⟩
            have e1 : (b.toNat - 128 + 128 * v) % 128 + 128 = b.toNat := by omega
            have e2 : (b.toNat - 128 + 128 * v) / 128 = v := by omega
            simp only [encF]
            rw [if_neg (by omega), e1, e2]
            simp
theorem enc_apart (f u v : Nat) (r s : List UInt8) (hu : u < 128 ^ f) (hv : v < 128 ^ f) (hf : 1 ≤ f) (h : encF f u ++ r = encF f v ++ s) : u = v ∧ r = s := by
  have h1 := dec_enc f u r hu hf
  rw [h, dec_enc f v s hv hf] at h1
  simp only [Option.some.injEq, Prod.mk.injEq] at h1
  exact ⟨h1.1.symm, h1.2.symm⟩
theorem lt_pow10 {u : Nat} (h : u < 18446744073709551616) : u < 128 ^ 10 := by
  have : (128 : Nat) ^ 10 = 1180591620717411303424 := by decide
  omega
end Go.Proofs.Ytjjedadhkdpceaa.Pac
