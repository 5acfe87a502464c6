/- The document's own Box and Text, walked. -/
import Derived.Test.YtjjedadhkdpceaaPacG
namespace Go.Proofs.Ytjjedadhkdpceaa.Pac
open Go.RowKit

theorem refZig_neg (n : Int) (h0 : -9223372036854775808 ≤ n) (h1 : n < 0) :
    bits .xor .u64 IntKind.u64.max (IntKind.u64.wrap (IntKind.u64.wrap n * 2)) = (zig n : Int) := by
  have e1 : IntKind.u64.wrap (IntKind.u64.wrap n * 2) = ((2 * n + 18446744073709551616).toNat : Int) := by rw [wrapU, wrapU]; omega
  rw [e1, notU _ (by omega)]
  unfold zig
  rw [if_neg (by omega)]
  omega
theorem rdB_yes {s : ByteArray} {v k : Nat} (h : rdN s.data.toList = some (v, s.data.toList.drop (k + 1))) (hk : k < s.size) : rdB s = (unzig v, k + 1) := by
  unfold rdB
  rw [h]
  have : s.size - (List.drop (k + 1) s.data.toList).length = k + 1 := by
    rw [List.length_drop, Array.length_toList]
    show s.size - (s.size - (k + 1)) = k + 1
    omega
  simp only [this]
theorem rdB_no {s : ByteArray} (h : rdN s.data.toList = none) : rdB s = (0, 0) := by
  unfold rdB
  rw [h]
theorem bytesEq {a b : ByteArray} (h : a.data.toList = b.data.toList) : a = b := ByteArray.ext (Array.toList_inj.1 h)
theorem extract_all (s : ByteArray) : s.extract 0 s.size = s := by
  apply bytesEq
  rw [← ByteArray.toList_eq, Lib.extract_toList, List.drop_zero, Nat.sub_zero]
  exact List.take_of_length_le (by rw [Array.length_toList]; exact Nat.le_refl _)
theorem num_yes {s : ByteArray} {v k : Nat} (h : rdB s = (unzig v, k + 1)) : numR s false = unzig v ∧ numS s false = s.extract (k + 1) s.size ∧ numBad s false = false := by
  unfold numR numS numBad
  rw [h]
  refine ⟨rfl, rfl, ?_⟩
  simp only [Bool.false_eq_true, if_false]
  exact beq_eq_false_iff_ne.2 (by omega)
theorem num_no {s : ByteArray} (h : rdB s = (0, 0)) : numR s false = 0 ∧ numS s false = s ∧ numBad s false = true := by
  unfold numR numS numBad
  rw [h]
  exact ⟨rfl, extract_all s, rfl⟩
theorem orStep' (k u c : Nat) (hk : k ≤ 9) (hu : u < 128 ^ k) (hc : c < 256) :
    bits .or .u64 (u : Int) (IntKind.u64.wrap (IntKind.u64.wrap (bits .and .u8 (c : Int) 127) * 2 ^ (7 * k))) = (((u + c % 128 * 128 ^ k) % 18446744073709551616 : Nat) : Int) := by
  have e1 : bits .andNot .u8 (c : Int) 128 = ((c % 128 : Nat) : Int) := by
    rw [show (128 : Int) = ((128 : Nat) : Int) from rfl, u8_andNot_nat _ _ hc (by omega), nat_mask7]
  have e2 : bits .and .u8 (c : Int) 127 = ((c % 128 : Nat) : Int) := by
    rw [show (127 : Int) = ((127 : Nat) : Int) from rfl, u8_and_nat _ _ hc (by omega), nat_mask7]
  have h := orStep k u c hk hu hc
  rw [e1] at h
  rw [e2, Nat.mul_comm 7 k, h]
theorem par (v : Nat) (hv : v < 18446744073709551616) : (v % 2 = 0 ∧ (bits .and .u64 (v : Int) 1 == 1) = false ∧ (v : Int) / 2 = unzig v) ∨ (v % 2 = 1 ∧ (bits .and .u64 (v : Int) 1 == 1) = true ∧ bits .xor .i64 (-1) ((v : Int) / 2) = unzig v) := by
  have h : v % 2 = 0 ∨ v % 2 = 1 := by omega
  rcases h with h | h
  · refine Or.inl ⟨h, by rw [andOne v hv, h]; rfl, ?_⟩
    unfold unzig
    rw [if_pos h]
    omega
  · refine Or.inr ⟨h, by rw [andOne v hv, h]; rfl, ?_⟩
    unfold unzig
    rw [if_neg (by omega), show (v : Int) / 2 = ((v / 2 : Nat) : Int) by omega, notI _ (by omega)]

end Go.Proofs.Ytjjedadhkdpceaa.Pac
