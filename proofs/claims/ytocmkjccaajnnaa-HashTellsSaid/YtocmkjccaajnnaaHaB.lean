/- An index in memory; where a key belongs: the document's, walked. -/
import Derived.Test.YtocmkjccaajnnaaHaA
import Derived.Test.YtocmkjccaajnnaaMgO
import Derived.Test.YtocmkjccaajnnaaMgU
import Derived.Test.YtocmkjccaajnnaaMgL
import Derived.IntWalk
namespace Go.Proofs.Ytocmkjccaajnnaa.Ha
open Go.RowKit Pac Bu Ls Go.Proofs.Ytocmkjccaajnnaa.Or

theorem w64 {a : Int} (h : -9223372036854775808 ≤ a) (h' : a ≤ 9223372036854775807) : wrap64 a = a := by unfold wrap64; omega
theorem powP {lv : Nat} (h : lv ≤ 8) : ∃ p : Nat, 2 ^ lv = p ∧ 1 ≤ p ∧ p ≤ 256 := ⟨2 ^ lv, rfl, Nat.pow_pos (by omega), Nat.pow_le_pow_right (n := 2) (by omega) h⟩
theorem powI {lv p : Nat} (h : 2 ^ lv = p) : ((2 : Int) ^ lv) = (p : Int) := by rw [← h]; push_cast; rfl
set_option maxRecDepth 20000 in
set_option maxHeartbeats 1600000 in
theorem refWhere_any (lv nx : Nat) (k : ByteArray) (w : World) (hl : lv ≤ 8) (hx : nx ≤ 1000) (hk : k.size ≤ 9223372036854775807) :
    Calls Try.prog 26 #[.int .i64 lv, .int .i64 nx, .string k] w fun e w' => e = .returned (.int .i64 (atN lv nx (spread k.data.toList) : Nat)) ∧ Below w.heap.size w w' := by
  have hc := refSpread_any k w hk
  generalize spread k.data.toList = u at hc ⊢
  go_enter Try.func26, Try.ntmps26
  go_wp2_with fail
  refine hc.mono ?_
  rintro e w1 ⟨rfl, hy⟩
  clear hc
  have hlv : ((lv : Int)).toNat = lv := by omega
  obtain ⟨p, hp, hp1, hp2⟩ := powP hl
  have hpI := powI hp
  have E1 : Hid (IntKind.u64.wrap ((2 : Int) ^ lv) = (p : Int)) := Lib.hid (by rw [hpI, IntKind.wrap_u64]; omega)
  have E2 : Hid (IntKind.u64.wrap (2 * (2 : Int) ^ lv) = ((2 * p : Nat) : Int)) := Lib.hid (by rw [hpI, IntKind.wrap_u64]; omega)
  have E3 : Hid ((u : Int) % (p : Int) = ((u % p : Nat) : Int)) := Lib.hid (by push_cast; rfl)
  have E4 : Hid ((u : Int) % ((2 * p : Nat) : Int) = ((u % (2 * p) : Nat) : Int)) := Lib.hid (by rw [Int.natCast_emod])
  have hap : u % p < p := Nat.mod_lt _ (by omega)
  have hcp : u % (2 * p) < 2 * p := Nat.mod_lt _ (by omega)
  have E5 : Hid (wrap64 ((u % p : Nat) : Int) = ((u % p : Nat) : Int)) := Lib.hid (w64 (by omega) (by omega))
  have E6 : Hid (wrap64 ((u % (2 * p) : Nat) : Int) = ((u % (2 * p) : Nat) : Int)) := Lib.hid (w64 (by omega) (by omega))
  have E7 : Hid (¬ IntKind.u64.wrap ((2 : Int) ^ lv) = 0) := Lib.hid (by rw [E1.out]; omega)
  have E8 : Hid (¬ IntKind.u64.wrap (2 * (2 : Int) ^ lv) = 0) := Lib.hid (by rw [E2.out]; omega)
  have HA : Hid (atN lv nx u = if u % p < nx then u % (2 * p) else u % p) := Lib.hid (by unfold atN; rw [Nat.pow_succ, hp, Nat.mul_comm])
  clear hpI hp hp1 hp2 hap hcp
  go_wp2
  · rename_i h _
    rw [E1.out, E3.out, E5.out] at h
    have hv : wrap64 ((u : Int) % IntKind.u64.wrap (2 * (2 : Int) ^ lv)) = ((atN lv nx u : Nat) : Int) := by rw [E2.out, E4.out, E6.out, HA.out, if_pos (Int.ofNat_lt.1 h)]
    rw [hv]
    go_ret
    exact ⟨rfl, hy⟩
  · rename_i h
    rw [E1.out, E3.out, E5.out] at h
    have hv : wrap64 ((u : Int) % IntKind.u64.wrap ((2 : Int) ^ lv)) = ((atN lv nx u : Nat) : Int) := by rw [E1.out, E3.out, E5.out, HA.out, if_neg (Nat.not_lt.2 (Int.ofNat_le.1 h))]
    rw [hv]
    go_ret
    exact ⟨rfl, hy⟩
end Go.Proofs.Ytocmkjccaajnnaa.Ha
