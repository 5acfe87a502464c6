/- The sum of any bytes, walked. -/
import Derived.Test.YtiacdpfodhggmaaDoorTalA
import Derived.Test.YtiacdpfodhggmaaDoorProg
import Derived.WalkKit
import Derived.WalkSpells
import Derived.WalkLawsBesides
import Derived.Lib.Hide
import Derived.IntWalk
import Derived.Deep.DeepCutAuto
import Derived.Deep.DeepFit
import Derived.Deep.CutBlock
import Derived.Deep.QuietTactic
import Derived.BigQuiet
import Derived.Outline
import Derived.WalkSmall
namespace Go.Proofs.YtiacdpfodhggmaaDoor.Tal
open Go.RowKit

/-- The table of half bytes lies in its block. -/
def Tab (w : World) : Prop := ∀ i, i < 16 → w.cell? ⟨0, i, none⟩ = some (.int .u32 (hv i))

theorem and15 (y : Nat) (hy : y < 4294967296) : ∃ m : Nat, y % 16 = m ∧ m < 16 ∧ bits .and .u32 (y : Int) 15 = (m : Int) :=
  ⟨y % 16, rfl, by omega, by rw [show (15 : Int) = ((15 : Nat) : Int) from rfl, u32_and_nat _ _ hy (by omega), nat_mask4]⟩
theorem nib_walk (y m : Nat) (hy : y < 4294967296) (hm : y % 16 = m) : ∃ z : Nat, z = nib y ∧ z < 4294967296 ∧ bits .xor .u32 ((y : Int) / 16) (hv m : Int) = (z : Int) := by
  refine ⟨nib y, rfl, nib_lt hy, ?_⟩
  rw [show (y : Int) / 16 = ((y / 16 : Nat) : Int) by omega, u32_xor_nat _ _ (by omega) (hv_lt _ (by omega)), ← hm]
  rfl
theorem not_walk (x : Nat) (hx : x < 4294967296) : ∃ z : Nat, z = 4294967295 - x ∧ bits .xor .u32 IntKind.u32.max (x : Int) = (z : Int) := by
  refine ⟨4294967295 - x, rfl, ?_⟩
  rw [show IntKind.u32.max = ((4294967295 : Nat) : Int) from by decide, u32_xor_nat _ _ (by omega) hx]
  congr 1
  have h := BitVec.toNat_not (x := BitVec.ofNat 32 x)
  have h2 : BitVec.toNat (BitVec.allOnes 32 ^^^ BitVec.ofNat 32 x) = 4294967295 ^^^ x := by
    rw [BitVec.toNat_xor, BitVec.toNat_allOnes, BitVec.toNat_ofNat, Nat.mod_eq_of_lt (by omega)]
  rw [BitVec.allOnes_xor, h, BitVec.toNat_ofNat, Nat.mod_eq_of_lt (by omega)] at h2
  omega
theorem take_snoc (s : ByteArray) (k : Nat) (h : k < s.size) : s.data.toList.take (k + 1) = s.data.toList.take k ++ [s[k]] := by
  rw [List.take_succ_eq_append_getElem (by simpa using h)]; rfl

set_option maxHeartbeats 400000 in
theorem of_any (s : ByteArray) (w : World) (hs : s.size ≤ 9223372036854775807) (ht : Tab w) :
    Calls Tryd.prog 31 #[.string s] w fun e w' => e = .returned (.int .u32 (crc s.data.toList)) ∧ w = w' := by
  have HT := Lib.hid ht
  clear ht
  go_enter Tryd.func31, Tryd.ntmps31
  go_wp2
  go_loop [3, 7] (fun v i => ∃ k : Nat, k ≤ s.size ∧ i = .int .i64 k ∧ ∃ x : Nat, x < 4294967296 ∧ v = .int .u32 x ∧ Hid (x = run 4294967295 (s.data.toList.take k))) (fun _ i => s.size - (intOf i).toNat)
  case atStart => exact ⟨0, Nat.zero_le _, rfl, 4294967295, by omega, rfl, Lib.hid rfl⟩
  case round =>
    obtain ⟨k, hk, rfl, x, hx, rfl, hr⟩ := hrel
    by_cases hlt : k < s.size
    · have hb := byte_lt s[k]
      obtain ⟨y, hy⟩ : ∃ y : Nat, x ^^^ s[k].toNat = y := ⟨_, rfl⟩
      have hy4 : y < 4294967296 := by rw [← hy]; exact xor_lt hx (by omega)
      have e1 : bits .xor .u32 (x : Int) (s[k].toNat : Int) = (y : Int) := by
        rw [u32_xor_nat _ _ hx (by omega), hy]
      have HY := Lib.hid hy
      clear hy
      obtain ⟨m, hm, hm4, e2⟩ := and15 y hy4
      have c1 := HT.out m hm4
      obtain ⟨z, hz, hz4, e3⟩ := nib_walk y m hy4 hm
      obtain ⟨m2, hm2, hm24, e4⟩ := and15 z hz4
      have c2 := HT.out m2 hm24
      obtain ⟨z2, hz2, hz24, e5⟩ := nib_walk z m2 hz4 hm2
      have i1 : (m : Int) < 16 := by omega
      have i2 : (m2 : Int) < 16 := by omega
      have HZ := Lib.hid hz
      have HZ2 := Lib.hid hz2
      clear hm hm2 hz hz2
      go_wp2
      go_round
      case rel => exact ⟨k + 1, by omega, by go_num, z2, hz24, rfl, Lib.hid (by rw [HZ2.out, HZ.out, ← HY.out, hr.out, take_snoc s k hlt, run_snoc]; rfl)⟩
      case measure => simp [intOf]; omega
    · obtain rfl : k = s.size := by omega
      obtain ⟨z, hz, e1⟩ := not_walk x hx
      have HZ := Lib.hid hz
      clear hz
      go_wp2
      go_ret
      exact ⟨by rw [HZ.out, hr.out, List.take_of_length_le (by simp)]; rfl, rfl⟩
end Go.Proofs.YtiacdpfodhggmaaDoor.Tal
