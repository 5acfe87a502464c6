/- The number that bytes begin with, walked. -/
import Derived.Test.YtmjlfhfadmndhaaPacC
import Derived.Test.YtmjlfhfadmndhaaPacD
import Derived.Deep.RegionWith
import Derived.Deep.RegionHeld3
import Derived.Lib.Strings
namespace Go.Proofs.Ytmjlfhfadmndhaa.Pac
open Go.RowKit

def rdB (s : ByteArray) : Int × Nat :=
  match rdN s.data.toList with
  | some (u, r) => (unzig u, s.size - r.length)
  | none => (0, 0)

set_option maxRecDepth 20000 in
set_option maxHeartbeats 800000 in
theorem begin_any (s : ByteArray) (w : World) (hs : s.size ≤ 9223372036854775807) :
    Calls Try.prog 54 #[.string s] w fun e w' => e = .returned (.tuple #[.int .i64 (rdB s).1, .int .i64 (rdB s).2]) ∧ Below w.heap.size w w' := by
  obtain ⟨m, hm⟩ : ∃ m : Nat, min s.size 10 = m := ⟨_, rfl⟩
  have hm1 : m ≤ s.size := by omega
  have hm2 : m ≤ 10 := by omega
  have HM := Lib.hid hm
  clear hm
  go_enter Try.func54, Try.ntmps54
  go_wp2
  all_goals
    first
      | rw [show (s.size : Int) = (m : Int) by have := HM.out; omega]
      | rw [show (10 : Int) = (m : Int) by have := HM.out; omega]
    rename_i h
    clear h
    go_loopw [4, 5, 9] (fun v x i wr => ∃ (k u : Nat), v = .int .u64 u ∧ i = .int .i64 k ∧ k ≤ m ∧ u < 18446744073709551616 ∧
        Hid (u = val (s.data.toList.take k) % 18446744073709551616 ∧ ∀ x ∈ s.data.toList.take k, 128 ≤ x.toNat) ∧ Below w.heap.size w wr)
      (fun _ _ i _ => m - (intOf i).toNat)
    case atStart => exact ⟨0, 0, rfl, rfl, by omega, by omega, Lib.hid ⟨rfl, by simp⟩, Below.refl _ _⟩
    case round =>
      obtain ⟨k, u, rfl, rfl, hk, hu, hH, hB⟩ := hrel
      by_cases hlt : k < m
      · have hks : k < s.size := by omega
        have hkl : s.data.toList.take (k + 1) = s.data.toList.take k ++ [s[k]] := by
          rw [List.take_succ_eq_append_getElem (by simpa using hks)]; rfl
        have hkn : (s.data.toList.take k).length = k := by rw [List.length_take]; show min k s.data.toList.length = k; rw [Array.length_toList]; show min k s.size = k; omega
        have hv := val_lt (s.data.toList.take k)
        rw [hkn] at hv
        have hp : 128 ^ k ≤ 128 ^ 9 := Nat.pow_le_pow_right (by omega) (by omega)
        rw [show (128 : Nat) ^ 9 = 9223372036854775808 by decide] at hp
        have hu2 : u = val (s.data.toList.take k) := by rw [hH.out.1]; omega
        have e1 := orStep k u s[k].toNat (by omega) (by rw [hu2]; exact hv) s[k].toNat_lt
        have hv2 : (u + s[k].toNat % 128 * 128 ^ k) % 18446744073709551616 = val (s.data.toList.take (k + 1)) % 18446744073709551616 := by
          rw [hkl, val_snoc, hkn, hu2]
        generalize hv3 : (u + s[k].toNat % 128 * 128 ^ k) % 18446744073709551616 = v at e1 hv2
        have hvv : v < 18446744073709551616 := by omega
        have HKL := Lib.hid hkl
        have HKN := Lib.hid hkn
        have HV2 := Lib.hid hv2
        clear hv3 hkl hv hp hu2 hv2 hkn
        have i0 : IntKind.i64.wrap ((k : Int) + 1) = (k : Int) + 1 := by rw [IntKind.wrap_i64]; omega
        have i1 : (k : Int) + 1 ≤ (s.size : Int) := by omega
        have i2 : (0 : Int) ≤ (k : Int) + 1 := by omega
        have i3 : ((k : Int) + 1).toNat = k + 1 := by omega
        by_cases hb : s[k].toNat < 128
        · have hr := unzig_range v hvv
          by_cases heq : enc v = s.data.toList.take (k + 1)
          · have e2 : ((encB (zig (unzig v))).toList == (s.extract 0 (k + 1)).toList) = true := by
              rw [zig_unzig, Lib.extract_toList, ByteArray.toList_eq]
              unfold encB
              simp [heq]
            have HE := Lib.hid heq
            clear heq
            go_wp2
            go_region_held3 (fun _ => True) (trivial) (first | (go_at_call 55; refine (unfolded_any v _ hvv).mono ?_; rintro e w5 ⟨rfl, rfl⟩) | (go_at_call 37; refine (num_any _ _ hr.1 hr.2).mono ?_; rintro e w6 ⟨rfl, hb6⟩))
            have hB6 : Below w.heap.size w w6 := hB.drew.trans (hb6.mono hB.drew.size)
            clear hb6 hB
            go_wp2_with fail
            refine (unfolded_any v _ hvv).mono ?_
            rintro e w7 ⟨rfl, rfl⟩
            go_wp2
            go_ret2
            have hy := rdN_yes hvv HE.out
            refine ⟨?_, hB6⟩
            unfold rdB
            rw [hy]
            have : s.size - (List.drop (k + 1) s.data.toList).length = k + 1 := by
              rw [List.length_drop]
              show s.size - (s.data.toList.length - (k + 1)) = k + 1
              rw [Array.length_toList]
              show s.size - (s.size - (k + 1)) = k + 1
              omega
            simp only [this]
            rfl
          · have e2 : ((encB (zig (unzig v))).toList == (s.extract 0 (k + 1)).toList) = false := by
              rw [zig_unzig, Lib.extract_toList, ByteArray.toList_eq]
              unfold encB
              simpa using heq
            have HE := Lib.hid heq
            clear heq
            go_wp2
            go_region_held3 (fun _ => True) (trivial) (first | (go_at_call 55; refine (unfolded_any v _ hvv).mono ?_; rintro e w5 ⟨rfl, rfl⟩) | (go_at_call 37; refine (num_any _ _ hr.1 hr.2).mono ?_; rintro e w6 ⟨rfl, hb6⟩))
            go_wp2
            go_ret2
            have hy := rdN_no HKL.out hH.out.2 hb HV2.out HE.out
            refine ⟨?_, hB.drew.trans (hb6.mono hB.drew.size)⟩
            unfold rdB
            rw [hy]
            rfl
        · go_wp2
          go_roundw
          case rel =>
            refine ⟨k + 1, v, rfl, by go_num, by omega, hvv, Lib.hid ⟨HV2.out, ?_⟩, hB⟩
            intro x hx
            rw [HKL.out] at hx
            rcases List.mem_append.1 hx with h | h
            · exact hH.out.2 x h
            · simp at h; subst h; omega
          case measure => simp [intOf]; omega
      · obtain rfl : k = m := by omega
        go_wp2
        go_ret2
        have hy : rdN s.data.toList = none := rdN_end (fun x hx => hH.out.2 x (by
          have h1 := HM.out
          rcases Nat.lt_or_ge s.size 10 with h | h
          · rw [List.take_of_length_le (by rw [Array.length_toList]; show s.size ≤ k; omega)]
            exact List.mem_of_mem_take hx
          · rw [show k = 10 by omega]
            exact hx))
        refine ⟨?_, hB⟩
        unfold rdB
        rw [hy]
        rfl
end Go.Proofs.Ytmjlfhfadmndhaa.Pac
