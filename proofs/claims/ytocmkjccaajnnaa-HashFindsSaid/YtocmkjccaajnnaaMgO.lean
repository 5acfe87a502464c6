/- Texts OrA, OrB, one behind the other. -/
import Derived.Test.YtocmkjccaajnnaaMgV
/- Keys that stand in their values' order, plainly. No program. -/
namespace Go.Proofs.Ytocmkjccaajnnaa.Or
open Go.RowKit Pac Va

/-- A number's bytes, the highest first. -/
def be : Nat → Nat → List UInt8
  | 0, _ => []
  | f + 1, u => UInt8.ofNat (u / 256 ^ f) :: be f (u % 256 ^ f)
/-- A key's number. -/
def spreadN (n : Nat) (l : List UInt8) : Nat := l.foldl (fun h b => (h ^^^ b.toNat) * 1099511628211 % 18446744073709551616) n
def spread (l : List UInt8) : Nat := spreadN 14695981039346656037 l ^^^ (spreadN 14695981039346656037 l / 4294967296)
end Go.Proofs.Ytocmkjccaajnnaa.Or

/- A key's number: the document's, and the program's, walked. -/
namespace Go.Proofs.Ytocmkjccaajnnaa.Or
open Go.RowKit Pac Va

theorem spreadN_snoc (n : Nat) (l : List UInt8) (b : UInt8) : spreadN n (l ++ [b]) = (spreadN n l ^^^ b.toNat) * 1099511628211 % 18446744073709551616 := by
  unfold spreadN
  rw [List.foldl_append, List.foldl_cons, List.foldl_nil]
theorem xorN (u v : Nat) (hu : u < 18446744073709551616) (hv : v < 18446744073709551616) : ∃ x : Nat, bits .xor .u64 (u : Int) (v : Int) = (x : Int) ∧ x = u ^^^ v := ⟨_, u64_xor_nat _ _ hu hv, rfl⟩
theorem xorU (u : Nat) (b : UInt8) (hu : u < 18446744073709551616) : ∃ x : Nat, bits .xor .u64 (u : Int) (IntKind.u64.wrap (b.toNat : Int)) = (x : Int) ∧ (x < 18446744073709551616 ∧ x = u ^^^ b.toNat) := by
  have hb := b.toNat_lt
  exact ⟨u ^^^ b.toNat, by rw [show IntKind.u64.wrap (b.toNat : Int) = (b.toNat : Int) by rw [wrapU]; omega]; exact u64_xor_nat _ _ hu (by omega), Nat.xor_lt_two_pow (n := 64) hu (by omega), rfl⟩
theorem mulU (x : Nat) (hx : x < 18446744073709551616) : ∃ z : Nat, IntKind.u64.wrap ((x : Int) * 1099511628211) = (z : Int) ∧ (z < 18446744073709551616 ∧ z = x * 1099511628211 % 18446744073709551616) :=
  ⟨x * 1099511628211 % 18446744073709551616, by rw [wrapU]; omega, by omega, rfl⟩
theorem shrU (u : Nat) (hu : u < 18446744073709551616) : ∃ h : Nat, (u : Int) / 4294967296 = (h : Int) ∧ (h < 18446744073709551616 ∧ h = u / 4294967296) := ⟨u / 4294967296, by omega, by omega, rfl⟩

set_option maxRecDepth 20000 in
set_option maxHeartbeats 800000 in
theorem refSpread_any (s : ByteArray) (w : World) (hs : s.size ≤ 9223372036854775807) : Calls Try.prog 43 #[.string s] w fun e w' => e = .returned (.int .u64 (spread s.data.toList : Nat)) ∧ Below w.heap.size w w' := by
  go_enter Try.func43, Try.ntmps43
  go_wp2
  go_loopw [3, 4] (fun v i wr => ∃ (k u : Nat), v = .int .u64 u ∧ i = .int .i64 k ∧ k ≤ s.size ∧ u < 18446744073709551616 ∧ Hid (u = spreadN 14695981039346656037 (s.data.toList.take k)) ∧ Below w.heap.size w wr) (fun _ i _ => s.size - (intOf i).toNat)
  case atStart => exact ⟨0, 14695981039346656037, rfl, rfl, by omega, by omega, Lib.hid rfl, Below.refl _ _⟩
  case round =>
    obtain ⟨k, u, rfl, rfl, hk, hu, hH, hB⟩ := hrel
    by_cases hlt : k < s.size
    · have hkl : s.data.toList.take (k + 1) = s.data.toList.take k ++ [s[k]] := by
        rw [List.take_succ_eq_append_getElem (by simpa using hlt)]; rfl
      obtain ⟨x, e1, hx⟩ := xorU u s[k] hu
      obtain ⟨z, e2, hz⟩ := mulU x hx.1
      have HZ : Hid (z = spreadN 14695981039346656037 (s.data.toList.take (k + 1))) := Lib.hid (by rw [hkl, spreadN_snoc, ← hH.out, ← hx.2]; exact hz.2)
      have hz := hz.1
      clear hkl hx
      go_wp2
      go_roundw
      case rel => exact ⟨k + 1, z, by go_num, by go_num, by omega, hz, HZ, hB⟩
      case measure => simp [intOf]; omega
    · have hk2 : k = s.size := by omega
      have hQ : Hid (u = spreadN 14695981039346656037 s.data.toList) := Lib.hid (by rw [hH.out, hk2, List.take_of_length_le (by simp)])
      obtain ⟨h, e1, hh⟩ := shrU u hu
      obtain ⟨x, e2, hx⟩ := xorN u h hu hh.1
      have HX : Hid (x = spread s.data.toList) := Lib.hid (by unfold spread; rw [← hQ.out, hx, hh.2])
      clear hh hx
      go_wp2
      go_ret
      exact ⟨by rw [← HX.out]; rfl, hB⟩

set_option maxRecDepth 20000 in
set_option maxHeartbeats 800000 in
theorem spread_any (s : ByteArray) (w : World) (hs : s.size ≤ 9223372036854775807) : Calls Try.prog 41 #[.string s] w fun e w' => e = .returned (.int .u64 (spread s.data.toList : Nat)) ∧ Below w.heap.size w w' := by
  go_enter Try.func41, Try.ntmps41
  go_wp2
  go_loopw [3, 7] (fun v i wr => ∃ (k u : Nat), v = .int .u64 u ∧ i = .int .i64 k ∧ k ≤ s.size ∧ u < 18446744073709551616 ∧ Hid (u = spreadN 14695981039346656037 (s.data.toList.take k)) ∧ Below w.heap.size w wr) (fun _ i _ => s.size - (intOf i).toNat)
  case atStart => exact ⟨0, 14695981039346656037, rfl, rfl, by omega, by omega, Lib.hid rfl, Below.refl _ _⟩
  case round =>
    obtain ⟨k, u, rfl, rfl, hk, hu, hH, hB⟩ := hrel
    by_cases hlt : k < s.size
    · have hkl : s.data.toList.take (k + 1) = s.data.toList.take k ++ [s[k]] := by
        rw [List.take_succ_eq_append_getElem (by simpa using hlt)]; rfl
      obtain ⟨x, e1, hx⟩ := xorU u s[k] hu
      obtain ⟨z, e2, hz⟩ := mulU x hx.1
      have HZ : Hid (z = spreadN 14695981039346656037 (s.data.toList.take (k + 1))) := Lib.hid (by rw [hkl, spreadN_snoc, ← hH.out, ← hx.2]; exact hz.2)
      have hz := hz.1
      clear hkl hx
      go_wp2
      go_roundw
      case rel => exact ⟨k + 1, z, by go_num, by go_num, by omega, hz, HZ, hB⟩
      case measure => simp [intOf]; omega
    · have hk2 : k = s.size := by omega
      have hQ : Hid (u = spreadN 14695981039346656037 s.data.toList) := Lib.hid (by rw [hH.out, hk2, List.take_of_length_le (by simp)])
      obtain ⟨h, e1, hh⟩ := shrU u hu
      obtain ⟨x, e2, hx⟩ := xorN u h hu hh.1
      have HX : Hid (x = spread s.data.toList) := Lib.hid (by unfold spread; rw [← hQ.out, hx, hh.2])
      clear hh hx
      go_wp2
      go_ret
      exact ⟨by rw [← HX.out]; rfl, hB⟩
end Go.Proofs.Ytocmkjccaajnnaa.Or
