/- Numbers of four bytes (quad): the program's at 762697a, walked. -/
import Derived.Test.YtdbemkdfndjakaaDoorFrA
import Derived.Test.YtdbemkdfndjakaaDoorTalE
import Derived.Lib.QuietBelow
namespace Go.Proofs.YtdbemkdfndjakaaDoor.Fr
open Go.RowKit Tal Lf
section
variable {w : World} {s : ByteArray}
theorem byte_of {k : Nat} (h : k < s.size) : s.data.toList[k]? = some s[k] := by rw [List.getElem?_eq_getElem (by simpa using h)]; rfl
/-- The number of the four bytes at k. -/
theorem nm_at {k : Nat} (h : k + 4 ≤ s.size) : nm (s.data.toList.drop k) = (s[k]'(by omega)).toNat * 16777216 + (s[k + 1]'(by omega)).toNat * 65536 + (s[k + 2]'(by omega)).toNat * 256 + (s[k + 3]'(by omega)).toNat := by
  have hz : ∀ (l : List UInt8) (j : Nat), (l.drop k).getD j 0 = l.getD (k + j) 0 := fun l j => by simp [List.getD_eq_getElem?_getD]
  unfold nm
  rw [hz, hz, hz, hz]
  simp only [List.getD_eq_getElem?_getD, Nat.add_zero]
  rw [byte_of (by omega), byte_of (by omega), byte_of (by omega), byte_of (by omega)]
  rfl
theorem or_four {a b c d : Nat} (ha : a < 256) (hb : b < 256) (hc : c < 256) (hd : d < 256) :
    bits .or .i64 (bits .or .i64 (bits .or .i64 ((a : Int) * 16777216) ((b : Int) * 65536)) ((c : Int) * 256)) (d : Int) = ((a * 16777216 + b * 65536 + c * 256 + d : Nat) : Int) := by
  have h1 := bits_join .i64 63 (by decide) (fun n h0 h1 => by simp [IntKind.wrap, IntKind.bits, IntKind.signed]; omega) 24 ((a : Int) * 16777216) ((b : Int) * 65536) (by omega) (by omega) (by omega) (by omega) (by omega) (by omega)
  rw [h1]
  have h2 := bits_join .i64 63 (by decide) (fun n h0 h1 => by simp [IntKind.wrap, IntKind.bits, IntKind.signed]; omega) 16 ((a : Int) * 16777216 + (b : Int) * 65536) ((c : Int) * 256) (by omega) (by omega) (by omega) (by omega) (by omega) (by omega)
  rw [h2]
  have h3 := bits_join .i64 63 (by decide) (fun n h0 h1 => by simp [IntKind.wrap, IntKind.bits, IntKind.signed]; omega) 8 ((a : Int) * 16777216 + (b : Int) * 65536 + (c : Int) * 256) (d : Int) (by omega) (by omega) (by omega) (by omega) (by omega) (by omega)
  rw [h3]
  omega
set_option maxHeartbeats 1000000 in
theorem numberAt_any (k : Nat) (w : World) (hk : k ≤ 1000) (hs : k + 4 ≤ s.size) (hz : s.size ≤ 300000) :
    Calls Tryd.prog 30 #[.string s, .int .i64 k] w fun e w' => e = .returned (.int .i64 (nm (s.data.toList.drop k) : Nat)) ∧ Below w.heap.size w w' := by
  rw [nm_at hs]
  have h0 := (s[k]'(by omega)).toNat_lt
  have h1 := (s[k + 1]'(by omega)).toNat_lt
  have h2 := (s[k + 2]'(by omega)).toNat_lt
  have h3 := (s[k + 3]'(by omega)).toNat_lt
  have i0 : (k : Int) < (s.size : Int) := by omega
  have i1 : (k : Int) + 1 < (s.size : Int) := by omega
  have i2 : (k : Int) + 2 < (s.size : Int) := by omega
  have i3 : (k : Int) + 3 < (s.size : Int) := by omega
  have j0 : (0 : Int) ≤ (k : Int) := by omega
  have j1 : (0 : Int) ≤ (k : Int) + 1 := by omega
  have j2 : (0 : Int) ≤ (k : Int) + 2 := by omega
  have j3 : (0 : Int) ≤ (k : Int) + 3 := by omega
  have t1 : ((k : Int) + 1).toNat = k + 1 := by omega
  have t2 : ((k : Int) + 2).toNat = k + 2 := by omega
  have t3 : ((k : Int) + 3).toNat = k + 3 := by omega
  have HO := Lib.hid (or_four h0 h1 h2 h3)
  have qw : wrap64 ((s.size : Int) - 4) = (s.size : Int) - 4 := by unfold wrap64; omega
  have q0 : decide ((k : Int) < 0) = false := decide_eq_false (by omega)
  have q1 : decide ((s.size : Int) - 4 < (k : Int)) = false := decide_eq_false (by omega)
  go_enter Tryd.func30, Tryd.ntmps30
  go_wp2
  go_quiet (fail)
  have hd := below_drewN (Below.refl w.heap.size w) nq
  go_wp2
  go_ret
  exact ⟨by rw [← HO.out]; rfl, hd⟩
/-- Where there aren't four bytes: nought. -/
theorem numberAt_short (k : Nat) (w : World) (hk : k ≤ 1000) (hs : s.size < k + 4) (hz : s.size ≤ 300000) :
    Calls Tryd.prog 30 #[.string s, .int .i64 k] w fun e w' => e = .returned (.int .i64 0) ∧ Below w.heap.size w w' := by
  have qw : wrap64 ((s.size : Int) - 4) = (s.size : Int) - 4 := by unfold wrap64; omega
  have q0 : decide ((k : Int) < 0) = false := decide_eq_false (by omega)
  have q1 : decide ((s.size : Int) - 4 < (k : Int)) = true := decide_eq_true (by omega)
  go_enter Tryd.func30, Tryd.ntmps30
  go_wp2
  go_ret
  exact ⟨rfl, Below.refl _ _⟩
theorem hasRoom_any (n : Int) (w : World) (h0 : 0 ≤ n) (h1 : n < 4294967296) :
    Calls Tryd.prog 32 #[.int .i64 n] w fun e w' => e = .returned (.bool true) ∧ w' = w := by
  go_enter Tryd.func32, Tryd.ntmps32
  have e1 : IntKind.u64.wrap n = n := by simp [IntKind.wrap, IntKind.bits, IntKind.signed]; omega
  have e2 : decide (n ≤ 4294967295) = true := by simp; omega
  go_wp2
  go_ret
  exact ⟨rfl, rfl⟩
theorem convP (x : Nat) (w : World) (hx : x < 4294967296) : (convert 42 9 (.slice (some ⟨w.heap.size, 0, none⟩) 4 4)).run Tryd.prog (w.alloc (.cells #[.int .u8 ((x : Int) / 16777216), .int .u8 ((x : Int) / 65536 % 256), .int .u8 ((x : Int) / 256 % 256), .int .u8 ((x : Int) % 256)] 5)) = .ok (.string (prt x)) (w.alloc (.cells #[.int .u8 ((x : Int) / 16777216), .int .u8 ((x : Int) / 65536 % 256), .int .u8 ((x : Int) / 256 % 256), .int .u8 ((x : Int) % 256)] 5)) := by
    have := run_convert_bytes_arg (P := Tryd.prog) (w.alloc (.cells #[.int .u8 ((x : Int) / 16777216), .int .u8 ((x : Int) / 65536 % 256), .int .u8 ((x : Int) / 256 % 256), .int .u8 ((x : Int) % 256)] 5)) 42 5 Tryd.underlying42 Tryd.underlying5 w.heap.size 0 4 4 [(x : Int) / 16777216, (x : Int) / 65536 % 256, (x : Int) / 256 % 256, (x : Int) % 256] rfl (by
      intro i hi
      match i, hi with
      | 0, _ => simp
      | 1, _ => simp
      | 2, _ => simp
      | 3, _ => simp) 9 Tryd.underlying9
    rw [this, prt_nums x]
set_option maxHeartbeats 400000 in
theorem fprinted_any (x : Nat) (w : World) (hx : x < 4294967296) :
    Calls Tryd.prog 34 #[.int .i64 x] w fun e w' => e = .returned (.string (prt x)) ∧ Below w.heap.size w w' := by
  have hcv := convP x w hx
  go_enter Tryd.func34, Tryd.ntmps34
  go_wp2
  go_ret
  exact ⟨rfl, (Below.refl _ _).alloc (Nat.le_refl _) _⟩
end
end Go.Proofs.YtdbemkdfndjakaaDoor.Fr
