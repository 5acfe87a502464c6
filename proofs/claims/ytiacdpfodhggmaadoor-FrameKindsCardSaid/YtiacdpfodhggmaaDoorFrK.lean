/- Frames' numbers: the program's and the document's, walked. -/
import Derived.Test.YtiacdpfodhggmaaDoorFrB
import Derived.Test.YtiacdpfodhggmaaDoorQuA
import Derived.Lib.QuietBelow
namespace Go.Proofs.YtiacdpfodhggmaaDoor.Fr
open Go.RowKit Tal Lf
section
variable {w : World} {s : ByteArray}
set_option maxHeartbeats 1000000 in
theorem num_any (w : World) (hs : 4 ≤ s.size) :
    Calls Tryd.prog 26 #[.string s] w fun e w' => e = .returned (.int .i64 (nm s.data.toList : Nat)) ∧ Below w.heap.size w w' := by
  have hn := nm_at (s := s) (k := 0) (by omega)
  rw [List.drop_zero] at hn
  rw [hn]
  simp only [Nat.zero_add]
  have h0 := (s[0]'(by omega)).toNat_lt
  have h1 := (s[1]'(by omega)).toNat_lt
  have h2 := (s[2]'(by omega)).toNat_lt
  have h3 := (s[3]'(by omega)).toNat_lt
  have i0 : (0 : Int) < (s.size : Int) := by omega
  have i1 : (1 : Int) < (s.size : Int) := by omega
  have i2 : (2 : Int) < (s.size : Int) := by omega
  have i3 : (3 : Int) < (s.size : Int) := by omega
  have n0 : 0 < s.size := by omega
  have HO : Hid (((s[0]'(by omega)).toNat : Int) * 16777216 + ((s[1]'(by omega)).toNat : Int) * 65536 + ((s[2]'(by omega)).toNat : Int) * 256 + ((s[3]'(by omega)).toNat : Int) = (((s[0]'(by omega)).toNat * 16777216 + (s[1]'(by omega)).toNat * 65536 + (s[2]'(by omega)).toNat * 256 + (s[3]'(by omega)).toNat : Nat) : Int)) := Lib.hid (by omega)
  go_enter Tryd.func26, Tryd.ntmps26
  go_wp2
  go_quiet (fail)
  have hd := below_drewN (Below.refl w.heap.size w) nq
  go_wp2
  go_ret
  exact ⟨by rw [← HO.out]; rfl, hd⟩
/-- What a sector begins with, as a text. -/
def markB (c : Bool) : ByteArray := ⟨(word c).toArray⟩
def lenOf (c : Bool) : Nat := if c then 0 else 200
theorem markOf_any (c : Bool) (w : World) :
    Calls Tryd.prog 27 #[.bool c] w fun e w' => e = .returned (.string (markB c)) ∧ w' = w := by
  cases c <;>
  · go_enter Tryd.func27, Tryd.ntmps27
    go_wp2
    go_ret
    exact ⟨rfl, rfl⟩
theorem dataBytes_any (c : Bool) (w : World) :
    Calls Tryd.prog 24 #[.bool c] w fun e w' => e = .returned (.int .i64 (lenOf c : Nat)) ∧ w' = w := by
  cases c <;>
  · go_enter Tryd.func24, Tryd.ntmps24
    go_wp2
    go_ret
    exact ⟨rfl, rfl⟩
set_option maxHeartbeats 400000 in
theorem four_any (x : Nat) (w : World) (hx : x < 4294967296) :
    Calls Tryd.prog 29 #[.int .i64 x] w fun e w' => e = .returned (.string (prt x)) ∧ Below w.heap.size w w' := by
  have hcv := convP x w hx
  go_enter Tryd.func29, Tryd.ntmps29
  go_wp2
  go_ret
  exact ⟨rfl, (Below.refl _ _).alloc (Nat.le_refl _) _⟩
end
end Go.Proofs.YtiacdpfodhggmaaDoor.Fr
