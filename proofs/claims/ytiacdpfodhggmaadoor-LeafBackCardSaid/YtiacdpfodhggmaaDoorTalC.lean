/- A sum's bytes, and whether bytes are whole, walked. -/
import Derived.Test.YtiacdpfodhggmaaDoorTalB
import Derived.Laws.BytesArg
import Derived.Deep.RegionWith
import Derived.Deep.RegionHeld3
import Derived.StillTailTactics
namespace Go.Proofs.YtiacdpfodhggmaaDoor.Tal
open Go.RowKit

/-- A sum in its bytes, the highest first. -/
def prt (x : Nat) : ByteArray := ⟨#[UInt8.ofNat (x / 16777216), UInt8.ofNat (x / 65536), UInt8.ofNat (x / 256), UInt8.ofNat x]⟩
theorem prt_nums (x : Nat) : strOfNums [(x : Int) / 16777216, (x : Int) / 65536 % 256, (x : Int) / 256 % 256, (x : Int) % 256] = prt x := by
  have o : ∀ a b : Nat, a % 256 = b % 256 → UInt8.ofNat a = UInt8.ofNat b := fun a b h => by
    apply UInt8.toNat_inj.1
    simpa using h
  unfold strOfNums prt
  simp only [List.map_cons, List.map_nil]
  rw [o ((x : Int) / 16777216).toNat (x / 16777216) (by omega), o ((x : Int) / 65536 % 256).toNat (x / 65536) (by omega), o ((x : Int) / 256 % 256).toNat (x / 256) (by omega), o ((x : Int) % 256).toNat x (by omega)]
theorem prt_size (x : Nat) : (prt x).size = 4 := rfl

set_option maxHeartbeats 400000 in
theorem printed_any (x : Nat) (w : World) (hx : x < 4294967296) :
    Calls Tryd.prog 30 #[.int .u32 x] w fun e w' => e = .returned (.string (prt x)) ∧ Below w.heap.size w w' := by
  have hcv : (convert 26 9 (.slice (some ⟨w.heap.size, 0, none⟩) 4 4)).run Tryd.prog (w.alloc (.cells #[.int .u8 ((x : Int) / 16777216), .int .u8 ((x : Int) / 65536 % 256), .int .u8 ((x : Int) / 256 % 256), .int .u8 ((x : Int) % 256)] 5)) = .ok (.string (prt x)) (w.alloc (.cells #[.int .u8 ((x : Int) / 16777216), .int .u8 ((x : Int) / 65536 % 256), .int .u8 ((x : Int) / 256 % 256), .int .u8 ((x : Int) % 256)] 5)) := by
    have := run_convert_bytes_arg (P := Tryd.prog) (w.alloc (.cells #[.int .u8 ((x : Int) / 16777216), .int .u8 ((x : Int) / 65536 % 256), .int .u8 ((x : Int) / 256 % 256), .int .u8 ((x : Int) % 256)] 5)) 26 5 Tryd.underlying26 Tryd.underlying5 w.heap.size 0 4 4 [(x : Int) / 16777216, (x : Int) / 65536 % 256, (x : Int) / 256 % 256, (x : Int) % 256] rfl (by
      intro i hi
      match i, hi with
      | 0, _ => simp
      | 1, _ => simp
      | 2, _ => simp
      | 3, _ => simp) 9 Tryd.underlying9
    rw [this]
    congr 2
    exact prt_nums x
  go_enter Tryd.func30, Tryd.ntmps30
  go_wp2
  go_ret
  exact ⟨rfl, (Below.refl _ _).alloc (Nat.le_refl _) _⟩

theorem below_drewN {B : Nat} {a w : World} (h : Below B a w) (n : Nat) : Below B a (w.drewN n) := h.trans ⟨rfl, rfl, rfl, Nat.le_refl _, fun _ _ => rfl⟩
theorem Tab.lt {w : World} (h : Tab w) : 0 < w.heap.size := World.block_lt_of_cell? w _ (h 0 (by omega))
theorem Tab.below {w w' : World} (h : Tab w) (hb : Below w.heap.size w w') : Tab w' := fun i hi => (hb.cell (p := ⟨0, i, none⟩) h.lt).trans (h i hi)

/-- Whether the last four bytes are the sum of those ahead. -/
def wholeB (s : ByteArray) : Bool := (s.extract (s.size - 4) s.size).toList == (prt (crc (List.take (s.size - 4) s.data.toList))).toList

end Go.Proofs.YtiacdpfodhggmaaDoor.Tal
