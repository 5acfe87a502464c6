/- Texts TalA, TalB, TalC, one behind the other. -/
import Derived.Laws.BitsAllLaws
import Derived.Test.YtdbemkdfndjakaaDoorProg
import Derived.WalkKit
import Derived.WalkSpells
import Derived.WalkLawsBesides
import Derived.Lib.Hide
import Derived.IntWalk
import Derived.Deep.DeepCutAuto
import Derived.Deep.DeepFit
import Derived.Deep.CutBlock
import Derived.Deep.QuietTactic
import Derived.BigQuiet
import Derived.Outline
import Derived.WalkSmall
import Derived.Laws.BytesArg
import Derived.Deep.RegionWith
import Derived.Deep.RegionHeld3
import Derived.StillTailTactics
/- CRC-32 by half bytes, plainly: what up to four other bytes side by side do to the sum. No program. -/
namespace Go.Proofs.YtdbemkdfndjakaaDoor.Tal

def hv (i : Nat) : Nat := [0, 498536548, 997073096, 651767980, 1994146192, 1802195444, 1303535960, 1342533948, 3988292384, 4027552580, 3604390888, 3412177804, 2607071920, 2262029012, 2685067896, 3183342108].getD i 0
/-- Four steps of one bit. -/
def nib (x : Nat) : Nat := (x / 16) ^^^ hv (x % 16)
def step (s : Nat) (b : UInt8) : Nat := nib (nib (s ^^^ b.toNat))
def run (s : Nat) (l : List UInt8) : Nat := l.foldl step s
def crc (l : List UInt8) : Nat := 4294967295 - run 4294967295 l

theorem hv_lt : ∀ i, i < 16 → hv i < 4294967296 := by decide
theorem xor_lt {a b : Nat} (ha : a < 4294967296) (hb : b < 4294967296) : a ^^^ b < 4294967296 := Nat.xor_lt_two_pow (n := 32) ha hb
theorem byte_lt (b : UInt8) : b.toNat < 256 := b.toNat_lt
theorem nib_lt {x : Nat} (h : x < 4294967296) : nib x < 4294967296 := xor_lt (by omega) (hv_lt _ (by omega))
theorem crc_lt (l : List UInt8) : crc l < 4294967296 := by unfold crc; omega
theorem run_append (s : Nat) (l m : List UInt8) : run s (l ++ m) = run (run s l) m := List.foldl_append
theorem run_snoc (s : Nat) (l : List UInt8) (b : UInt8) : run s (l ++ [b]) = step (run s l) b := by rw [run_append]; rfl
end Go.Proofs.YtdbemkdfndjakaaDoor.Tal

/- The sum of any bytes, walked. -/
namespace Go.Proofs.YtdbemkdfndjakaaDoor.Tal
open Go.RowKit

/-- The table of half bytes lies in its block. -/
def Tab (w : World) : Prop := ∀ i, i < 16 → w.cell? ⟨0, i, none⟩ = some (.int .u32 (hv i))

theorem and15 (y : Nat) (hy : y < 4294967296) : ∃ m : Nat, y % 16 = m ∧ m < 16 ∧ bits .and .u32 (y : Int) 15 = (m : Int) :=
  ⟨y % 16, rfl, by omega, by rw [show (15 : Int) = ((15 : Nat) : Int) from rfl, u32_and_nat _ _ hy (by omega), nat_mask4]⟩
theorem nib_walk (y m : Nat) (hy : y < 4294967296) (hm : y % 16 = m) : ∃ z : Nat, z = nib y ∧ z < 4294967296 ∧ bits .xor .u32 ((y : Int) / 16) (hv m : Int) = (z : Int) := by
  refine ⟨nib y, rfl, nib_lt hy, ?_⟩
  rw [show (y : Int) / 16 = ((y / 16 : Nat) : Int) by omega, u32_xor_nat _ _ (by omega) (hv_lt _ (by omega)), ← hm]
  rfl
theorem not_walk (x : Nat) (hx : x < 4294967296) : ∃ z : Nat, z = 4294967295 - x ∧ bits .xor .u32 IntKind.u32.max (x : Int) = (z : Int) := by
  refine ⟨4294967295 - x, rfl, ?_⟩
  rw [show IntKind.u32.max = ((4294967295 : Nat) : Int) from by decide, u32_xor_nat _ _ (by omega) hx]
  congr 1
  have h := BitVec.toNat_not (x := BitVec.ofNat 32 x)
  have h2 : BitVec.toNat (BitVec.allOnes 32 ^^^ BitVec.ofNat 32 x) = 4294967295 ^^^ x := by
    rw [BitVec.toNat_xor, BitVec.toNat_allOnes, BitVec.toNat_ofNat, Nat.mod_eq_of_lt (by omega)]
  rw [BitVec.allOnes_xor, h, BitVec.toNat_ofNat, Nat.mod_eq_of_lt (by omega)] at h2
  omega
theorem take_snoc (s : ByteArray) (k : Nat) (h : k < s.size) : s.data.toList.take (k + 1) = s.data.toList.take k ++ [s[k]] := by
  rw [List.take_succ_eq_append_getElem (by simpa using h)]; rfl

set_option maxHeartbeats 400000 in
theorem of_any (s : ByteArray) (w : World) (hs : s.size ≤ 9223372036854775807) (ht : Tab w) :
    Calls Tryd.prog 46 #[.string s] w fun e w' => e = .returned (.int .u32 (crc s.data.toList)) ∧ w = w' := by
  have HT := Lib.hid ht
  clear ht
  go_enter Tryd.func46, Tryd.ntmps46
  go_wp2
  go_loop [3, 7] (fun v i => ∃ k : Nat, k ≤ s.size ∧ i = .int .i64 k ∧ ∃ x : Nat, x < 4294967296 ∧ v = .int .u32 x ∧ Hid (x = run 4294967295 (s.data.toList.take k))) (fun _ i => s.size - (intOf i).toNat)
  case atStart => exact ⟨0, Nat.zero_le _, rfl, 4294967295, by omega, rfl, Lib.hid rfl⟩
  case round =>
    obtain ⟨k, hk, rfl, x, hx, rfl, hr⟩ := hrel
    by_cases hlt : k < s.size
    · have hb := byte_lt s[k]
      obtain ⟨y, hy⟩ : ∃ y : Nat, x ^^^ s[k].toNat = y := ⟨_, rfl⟩
      have hy4 : y < 4294967296 := by rw [← hy]; exact xor_lt hx (by omega)
      have e1 : bits .xor .u32 (x : Int) (s[k].toNat : Int) = (y : Int) := by
        rw [u32_xor_nat _ _ hx (by omega), hy]
      have HY := Lib.hid hy
      clear hy
      obtain ⟨m, hm, hm4, e2⟩ := and15 y hy4
      have c1 := HT.out m hm4
      obtain ⟨z, hz, hz4, e3⟩ := nib_walk y m hy4 hm
      obtain ⟨m2, hm2, hm24, e4⟩ := and15 z hz4
      have c2 := HT.out m2 hm24
      obtain ⟨z2, hz2, hz24, e5⟩ := nib_walk z m2 hz4 hm2
      have i1 : (m : Int) < 16 := by omega
      have i2 : (m2 : Int) < 16 := by omega
      have HZ := Lib.hid hz
      have HZ2 := Lib.hid hz2
      clear hm hm2 hz hz2
      go_wp2
      go_round
      case rel => exact ⟨k + 1, by omega, by go_num, z2, hz24, rfl, Lib.hid (by rw [HZ2.out, HZ.out, ← HY.out, hr.out, take_snoc s k hlt, run_snoc]; rfl)⟩
      case measure => simp [intOf]; omega
    · obtain rfl : k = s.size := by omega
      obtain ⟨z, hz, e1⟩ := not_walk x hx
      have HZ := Lib.hid hz
      clear hz
      go_wp2
      go_ret
      exact ⟨by rw [HZ.out, hr.out, List.take_of_length_le (by simp)]; rfl, rfl⟩
end Go.Proofs.YtdbemkdfndjakaaDoor.Tal

/- A sum's bytes, and whether bytes are whole, walked. -/
namespace Go.Proofs.YtdbemkdfndjakaaDoor.Tal
open Go.RowKit

/-- A sum in its bytes, the highest first. -/
def prt (x : Nat) : ByteArray := ⟨#[UInt8.ofNat (x / 16777216), UInt8.ofNat (x / 65536), UInt8.ofNat (x / 256), UInt8.ofNat x]⟩
theorem prt_nums (x : Nat) : strOfNums [(x : Int) / 16777216, (x : Int) / 65536 % 256, (x : Int) / 256 % 256, (x : Int) % 256] = prt x := by
  have o : ∀ a b : Nat, a % 256 = b % 256 → UInt8.ofNat a = UInt8.ofNat b := fun a b h => by
    apply UInt8.toNat_inj.1
    simpa using h
  unfold strOfNums prt
  simp only [List.map_cons, List.map_nil]
  rw [o ((x : Int) / 16777216).toNat (x / 16777216) (by omega), o ((x : Int) / 65536 % 256).toNat (x / 65536) (by omega), o ((x : Int) / 256 % 256).toNat (x / 256) (by omega), o ((x : Int) % 256).toNat x (by omega)]
theorem prt_size (x : Nat) : (prt x).size = 4 := rfl

set_option maxHeartbeats 400000 in
theorem printed_any (x : Nat) (w : World) (hx : x < 4294967296) :
    Calls Tryd.prog 45 #[.int .u32 x] w fun e w' => e = .returned (.string (prt x)) ∧ Below w.heap.size w w' := by
  have hcv : (convert 42 9 (.slice (some ⟨w.heap.size, 0, none⟩) 4 4)).run Tryd.prog (w.alloc (.cells #[.int .u8 ((x : Int) / 16777216), .int .u8 ((x : Int) / 65536 % 256), .int .u8 ((x : Int) / 256 % 256), .int .u8 ((x : Int) % 256)] 5)) = .ok (.string (prt x)) (w.alloc (.cells #[.int .u8 ((x : Int) / 16777216), .int .u8 ((x : Int) / 65536 % 256), .int .u8 ((x : Int) / 256 % 256), .int .u8 ((x : Int) % 256)] 5)) := by
    have := run_convert_bytes_arg (P := Tryd.prog) (w.alloc (.cells #[.int .u8 ((x : Int) / 16777216), .int .u8 ((x : Int) / 65536 % 256), .int .u8 ((x : Int) / 256 % 256), .int .u8 ((x : Int) % 256)] 5)) 42 5 Tryd.underlying42 Tryd.underlying5 w.heap.size 0 4 4 [(x : Int) / 16777216, (x : Int) / 65536 % 256, (x : Int) / 256 % 256, (x : Int) % 256] rfl (by
      intro i hi
      match i, hi with
      | 0, _ => simp
      | 1, _ => simp
      | 2, _ => simp
      | 3, _ => simp) 9 Tryd.underlying9
    rw [this, prt_nums x]
  go_enter Tryd.func45, Tryd.ntmps45
  go_wp2
  go_ret
  exact ⟨rfl, (Below.refl _ _).alloc (Nat.le_refl _) _⟩

theorem below_drewN {B : Nat} {a w : World} (h : Below B a w) (n : Nat) : Below B a (w.drewN n) := h.trans ⟨rfl, rfl, rfl, Nat.le_refl _, fun _ _ => rfl⟩
theorem Tab.lt {w : World} (h : Tab w) : 0 < w.heap.size := World.block_lt_of_cell? w _ (h 0 (by omega))
theorem Tab.below {w w' : World} (h : Tab w) (hb : Below w.heap.size w w') : Tab w' := fun i hi => (hb.cell (p := ⟨0, i, none⟩) h.lt).trans (h i hi)

end Go.Proofs.YtdbemkdfndjakaaDoor.Tal
