/- Texts SlpX, TalA, TalB, TalC, TalD, TalE, TalH, LfA, FrA, FrB, HdA, HdB, LfB, QuA, FrK, FrL, FrO, HdC, TreW, LeE, TyB, one behind the other. -/
import Derived.Test.YtfhopccbjlleoaaGreatDoorMgAA
import Derived.Test.YtfhopccbjlleoaaGreatDoorProg
import Derived.KernelRfl
import Derived.Laws.BitsAllLaws
import Derived.WalkKit
import Derived.WalkSpells
import Derived.WalkLawsBesides
import Derived.Lib.Hide
import Derived.IntWalk
import Derived.Deep.DeepCutAuto
import Derived.Deep.DeepFit
import Derived.Deep.CutBlock
import Derived.Deep.QuietTactic
import Derived.BigQuiet
import Derived.Outline
import Derived.WalkSmall
import Derived.Laws.BytesArg
import Derived.Deep.RegionWith
import Derived.Deep.RegionHeld3
import Derived.StillTailTactics
import Derived.Test.YtfhopccbjlleoaaGreatDoorMgAB
import Derived.Lib.Strings
import Derived.Laws.IdiomStrings
import Derived.Lib.ConvBytes
import Derived.RegionTactic
import Derived.ChangeAlike
import Derived.Test.YtfhopccbjlleoaaGreatDoorMgAC
import Derived.Lib.QuietBelow
import Derived.Test.YtfhopccbjlleoaaGreatDoorRows
import Derived.ProofKit
import Derived.OpenShut
import Derived.Carry
import Derived.ChangeSame
import Derived.ChangeVars
import Derived.JoinedOf
import Derived.RowKit
import Derived.Lib.LaidTab
/- The operations of a condition, each by its number. -/
namespace Go.Proofs.YtfhopccbjlleoaaGreatDoor.SlP
open Lex

noncomputable def bpops : Array Oper := #[{ dst := some 24, op := Op.move (Operand.tmp 2), type := 93, pos := "sort.go:160", after := #[], guard := none },
 { dst := some 25, op := Op.move (Operand.tmp 0), type := 32, pos := "sort.go:160", after := #[], guard := none },
 { dst := some 26, op := Op.move (Operand.tmp 11), type := 3, pos := "sort.go:160", after := #[], guard := none },
 { dst := some 27, op := Op.indexAddr 32 (Operand.tmp 25) (Operand.tmp 26), type := 0, pos := "sort.go:160", after := #[{ on := 1, ground := Ground.data }, { on := 2, ground := Ground.data }], guard := none },
 { dst := some 28, op := Op.load 92 (Operand.tmp 27), type := 92, pos := "sort.go:160", after := #[{ on := 3, ground := Ground.data }], guard := none },
 { dst := some 29, op := Op.load 92 (Operand.tmp 4), type := 92, pos := "sort.go:160", after := #[], guard := none },
 { dst := some 30, op := Op.call { callee := Callee.value (Operand.tmp 24), args := #[Operand.tmp 28, Operand.tmp 29], argTypes := #[92, 92] }, type := 3, pos := "sort.go:160", after := #[{ on := 0, ground := Ground.data }, { on := 4, ground := Ground.data }, { on := 5, ground := Ground.data }], guard := none },
 { dst := some 31, op := Op.binOp BinOp.lss 3 (Operand.tmp 30) (Operand.const (Value.int IntKind.i64 0)) 3, type := 4, pos := "sort.go:160", after := #[{ on := 6, ground := Ground.data }], guard := none }]
def bpcalls : List Nat := [6]
def bpord : List Nat := [0, 1, 2, 3, 4, 5, 6, 7]
theorem bpsel : Region.noSelect bpops = true := by kernel_rfl
theorem bplex : lexH bpops bpcalls bpord (Array.replicate bpops.size false) = true := by kernel_rfl
theorem bp0 : bpops[0]? = some { dst := some 24, op := Op.move (Operand.tmp 2), type := 93, pos := "sort.go:160", after := #[], guard := none } := by kernel_rfl
theorem bp1 : bpops[1]? = some { dst := some 25, op := Op.move (Operand.tmp 0), type := 32, pos := "sort.go:160", after := #[], guard := none } := by kernel_rfl
theorem bp2 : bpops[2]? = some { dst := some 26, op := Op.move (Operand.tmp 11), type := 3, pos := "sort.go:160", after := #[], guard := none } := by kernel_rfl
theorem bp3 : bpops[3]? = some { dst := some 27, op := Op.indexAddr 32 (Operand.tmp 25) (Operand.tmp 26), type := 0, pos := "sort.go:160", after := #[{ on := 1, ground := Ground.data }, { on := 2, ground := Ground.data }], guard := none } := by kernel_rfl
theorem bp4 : bpops[4]? = some { dst := some 28, op := Op.load 92 (Operand.tmp 27), type := 92, pos := "sort.go:160", after := #[{ on := 3, ground := Ground.data }], guard := none } := by kernel_rfl
theorem bp5 : bpops[5]? = some { dst := some 29, op := Op.load 92 (Operand.tmp 4), type := 92, pos := "sort.go:160", after := #[], guard := none } := by kernel_rfl
theorem bp6 : bpops[6]? = some { dst := some 30, op := Op.call { callee := Callee.value (Operand.tmp 24), args := #[Operand.tmp 28, Operand.tmp 29], argTypes := #[92, 92] }, type := 3, pos := "sort.go:160", after := #[{ on := 0, ground := Ground.data }, { on := 4, ground := Ground.data }, { on := 5, ground := Ground.data }], guard := none } := by kernel_rfl
theorem bp7 : bpops[7]? = some { dst := some 31, op := Op.binOp BinOp.lss 3 (Operand.tmp 30) (Operand.const (Value.int IntKind.i64 0)) 3, type := 4, pos := "sort.go:160", after := #[{ on := 6, ground := Ground.data }], guard := none } := by kernel_rfl
noncomputable def bpeops : Array Oper := #[{ dst := some 35, op := Op.move (Operand.tmp 9), type := 3, pos := "sort.go:167", after := #[], guard := none },
 { dst := some 36, op := Op.move (Operand.tmp 9), type := 3, pos := "sort.go:167", after := #[], guard := none },
 { dst := some 37, op := Op.move (Operand.tmp 8), type := 3, pos := "sort.go:167", after := #[], guard := none },
 { dst := some 38, op := Op.binOp BinOp.lss 3 (Operand.tmp 36) (Operand.tmp 37) 3, type := 4, pos := "sort.go:167", after := #[{ on := 1, ground := Ground.data }, { on := 2, ground := Ground.data }], guard := none },
 { dst := some 39, op := Op.move (Operand.tmp 38), type := 4, pos := "sort.go:167", after := #[{ on := 3, ground := Ground.data }], guard := none },
 { dst := some 40, op := Op.move (Operand.tmp 2), type := 93, pos := "sort.go:167", after := #[{ on := 4, ground := Ground.guard }], guard := some (4, true) },
 { dst := some 41, op := Op.move (Operand.tmp 0), type := 32, pos := "sort.go:167", after := #[{ on := 4, ground := Ground.guard }], guard := some (4, true) },
 { dst := some 42, op := Op.move (Operand.tmp 9), type := 3, pos := "sort.go:167", after := #[{ on := 4, ground := Ground.guard }], guard := some (4, true) },
 { dst := some 43, op := Op.indexAddr 32 (Operand.tmp 41) (Operand.tmp 42), type := 0, pos := "sort.go:167", after := #[{ on := 6, ground := Ground.data }, { on := 7, ground := Ground.data }, { on := 4, ground := Ground.guard }], guard := some (4, true) },
 { dst := some 44, op := Op.load 92 (Operand.tmp 43), type := 92, pos := "sort.go:167", after := #[{ on := 8, ground := Ground.data }, { on := 4, ground := Ground.guard }], guard := some (4, true) },
 { dst := some 45, op := Op.load 92 (Operand.tmp 4), type := 92, pos := "sort.go:167", after := #[{ on := 4, ground := Ground.guard }], guard := some (4, true) },
 { dst := some 46, op := Op.call { callee := Callee.value (Operand.tmp 40), args := #[Operand.tmp 44, Operand.tmp 45], argTypes := #[92, 92] }, type := 3, pos := "sort.go:167", after := #[{ on := 5, ground := Ground.data }, { on := 9, ground := Ground.data }, { on := 10, ground := Ground.data }, { on := 4, ground := Ground.chain }, { on := 4, ground := Ground.guard }], guard := some (4, true) },
 { dst := some 47, op := Op.binOp BinOp.eql 3 (Operand.tmp 46) (Operand.const (Value.int IntKind.i64 0)) 3, type := 4, pos := "sort.go:167", after := #[{ on := 11, ground := Ground.data }, { on := 4, ground := Ground.guard }, { on := 14, ground := Ground.gcOnly Departure.lateStores }], guard := some (4, true) },
 { dst := some 48, op := Op.pick (Operand.tmp 39) (Operand.tmp 47) (Operand.const (Value.bool false)), type := 4, pos := "sort.go:167", after := #[{ on := 4, ground := Ground.data }, { on := 12, ground := Ground.data }, { on := 14, ground := Ground.gcOnly Departure.lateStores }], guard := none },
 { dst := some 6, op := Op.assign (Operand.tmp 35), type := 3, pos := "sort.go:167", after := #[{ on := 0, ground := Ground.data }, { on := 11, ground := Ground.chain }, { on := 0, ground := Ground.phase }, { on := 1, ground := Ground.textOnly Departure.lateStores }, { on := 2, ground := Ground.textOnly Departure.lateStores }, { on := 3, ground := Ground.textOnly Departure.lateStores }, { on := 4, ground := Ground.textOnly Departure.lateStores }, { on := 5, ground := Ground.textOnly Departure.lateStores }, { on := 6, ground := Ground.textOnly Departure.lateStores }, { on := 7, ground := Ground.textOnly Departure.lateStores }, { on := 8, ground := Ground.textOnly Departure.lateStores }, { on := 9, ground := Ground.textOnly Departure.lateStores }, { on := 10, ground := Ground.textOnly Departure.lateStores }, { on := 11, ground := Ground.textOnly Departure.lateStoresUnsure }, { on := 12, ground := Ground.textOnly Departure.lateStores }, { on := 13, ground := Ground.textOnly Departure.lateStores }], guard := none },
 { dst := some 7, op := Op.assign (Operand.tmp 48), type := 4, pos := "sort.go:167", after := #[{ on := 13, ground := Ground.data }, { on := 14, ground := Ground.chain }, { on := 0, ground := Ground.phase }, { on := 1, ground := Ground.phase }, { on := 2, ground := Ground.phase }, { on := 3, ground := Ground.phase }, { on := 4, ground := Ground.phase }, { on := 5, ground := Ground.phase }, { on := 6, ground := Ground.phase }, { on := 7, ground := Ground.phase }, { on := 8, ground := Ground.phase }, { on := 9, ground := Ground.phase }, { on := 10, ground := Ground.phase }, { on := 11, ground := Ground.phase }, { on := 12, ground := Ground.phase }, { on := 13, ground := Ground.phase }, { on := 14, ground := Ground.phase }], guard := none }]
def bpecalls : List Nat := [11]
def bpeord : List Nat := [0, 1, 2, 3, 4, 5, 6, 7, 8, 9, 10, 11, 12, 13, 14, 15]
theorem bpesel : Region.noSelect bpeops = true := by kernel_rfl
theorem bpelex : lexH bpeops bpecalls bpeord (Array.replicate bpeops.size false) = true := by kernel_rfl
theorem bpe0 : bpeops[0]? = some { dst := some 35, op := Op.move (Operand.tmp 9), type := 3, pos := "sort.go:167", after := #[], guard := none } := by kernel_rfl
theorem bpe1 : bpeops[1]? = some { dst := some 36, op := Op.move (Operand.tmp 9), type := 3, pos := "sort.go:167", after := #[], guard := none } := by kernel_rfl
theorem bpe2 : bpeops[2]? = some { dst := some 37, op := Op.move (Operand.tmp 8), type := 3, pos := "sort.go:167", after := #[], guard := none } := by kernel_rfl
theorem bpe3 : bpeops[3]? = some { dst := some 38, op := Op.binOp BinOp.lss 3 (Operand.tmp 36) (Operand.tmp 37) 3, type := 4, pos := "sort.go:167", after := #[{ on := 1, ground := Ground.data }, { on := 2, ground := Ground.data }], guard := none } := by kernel_rfl
theorem bpe4 : bpeops[4]? = some { dst := some 39, op := Op.move (Operand.tmp 38), type := 4, pos := "sort.go:167", after := #[{ on := 3, ground := Ground.data }], guard := none } := by kernel_rfl
theorem bpe5 : bpeops[5]? = some { dst := some 40, op := Op.move (Operand.tmp 2), type := 93, pos := "sort.go:167", after := #[{ on := 4, ground := Ground.guard }], guard := some (4, true) } := by kernel_rfl
theorem bpe6 : bpeops[6]? = some { dst := some 41, op := Op.move (Operand.tmp 0), type := 32, pos := "sort.go:167", after := #[{ on := 4, ground := Ground.guard }], guard := some (4, true) } := by kernel_rfl
theorem bpe7 : bpeops[7]? = some { dst := some 42, op := Op.move (Operand.tmp 9), type := 3, pos := "sort.go:167", after := #[{ on := 4, ground := Ground.guard }], guard := some (4, true) } := by kernel_rfl
theorem bpe8 : bpeops[8]? = some { dst := some 43, op := Op.indexAddr 32 (Operand.tmp 41) (Operand.tmp 42), type := 0, pos := "sort.go:167", after := #[{ on := 6, ground := Ground.data }, { on := 7, ground := Ground.data }, { on := 4, ground := Ground.guard }], guard := some (4, true) } := by kernel_rfl
theorem bpe9 : bpeops[9]? = some { dst := some 44, op := Op.load 92 (Operand.tmp 43), type := 92, pos := "sort.go:167", after := #[{ on := 8, ground := Ground.data }, { on := 4, ground := Ground.guard }], guard := some (4, true) } := by kernel_rfl
theorem bpe10 : bpeops[10]? = some { dst := some 45, op := Op.load 92 (Operand.tmp 4), type := 92, pos := "sort.go:167", after := #[{ on := 4, ground := Ground.guard }], guard := some (4, true) } := by kernel_rfl
theorem bpe11 : bpeops[11]? = some { dst := some 46, op := Op.call { callee := Callee.value (Operand.tmp 40), args := #[Operand.tmp 44, Operand.tmp 45], argTypes := #[92, 92] }, type := 3, pos := "sort.go:167", after := #[{ on := 5, ground := Ground.data }, { on := 9, ground := Ground.data }, { on := 10, ground := Ground.data }, { on := 4, ground := Ground.chain }, { on := 4, ground := Ground.guard }], guard := some (4, true) } := by kernel_rfl
theorem bpe12 : bpeops[12]? = some { dst := some 47, op := Op.binOp BinOp.eql 3 (Operand.tmp 46) (Operand.const (Value.int IntKind.i64 0)) 3, type := 4, pos := "sort.go:167", after := #[{ on := 11, ground := Ground.data }, { on := 4, ground := Ground.guard }, { on := 14, ground := Ground.gcOnly Departure.lateStores }], guard := some (4, true) } := by kernel_rfl
theorem bpe13 : bpeops[13]? = some { dst := some 48, op := Op.pick (Operand.tmp 39) (Operand.tmp 47) (Operand.const (Value.bool false)), type := 4, pos := "sort.go:167", after := #[{ on := 4, ground := Ground.data }, { on := 12, ground := Ground.data }, { on := 14, ground := Ground.gcOnly Departure.lateStores }], guard := none } := by kernel_rfl
theorem bpe14 : bpeops[14]? = some { dst := some 6, op := Op.assign (Operand.tmp 35), type := 3, pos := "sort.go:167", after := #[{ on := 0, ground := Ground.data }, { on := 11, ground := Ground.chain }, { on := 0, ground := Ground.phase }, { on := 1, ground := Ground.textOnly Departure.lateStores }, { on := 2, ground := Ground.textOnly Departure.lateStores }, { on := 3, ground := Ground.textOnly Departure.lateStores }, { on := 4, ground := Ground.textOnly Departure.lateStores }, { on := 5, ground := Ground.textOnly Departure.lateStores }, { on := 6, ground := Ground.textOnly Departure.lateStores }, { on := 7, ground := Ground.textOnly Departure.lateStores }, { on := 8, ground := Ground.textOnly Departure.lateStores }, { on := 9, ground := Ground.textOnly Departure.lateStores }, { on := 10, ground := Ground.textOnly Departure.lateStores }, { on := 11, ground := Ground.textOnly Departure.lateStoresUnsure }, { on := 12, ground := Ground.textOnly Departure.lateStores }, { on := 13, ground := Ground.textOnly Departure.lateStores }], guard := none } := by kernel_rfl
theorem bpe15 : bpeops[15]? = some { dst := some 7, op := Op.assign (Operand.tmp 48), type := 4, pos := "sort.go:167", after := #[{ on := 13, ground := Ground.data }, { on := 14, ground := Ground.chain }, { on := 0, ground := Ground.phase }, { on := 1, ground := Ground.phase }, { on := 2, ground := Ground.phase }, { on := 3, ground := Ground.phase }, { on := 4, ground := Ground.phase }, { on := 5, ground := Ground.phase }, { on := 6, ground := Ground.phase }, { on := 7, ground := Ground.phase }, { on := 8, ground := Ground.phase }, { on := 9, ground := Ground.phase }, { on := 10, ground := Ground.phase }, { on := 11, ground := Ground.phase }, { on := 12, ground := Ground.phase }, { on := 13, ground := Ground.phase }, { on := 14, ground := Ground.phase }], guard := none } := by kernel_rfl
end Go.Proofs.YtfhopccbjlleoaaGreatDoor.SlP

/- CRC-32 by half bytes, plainly: what up to four other bytes side by side do to the sum. No program. -/
namespace Go.Proofs.YtfhopccbjlleoaaGreatDoor.Tal

def hv (i : Nat) : Nat := [0, 498536548, 997073096, 651767980, 1994146192, 1802195444, 1303535960, 1342533948, 3988292384, 4027552580, 3604390888, 3412177804, 2607071920, 2262029012, 2685067896, 3183342108].getD i 0
/-- Four steps of one bit. -/
def nib (x : Nat) : Nat := (x / 16) ^^^ hv (x % 16)
def step (s : Nat) (b : UInt8) : Nat := nib (nib (s ^^^ b.toNat))
def run (s : Nat) (l : List UInt8) : Nat := l.foldl step s
def crc (l : List UInt8) : Nat := 4294967295 - run 4294967295 l

theorem hv_lt : ∀ i, i < 16 → hv i < 4294967296 := by decide
theorem xor_lt {a b : Nat} (ha : a < 4294967296) (hb : b < 4294967296) : a ^^^ b < 4294967296 := Nat.xor_lt_two_pow (n := 32) ha hb
theorem byte_lt (b : UInt8) : b.toNat < 256 := b.toNat_lt
theorem nib_lt {x : Nat} (h : x < 4294967296) : nib x < 4294967296 := xor_lt (by omega) (hv_lt _ (by omega))
theorem crc_lt (l : List UInt8) : crc l < 4294967296 := by unfold crc; omega
theorem run_append (s : Nat) (l m : List UInt8) : run s (l ++ m) = run (run s l) m := List.foldl_append
theorem run_snoc (s : Nat) (l : List UInt8) (b : UInt8) : run s (l ++ [b]) = step (run s l) b := by rw [run_append]; rfl
end Go.Proofs.YtfhopccbjlleoaaGreatDoor.Tal

/- The sum of any bytes, walked. -/
namespace Go.Proofs.YtfhopccbjlleoaaGreatDoor.Tal
open Go.RowKit

/-- The table of half bytes lies in its block. -/
def Tab (w : World) : Prop := ∀ i, i < 16 → w.cell? ⟨0, i, none⟩ = some (.int .u32 (hv i))

theorem and15 (y : Nat) (hy : y < 4294967296) : ∃ m : Nat, y % 16 = m ∧ m < 16 ∧ bits .and .u32 (y : Int) 15 = (m : Int) :=
 ⟨y % 16, rfl, by omega, by rw [show (15 : Int) = ((15 : Nat) : Int) from rfl, u32_and_nat _ _ hy (by omega), nat_mask4]⟩
theorem nib_walk (y m : Nat) (hy : y < 4294967296) (hm : y % 16 = m) : ∃ z : Nat, z = nib y ∧ z < 4294967296 ∧ bits .xor .u32 ((y : Int) / 16) (hv m : Int) = (z : Int) := by
 refine ⟨nib y, rfl, nib_lt hy, ?_⟩
 rw [show (y : Int) / 16 = ((y / 16 : Nat) : Int) by omega, u32_xor_nat _ _ (by omega) (hv_lt _ (by omega)), ← hm]
 rfl
theorem not_walk (x : Nat) (hx : x < 4294967296) : ∃ z : Nat, z = 4294967295 - x ∧ bits .xor .u32 IntKind.u32.max (x : Int) = (z : Int) := by
 refine ⟨4294967295 - x, rfl, ?_⟩
 rw [show IntKind.u32.max = ((4294967295 : Nat) : Int) from by decide, u32_xor_nat _ _ (by omega) hx]
 congr 1
 have h := BitVec.toNat_not (x := BitVec.ofNat 32 x)
 have h2 : BitVec.toNat (BitVec.allOnes 32 ^^^ BitVec.ofNat 32 x) = 4294967295 ^^^ x := by
  rw [BitVec.toNat_xor, BitVec.toNat_allOnes, BitVec.toNat_ofNat, Nat.mod_eq_of_lt (by omega)]
 rw [BitVec.allOnes_xor, h, BitVec.toNat_ofNat, Nat.mod_eq_of_lt (by omega)] at h2
 omega
theorem take_snoc (s : ByteArray) (k : Nat) (h : k < s.size) : s.data.toList.take (k + 1) = s.data.toList.take k ++ [s[k]] := by
 rw [List.take_succ_eq_append_getElem (by simpa using h)]; rfl

set_option maxHeartbeats 400000 in
theorem of_any (s : ByteArray) (w : World) (hs : s.size ≤ 9223372036854775807) (ht : Tab w) :
  Calls Tryz.prog 141 #[.string s] w fun e w' => e = .returned (.int .u32 (crc s.data.toList)) ∧ w = w' := by
 have HT := Lib.hid ht
 clear ht
 go_enter Tryz.func141, Tryz.ntmps141
 go_wp2
 go_loop [3, 7] (fun v i => ∃ k : Nat, k ≤ s.size ∧ i = .int .i64 k ∧ ∃ x : Nat, x < 4294967296 ∧ v = .int .u32 x ∧ Hid (x = run 4294967295 (s.data.toList.take k))) (fun _ i => s.size - (intOf i).toNat)
 case atStart => exact ⟨0, Nat.zero_le _, rfl, 4294967295, by omega, rfl, Lib.hid rfl⟩
 case round =>
  obtain ⟨k, hk, rfl, x, hx, rfl, hr⟩ := hrel
  by_cases hlt : k < s.size
  ·have hb := byte_lt s[k]
   obtain ⟨y, hy⟩ : ∃ y : Nat, x ^^^ s[k].toNat = y := ⟨_, rfl⟩
   have hy4 : y < 4294967296 := by rw [← hy]; exact xor_lt hx (by omega)
   have e1 : bits .xor .u32 (x : Int) (s[k].toNat : Int) = (y : Int) := by
    rw [u32_xor_nat _ _ hx (by omega), hy]
   have HY := Lib.hid hy
   clear hy
   obtain ⟨m, hm, hm4, e2⟩ := and15 y hy4
   have c1 := HT.out m hm4
   obtain ⟨z, hz, hz4, e3⟩ := nib_walk y m hy4 hm
   obtain ⟨m2, hm2, hm24, e4⟩ := and15 z hz4
   have c2 := HT.out m2 hm24
   obtain ⟨z2, hz2, hz24, e5⟩ := nib_walk z m2 hz4 hm2
   have i1 : (m : Int) < 16 := by omega
   have i2 : (m2 : Int) < 16 := by omega
   have HZ := Lib.hid hz
   have HZ2 := Lib.hid hz2
   clear hm hm2 hz hz2
   go_wp2
   go_round
   case rel => exact ⟨k + 1, by omega, by go_num, z2, hz24, rfl, Lib.hid (by rw [HZ2.out, HZ.out, ← HY.out, hr.out, take_snoc s k hlt, run_snoc]; rfl)⟩
   case measure => simp [intOf]; omega
  ·obtain rfl : k = s.size := by omega
   obtain ⟨z, hz, e1⟩ := not_walk x hx
   have HZ := Lib.hid hz
   clear hz
   go_wp2
   go_ret
   exact ⟨by rw [HZ.out, hr.out, List.take_of_length_le (by simp)]; rfl, rfl⟩
end Go.Proofs.YtfhopccbjlleoaaGreatDoor.Tal

/- A sum's bytes, and whether bytes are whole, walked. -/
namespace Go.Proofs.YtfhopccbjlleoaaGreatDoor.Tal
open Go.RowKit

/-- A sum in its bytes, the highest first. -/
def prt (x : Nat) : ByteArray := ⟨#[UInt8.ofNat (x / 16777216), UInt8.ofNat (x / 65536), UInt8.ofNat (x / 256), UInt8.ofNat x]⟩
theorem prt_nums (x : Nat) : strOfNums [(x : Int) / 16777216, (x : Int) / 65536 % 256, (x : Int) / 256 % 256, (x : Int) % 256] = prt x := by
 have o : ∀ a b : Nat, a % 256 = b % 256 → UInt8.ofNat a = UInt8.ofNat b := fun a b h => by
  apply UInt8.toNat_inj.1
  simpa using h
 unfold strOfNums prt
 simp only [List.map_cons, List.map_nil]
 rw [o ((x : Int) / 16777216).toNat (x / 16777216) (by omega), o ((x : Int) / 65536 % 256).toNat (x / 65536) (by omega), o ((x : Int) / 256 % 256).toNat (x / 256) (by omega), o ((x : Int) % 256).toNat x (by omega)]
theorem prt_size (x : Nat) : (prt x).size = 4 := rfl

set_option maxHeartbeats 400000 in
theorem printed_any (x : Nat) (w : World) (hx : x < 4294967296) :
  Calls Tryz.prog 140 #[.int .u32 x] w fun e w' => e = .returned (.string (prt x)) ∧ Below w.heap.size w w' := by
 have hcv : (convert 63 9 (.slice (some ⟨w.heap.size, 0, none⟩) 4 4)).run Tryz.prog (w.alloc (.cells #[.int .u8 ((x : Int) / 16777216), .int .u8 ((x : Int) / 65536 % 256), .int .u8 ((x : Int) / 256 % 256), .int .u8 ((x : Int) % 256)] 5)) = .ok (.string (prt x)) (w.alloc (.cells #[.int .u8 ((x : Int) / 16777216), .int .u8 ((x : Int) / 65536 % 256), .int .u8 ((x : Int) / 256 % 256), .int .u8 ((x : Int) % 256)] 5)) := by
  have := run_convert_bytes_arg (P := Tryz.prog) (w.alloc (.cells #[.int .u8 ((x : Int) / 16777216), .int .u8 ((x : Int) / 65536 % 256), .int .u8 ((x : Int) / 256 % 256), .int .u8 ((x : Int) % 256)] 5)) 63 5 Tryz.underlying63 Tryz.underlying5 w.heap.size 0 4 4 [(x : Int) / 16777216, (x : Int) / 65536 % 256, (x : Int) / 256 % 256, (x : Int) % 256] rfl (by
   intro i hi
   match i, hi with
   | 0, _ => simp
   | 1, _ => simp
   | 2, _ => simp
   | 3, _ => simp) 9 Tryz.underlying9
  rw [this, prt_nums x]
 go_enter Tryz.func140, Tryz.ntmps140
 go_wp2
 go_ret
 exact ⟨rfl, (Below.refl _ _).alloc (Nat.le_refl _) _⟩

theorem below_drewN {B : Nat} {a w : World} (h : Below B a w) (n : Nat) : Below B a (w.drewN n) := h.trans ⟨rfl, rfl, rfl, Nat.le_refl _, fun _ _ => rfl⟩
theorem Tab.lt {w : World} (h : Tab w) : 0 < w.heap.size := World.block_lt_of_cell? w _ (h 0 (by omega))
theorem Tab.below {w w' : World} (h : Tab w) (hb : Below w.heap.size w w') : Tab w' := fun i hi => (hb.cell (p := ⟨0, i, none⟩) h.lt).trans (h i hi)

end Go.Proofs.YtfhopccbjlleoaaGreatDoor.Tal

/- Bytes sealed: these, noughts, and the sum of both, walked. -/
namespace Go.Proofs.YtfhopccbjlleoaaGreatDoor.Tal
open Go.RowKit Go.Shelf

theorem repeatL_one (c : Nat) : Lib.repeatL [0] c = List.replicate c 0 := by
 induction c with
 | zero => rfl
 | succ c ih => simp [Lib.repeatL, ih, List.replicate_succ]

/-- So many noughts. -/
def zeros (n : Nat) : ByteArray := ⟨(List.replicate n 0).toArray⟩
theorem zeros_size (n : Nat) : (zeros n).size = n := by
 show (List.replicate n (0 : UInt8)).toArray.size = _
 rw [List.size_toArray, List.length_replicate]

theorem noughts_any (k : Int) (w : World) (h0 : 0 ≤ k) (h1 : k ≤ 2147483647) :
  Calls Tryz.prog 100 #[.string ⟨#[0]⟩, .int .i64 k] w fun e w' => e = .returned (.string (zeros k.toNat)) ∧ Below w.heap.size w w' := by
 obtain ⟨n, rfl⟩ := Int.eq_ofNat_of_zero_le h0
 refine (Tryz.strings_Repeat ⟨#[0]⟩ n w (by omega) (by show 1 * n ≤ _; omega)).mono ?_
 rintro e w' ⟨rfl, hb⟩
 refine ⟨?_, hb⟩
 have e0 : (ByteArray.mk #[0]).data.toList = [0] := rfl
 rw [e0, repeatL_one, Int.toNat_natCast]
 rfl

/-- Bytes, and noughts up to so many in all. -/
def body (s : ByteArray) (n : Nat) : ByteArray := s ++ zeros (n - s.size)
def sealed (s : ByteArray) (n : Nat) : ByteArray := body s (n - 4) ++ prt (crc (body s (n - 4)).data.toList)
theorem body_size (s : ByteArray) (n : Nat) (h : s.size ≤ n) : (body s n).size = n := by
 unfold body
 rw [ByteArray.size_append, zeros_size]
 omega

set_option maxHeartbeats 400000 in
theorem sealed_any (s : ByteArray) (z : Int) (w : World) (ht : Tab w) (hz : z ≤ 2147483647) (h : (s.size : Int) + 4 ≤ z) :
  Calls Tryz.prog 109 #[.string s, .int .i64 z] w fun e w' => e = .returned (.string (sealed s z.toNat)) ∧ Below w.heap.size w w' := by
 have d1 : decide (z < 4) = false := by simp; omega
 have d2 : decide (2147483647 < z) = false := by simp; omega
 have d3 : decide (z - 4 < (s.size : Int)) = false := by simp; omega
 have HT := Lib.hid ht
 clear ht
 have HB : Hid (body s (z.toNat - 4) = s ++ zeros (z - 4 - (s.size : Int)).toNat) := by
  unfold body
  rw [show z.toNat - 4 - s.size = (z - 4 - (s.size : Int)).toNat by omega]
  exact Lib.hid rfl
 have HS := Lib.hid (body_size s (z.toNat - 4) (by omega))
 go_enter Tryz.func109, Tryz.ntmps109
 go_wp2_with fail
 refine (noughts_any _ _ (by omega) (by omega)).mono ?_
 rintro e w1 ⟨rfl, hb1⟩
 have hl : s.size + (zeros (z - 4 - (s.size : Int)).toNat).size ≤ 2147483647 := by rw [zeros_size]; omega
 generalize hr : zeros (z - 4 - (s.size : Int)).toNat = r at HB hl ⊢
 clear hr
 go_wp2_with fail
 generalize hq : s ++ r = q at HB ⊢
 have hql : q.size ≤ 2147483647 := by rw [← hq, ByteArray.size_append]; exact hl
 clear hq
 refine (of_any q _ (by omega) (HT.out.below hb1)).mono ?_
 rintro e w2 ⟨rfl, rfl⟩
 generalize hc : crc q.data.toList = c
 have HC := Lib.hid hc
 have hcl : c < 4294967296 := by rw [← hc]; exact crc_lt _
 clear hc
 go_wp2_with fail
 refine (printed_any c _ hcl).mono ?_
 rintro e w3 ⟨rfl, hb3⟩
 have hps := prt_size c
 generalize hp : prt c = pc at hps ⊢
 have HP := Lib.hid hp
 clear hp
 have hps2 : pc.size ≤ 4 := by omega
 clear hps
 go_wp2_with fail
 go_ret
 refine ⟨?_, hb1.trans (hb3.mono hb1.size)⟩
 unfold sealed
 rw [HB.out, HC.out, HP.out]
 rfl
end Go.Proofs.YtfhopccbjlleoaaGreatDoor.Tal

/- What is sealed, plainly; the document's examples, closed, and walked. -/
namespace Go.Proofs.YtfhopccbjlleoaaGreatDoor.Tal
open Go.RowKit Go.Shelf

theorem body_data (s : ByteArray) (n : Nat) : (body s n).data.toList = s.data.toList ++ List.replicate (n - s.size) 0 := by
 unfold body
 rw [ByteArray.data_append, Array.toList_append]
 rfl
theorem sealed_data (s : ByteArray) (n : Nat) : (sealed s n).data.toList = (body s (n - 4)).data.toList ++ (prt (crc (body s (n - 4)).data.toList)).data.toList := by
 unfold sealed
 rw [ByteArray.data_append, Array.toList_append]
theorem sealed_size (s : ByteArray) (n : Nat) (h : s.size + 4 ≤ n) : (sealed s n).size = n := by
 unfold sealed
 rw [ByteArray.size_append, body_size _ _ (by omega), prt_size]
 omega
def s9 : ByteArray := ⟨#[49, 50, 51, 52, 53, 54, 55, 56, 57]⟩
end Go.Proofs.YtfhopccbjlleoaaGreatDoor.Tal

/- Bytes of which up to four side by side are others: plainly, and in memory. -/
namespace Go.Proofs.YtfhopccbjlleoaaGreatDoor.Tal
open Go.RowKit Go.Shelf

/-- Bytes, of which so many behind the k-th are others. -/
def cur (S E : Nat → UInt8) (k q j : Nat) : UInt8 := if k ≤ j ∧ j < k + q then S j ^^^ E (j - k) else S j
theorem add_zero_off (b j : Nat) : (⟨b, 0, none⟩ : Addr).add j = ⟨b, j, none⟩ := by unfold Addr.add; split <;> simp_all
end Go.Proofs.YtfhopccbjlleoaaGreatDoor.Tal

/- A page's sector, plainly. -/
namespace Go.Proofs.YtfhopccbjlleoaaGreatDoor.Lf
open Tal
/-- What a page's sector begins with. -/
def hd (no : Nat) : ByteArray := ⟨#[80, 65, 71, 69]⟩ ++ prt no
theorem hd_size (no : Nat) : (hd no).size = 8 := by
 unfold hd; rw [ByteArray.size_append, prt_size]; rfl
/-- A page's sector. -/
def leafB (no : Nat) (d : ByteArray) : ByteArray := sealed (hd no ++ d) 256
/-- The page of a sector. -/
def parseL (s : ByteArray) (no : Nat) : Option ByteArray := if s.size = 256 ∧ s = leafB no (s.extract 8 208) then some (s.extract 8 208) else none
/-- All that the sum is of. -/
def bodyL (no : Nat) (d : ByteArray) : List UInt8 := (hd no).data.toList ++ d.data.toList ++ List.replicate 44 0
section
variable {no n2 : Nat} {d d2 s : ByteArray}
theorem both_size (h : d.size = 200) : (hd no ++ d).size = 208 := by rw [ByteArray.size_append, hd_size, h]
theorem leafB_size (h : d.size = 200) : (leafB no d).size = 256 := sealed_size _ _ (by rw [both_size h]; decide)
theorem hdl (no : Nat) : (hd no).data.toList.length = 8 := by have := hd_size no; simpa using this
theorem dl (h : d.size = 200) : d.data.toList.length = 200 := by simpa using h
theorem bodyL_len (h : d.size = 200) : (bodyL no d).length = 252 := by
 unfold bodyL
 rw [List.length_append, List.length_append, hdl, dl h, List.length_replicate]
theorem leafB_data (h : d.size = 200) : (leafB no d).data.toList = bodyL no d ++ (prt (crc (bodyL no d))).data.toList := by
 have e : (body (hd no ++ d) (256 - 4)).data.toList = bodyL no d := by
  rw [body_data, both_size h, ByteArray.data_append]
  simp [bodyL]
 unfold leafB
 rw [sealed_data, e]
theorem page_at (h : d.size = 200) : ((leafB no d).data.toList.take 208).drop 8 = d.data.toList := by
 rw [leafB_data h, List.take_append_of_le_length (by rw [bodyL_len h]; decide)]
 unfold bodyL
 rw [List.take_append_of_le_length (by rw [List.length_append, hdl, dl h]; decide), List.take_of_length_le (by rw [List.length_append, hdl, dl h]; decide), List.drop_left' (hdl no)]
theorem leafB_page (h : d.size = 200) : (leafB no d).extract 8 208 = d := by
 apply ByteArray.ext
 apply Array.toList_inj.1
 have := page_at (no := no) h
 rw [List.drop_take] at this
 simpa [ByteArray.data_extract, Array.toList_extract, List.extract] using this
theorem parse_iff : parseL s no = some d ↔ d.size = 200 ∧ s = leafB no d := by
 unfold parseL
 constructor
 ·intro h
  split at h
  ·rename_i hc
   injection h with h
   subst h
   exact ⟨by rw [ByteArray.size_extract]; omega, hc.2⟩
  ·cases h
 ·rintro ⟨h, rfl⟩
  rw [leafB_page h, if_pos ⟨leafB_size h, rfl⟩]
theorem parse_own (h : d.size = 200) : parseL (leafB no d) no = some d := parse_iff.2 ⟨h, rfl⟩
/-- Noughts are no page. -/
theorem parse_noughts (h : s.size = 256) (h0 : s.data.toList.take 1 = [0]) : parseL s no = none := by
 cases hp : parseL s no with
 | none => rfl
 | some d2 =>
  obtain ⟨h2, e2⟩ := parse_iff.1 hp
  rw [e2, leafB_data h2, List.take_append_of_le_length (by rw [bodyL_len h2]; decide)] at h0
  unfold bodyL at h0
  rw [List.append_assoc, List.take_append_of_le_length (by rw [hdl]; decide)] at h0
  unfold hd at h0
  rw [ByteArray.data_append, Array.toList_append, List.take_append_of_le_length (by decide)] at h0
  cases h0
end
end Go.Proofs.YtfhopccbjlleoaaGreatDoor.Lf

/- A frame's sector, plainly. -/
namespace Go.Proofs.YtfhopccbjlleoaaGreatDoor.Fr
open Tal Lf

structure F where
 e : Int
 i : Int
 c : Bool
 p : Int
 d : ByteArray
/-- May it be written? -/
structure RightF (f : F) : Prop where
 e0 : 1 ≤ f.e
 e1 : f.e < 2147483648
 i0 : 0 ≤ f.i
 i1 : f.i < 512
 p0 : 0 ≤ f.p
 p1 : f.p < 512
 dc : f.c = true → f.d.size = 0
 dp : f.c = false → f.d.size = 200
theorem F.eq {f g : F} (h1 : f.e = g.e) (h2 : f.i = g.i) (h3 : f.c = g.c) (h4 : f.p = g.p) (h5 : f.d = g.d) : f = g := by
 cases f; cases g; simp_all
theorem none_size {d : ByteArray} (h : d.size = 0) : d = ⟨#[]⟩ := by
 apply ByteArray.ext
 apply Array.eq_empty_of_size_eq_zero
 exact h
/-- What it begins with. -/
def word (c : Bool) : List UInt8 := [76, 79, 71, if c then 67 else 80]
def hdF (f : F) : ByteArray := ⟨(word f.c).toArray⟩ ++ prt f.e.toNat ++ prt f.i.toNat ++ prt f.p.toNat
def frameB (f : F) : ByteArray := sealed (hdF f ++ f.d) 256
theorem word_len (c : Bool) : (word c).length = 4 := rfl
theorem hdF_list (f : F) : (hdF f).data.toList = word f.c ++ (prt f.e.toNat).data.toList ++ (prt f.i.toNat).data.toList ++ (prt f.p.toNat).data.toList := by
 unfold hdF
 simp only [ByteArray.data_append, Array.toList_append]
theorem prt_len (x : Nat) : (prt x).data.toList.length = 4 := rfl
theorem hdF_size (f : F) : (hdF f).size = 16 := by
 unfold hdF
 rw [ByteArray.size_append, ByteArray.size_append, ByteArray.size_append, prt_size, prt_size, prt_size]
 rfl
/-- All that the sum is of. -/
def bodyF (f : F) : List UInt8 := word f.c ++ ((prt f.e.toNat).data.toList ++ ((prt f.i.toNat).data.toList ++ ((prt f.p.toNat).data.toList ++ (f.d.data.toList ++ List.replicate (236 - f.d.size) 0))))
section
variable {f g : F} {s : ByteArray}
theorem RightF.small (h : RightF f) : f.d.size ≤ 200 := by
 cases hc : f.c with
 | true => have := h.dc hc; omega
 | false => have := h.dp hc; omega
theorem d_len (f : F) : f.d.data.toList.length = f.d.size := by simp
theorem frameB_data (h : f.d.size ≤ 200) : (frameB f).data.toList = bodyF f ++ (prt (crc (bodyF f))).data.toList := by
 have e : (body (hdF f ++ f.d) (256 - 4)).data.toList = bodyF f := by
  rw [body_data, ByteArray.size_append, hdF_size, ByteArray.data_append, Array.toList_append, hdF_list]
  unfold bodyF
  simp only [List.append_assoc]
  congr 6
  omega
 unfold frameB
 rw [sealed_data, e]
theorem frameB_size (h : f.d.size ≤ 200) : (frameB f).size = 256 := sealed_size _ _ (by rw [ByteArray.size_append, hdF_size]; omega)
/-- A number of four bytes. -/
def nm (l : List UInt8) : Nat := (l.getD 0 0).toNat * 16777216 + (l.getD 1 0).toNat * 65536 + (l.getD 2 0).toNat * 256 + (l.getD 3 0).toNat
theorem nm_prt {x : Nat} (h : x < 4294967296) (r : List UInt8) : nm ((prt x).data.toList ++ r) = x := by
 show nm ([UInt8.ofNat (x / 16777216), UInt8.ofNat (x / 65536), UInt8.ofNat (x / 256), UInt8.ofNat x] ++ r) = x
 show (UInt8.ofNat (x / 16777216)).toNat * 16777216 + (UInt8.ofNat (x / 65536)).toNat * 65536 + (UInt8.ofNat (x / 256)).toNat * 256 + (UInt8.ofNat x).toNat = x
 simp only [UInt8.toNat_ofNat']
 omega
/-- The frame that these bytes may be. -/
def cand (s : ByteArray) : F :=
 ⟨nm (s.data.toList.drop 4), nm (s.data.toList.drop 8), s.data.toList.take 4 == word true, nm (s.data.toList.drop 12), if s.data.toList.take 4 == word true then ⟨#[]⟩ else s.extract 16 216⟩
open Classical in
noncomputable def parseF (s : ByteArray) : Option F := if s.size = 256 ∧ RightF (cand s) ∧ frameB (cand s) = s then some (cand s) else none
theorem cand_own (h : RightF f) : cand (frameB f) = f := by
 have h2 := h.small
 obtain ⟨r, e⟩ : ∃ r, (frameB f).data.toList = word f.c ++ ((prt f.e.toNat).data.toList ++ ((prt f.i.toNat).data.toList ++ ((prt f.p.toNat).data.toList ++ (f.d.data.toList ++ r)))) := by
  refine ⟨List.replicate (236 - f.d.size) 0 ++ (prt (crc (bodyF f))).data.toList, ?_⟩
  rw [frameB_data h2]
  unfold bodyF
  simp only [List.append_assoc]
 have t4 : (frameB f).data.toList.take 4 = word f.c := by rw [e, List.take_left' (word_len _)]
 have d4 : (frameB f).data.toList.drop 4 = (prt f.e.toNat).data.toList ++ ((prt f.i.toNat).data.toList ++ ((prt f.p.toNat).data.toList ++ (f.d.data.toList ++ r))) := by rw [e, List.drop_left' (word_len _)]
 have d8 : (frameB f).data.toList.drop 8 = (prt f.i.toNat).data.toList ++ ((prt f.p.toNat).data.toList ++ (f.d.data.toList ++ r)) := by rw [show 8 = 4 + 4 from rfl, ← List.drop_drop, d4, List.drop_left' (prt_len _)]
 have d12 : (frameB f).data.toList.drop 12 = (prt f.p.toNat).data.toList ++ (f.d.data.toList ++ r) := by rw [show 12 = 8 + 4 from rfl, ← List.drop_drop, d8, List.drop_left' (prt_len _)]
 have d16 : (frameB f).data.toList.drop 16 = f.d.data.toList ++ r := by rw [show 16 = 12 + 4 from rfl, ← List.drop_drop, d12, List.drop_left' (prt_len _)]
 have hw : ((frameB f).data.toList.take 4 == word true) = f.c := by
  rw [t4]
  cases f.c <;> rfl
 have he := h.e0
 have he1 := h.e1
 have hi := h.i0
 have hi1 := h.i1
 have hp := h.p0
 have hp1 := h.p1
 apply F.eq
 ·show ((nm ((frameB f).data.toList.drop 4) : Nat) : Int) = f.e
  rw [d4, nm_prt (by omega)]
  omega
 ·show ((nm ((frameB f).data.toList.drop 8) : Nat) : Int) = f.i
  rw [d8, nm_prt (by omega)]
  omega
 ·exact hw
 ·show ((nm ((frameB f).data.toList.drop 12) : Nat) : Int) = f.p
  rw [d12, nm_prt (by omega)]
  omega
 ·show (if (frameB f).data.toList.take 4 == word true then _ else _) = f.d
  rw [hw]
  cases hc : f.c with
  | true => exact (none_size (h.dc hc)).symm
  | false =>
   show (frameB f).extract 16 216 = f.d
   have h200 := h.dp hc
   apply ByteArray.ext
   apply Array.toList_inj.1
   have e2 : ((frameB f).data.toList.drop 16).take 200 = f.d.data.toList := by rw [d16, List.take_left' (by rw [d_len, h200])]
   simpa [ByteArray.data_extract, Array.toList_extract, List.extract] using e2
theorem parse_iff : parseF s = some f ↔ RightF f ∧ s = frameB f := by
 unfold parseF
 constructor
 ·intro h
  split at h
  ·rename_i hc
   injection h with h
   rw [h] at hc
   exact ⟨hc.2.1, hc.2.2.symm⟩
  ·cases h
 ·rintro ⟨h, rfl⟩
  rw [cand_own h, if_pos ⟨frameB_size h.small, h, rfl⟩]
theorem parse_own (h : RightF f) : parseF (frameB f) = some f := parse_iff.2 ⟨h, rfl⟩
end
end Go.Proofs.YtfhopccbjlleoaaGreatDoor.Fr

/- A frame in a variable, and what a question answers. -/
namespace Go.Proofs.YtfhopccbjlleoaaGreatDoor.Fr
open Go.RowKit Tal
def cellsF (f : F) : Array Value := #[.int .i64 f.e, .int .i64 f.i, .bool f.c, .int .i64 f.p, .string f.d]
def noF : F := ⟨0, 0, false, 0, ⟨#[]⟩⟩
/-- A frame in a variable. -/
structure BoxF (w : World) (g : Nat) (f : F) : Prop where
 c0 : w.cell? ⟨g, 0, none⟩ = some (.int .i64 f.e)
 c1 : w.cell? ⟨g, 1, none⟩ = some (.int .i64 f.i)
 c2 : w.cell? ⟨g, 2, none⟩ = some (.bool f.c)
 c3 : w.cell? ⟨g, 3, none⟩ = some (.int .i64 f.p)
 c4 : w.cell? ⟨g, 4, none⟩ = some (.string f.d)
 f : ∀ i, w.frozen? ⟨g, i, none⟩ = false
section
variable {w w' : World} {g q B : Nat} {f : F}
theorem BoxF.lt (h : BoxF w g f) : g < w.heap.size := World.block_lt_of_cell? w _ h.c0
theorem BoxF.below (h : BoxF w g f) (hb : Below B w w') (hB : g < B) : BoxF w' g f :=
 ⟨(hb.cell (p := ⟨g, 0, none⟩) hB).trans h.c0, (hb.cell (p := ⟨g, 1, none⟩) hB).trans h.c1, (hb.cell (p := ⟨g, 2, none⟩) hB).trans h.c2, (hb.cell (p := ⟨g, 3, none⟩) hB).trans h.c3, (hb.cell (p := ⟨g, 4, none⟩) hB).trans h.c4, fun i => (hb.frozen (p := ⟨g, i, none⟩) hB).trans (h.f i)⟩
theorem BoxF.new (w : World) (f : F) (t : TypeId) : BoxF (w.alloc (.cells (cellsF f) t)) w.heap.size f := by
 unfold cellsF
 constructor <;> simp [go_sem]
end
theorem cell_belowF {w w' : World} (h : Below w.heap.size w w') {b i : Nat} {v : Value} (hc : w.cell? ⟨b, i, none⟩ = some v) : w'.cell? ⟨b, i, none⟩ = some v :=
 (h.cell (p := ⟨b, i, none⟩) (World.block_lt_of_cell? w _ hc)).trans hc
theorem str_ne {a b : ByteArray} (h : a ≠ b) : (a.toList == b.toList) = false := by
 rw [beq_eq_false_iff_ne]
 exact fun e => h (ByteArray.ext (Array.toList_inj.1 (by simpa [ByteArray.toList_eq] using e)))
def BoolF (p : Prop) (w : World) (e : Ending) (w' : World) : Prop := ∃ b : Bool, e = .returned (.bool b) ∧ (b = true ↔ p) ∧ Below w.heap.size w w'
end Go.Proofs.YtfhopccbjlleoaaGreatDoor.Fr

/- A head's sector, plainly. -/
namespace Go.Proofs.YtfhopccbjlleoaaGreatDoor.Hd
open Tal Lf Fr

structure H where
 p : Int
 l : Int
 e : Int
/-- May it be? -/
structure RightH (h : H) : Prop where
 p0 : 8 ≤ h.p
 p1 : h.p ≤ 512
 l0 : 4 ≤ h.l
 l1 : h.l ≤ 512
 e0 : 1 ≤ h.e
 e1 : h.e < 2147483648
def noH : H := ⟨0, 0, 0⟩
theorem H.eq {f g : H} (h1 : f.p = g.p) (h2 : f.l = g.l) (h3 : f.e = g.e) : f = g := by
 cases f; cases g; simp_all
/-- What it begins with. -/
def mkH : ByteArray := ⟨#[77, 79, 83, 65, 73, 67, 48, 49]⟩
def hdH (h : H) : ByteArray := mkH ++ prt h.p.toNat ++ prt h.l.toNat ++ prt h.e.toNat
def headB (h : H) : ByteArray := sealed (hdH h) 256
theorem mkH_len : mkH.data.toList.length = 8 := rfl
theorem hdH_list (h : H) : (hdH h).data.toList = mkH.data.toList ++ ((prt h.p.toNat).data.toList ++ ((prt h.l.toNat).data.toList ++ (prt h.e.toNat).data.toList)) := by
 unfold hdH
 simp only [ByteArray.data_append, Array.toList_append, List.append_assoc]
theorem hdH_size (h : H) : (hdH h).size = 20 := by
 unfold hdH
 rw [ByteArray.size_append, ByteArray.size_append, ByteArray.size_append, prt_size, prt_size, prt_size]
 rfl
theorem headB_size (h : H) : (headB h).size = 256 := sealed_size _ _ (by rw [hdH_size]; decide)
theorem headB_list (h : H) : ∃ r, (headB h).data.toList = mkH.data.toList ++ ((prt h.p.toNat).data.toList ++ ((prt h.l.toNat).data.toList ++ ((prt h.e.toNat).data.toList ++ r))) := by
 unfold headB
 rw [sealed_data, body_data, hdH_list]
 exact ⟨_, by simp only [List.append_assoc]; rfl⟩
/-- The number at that place; nought, where there is none. -/
def nmz (s : ByteArray) (k : Nat) : Nat := if k + 4 ≤ s.size then nm (s.data.toList.drop k) else 0
/-- The head that these bytes may be. -/
def candH (s : ByteArray) : H := ⟨nmz s 8, nmz s 12, nmz s 16⟩
open Classical in
noncomputable def parseH (s : ByteArray) : Option H := if RightH (candH s) ∧ headB (candH s) = s then some (candH s) else none
section
variable {f g h : H} {s : ByteArray}
theorem cand_own (h : RightH f) : candH (headB f) = f := by
 obtain ⟨r, e⟩ := headB_list f
 have d8 : (headB f).data.toList.drop 8 = (prt f.p.toNat).data.toList ++ ((prt f.l.toNat).data.toList ++ ((prt f.e.toNat).data.toList ++ r)) := by rw [e, List.drop_left' mkH_len]
 have d12 : (headB f).data.toList.drop 12 = (prt f.l.toNat).data.toList ++ ((prt f.e.toNat).data.toList ++ r) := by rw [show 12 = 8 + 4 from rfl, ← List.drop_drop, d8, List.drop_left' (prt_len _)]
 have d16 : (headB f).data.toList.drop 16 = (prt f.e.toNat).data.toList ++ r := by rw [show 16 = 12 + 4 from rfl, ← List.drop_drop, d12, List.drop_left' (prt_len _)]
 have hs := headB_size f
 have a0 := h.p0
 have a1 := h.p1
 have a2 := h.l0
 have a3 := h.l1
 have a4 := h.e0
 have a5 := h.e1
 apply H.eq
 ·show ((nmz (headB f) 8 : Nat) : Int) = f.p
  unfold nmz
  rw [if_pos (by omega), d8, nm_prt (by omega)]
  omega
 ·show ((nmz (headB f) 12 : Nat) : Int) = f.l
  unfold nmz
  rw [if_pos (by omega), d12, nm_prt (by omega)]
  omega
 ·show ((nmz (headB f) 16 : Nat) : Int) = f.e
  unfold nmz
  rw [if_pos (by omega), d16, nm_prt (by omega)]
  omega
theorem parse_iff : parseH s = some f ↔ RightH f ∧ s = headB f := by
 unfold parseH
 constructor
 ·intro h
  split at h
  ·rename_i hc
   injection h with h
   rw [h] at hc
   exact ⟨hc.1, hc.2.symm⟩
  ·cases h
 ·rintro ⟨h, rfl⟩
  rw [cand_own h, if_pos ⟨h, rfl⟩]
theorem parse_own (h : RightH f) : parseH (headB f) = some f := parse_iff.2 ⟨h, rfl⟩
/-- The first byte of one that is a head's. -/
theorem head_first (f : H) : (headB f).data.toList.getD 0 0 = 77 := by
 obtain ⟨r, e⟩ := headB_list f
 rw [e]
 rfl
theorem parse_first (h : s.data.toList.getD 0 0 ≠ 77) : parseH s = none := by
 cases hp : parseH s with
 | none => rfl
 | some f =>
  obtain ⟨_, rfl⟩ := parse_iff.1 hp
  exact absurd (head_first f) h
end
/-- What counts behind one more sector. -/
noncomputable def stepH (cur : H) (t : ByteArray) : H := match parseH t with
 | some h => if cur.e < h.e then h else cur
 | none => cur
/-- The head that counts of two sectors, and the error. -/
noncomputable def bestH (a b : ByteArray) : H := stepH (stepH noH a) b
end Go.Proofs.YtfhopccbjlleoaaGreatDoor.Hd

/- A head in a variable; Right, Size, Home, Log of the program (762697a) and the document, walked. -/
namespace Go.Proofs.YtfhopccbjlleoaaGreatDoor.Hd
open Go.RowKit Tal Sla
def cellsH (h : H) : Array Value := #[.int .i64 h.p, .int .i64 h.l, .int .i64 h.e]
/-- A head in a variable. -/
structure BoxH (w : World) (g : Nat) (h : H) : Prop where
 c0 : w.cell? ⟨g, 0, none⟩ = some (.int .i64 h.p)
 c1 : w.cell? ⟨g, 1, none⟩ = some (.int .i64 h.l)
 c2 : w.cell? ⟨g, 2, none⟩ = some (.int .i64 h.e)
 f : ∀ i, w.frozen? ⟨g, i, none⟩ = false
section
variable {w w' : World} {g q B : Nat} {h : H}
theorem BoxH.lt (k : BoxH w g h) : g < w.heap.size := World.block_lt_of_cell? w _ k.c0
theorem BoxH.below (k : BoxH w g h) (hb : Below B w w') (hB : g < B) : BoxH w' g h :=
 ⟨(hb.cell (p := ⟨g, 0, none⟩) hB).trans k.c0, (hb.cell (p := ⟨g, 1, none⟩) hB).trans k.c1, (hb.cell (p := ⟨g, 2, none⟩) hB).trans k.c2, fun i => (hb.frozen (p := ⟨g, i, none⟩) hB).trans (k.f i)⟩
theorem BoxH.new (w : World) (h : H) (t : TypeId) : BoxH (w.alloc (.cells (cellsH h) t)) w.heap.size h := by
 unfold cellsH
 constructor <;> simp [go_sem]
theorem cell_set (w : World) (g i j : Nat) (u v : Value) (hij : i ≠ j) (h : w.cell? ⟨g, j, none⟩ = some v) : (w.setCell ⟨g, i, none⟩ u).cell? ⟨g, j, none⟩ = some v :=
 (World.cell?_setCell_other w _ _ u (fun e => by injection e with _ e2; exact hij e2)).trans h
/-- Another head put into the variable. -/
theorem BoxH.put (k : BoxH w g h) (u : H) : BoxH (((w.setCell ⟨g, 0, none⟩ (.int .i64 u.p)).setCell ⟨g, 1, none⟩ (.int .i64 u.l)).setCell ⟨g, 2, none⟩ (.int .i64 u.e)) g u := by
 have a0 := World.cell?_setCell_same w ⟨g, 0, none⟩ (.int .i64 u.p) k.c0
 have b1 := cell_set w g 0 1 (.int .i64 u.p) _ (by decide) k.c1
 have b2 := cell_set w g 0 2 (.int .i64 u.p) _ (by decide) k.c2
 have f0 : ∀ i, (w.setCell ⟨g, 0, none⟩ (.int .i64 u.p)).frozen? ⟨g, i, none⟩ = false := fun i => by rw [World.frozen?_setCell]; exact k.f i
 generalize w.setCell ⟨g, 0, none⟩ (.int .i64 u.p) = w1 at a0 b1 b2 f0 ⊢
 have a0 := cell_set w1 g 1 0 (.int .i64 u.l) _ (by decide) a0
 have a1 := World.cell?_setCell_same w1 ⟨g, 1, none⟩ (.int .i64 u.l) b1
 have b2 := cell_set w1 g 1 2 (.int .i64 u.l) _ (by decide) b2
 have f0 : ∀ i, (w1.setCell ⟨g, 1, none⟩ (.int .i64 u.l)).frozen? ⟨g, i, none⟩ = false := fun i => by rw [World.frozen?_setCell]; exact f0 i
 generalize w1.setCell ⟨g, 1, none⟩ (.int .i64 u.l) = w2 at a0 a1 b2 f0 ⊢
 exact ⟨cell_set w2 g 2 0 _ _ (by decide) a0, cell_set w2 g 2 1 _ _ (by decide) a1, World.cell?_setCell_same w2 ⟨g, 2, none⟩ _ b2, fun i => by rw [World.frozen?_setCell]; exact f0 i⟩
theorem below_putH (hB : Below B w w') (hg : B ≤ g) (u : H) : Below B w (((w'.setCell ⟨g, 0, none⟩ (.int .i64 u.p)).setCell ⟨g, 1, none⟩ (.int .i64 u.l)).setCell ⟨g, 2, none⟩ (.int .i64 u.e)) :=
 ((hB.setCell (p := ⟨g, 0, none⟩) hg _).setCell (p := ⟨g, 1, none⟩) hg _).setCell (p := ⟨g, 2, none⟩) hg _
theorem cell_belowH (h : Below w.heap.size w w') {b i : Nat} {v : Value} (hc : w.cell? ⟨b, i, none⟩ = some v) : w'.cell? ⟨b, i, none⟩ = some v :=
 (h.cell (p := ⟨b, i, none⟩) (World.block_lt_of_cell? w _ hc)).trans hc
end
theorem str_ne {a b : ByteArray} (h : a ≠ b) : (a.toList == b.toList) = false := by
 rw [beq_eq_false_iff_ne]
 exact fun e => h (ByteArray.ext (Array.toList_inj.1 (by simpa [ByteArray.toList_eq] using e)))
theorem results_h2 {fn : Func} {p q : Tmp} (h : fn.results = #[.cell p 30, .tmp q]) (tmps : Array Value) (w : World) (g : Nat) (v0 v1 v2 : Value)
  (hp : tmps.getD p undef = .pointer (some ⟨g, 0, none⟩)) (c0 : w.cell? ⟨g, 0, none⟩ = some v0) (c1 : w.cell? ⟨g, 1, none⟩ = some v1) (c2 : w.cell? ⟨g, 2, none⟩ = some v2) :
  (results fn tmps).run Tryz.prog w = .ok (.tuple #[.agg #[v0, v1, v2], tmps.getD q undef]) w := by
 have hp' : tmps[p]?.getD undef = .pointer (some ⟨g, 0, none⟩) := by simpa using hp
 clear hp
 simp only [results, h]
 go_simp
def BoolH (p : Prop) (w : World) (e : Ending) (w' : World) : Prop := ∃ b : Bool, e = .returned (.bool b) ∧ (b = true ↔ p) ∧ Below w.heap.size w w'
theorem rightH_iff (h : H) : RightH h ↔ (8 ≤ h.p ∧ h.p ≤ 512 ∧ 4 ≤ h.l ∧ h.l ≤ 512 ∧ 1 ≤ h.e ∧ h.e < 2147483648) :=
 ⟨fun k => ⟨k.p0, k.p1, k.l0, k.l1, k.e0, k.e1⟩, fun ⟨a, b, c, d, e, f⟩ => ⟨a, b, c, d, e, f⟩⟩
set_option maxHeartbeats 1600000 in
theorem right_any (h : H) (w : World) :
  Calls Tryz.prog 26 #[.agg (cellsH h)] w (BoolH (RightH h) w) := by
 have hB := (Below.refl w.heap.size w).alloc (Nat.le_refl _) (.cells (cellsH h) 30)
 have hiff := rightH_iff h
 obtain ⟨hp, hl, he⟩ := h
 unfold cellsH at hB ⊢
 simp only at hB hiff ⊢
 generalize hP : RightH ⟨hp, hl, he⟩ = MP at hiff ⊢
 clear hP
 have HI := Lib.hid hiff
 have HB := Lib.hid hB
 clear hiff hB
 go_enter Tryz.func26, Tryz.ntmps26
 by_cases a0 : ¬ (8 : Int) ≤ hp
 ·have HQ : Hid (¬ MP) := Lib.hid (by rw [HI.out]; omega)
  have b0 : decide ((8 : Int) ≤ hp) = false := decide_eq_false (by omega)
  clear HI
  go_wp2
  go_ret
  exact ⟨false, rfl, ⟨fun e => (by cases e), fun e => absurd e HQ.out⟩, HB.out⟩
 by_cases a1 : ¬ hp ≤ 512
 ·have HQ : Hid (¬ MP) := Lib.hid (by rw [HI.out]; omega)
  have b0 : decide ((8 : Int) ≤ hp) = true := decide_eq_true (by omega)
  have b1 : decide (hp ≤ 512) = false := decide_eq_false (by omega)
  clear HI
  go_wp2
  go_ret
  exact ⟨false, rfl, ⟨fun e => (by cases e), fun e => absurd e HQ.out⟩, HB.out⟩
 by_cases a2 : ¬ (4 : Int) ≤ hl
 ·have HQ : Hid (¬ MP) := Lib.hid (by rw [HI.out]; omega)
  have b0 : decide ((8 : Int) ≤ hp) = true := decide_eq_true (by omega)
  have b1 : decide (hp ≤ 512) = true := decide_eq_true (by omega)
  have b2 : decide ((4 : Int) ≤ hl) = false := decide_eq_false (by omega)
  clear HI
  go_wp2
  go_ret
  exact ⟨false, rfl, ⟨fun e => (by cases e), fun e => absurd e HQ.out⟩, HB.out⟩
 by_cases a3 : ¬ hl ≤ 512
 ·have HQ : Hid (¬ MP) := Lib.hid (by rw [HI.out]; omega)
  have b0 : decide ((8 : Int) ≤ hp) = true := decide_eq_true (by omega)
  have b1 : decide (hp ≤ 512) = true := decide_eq_true (by omega)
  have b2 : decide ((4 : Int) ≤ hl) = true := decide_eq_true (by omega)
  have b3 : decide (hl ≤ 512) = false := decide_eq_false (by omega)
  clear HI
  go_wp2
  go_ret
  exact ⟨false, rfl, ⟨fun e => (by cases e), fun e => absurd e HQ.out⟩, HB.out⟩
 by_cases a4 : ¬ (1 : Int) ≤ he
 ·have HQ : Hid (¬ MP) := Lib.hid (by rw [HI.out]; omega)
  have b0 : decide ((8 : Int) ≤ hp) = true := decide_eq_true (by omega)
  have b1 : decide (hp ≤ 512) = true := decide_eq_true (by omega)
  have b2 : decide ((4 : Int) ≤ hl) = true := decide_eq_true (by omega)
  have b3 : decide (hl ≤ 512) = true := decide_eq_true (by omega)
  have b4 : decide ((1 : Int) ≤ he) = false := decide_eq_false (by omega)
  clear HI
  go_wp2
  go_ret
  exact ⟨false, rfl, ⟨fun e => (by cases e), fun e => absurd e HQ.out⟩, HB.out⟩
 by_cases a5 : ¬ he ≤ 2147483647
 ·have HQ : Hid (¬ MP) := Lib.hid (by rw [HI.out]; omega)
  have b0 : decide ((8 : Int) ≤ hp) = true := decide_eq_true (by omega)
  have b1 : decide (hp ≤ 512) = true := decide_eq_true (by omega)
  have b2 : decide ((4 : Int) ≤ hl) = true := decide_eq_true (by omega)
  have b3 : decide (hl ≤ 512) = true := decide_eq_true (by omega)
  have b4 : decide ((1 : Int) ≤ he) = true := decide_eq_true (by omega)
  have b5 : decide (he ≤ 2147483647) = false := decide_eq_false (by omega)
  clear HI
  go_wp2
  go_ret
  exact ⟨false, rfl, ⟨fun e => (by cases e), fun e => absurd e HQ.out⟩, HB.out⟩
 have HQ : Hid MP := Lib.hid (by rw [HI.out]; omega)
 have b0 : decide ((8 : Int) ≤ hp) = true := decide_eq_true (by omega)
 have b1 : decide (hp ≤ 512) = true := decide_eq_true (by omega)
 have b2 : decide ((4 : Int) ≤ hl) = true := decide_eq_true (by omega)
 have b3 : decide (hl ≤ 512) = true := decide_eq_true (by omega)
 have b4 : decide ((1 : Int) ≤ he) = true := decide_eq_true (by omega)
 have b5 : decide (he ≤ 2147483647) = true := decide_eq_true (by omega)
 clear HI
 go_wp2
 go_ret
 exact ⟨true, rfl, ⟨fun e => HQ.out, fun e => rfl⟩, HB.out⟩
theorem size_any (h : H) (w : World) :
  Calls Tryz.prog 28 #[.agg (cellsH h)] w fun e w' => e = .returned (.int .i64 (wrap64 (wrap64 (2 + h.p) + h.l))) ∧ Below w.heap.size w w' := by
 have hB := (Below.refl w.heap.size w).alloc (Nat.le_refl _) (.cells (cellsH h) 30)
 obtain ⟨hp, hl, he⟩ := h
 unfold cellsH at hB ⊢
 simp only at hB ⊢
 go_enter Tryz.func28, Tryz.ntmps28
 go_wp2
 go_ret
 exact ⟨rfl, hB⟩
theorem home_any (n : Int) (w : World) :
  Calls Tryz.prog 115 #[.int .i64 n] w fun e w' => e = .returned (.int .i64 (wrap64 (2 + n))) ∧ w' = w := by
 go_enter Tryz.func115, Tryz.ntmps115
 go_wp2
 go_ret
 exact ⟨rfl, rfl⟩
theorem log_any (h : H) (n : Int) (w : World) :
  Calls Tryz.prog 102 #[.agg (cellsH h), .int .i64 n] w fun e w' => e = .returned (.int .i64 (wrap64 (wrap64 (2 + h.p) + n))) ∧ Below w.heap.size w w' := by
 have hB := (Below.refl w.heap.size w).alloc (Nat.le_refl _) (.cells (cellsH h) 30)
 obtain ⟨hp, hl, he⟩ := h
 unfold cellsH at hB ⊢
 simp only at hB ⊢
 go_enter Tryz.func102, Tryz.ntmps102
 go_wp2
 go_ret
 exact ⟨rfl, hB⟩
end Go.Proofs.YtfhopccbjlleoaaGreatDoor.Hd

/- A page's sector: the program's own functions at 762697a, walked. -/
namespace Go.Proofs.YtfhopccbjlleoaaGreatDoor.Lf
open Go.RowKit Tal
section
variable {w : World}
theorem numbered_any (no : Int) (w : World) (h0 : 0 ≤ no) (h1 : no < 4294967296) :
    Calls Tryz.prog 108 #[.int .i64 no] w fun e w' => e = .returned (.bool true) ∧ w = w' := by
  go_enter Tryz.func108, Tryz.ntmps108
  have e1 : IntKind.u64.wrap no = no := by simp [IntKind.wrap, IntKind.bits, IntKind.signed]; omega
  have e2 : decide (no ≤ 4294967295) = true := by simp; omega
  go_wp2
  go_ret
  exact ⟨rfl, rfl⟩
theorem convP (x : Nat) (w : World) (hx : x < 4294967296) : (convert 63 9 (.slice (some ⟨w.heap.size, 0, none⟩) 4 4)).run Tryz.prog (w.alloc (.cells #[.int .u8 ((x : Int) / 16777216), .int .u8 ((x : Int) / 65536 % 256), .int .u8 ((x : Int) / 256 % 256), .int .u8 ((x : Int) % 256)] 5)) = .ok (.string (prt x)) (w.alloc (.cells #[.int .u8 ((x : Int) / 16777216), .int .u8 ((x : Int) / 65536 % 256), .int .u8 ((x : Int) / 256 % 256), .int .u8 ((x : Int) % 256)] 5)) := by
    have := run_convert_bytes_arg (P := Tryz.prog) (w.alloc (.cells #[.int .u8 ((x : Int) / 16777216), .int .u8 ((x : Int) / 65536 % 256), .int .u8 ((x : Int) / 256 % 256), .int .u8 ((x : Int) % 256)] 5)) 63 5 Tryz.underlying63 Tryz.underlying5 w.heap.size 0 4 4 [(x : Int) / 16777216, (x : Int) / 65536 % 256, (x : Int) / 256 % 256, (x : Int) % 256] rfl (by
      intro i hi
      match i, hi with
      | 0, _ => simp
      | 1, _ => simp
      | 2, _ => simp
      | 3, _ => simp) 9 Tryz.underlying9
    rw [this, prt_nums x]
set_option maxHeartbeats 400000 in
theorem lprinted_any (x : Nat) (w : World) (hx : x < 4294967296) :
    Calls Tryz.prog 110 #[.int .i64 x] w fun e w' => e = .returned (.string (prt x)) ∧ Below w.heap.size w w' := by
  have hcv := convP x w hx
  go_enter Tryz.func110, Tryz.ntmps110
  go_wp2
  go_ret
  exact ⟨rfl, (Below.refl _ _).alloc (Nat.le_refl _) _⟩
set_option maxHeartbeats 400000 in
theorem print_any (no : Nat) (d : ByteArray) (w : World) (ht : Tab w) (hn : no < 512) (hds : d.size = 200) :
    Calls Tryz.prog 116 #[.agg #[.int .i64 no, .string d]] w fun e w' => e = .returned (.string (leafB no d)) ∧ Below w.heap.size w w' := by
  have HT := Lib.hid ht
  clear ht
  have hd2 : ((d.size : Int) == 200) = true := by simp; omega
  go_enter Tryz.func116, Tryz.ntmps116
  go_wp2_with fail
  have hb0 : Below w.heap.size w (w.alloc (Obj.cells #[Value.int IntKind.i64 no, Value.string d] 92)) := (Below.refl _ _).alloc (Nat.le_refl _) _
  have c0 : (w.alloc (Obj.cells #[Value.int IntKind.i64 no, Value.string d] 92)).cell? ⟨w.heap.size, 0, none⟩ = some (.int .i64 no) := by simp
  have c1 : (w.alloc (Obj.cells #[Value.int IntKind.i64 no, Value.string d] 92)).cell? ⟨w.heap.size, 1, none⟩ = some (.string d) := by simp
  obtain ⟨g, hg⟩ : ∃ g, w.heap.size = g := ⟨_, rfl⟩
  have HB0 := Lib.hid hb0
  generalize hw0 : w.alloc (Obj.cells #[Value.int IntKind.i64 no, Value.string d] 92) = w0 at HB0 c0 c1 ⊢
  rw [hg] at c0 c1 ⊢
  clear hb0 hg hw0
  refine (numbered_any no w0 (by omega) (by omega)).mono ?_
  rintro e w1 ⟨rfl, rfl⟩
  go_wp2_with fail
  have hbd := HB0.out.drew
  have HTD := Lib.hid (HT.out.below hbd)
  have hlt : g < w0.drew.heap.size := World.block_lt_of_cell? w0 ⟨g, 0, none⟩ c0
  have hp1 := lprinted_any no w0.drew (by omega)
  have hsz : (hd no ++ d).size = 208 := both_size hds
  have hc1 : w0.drew.cell? ⟨g, 0, none⟩ = some (.int .i64 no) := c0
  have hc2 : w0.drew.cell? ⟨g, 1, none⟩ = some (.string d) := c1
  have CD := Lib.hid (And.intro hc1 hc2)
  have HE : Hid ((⟨#[80, 65, 71, 69]⟩ : ByteArray) ++ prt no ++ d = hd no ++ d) := Lib.hid rfl
  clear hc1 hc2
  have z0 := hds
  have z1 : ((⟨#[80, 65, 71, 69]⟩ : ByteArray) ++ prt no).size = 8 := hd_size no
  have z2 : (prt no).size = 4 := prt_size no
  have z3 : (⟨#[80, 65, 71, 69]⟩ : ByteArray).size = 4 := rfl
  go_region_held3 (fun w' => w'.cell? ⟨g, 0, none⟩ = some (.int .i64 no) ∧ w'.cell? ⟨g, 1, none⟩ = some (.string d))
    (first | (with_reducible exact hk6) | (with_reducible exact hk5) | (with_reducible exact CD.out))
    (first
      | (go_at_call 110
         refine hp1.mono ?_
         rintro e w5 ⟨rfl, hb5⟩
         have hk5 := And.intro ((hb5.cell (p := ⟨g, 0, none⟩) hlt).trans CD.out.1) ((hb5.cell (p := ⟨g, 1, none⟩) hlt).trans CD.out.2))
      | (go_at_call 109
         rw [HE.out]
         refine (sealed_any (hd no ++ d) 256 _ (HTD.out.below hb5) (by decide) (by rw [hsz]; decide)).mono ?_
         rintro e w6 ⟨rfl, hb6⟩
         have hb56 := hb5.trans (hb6.mono hb5.size)
         have hk6 := And.intro ((hb56.cell (p := ⟨g, 0, none⟩) hlt).trans CD.out.1) ((hb56.cell (p := ⟨g, 1, none⟩) hlt).trans CD.out.2)))
  go_wp2
  go_ret
  exact ⟨rfl, hbd.trans (hb56.mono hbd.size)⟩
set_option maxHeartbeats 400000 in
theorem parse_any (s : ByteArray) (no : Nat) (w : World) (ht : Tab w) (hn : no < 512) (hs : s.size ≤ 300) :
    Calls Tryz.prog 123 #[.string s, .int .i64 no] w fun e w' => e = .returned (.tuple #[.string ((parseL s no).getD ⟨#[]⟩), .bool (parseL s no).isSome]) ∧ Below w.heap.size w w' := by
  have HT := Lib.hid ht
  clear ht
  by_cases h : s.size = 256
  · have h1 : ((s.size : Int) == 256) = true := by simp; omega
    have h2 : (s.extract 8 208).size = 200 := by rw [ByteArray.size_extract]; omega
    have i1 : (208 : Int) ≤ s.size := by omega
    have HP := Lib.hid (print_any no (s.extract 8 208) w HT.out hn h2)
    go_enter Tryz.func123, Tryz.ntmps123
    go_wp2_with fail
    refine HP.out.mono ?_
    rintro e w1 ⟨rfl, hb1⟩
    by_cases hq : s = leafB no (s.extract 8 208)
    · have e : parseL s no = some (s.extract 8 208) := by unfold parseL; rw [if_pos ⟨h, hq⟩]
      have e1 : ((leafB no (s.extract 8 208)).toList == s.toList) = true := by rw [← hq]; simp
      clear hq
      go_wp2
      refine bodyPost_ret (results_tmp2 rfl _ _ _) rfl ?_
      rw [e]
      exact ⟨rfl, hb1⟩
    · have e : parseL s no = none := by unfold parseL; rw [if_neg (fun hc => hq hc.2)]
      have e1 : ((leafB no (s.extract 8 208)).toList == s.toList) = false := by
        rw [beq_eq_false_iff_ne]
        intro hc
        rw [ByteArray.toList_eq, ByteArray.toList_eq] at hc
        exact hq (ByteArray.ext (Array.toList_inj.1 hc.symm))
      go_wp2
      refine bodyPost_ret (results_tmp2 rfl _ _ _) rfl ?_
      rw [e]
      exact ⟨rfl, hb1⟩
  · have h1 : ((s.size : Int) == 256) = false := beq_eq_false_iff_ne.2 (by omega)
    go_enter Tryz.func123, Tryz.ntmps123
    have e : parseL s no = none := by unfold parseL; rw [if_neg (fun hc => h hc.1)]
    go_wp2
    refine bodyPost_ret (results_tmp2 rfl _ _ _) rfl ?_
    rw [e]
    exact ⟨rfl, Below.refl _ _⟩
theorem blank_any (w : World) :
    Calls Tryz.prog 55 #[] w fun e w' => e = .returned (.string (zeros 200)) ∧ Below w.heap.size w w' := by
  go_enter Tryz.func55, Tryz.ntmps55
  go_wp2_with fail
  refine (noughts_any 200 _ (by decide) (by decide)).mono ?_
  rintro e w1 ⟨rfl, hb1⟩
  go_wp2
  go_ret
  exact ⟨rfl, hb1⟩
end
end Go.Proofs.YtfhopccbjlleoaaGreatDoor.Lf

/- Numbers of four bytes (quad): the program's at 762697a, walked. -/
namespace Go.Proofs.YtfhopccbjlleoaaGreatDoor.Fr
open Go.RowKit Tal Lf
section
variable {w : World} {s : ByteArray}
theorem byte_of {k : Nat} (h : k < s.size) : s.data.toList[k]? = some s[k] := by rw [List.getElem?_eq_getElem (by simpa using h)]; rfl
/-- The number of the four bytes at k. -/
theorem nm_at {k : Nat} (h : k + 4 ≤ s.size) : nm (s.data.toList.drop k) = (s[k]'(by omega)).toNat * 16777216 + (s[k + 1]'(by omega)).toNat * 65536 + (s[k + 2]'(by omega)).toNat * 256 + (s[k + 3]'(by omega)).toNat := by
 have hz : ∀ (l : List UInt8) (j : Nat), (l.drop k).getD j 0 = l.getD (k + j) 0 := fun l j => by simp [List.getD_eq_getElem?_getD]
 unfold nm
 rw [hz, hz, hz, hz]
 simp only [List.getD_eq_getElem?_getD, Nat.add_zero]
 rw [byte_of (by omega), byte_of (by omega), byte_of (by omega), byte_of (by omega)]
 rfl
theorem or_four {a b c d : Nat} (ha : a < 256) (hb : b < 256) (hc : c < 256) (hd : d < 256) :
  bits .or .i64 (bits .or .i64 (bits .or .i64 ((a : Int) * 16777216) ((b : Int) * 65536)) ((c : Int) * 256)) (d : Int) = ((a * 16777216 + b * 65536 + c * 256 + d : Nat) : Int) := by
 have h1 := bits_join .i64 63 (by decide) (fun n h0 h1 => by simp [IntKind.wrap, IntKind.bits, IntKind.signed]; omega) 24 ((a : Int) * 16777216) ((b : Int) * 65536) (by omega) (by omega) (by omega) (by omega) (by omega) (by omega)
 rw [h1]
 have h2 := bits_join .i64 63 (by decide) (fun n h0 h1 => by simp [IntKind.wrap, IntKind.bits, IntKind.signed]; omega) 16 ((a : Int) * 16777216 + (b : Int) * 65536) ((c : Int) * 256) (by omega) (by omega) (by omega) (by omega) (by omega) (by omega)
 rw [h2]
 have h3 := bits_join .i64 63 (by decide) (fun n h0 h1 => by simp [IntKind.wrap, IntKind.bits, IntKind.signed]; omega) 8 ((a : Int) * 16777216 + (b : Int) * 65536 + (c : Int) * 256) (d : Int) (by omega) (by omega) (by omega) (by omega) (by omega) (by omega)
 rw [h3]
 omega
set_option maxHeartbeats 1000000 in
theorem numberAt_any (k : Nat) (w : World) (hk : k ≤ 1000) (hs : k + 4 ≤ s.size) (hz : s.size ≤ 300000) :
  Calls Tryz.prog 126 #[.string s, .int .i64 k] w fun e w' => e = .returned (.int .i64 (nm (s.data.toList.drop k) : Nat)) ∧ Below w.heap.size w w' := by
 rw [nm_at hs]
 have h0 := (s[k]'(by omega)).toNat_lt
 have h1 := (s[k + 1]'(by omega)).toNat_lt
 have h2 := (s[k + 2]'(by omega)).toNat_lt
 have h3 := (s[k + 3]'(by omega)).toNat_lt
 have i0 : (k : Int) < (s.size : Int) := by omega
 have i1 : (k : Int) + 1 < (s.size : Int) := by omega
 have i2 : (k : Int) + 2 < (s.size : Int) := by omega
 have i3 : (k : Int) + 3 < (s.size : Int) := by omega
 have j0 : (0 : Int) ≤ (k : Int) := by omega
 have j1 : (0 : Int) ≤ (k : Int) + 1 := by omega
 have j2 : (0 : Int) ≤ (k : Int) + 2 := by omega
 have j3 : (0 : Int) ≤ (k : Int) + 3 := by omega
 have t1 : ((k : Int) + 1).toNat = k + 1 := by omega
 have t2 : ((k : Int) + 2).toNat = k + 2 := by omega
 have t3 : ((k : Int) + 3).toNat = k + 3 := by omega
 have HO := Lib.hid (or_four h0 h1 h2 h3)
 have qw : wrap64 ((s.size : Int) - 4) = (s.size : Int) - 4 := by unfold wrap64; omega
 have q0 : decide ((k : Int) < 0) = false := decide_eq_false (by omega)
 have q1 : decide ((s.size : Int) - 4 < (k : Int)) = false := decide_eq_false (by omega)
 go_enter Tryz.func126, Tryz.ntmps126
 go_wp2
 go_quiet (fail)
 have hd := below_drewN (Below.refl w.heap.size w) nq
 go_wp2
 go_ret
 exact ⟨by rw [← HO.out]; rfl, hd⟩
/-- Where there aren't four bytes: nought. -/
theorem numberAt_short (k : Nat) (w : World) (hk : k ≤ 1000) (hs : s.size < k + 4) (hz : s.size ≤ 300000) :
  Calls Tryz.prog 126 #[.string s, .int .i64 k] w fun e w' => e = .returned (.int .i64 0) ∧ Below w.heap.size w w' := by
 have qw : wrap64 ((s.size : Int) - 4) = (s.size : Int) - 4 := by unfold wrap64; omega
 have q0 : decide ((k : Int) < 0) = false := decide_eq_false (by omega)
 have q1 : decide ((s.size : Int) - 4 < (k : Int)) = true := decide_eq_true (by omega)
 go_enter Tryz.func126, Tryz.ntmps126
 go_wp2
 go_ret
 exact ⟨rfl, Below.refl _ _⟩
theorem hasRoom_any (n : Int) (w : World) (h0 : 0 ≤ n) (h1 : n < 4294967296) :
  Calls Tryz.prog 108 #[.int .i64 n] w fun e w' => e = .returned (.bool true) ∧ w' = w := by
 go_enter Tryz.func108, Tryz.ntmps108
 have e1 : IntKind.u64.wrap n = n := by simp [IntKind.wrap, IntKind.bits, IntKind.signed]; omega
 have e2 : decide (n ≤ 4294967295) = true := by simp; omega
 go_wp2
 go_ret
 exact ⟨rfl, rfl⟩
theorem convP (x : Nat) (w : World) (hx : x < 4294967296) : (convert 63 9 (.slice (some ⟨w.heap.size, 0, none⟩) 4 4)).run Tryz.prog (w.alloc (.cells #[.int .u8 ((x : Int) / 16777216), .int .u8 ((x : Int) / 65536 % 256), .int .u8 ((x : Int) / 256 % 256), .int .u8 ((x : Int) % 256)] 5)) = .ok (.string (prt x)) (w.alloc (.cells #[.int .u8 ((x : Int) / 16777216), .int .u8 ((x : Int) / 65536 % 256), .int .u8 ((x : Int) / 256 % 256), .int .u8 ((x : Int) % 256)] 5)) := by
  have := run_convert_bytes_arg (P := Tryz.prog) (w.alloc (.cells #[.int .u8 ((x : Int) / 16777216), .int .u8 ((x : Int) / 65536 % 256), .int .u8 ((x : Int) / 256 % 256), .int .u8 ((x : Int) % 256)] 5)) 63 5 Tryz.underlying63 Tryz.underlying5 w.heap.size 0 4 4 [(x : Int) / 16777216, (x : Int) / 65536 % 256, (x : Int) / 256 % 256, (x : Int) % 256] rfl (by
   intro i hi
   match i, hi with
   | 0, _ => simp
   | 1, _ => simp
   | 2, _ => simp
   | 3, _ => simp) 9 Tryz.underlying9
  rw [this, prt_nums x]
set_option maxHeartbeats 400000 in
theorem fprinted_any (x : Nat) (w : World) (hx : x < 4294967296) :
  Calls Tryz.prog 110 #[.int .i64 x] w fun e w' => e = .returned (.string (prt x)) ∧ Below w.heap.size w w' := by
 have hcv := convP x w hx
 go_enter Tryz.func110, Tryz.ntmps110
 go_wp2
 go_ret
 exact ⟨rfl, (Below.refl _ _).alloc (Nat.le_refl _) _⟩
end
end Go.Proofs.YtfhopccbjlleoaaGreatDoor.Fr

/- Frames' numbers: the program's and the document's, walked. -/
namespace Go.Proofs.YtfhopccbjlleoaaGreatDoor.Fr
open Go.RowKit Tal Lf
section
variable {w : World} {s : ByteArray}
/-- What a sector begins with, as a text. -/
def markB (c : Bool) : ByteArray := ⟨(word c).toArray⟩
def lenOf (c : Bool) : Nat := if c then 0 else 200
theorem markOf_any (c : Bool) (w : World) :
  Calls Tryz.prog 137 #[.bool c] w fun e w' => e = .returned (.string (markB c)) ∧ w' = w := by
 cases c <;>
 ·go_enter Tryz.func137, Tryz.ntmps137
  go_wp2
  go_ret
  exact ⟨rfl, rfl⟩
theorem dataBytes_any (c : Bool) (w : World) :
  Calls Tryz.prog 153 #[.bool c] w fun e w' => e = .returned (.int .i64 (lenOf c : Nat)) ∧ w' = w := by
 cases c <;>
 ·go_enter Tryz.func153, Tryz.ntmps153
  go_wp2
  go_ret
  exact ⟨rfl, rfl⟩
end
end Go.Proofs.YtfhopccbjlleoaaGreatDoor.Fr

/- Frames: the program's Right at 4d08357, walked. -/
namespace Go.Proofs.YtfhopccbjlleoaaGreatDoor.Fr
open Go.RowKit Tal Lf
section
set_option maxRecDepth 20000 in
set_option maxHeartbeats 3200000 in
theorem right_any (f : F) (w : World) :
  Calls Tryz.prog 145 #[.agg (cellsF f)] w (BoolF (RightF f) w) := by
 have hB := (Below.refl w.heap.size w).alloc (Nat.le_refl _) (.cells (cellsF f) 83)
 have hiff : RightF f ↔ (1 ≤ f.e ∧ f.e < 2147483648 ∧ 0 ≤ f.i ∧ f.i < 512 ∧ 0 ≤ f.p ∧ f.p < 512 ∧ f.d.size = lenOf f.c) :=
  ⟨fun h => ⟨h.e0, h.e1, h.i0, h.i1, h.p0, h.p1, by cases hc : f.c with
   | true => exact h.dc hc
   | false => exact h.dp hc⟩, fun ⟨a, b, c, d, e, g, h⟩ => ⟨a, b, c, d, e, g, fun hc => by rw [h, hc]; rfl, fun hc => by rw [h, hc]; rfl⟩⟩
 obtain ⟨fe, fi, fc, fp, fd⟩ := f
 unfold cellsF at hB ⊢
 simp only at hB hiff ⊢
 have hD := fun k => below_drewN (Below.refl (w.alloc (.cells #[.int .i64 fe, .int .i64 fi, .bool fc, .int .i64 fp, .string fd] 83)).heap.size (w.alloc (.cells #[.int .i64 fe, .int .i64 fi, .bool fc, .int .i64 fp, .string fd] 83))) k
 generalize hP : RightF ⟨fe, fi, fc, fp, fd⟩ = MP at hiff ⊢
 clear hP
 have HI := Lib.hid hiff
 clear hiff
 have hR := fun W : World => dataBytes_any fc W
 generalize lenOf fc = ln at HI hR
 go_enter Tryz.func145, Tryz.ntmps145
 by_cases a0 : ¬ (1 : Int) ≤ fe
 ·have HQ : Hid (¬ MP) := Lib.hid (by rw [HI.out]; omega)
  have b0 : decide ((1 : Int) ≤ fe) = false := decide_eq_false (by omega)
  clear HI
  go_wp2
  go_quiet ((go_at_call 153; exact Calls.quiet_of_same (hR _)))
  go_wp2
  go_ret
  exact ⟨false, rfl, ⟨fun e => (by cases e), fun e => absurd e HQ.out⟩, hB.trans ((hD _).mono hB.size)⟩
 by_cases a1 : ¬ fe ≤ 2147483647
 ·have HQ : Hid (¬ MP) := Lib.hid (by rw [HI.out]; omega)
  have b0 : decide ((1 : Int) ≤ fe) = true := decide_eq_true (by omega)
  have b1 : decide (fe ≤ 2147483647) = false := decide_eq_false (by omega)
  clear HI
  go_wp2
  go_quiet ((go_at_call 153; exact Calls.quiet_of_same (hR _)))
  go_wp2
  go_ret
  exact ⟨false, rfl, ⟨fun e => (by cases e), fun e => absurd e HQ.out⟩, hB.trans ((hD _).mono hB.size)⟩
 by_cases a2 : ¬ (0 : Int) ≤ fi
 ·have HQ : Hid (¬ MP) := Lib.hid (by rw [HI.out]; omega)
  have b0 : decide ((1 : Int) ≤ fe) = true := decide_eq_true (by omega)
  have b1 : decide (fe ≤ 2147483647) = true := decide_eq_true (by omega)
  have b2 : decide ((0 : Int) ≤ fi) = false := decide_eq_false (by omega)
  clear HI
  go_wp2
  go_quiet ((go_at_call 153; exact Calls.quiet_of_same (hR _)))
  go_wp2
  go_ret
  exact ⟨false, rfl, ⟨fun e => (by cases e), fun e => absurd e HQ.out⟩, hB.trans ((hD _).mono hB.size)⟩
 by_cases a3 : ¬ fi < 512
 ·have HQ : Hid (¬ MP) := Lib.hid (by rw [HI.out]; omega)
  have b0 : decide ((1 : Int) ≤ fe) = true := decide_eq_true (by omega)
  have b1 : decide (fe ≤ 2147483647) = true := decide_eq_true (by omega)
  have b2 : decide ((0 : Int) ≤ fi) = true := decide_eq_true (by omega)
  have b3 : decide (fi < 512) = false := decide_eq_false (by omega)
  clear HI
  go_wp2
  go_quiet ((go_at_call 153; exact Calls.quiet_of_same (hR _)))
  go_wp2
  go_ret
  exact ⟨false, rfl, ⟨fun e => (by cases e), fun e => absurd e HQ.out⟩, hB.trans ((hD _).mono hB.size)⟩
 by_cases a4 : ¬ (0 : Int) ≤ fp
 ·have HQ : Hid (¬ MP) := Lib.hid (by rw [HI.out]; omega)
  have b0 : decide ((1 : Int) ≤ fe) = true := decide_eq_true (by omega)
  have b1 : decide (fe ≤ 2147483647) = true := decide_eq_true (by omega)
  have b2 : decide ((0 : Int) ≤ fi) = true := decide_eq_true (by omega)
  have b3 : decide (fi < 512) = true := decide_eq_true (by omega)
  have b4 : decide ((0 : Int) ≤ fp) = false := decide_eq_false (by omega)
  clear HI
  go_wp2
  go_quiet ((go_at_call 153; exact Calls.quiet_of_same (hR _)))
  go_wp2
  go_ret
  exact ⟨false, rfl, ⟨fun e => (by cases e), fun e => absurd e HQ.out⟩, hB.trans ((hD _).mono hB.size)⟩
 by_cases a5 : ¬ fp < 512
 ·have HQ : Hid (¬ MP) := Lib.hid (by rw [HI.out]; omega)
  have b0 : decide ((1 : Int) ≤ fe) = true := decide_eq_true (by omega)
  have b1 : decide (fe ≤ 2147483647) = true := decide_eq_true (by omega)
  have b2 : decide ((0 : Int) ≤ fi) = true := decide_eq_true (by omega)
  have b3 : decide (fi < 512) = true := decide_eq_true (by omega)
  have b4 : decide ((0 : Int) ≤ fp) = true := decide_eq_true (by omega)
  have b5 : decide (fp < 512) = false := decide_eq_false (by omega)
  clear HI
  go_wp2
  go_quiet ((go_at_call 153; exact Calls.quiet_of_same (hR _)))
  go_wp2
  go_ret
  exact ⟨false, rfl, ⟨fun e => (by cases e), fun e => absurd e HQ.out⟩, hB.trans ((hD _).mono hB.size)⟩
 by_cases a6 : fd.size = ln
 ·have HQ : Hid (MP) := Lib.hid (by rw [HI.out]; omega)
  have b0 : decide ((1 : Int) ≤ fe) = true := decide_eq_true (by omega)
  have b1 : decide (fe ≤ 2147483647) = true := decide_eq_true (by omega)
  have b2 : decide ((0 : Int) ≤ fi) = true := decide_eq_true (by omega)
  have b3 : decide (fi < 512) = true := decide_eq_true (by omega)
  have b4 : decide ((0 : Int) ≤ fp) = true := decide_eq_true (by omega)
  have b5 : decide (fp < 512) = true := decide_eq_true (by omega)
  have b6 : ((fd.size : Int) == (ln : Int)) = true := by rw [beq_iff_eq]; omega
  have b7 : (fd.size == ln) = true := by rw [beq_iff_eq]; omega
  clear a6
  clear HI
  go_wp2
  go_quiet ((go_at_call 153; exact Calls.quiet_of_same (hR _)))
  go_wp2
  go_ret
  exact ⟨true, rfl, ⟨fun e => HQ.out, fun e => rfl⟩, hB.trans ((hD _).mono hB.size)⟩
 ·have HQ : Hid (¬ MP) := Lib.hid (by rw [HI.out]; omega)
  have b0 : decide ((1 : Int) ≤ fe) = true := decide_eq_true (by omega)
  have b1 : decide (fe ≤ 2147483647) = true := decide_eq_true (by omega)
  have b2 : decide ((0 : Int) ≤ fi) = true := decide_eq_true (by omega)
  have b3 : decide (fi < 512) = true := decide_eq_true (by omega)
  have b4 : decide ((0 : Int) ≤ fp) = true := decide_eq_true (by omega)
  have b5 : decide (fp < 512) = true := decide_eq_true (by omega)
  have b6 : ((fd.size : Int) == (ln : Int)) = false := by rw [beq_eq_false_iff_ne]; omega
  have b7 : (fd.size == ln) = false := by rw [beq_eq_false_iff_ne]; omega
  clear a6
  clear HI
  go_wp2
  go_quiet ((go_at_call 153; exact Calls.quiet_of_same (hR _)))
  go_wp2
  go_ret
  exact ⟨false, rfl, ⟨fun e => (by cases e), fun e => absurd e HQ.out⟩, hB.trans ((hD _).mono hB.size)⟩
end
end Go.Proofs.YtfhopccbjlleoaaGreatDoor.Fr

/- The document's sum, bit by bit, and its seal, walked. -/
namespace Go.Proofs.YtfhopccbjlleoaaGreatDoor.Fr
open Go.RowKit Tal Lf
end Go.Proofs.YtfhopccbjlleoaaGreatDoor.Fr

/- The document's noughts, seal and numbers, walked (for heads). -/
namespace Go.Proofs.YtfhopccbjlleoaaGreatDoor.Hd
open Go.RowKit Tal Lf Fr
theorem info_partsF {n : TypeId} {z : Option Value} {s b : Nat} (h : (Tryz.prog.info? n).map (fun i => (i.zero, i.size, i.bytes)) = some (z, s, b)) : ∃ i, Tryz.prog.info? n = some i ∧ i.zero = z ∧ i.size = s ∧ i.bytes = b := by
 cases hi : Tryz.prog.info? n with
 | none => rw [hi] at h; cases h
 | some i =>
  rw [hi] at h
  simp only [Option.map_some, Option.some.injEq, Prod.mk.injEq] at h
  exact ⟨i, rfl, h.1, h.2.1, h.2.2⟩
theorem infoU8F : (Tryz.prog.info? 5).map (fun i => (i.zero, i.size, i.bytes)) = some (some (.int .u8 0), 1, 1) := by kernel_rfl
theorem strOf_zerosF (n : Nat) : strOfNums (List.replicate n 0) = zeros n := by
 unfold strOfNums zeros
 congr 1
 rw [List.map_replicate]
 rfl
/-- Noughts in new memory, as a text. -/
theorem noughts_new {w w2 : World} (t : Nat) (hown : w2.ownsRow w.heap.size 5 1 (.slice (some ⟨w.heap.size, 0, none⟩) t t) t (madeCells (Value.int IntKind.u8 0).cells (t * 1)).toList) (hgrow : w.grownBy w2 none) :
  Below w.heap.size w w2 ∧ (convert 63 9 (.slice (some ⟨w.heap.size, 0, none⟩) t t)).run Tryz.prog w2 = .ok (.string (zeros t)) w2 := by
 refine ⟨(Below.refl _ _).grown hgrow (Nat.le_refl _) (fun k hk => by cases hk), ?_⟩
 have hcv := run_convert_bytes_arg (P := Tryz.prog) w2 63 5 Tryz.underlying63 Tryz.underlying5 w.heap.size 0 t t (List.replicate t 0) (by simp) (fun i hi => by
  rw [Nat.zero_add, hown.cellAt i (by omega)]
  show (madeCells #[Value.int IntKind.u8 0] (t * 1)).toList[i]? = _
  rw [toList_madeCells_one, Nat.mul_one]
  simp [hi]) 9 Tryz.underlying9
 rwa [strOf_zerosF] at hcv
section
variable {s : ByteArray}
end
end Go.Proofs.YtfhopccbjlleoaaGreatDoor.Hd

/- A region that draws its order, in which more than one call may come up: walked along a tree of orders. No program. -/
namespace Go.Proofs.YtfhopccbjlleoaaGreatDoor.Lex
open Go

/-- Orders: an operation that is no call, then the rest; or one of some calls, and for each its own rest. -/
inductive Tr where
 | fin : Tr
 | op (k : Nat) (t : Tr) : Tr
 | alt (k : Nat) (t : Tr) (more : Tr) : Tr
def Tr.heads : Tr → List Nat
 | .alt k _ m => k :: m.heads
 | _ => []
/-- These are all orders, but for operations that are no calls, which come up apart from all that is left. -/
def lexT (ops : Array Oper) : Nat → List Nat → Tr → Array Bool → Bool
 | _, seen, .fin, listed => Region.ready .any ops listed == seen
 | n, seen, .op k t, listed => match n with
  | 0 => false
  | n + 1 => seen.isEmpty && (Region.free .any ops listed k && (Region.ready .any ops listed).contains k) && lexT ops n [] t (listed.setIfInBounds k true)
 | n, seen, .alt k t m, listed => match n with
  | 0 => false
  | n + 1 => decide (k < ops.size) && lexT ops n [] t (listed.setIfInBounds k true) && lexT ops (n + 1) (seen ++ [k]) m listed
def walkT (P : Program) (ops : Array Oper) (Q : Exit → Act → World → Prop) : Bool → Tr → (World → Prop) → Act → World → Prop
 | al, .fin, _, a, w => al = true ∨ Q .normal a w
 | _, .op k t, S, a, w => ∀ o, ops[k]? = some o → ∃ v, YieldsIf P ops S o v a ∧ walkT P ops Q false t S (a.put o.dst v) w
 | _, .alt k t m, S, a, w => (∀ o, ops[k]? = some o →
   if Region.wanted o (yielded ops a.tmps) = true then Oper.wp P o a w (fun a' w' => ∃ S' : World → Prop, (∀ w, S' w → S w) ∧ S' w' ∧ walkT P ops Q false t S' a' w') Q
   else walkT P ops Q false t S (a.put o.dst undef) w) ∧ walkT P ops Q true m S a w
section
variable {P : Program} {ops : Array Oper} {Q : Exit → Act → World → Prop}
theorem lex_heads {n : Nat} {listed : Array Bool} : ∀ (m : Tr) (seen : List Nat), seen ≠ [] → lexT ops n seen m listed = true → Region.ready .any ops listed = seen ++ m.heads
 | .fin, seen, _, h => by
  simp only [lexT, beq_iff_eq] at h
  rw [h]
  show seen = seen ++ []
  rw [List.append_nil]
 | .op k t, seen, hs, h => by
  cases n with
  | zero => simp [lexT] at h
  | succ n =>
   simp only [lexT, Bool.and_eq_true, List.isEmpty_iff] at h
   exact absurd h.1.1 hs
 | .alt k t m, seen, hs, h => by
  cases n with
  | zero => simp [lexT] at h
  | succ n =>
   simp only [lexT, Bool.and_eq_true] at h
   have := lex_heads m (seen ++ [k]) (by simp) h.2
   rw [this, List.append_assoc]
   rfl
theorem of_tree (hs : Region.noSelect ops = true) (hQ : ∀ c a d v w, Q (.panic c) (a.put d v) w → Q (.panic c) a w) :
  ∀ (t : Tr), (∀ (n : Nat) (S : World → Prop) (listed : Array Bool) (a : Act) (w : World), lexT ops n [] t listed = true → S w → walkT P ops Q false t S a w → wpAnyH P .any ops Q S n listed a w) ∧
   (∀ (n : Nat) (seen : List Nat) (S : World → Prop) (listed : Array Bool) (a : Act) (w : World), lexT ops (n + 1) seen t listed = true → S w → walkT P ops Q true t S a w → ∀ k ∈ t.heads, wpOp P ops Q k (fun a' w' => S w' ∧ wpAnyH P .any ops Q S n (listed.setIfInBounds k true) a' w') a w)
 | .fin => by
  refine ⟨fun n S listed a w hL hS h => ?_, fun n seen S listed a w _ _ _ k hk => by cases hk⟩
  simp only [lexT, beq_iff_eq] at hL
  have h : Q .normal a w := h.resolve_left (by simp)
  cases n with
  | zero => exact ⟨hL, h⟩
  | succ n => exact ⟨fun _ => h, fun i hi => by rw [hL] at hi; cases hi⟩
 | .op k t => by
  refine ⟨fun n S listed a w hL hS h => ?_, fun n seen S listed a w _ _ _ k hk => by cases hk⟩
  cases n with
  | zero => simp [lexT] at hL
  | succ n =>
   simp only [lexT, Bool.and_eq_true] at hL
   have hc : k ∈ Region.ready .any ops listed := by simpa using hL.1.2.2
   obtain ⟨_, o, ho, _⟩ := mem_ready.1 hc
   obtain ⟨v, hy, hh⟩ := h o ho
   exact wpAnyH_take ho hs hL.1.2.1 hL.1.2.2 (fun c a w => hQ c a _ _ w) hy hS ((of_tree hs hQ t).1 n S _ _ w hL.2 hS hh)
 | .alt k t m => by
  have one : ∀ (n : Nat) (S : World → Prop) (listed : Array Bool) (a : Act) (w : World), k < ops.size → lexT ops n [] t (listed.setIfInBounds k true) = true → S w →
    (∀ o, ops[k]? = some o → if Region.wanted o (yielded ops a.tmps) = true then Oper.wp P o a w (fun a' w' => ∃ S' : World → Prop, (∀ w, S' w → S w) ∧ S' w' ∧ walkT P ops Q false t S' a' w') Q else walkT P ops Q false t S (a.put o.dst undef) w) →
    wpOp P ops Q k (fun a' w' => S w' ∧ wpAnyH P .any ops Q S n (listed.setIfInBounds k true) a' w') a w := fun n S listed a w hlt hL hS h => by
   have ho : ops[k]? = some ops[k] := Array.getElem?_eq_getElem hlt
   have h' := h _ ho
   unfold wpOp
   rw [ho]
   show if Region.wanted ops[k] (yielded ops a.tmps) = true then _ else _
   by_cases hw : Region.wanted ops[k] (yielded ops a.tmps) = true
   ·rw [if_pos hw] at h' ⊢
    refine Or.inl (Oper.wp_mono (fun a' w' hh => ?_) h')
    obtain ⟨S', hSS, hS', hh⟩ := hh
    exact ⟨hSS _ hS', turn hSS _ _ _ _ ((of_tree hs hQ t).1 n S' _ a' w' hL hS' hh)⟩
   ·rw [if_neg hw] at h' ⊢
    exact ⟨hS, (of_tree hs hQ t).1 n S _ _ w hL hS h'⟩
  refine ⟨fun n S listed a w hL hS h => ?_, fun n seen S listed a w hL hS h j hj => ?_⟩
  ·cases n with
   | zero => simp [lexT] at hL
   | succ n =>
    simp only [lexT, Bool.and_eq_true, decide_eq_true_eq] at hL
    have hr := lex_heads m [k] (by simp) hL.2
    refine wpAnyH_all hr (by simp) fun i hi => ?_
    rcases List.mem_cons.1 hi with rfl | hi
    ·exact one n S listed a w hL.1.1 hL.1.2 hS h.1
    ·exact (of_tree hs hQ m).2 n _ S listed a w hL.2 hS h.2 i hi
  ·simp only [lexT, Bool.and_eq_true, decide_eq_true_eq] at hL
   rcases List.mem_cons.1 hj with rfl | hj
   ·exact one n S listed a w hL.1.1 hL.1.2 hS h.1
   ·exact (of_tree hs hQ m).2 n _ S listed a w hL.2 hS h.2 j hj

theorem region_tree {id : Nat} {l : Array Oper} {a : Act} {w : World} (t : Tr) (S : World → Prop) (he : l = ops) (hm : P.follows .mixedOrders = true) (hs : Region.noSelect ops = true)
  (hL : lexT ops ops.size [] t (Array.replicate ops.size false) = true) (hS : S w.drew) (h : walkT P ops (NoPanic Q) false t S a w.drew) : (Code.region id l true).wp P Q a w := by
 subst he
 refine wp_region_noPanic (wp_region_held_drew (S := S) hm hS fun _ => ?_)
 exact (of_tree hs (fun _ _ _ _ _ h => h) t).1 _ S _ a _ hL hS h
variable {k : Nat} {S : World → Prop} {o : Oper} {a : Act} {w : World} {t m : Tr} {al : Bool}
theorem tree_take (v : Value) (ho : ops[k]? = some o) (hw : Region.wanted o (yielded ops a.tmps) = true)
  (hv : ∀ w, S w → (execOp a.eval o).run P w = .ok (.value v) w) (h : walkT P ops Q false t S (a.put o.dst v) w) : walkT P ops Q al (.op k t) S a w := by
 intro o' ho'
 obtain rfl : o' = o := Option.some.inj (ho'.symm.trans ho)
 exact ⟨v, Or.inl ⟨hw, hv⟩, h⟩
theorem tree_call (ho : ops[k]? = some o) (hw : Region.wanted o (yielded ops a.tmps) = true)
  (h : ∀ K : Act → World → Prop, Shut (∀ (S' : World → Prop) a' w', (∀ w, S' w → S w) → S' w' → walkT P ops Q false t S' a' w' → K a' w') → Oper.wp P o a w K Q)
  (hm : walkT P ops Q true m S a w) : walkT P ops Q al (.alt k t m) S a w := by
 refine ⟨fun o' ho' => ?_, hm⟩
 obtain rfl : o' = o := Option.some.inj (ho'.symm.trans ho)
 rw [if_pos hw]
 exact h _ fun S' a' w' h1 h2 h3 => ⟨S', h1, h2, h3⟩
theorem tree_no : walkT P ops Q true .fin S a w := Or.inl rfl
theorem tree_end (h : Q .normal a w) : walkT P ops Q false .fin S a w := Or.inr h
end
end Go.Proofs.YtfhopccbjlleoaaGreatDoor.Lex

/- A region that draws its order, cut in two; the first part along a tree of orders. No program. -/
namespace Go.Proofs.YtfhopccbjlleoaaGreatDoor.Lex
open Go

section
variable {P : Program} {ops ops1 : Array Oper} {Q : Exit → Act → World → Prop}
/-- The first part along a tree of orders; the rest behind it. -/
theorem region_parts_tree {id : Nat} {l : Array Oper} {a : Act} {w : World} (n : Nat) (t : Tr) (S : World → Prop) (he : l = ops) (h1 : ops1 = ops.extract 0 n) (hn : n ≤ ops.size)
  (hacy : (List.range n).all (fun i => ((ops[i]?).map (fun o => o.after.all (fun e => decide (e.on < i)) && (o.guard.map (fun g => decide (g.1 < n))).getD true)).getD true) = true)
  (hdep : (List.range (ops.size - n)).all (fun j => (List.range n).all (fun i => reaches .any ops ops.size (n + j) i)) = true)
  (hm : P.follows .mixedOrders = true) (hs : Region.noSelect ops1 = true) (hL : lexT ops1 ops1.size [] t (Array.replicate ops1.size false) = true) (hS : S w.drew)
  (h : walkT P ops1 (Exit.then (fun a w => ∀ m, ops.size - n ≤ m → wpAny P .any ops (NoPanic Q) m (extL (Array.replicate n true) ops.size) a w) (NoPanic Q)) false t S a w.drew) : (Code.region id l true).wp P Q a w := by
 subst he
 have hs1 : ops1.size = n := by rw [h1, Array.size_extract]; omega
 refine wp_region_noPanic (wp_region_any hm ?_)
 have hA : ∀ (i : Nat) (o : Oper), i < n → l[i]? = some o → (∀ e ∈ o.after, e.on < i) ∧ ∀ g b, o.guard = some (g, b) → g < n := fun i o hi ho => by
  have := List.all_eq_true.1 hacy i (List.mem_range.2 hi)
  rw [ho] at this
  simp only [Option.map_some, Option.getD_some, Bool.and_eq_true] at this
  refine ⟨fun e he => of_decide_eq_true (Array.all_eq_true_iff_forall_mem.1 this.1 e he), fun g b hg => ?_⟩
  rw [hg] at this
  simpa using this.2
 have hD : ∀ (j : Nat) (o : Oper), n ≤ j → l[j]? = some o → ∀ i, i < n → reaches .any l l.size j i = true := fun j o hj ho i hi => by
  have hlt := (Array.getElem?_eq_some_iff.1 ho).1
  have := List.all_eq_true.1 hdep (j - n) (List.mem_range.2 (by omega))
  rw [show n + (j - n) = j by omega] at this
  exact List.all_eq_true.1 this i (List.mem_range.2 hi)
 have e1 : n + (l.size - n) = l.size := by omega
 have e2 : extL (Array.replicate n false) l.size = Array.replicate l.size false := by
  unfold extL
  rw [Array.size_replicate, Array.replicate_append_replicate, e1]
 have hmain := cut_any (P := P) (Q := NoPanic Q) (md := .any) h1 hn (fun i o hi ho => (hA i o hi ho).1) (fun i o hi ho => (hA i o hi ho).2) hD n (Array.replicate n false) a w.drew (by simp) (by
  rw [e2]
  intro k o _ hl
  have hl : (Array.replicate l.size false).getD k false = true := hl
  rw [Array.getD_eq_getD_getElem?, Array.getElem?_replicate] at hl
  split at hl <;> cases hl) (wpAny_of_held (S := S) _ _ _ _ (by
  have := (of_tree hs (fun _ _ _ _ _ h => h) t).1 _ S (Array.replicate ops1.size false) a _ hL hS h
  rw [hs1] at this
  exact this)) (l.size - n) (Nat.le_refl _)
 rw [e1, e2] at hmain
 exact hmain
end
end Go.Proofs.YtfhopccbjlleoaaGreatDoor.Lex

/- The table of half bytes (tally) as the rows list it: what a laid world holds. -/
namespace Go.Proofs.YtfhopccbjlleoaaGreatDoor
open Go.ChangeShapes Go.WideShapes Go.ChangeAt Go.RowKit Tal
theorem gHalves : Tryz.prog.globalNamed "mosaicist/tally.halves" = some 0 := by kernel_rfl
theorem gHalvesType : (Tryz.prog.globals[0]?).map (·.type) = some 181 := by kernel_rfl
theorem cellsHalves : Tryz.prog.cellsOf 181 = 16 := by kernel_rfl
theorem cellsU32 : Tryz.prog.cellsOf 167 = 1 := by kernel_rfl
def halvesI : List Int := [0, 498536548, 997073096, 651767980, 1994146192, 1802195444, 1303535960, 1342533948, 3988292384, 4027552580, 3604390888, 3412177804, 2607071920, 2262029012, 2685067896, 3183342108]
def laidL : List (String × DataW Unit) := [("mosaicist/tally.halves", Rows.laid_mosaicist_tally_halves)]
theorem tab_of_laid {W : World} (h : laidMet Tryz.prog laidL W) : Tal.Tab W := by
 have h' : laidMet Tryz.prog (("mosaicist/tally.halves", Lib.tabData .u32 halvesI) :: []) W := h
 have hT := Lib.tabIs_of_head gHalves gHalvesType Tryz.underlying181 Tryz.underlying167 cellsU32 cellsHalves h'
 intro i hi
 rw [hT.cell gHalves i hi]
 have : ∀ j, j < 16 → halvesI.getD j 0 = (hv j : Int) := by decide
 rw [this i hi]
/-- The witness: the settled world, the table holding what its initialiser lays. -/
noncomputable def laidWorld (os : Os) : World :=
 { World.holding Tryz.prog os ⟨#[], #[], []⟩ with heap := (World.holding Tryz.prog os ⟨#[], #[], []⟩).heap.modify 0 fun
   | .cells _ t frozen => .cells (halvesI.map fun z => Value.int .u32 z).toArray t frozen
   | o => o }
theorem laid_met (os : Os) (args : Array Value) : laidMet Tryz.prog laidL ((laidWorld os).forCall (fun _ _ => 0) ⟨#[], args, []⟩).memory :=
 laidMet_of_run' 8 (by kernel_rfl) (by kernel_rfl)
end Go.Proofs.YtfhopccbjlleoaaGreatDoor
