/- The leaf functions of package slab: what each call gives, and that memory below stays. -/
import Derived.Test.YtnmgaafpbbeceaaShelf
import Derived.WalkKit
import Derived.WalkSpells
import Derived.WalkLawsBesides
import Derived.Lib.Hide
import Derived.Laws.ResultCell
import Derived.Deep.DeepCutAuto
import Derived.Deep.DeepFit
import Derived.Deep.CutBlock
import Derived.Deep.QuietTactic
import Derived.BigQuiet
import Derived.StillTailTactics
import Derived.Deep.RegionHeld3
import Derived.Deep.RegionLaw
import Derived.Deep.RegionWith
import Derived.Deep.OwnRows
import Derived.Deep.LoopGhost
import Derived.Outline
import Derived.WalkSmall
namespace Go.Proofs.Ytnmgaafpbbeceaa
open Go.RowKit Go.Shelf

set_option maxHeartbeats 400000 in
theorem deed_no (A B : Option Addr) (n c m k : Nat) (dead : Bool) (left deeds : Int) (w : World) (h : dead = true ∨ left = 0) :
    Calls Try.prog 18 #[.agg #[.slice A n c, .slice B m k, .bool dead, .int .i64 left, .int .i64 deeds]] w fun e w' =>
      e = .returned (.tuple #[.agg #[.slice A n c, .slice B m k, .bool true, .int .i64 left, .int .i64 deeds], .bool false]) ∧ Below w.heap.size w w' := by
  cases dead with
  | true =>
    clear h
    go_enter Try.func18, Try.ntmps18
    go_wp2
    exact bodyPost_ret (v := .tuple #[.agg #[.slice A n c, .slice B m k, .bool true, .int .i64 left, .int .i64 deeds], .bool false]) (by simp [results, Try.results18, go_sem]) rfl ⟨rfl, ((Below.refl _ _).alloc (by simp) _).alloc (by simp) _⟩
  | false =>
    obtain rfl : left = 0 := by simpa using h
    clear h
    go_enter Try.func18, Try.ntmps18
    go_wp2
    exact bodyPost_ret (v := .tuple #[.agg #[.slice A n c, .slice B m k, .bool true, .int .i64 0, .int .i64 deeds], .bool false]) (by simp [results, Try.results18, go_sem]) rfl ⟨rfl, ((Below.refl _ _).alloc (by simp) _).alloc (by simp) _⟩

def lessLeft (left : Int) : Int := if 0 < left then left - 1 else left

set_option maxHeartbeats 400000 in
theorem deed_yes (A B : Option Addr) (n c m k : Nat) (left deeds : Int) (w : World) (h0 : left ≠ 0) (h1 : -9223372036854775808 ≤ left) (h2 : left ≤ 9223372036854775807) (h3 : 0 ≤ deeds) (h4 : deeds ≤ 1000000) :
    Calls Try.prog 18 #[.agg #[.slice A n c, .slice B m k, .bool false, .int .i64 left, .int .i64 deeds]] w fun e w' =>
      e = .returned (.tuple #[.agg #[.slice A n c, .slice B m k, .bool false, .int .i64 (lessLeft left), .int .i64 (deeds + 1)], .bool true]) ∧ Below w.heap.size w w' := by
  by_cases hl : 0 < left
  · have hf : lessLeft left = left - 1 := by unfold lessLeft; rw [if_pos hl]
    rw [hf]
    clear hf
    have hb : (left == 0) = false := by simpa using h0
    clear h0 h1
    go_enter Try.func18, Try.ntmps18
    go_wp2
    exact bodyPost_ret (v := .tuple #[.agg #[.slice A n c, .slice B m k, .bool false, .int .i64 (left - 1), .int .i64 (deeds + 1)], .bool true]) (by simp [results, Try.results18, go_sem]) rfl ⟨rfl, ((Below.refl _ _).alloc (by simp) _).alloc (by simp) _⟩
  · have hf : lessLeft left = left := by unfold lessLeft; rw [if_neg hl]
    rw [hf]
    clear hf
    have hb : (left == 0) = false := by simpa using h0
    have hl2 : left < 0 := by omega
    clear h0 h2 hl
    go_enter Try.func18, Try.ntmps18
    go_wp2
    exact bodyPost_ret (v := .tuple #[.agg #[.slice A n c, .slice B m k, .bool false, .int .i64 left, .int .i64 (deeds + 1)], .bool true]) (by simp [results, Try.results18, go_sem]) rfl ⟨rfl, ((Below.refl _ _).alloc (by simp) _).alloc (by simp) _⟩

set_option maxHeartbeats 400000 in
theorem has_any (A B : Option Addr) (n c m k : Nat) (dead : Bool) (left deeds at_ : Int) (w : World) (b : Bool) (hb : b = decide (0 ≤ at_ ∧ at_ < n)) :
    Calls Try.prog 20 #[.agg #[.slice A n c, .slice B m k, .bool dead, .int .i64 left, .int .i64 deeds], .int .i64 at_] w fun e w' =>
      e = .returned (.bool b) ∧ Below w.heap.size w w' := by
  have HB := Lib.hid hb
  clear hb
  by_cases h0 : 0 ≤ at_
  · by_cases h1 : at_ < n
    · go_enter Try.func20, Try.ntmps20
      go_wp2
      go_ret
      exact ⟨by rw [HB.out]; simp [h0, h1], ((Below.refl _ _).alloc (by simp) _)⟩
    · have h1' : (n : Int) ≤ at_ := by omega
      clear h1
      go_enter Try.func20, Try.ntmps20
      go_wp2
      go_ret
      exact ⟨by rw [HB.out]; simp; omega, ((Below.refl _ _).alloc (by simp) _)⟩
  · have h0' : at_ < 0 := by omega
    clear h0
    go_enter Try.func20, Try.ntmps20
    go_wp2
    go_ret
    exact ⟨by rw [HB.out]; simp; omega, ((Below.refl _ _).alloc (by simp) _)⟩

def laidB (o d : ByteArray) : ByteArray := if o.size ≤ d.size then d else d ++ o.extract d.size o.size

set_option maxHeartbeats 400000 in
theorem laid_any (o d : ByteArray) (w : World) (ho : o.size ≤ 1000000) (hd : d.size ≤ 1000000) :
    Calls Try.prog 21 #[.string o, .string d] w fun e w' => e = .returned (.string (laidB o d)) ∧ w = w' := by
  by_cases h : o.size ≤ d.size
  · have hf : laidB o d = d := by unfold laidB; rw [if_pos h]
    rw [hf]
    clear hf
    go_enter Try.func21, Try.ntmps21
    go_wp2
    go_ret
    exact ⟨rfl, rfl⟩
  · have hf : laidB o d = d ++ o.extract d.size o.size := by unfold laidB; rw [if_neg h]
    rw [hf]
    clear hf
    have h' : d.size < o.size := by omega
    clear h
    go_enter Try.func21, Try.ntmps21
    go_wp2
    go_ret
    exact ⟨rfl, rfl⟩

def keptI (stay torn bytes : Int) (i : Nat) (size : Nat) : Int :=
  if (i : Int) = torn then min (min (max bytes 0) 256) size
  else if (stay / 2 ^ (i % 64)) % 2 = 1 then size else 0

set_option maxHeartbeats 400000 in
theorem kept_any (stay torn bytes : Int) (i size : Nat) (w : World) (hi : i ≤ 1000000) (hs : size ≤ 1000000) (h0 : 0 ≤ stay) (h1 : stay < 18446744073709551616) :
    Calls Try.prog 22 #[.agg #[.int .u64 stay, .int .i64 torn, .int .i64 bytes], .int .i64 i, .int .i64 size] w fun e w' => e = .returned (.int .i64 (keptI stay torn bytes i size)) ∧ Below w.heap.size w w' := by
  by_cases ht : (i : Int) = torn
  · subst ht
    go_enter Try.func22, Try.ntmps22
    go_wp2
    all_goals
      go_ret
      refine ⟨?_, (Below.refl _ _).alloc (by simp) _⟩
      unfold keptI
      rw [if_pos rfl]
      first
        | (have hx : min (min (max bytes 0) 256) (size : Int) = size := by omega
           rw [hx]; rfl)
        | (have hx : min (min (max bytes 0) 256) (size : Int) = 256 := by omega
           rw [hx]; rfl)
        | (have hx : min (min (max bytes 0) 256) (size : Int) = max bytes 0 := by omega
           rw [hx]; rfl)
  · have hq0 : 0 ≤ stay / 2 ^ (i % 64) := Int.ediv_nonneg h0 (Int.le_of_lt (Int.pow_pos (by decide)))
    have hq1 : stay / 2 ^ (i % 64) ≤ 18446744073709551615 := by
      have := Int.ediv_le_self (2 ^ (i % 64)) h0
      omega
    have HB := Lib.hid (and_one_u64 _ hq0 hq1)
    clear hq0 hq1
    go_enter Try.func22, Try.ntmps22
    go_wp2
    · have ht2 : (bits BinOp.and IntKind.u64 (stay / 2 ^ (i % 64)) 1 == 1) = true := by assumption
      rw [HB.out] at ht2
      go_ret
      refine ⟨?_, (Below.refl _ _).alloc (by simp) _⟩
      unfold keptI
      rw [if_neg ht, if_pos (by simpa using ht2)]
      rfl
    · have ht2 : (bits BinOp.and IntKind.u64 (stay / 2 ^ (i % 64)) 1 == 1) = false := by assumption
      rw [HB.out] at ht2
      go_ret
      refine ⟨?_, (Below.refl _ _).alloc (by simp) _⟩
      unfold keptI
      rw [if_neg ht, if_neg (by simpa using ht2)]
      rfl

set_option maxHeartbeats 400000 in
theorem arm_any (A B : Option Addr) (n c m k : Nat) (dead : Bool) (left deeds x : Int) (w : World) :
    Calls Try.prog 14 #[.agg #[.slice A n c, .slice B m k, .bool dead, .int .i64 left, .int .i64 deeds], .int .i64 x] w fun e w' =>
      e = .returned (.agg #[.slice A n c, .slice B m k, .bool dead, .int .i64 (max x (-1)), .int .i64 deeds]) ∧ Below w.heap.size w w' := by
  go_enter Try.func14, Try.ntmps14
  go_wp2
  exact bodyPost_ret (v := .agg #[.slice A n c, .slice B m k, .bool dead, .int .i64 (max x (-1)), .int .i64 deeds]) (by simp [results, Try.results14, go_sem]) rfl ⟨rfl, ((Below.refl _ _).alloc (by simp) _).alloc (by simp) _⟩
end Go.Proofs.Ytnmgaafpbbeceaa
