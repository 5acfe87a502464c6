/- The document's own comparison of two devices, whatever is unsure. -/
import Derived.Test.YtnmgaafpbbeceaaO
namespace Go.Proofs.Ytnmgaafpbbeceaa
open Go.RowKit Go.Shelf

set_option maxHeartbeats 2000000 in
theorem same_late (b c b' c' n m k k' : Nat) (B B' : Option Addr) (S : Nat → ByteArray) (LA : Nat → Int) (LD : Nat → ByteArray) (dead : Bool) (left deeds : Int) (w : World) (hn : n ≤ 2000) (hm : m ≤ 100000) (hb : b < w.heap.size) (hb' : b' < w.heap.size)
    (h1 : ∀ j, j < n → w.cell? ⟨b, j, none⟩ = some (.string (S j))) (h2 : ∀ j, j < n → w.cell? ⟨b', j, none⟩ = some (.string (S j))) (h3 : HasLate w B m LA LD) (h4 : HasLate w B' m LA LD) :
    Calls Try.prog 17 #[.agg #[.slice (some ⟨b, 0, none⟩) n c, .slice B m k, .bool dead, .int .i64 left, .int .i64 deeds], .agg #[.slice (some ⟨b', 0, none⟩) n c', .slice B' m k', .bool dead, .int .i64 left, .int .i64 deeds]] w fun e w' =>
      e = .returned (.bool true) ∧ Below w.heap.size w w' := by
  have H1 := Lib.hid h1
  have H2 := Lib.hid h2
  have H3 := Lib.hid h3
  have H4 := Lib.hid h4
  clear h1 h2 h3 h4
  go_enter Try.func17, Try.ntmps17
  go_wp2_with fail
  go_loopw [5] (fun i wr => ∃ q : Nat, q ≤ n ∧ i = .int .i64 q ∧ Below w.heap.size w wr ∧ Box5 wr w.heap.size (.slice (some ⟨b, 0, none⟩) n c) (.slice B m k) (.bool dead) (.int .i64 left) (.int .i64 deeds) ∧ Box5 wr (w.heap.size + 1) (.slice (some ⟨b', 0, none⟩) n c') (.slice B' m k') (.bool dead) (.int .i64 left) (.int .i64 deeds)) (fun i _ => n - (intOf i).toNat)
  case atStart =>
    exact ⟨0, Nat.zero_le _, rfl, ((Below.refl w.heap.size w).alloc (Nat.le_refl _) _).alloc (by simp) _, (Box5.new w _ _ _ _ _ 31).alloc _, by have := Box5.new (w.alloc (.cells #[.slice (some ⟨b, 0, none⟩) n c, .slice B m k, .bool dead, .int .i64 left, .int .i64 deeds] 31)) (.slice (some ⟨b', 0, none⟩) n c') (.slice B' m k') (.bool dead) (.int .i64 left) (.int .i64 deeds) 31; simpa using this⟩
  case round =>
    obtain ⟨q, hq, rfl, hbr, hx, hy⟩ := hrel
    have x0 := hx.c0
    have x1 := hx.c1
    have y0 := hy.c0
    have y1 := hy.c1
    by_cases hqn : q < n
    · have k1 := (hbr.cell (p := ⟨b, q, none⟩) hb).trans (H1.out q hqn)
      have k2 := (hbr.cell (p := ⟨b', q, none⟩) hb').trans (H2.out q hqn)
      have i1 : (0 : Int) ≤ (q : Int) := by omega
      have i2 : (q : Int) < (n : Int) := by omega
      go_wp2
      go_quiet (fail)
      go_wp2
      go_roundw
      case rel => exact ⟨q + 1, by omega, by go_num, below_drewN hbr _, hx.below (below_drewN (Below.refl (w.heap.size + 2) wr) _) (by omega), hy.below (below_drewN (Below.refl (w.heap.size + 2) wr) _) (by omega)⟩
      case measure => simp [intOf]; omega
    · obtain rfl : q = n := by omega
      go_wp2
      go_loopw [6] (fun i wz => ∃ z : Nat, z ≤ m ∧ i = .int .i64 z ∧ Below w.heap.size w wz ∧ wz.cell? ⟨w.heap.size, 1, none⟩ = some (.slice B m k) ∧ wz.cell? ⟨w.heap.size + 1, 1, none⟩ = some (.slice B' m k')) (fun i _ => m - (intOf i).toNat)
      case atStart => exact ⟨0, Nat.zero_le _, rfl, hbr, x1, y1⟩
      case round =>
        obtain ⟨z, hz, rfl, hbz, z1, z2⟩ := hrel
        by_cases hzm : z < m
        · obtain ⟨l, rfl, hl, hlc⟩ := H3.out (by omega)
          obtain ⟨l', rfl, hl', hlc'⟩ := H4.out (by omega)
          obtain ⟨p0, p1⟩ := hlc z hzm
          obtain ⟨q0, q1⟩ := hlc' z hzm
          have k0 := (hbz.cell (p := ⟨l, z * 2, none⟩) hl).trans p0
          have k1 := (hbz.cell (p := ⟨l, z * 2 + 1, none⟩) hl).trans p1
          have k2 := (hbz.cell (p := ⟨l', z * 2, none⟩) hl').trans q0
          have k3 := (hbz.cell (p := ⟨l', z * 2 + 1, none⟩) hl').trans q1
          have i1 : (0 : Int) ≤ (z : Int) := by omega
          have i2 : (z : Int) < (m : Int) := by omega
          clear p0 p1 q0 q1 hlc hlc'
          go_wp2
          go_quiet (fail)
          go_wp2
          go_roundw
          case rel => exact ⟨z + 1, by omega, by go_num, below_drewN hbz _, ((below_drewN (Below.refl (w.heap.size + 1) wr) _).cell (p := ⟨w.heap.size, 1, none⟩) (by simp)).trans z1, ((below_drewN (Below.refl (w.heap.size + 2) wr) _).cell (p := ⟨w.heap.size + 1, 1, none⟩) (by simp)).trans z2⟩
          case measure => simp [intOf]; omega
        · obtain rfl : z = m := by omega
          go_wp2
          go_ret
          exact ⟨rfl, hbz⟩
end Go.Proofs.Ytnmgaafpbbeceaa
