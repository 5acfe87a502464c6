/- The document's own comparison of two devices, where nothing is unsure. -/
import Derived.Test.YtnmgaafpbbeceaaM
namespace Go.Proofs.Ytnmgaafpbbeceaa
open Go.RowKit Go.Shelf

set_option maxHeartbeats 2000000 in
theorem same_any (b c b' c' n : Nat) (S : Nat → ByteArray) (dead : Bool) (left deeds : Int) (w : World) (hn : n ≤ 2000) (hb : b < w.heap.size) (hb' : b' < w.heap.size)
    (h1 : ∀ j, j < n → w.cell? ⟨b, j, none⟩ = some (.string (S j))) (h2 : ∀ j, j < n → w.cell? ⟨b', j, none⟩ = some (.string (S j))) :
    Calls Try.prog 17 #[.agg #[.slice (some ⟨b, 0, none⟩) n c, .slice none 0 0, .bool dead, .int .i64 left, .int .i64 deeds], .agg #[.slice (some ⟨b', 0, none⟩) n c', .slice none 0 0, .bool dead, .int .i64 left, .int .i64 deeds]] w fun e w' =>
      e = .returned (.bool true) ∧ Below w.heap.size w w' := by
  have H1 := Lib.hid h1
  have H2 := Lib.hid h2
  clear h1 h2
  go_enter Try.func17, Try.ntmps17
  go_wp2_with fail
  go_loopw [5] (fun i wr => ∃ q : Nat, q ≤ n ∧ i = .int .i64 q ∧ Below w.heap.size w wr ∧ Box5 wr w.heap.size (.slice (some ⟨b, 0, none⟩) n c) (.slice none 0 0) (.bool dead) (.int .i64 left) (.int .i64 deeds) ∧ Box5 wr (w.heap.size + 1) (.slice (some ⟨b', 0, none⟩) n c') (.slice none 0 0) (.bool dead) (.int .i64 left) (.int .i64 deeds)) (fun i _ => n - (intOf i).toNat)
  case atStart =>
    exact ⟨0, Nat.zero_le _, rfl, ((Below.refl w.heap.size w).alloc (Nat.le_refl _) _).alloc (by simp) _, (Box5.new w _ _ _ _ _ 31).alloc _, by have := Box5.new (w.alloc (.cells #[.slice (some ⟨b, 0, none⟩) n c, .slice none 0 0, .bool dead, .int .i64 left, .int .i64 deeds] 31)) (.slice (some ⟨b', 0, none⟩) n c') (.slice none 0 0) (.bool dead) (.int .i64 left) (.int .i64 deeds) 31; simpa using this⟩
  case round =>
    obtain ⟨q, hq, rfl, hbr, hx, hy⟩ := hrel
    have x0 := hx.c0
    have x1 := hx.c1
    have y0 := hy.c0
    have y1 := hy.c1
    by_cases hqn : q < n
    · have k1 := (hbr.cell (p := ⟨b, q, none⟩) hb).trans (H1.out q hqn)
      have k2 := (hbr.cell (p := ⟨b', q, none⟩) hb').trans (H2.out q hqn)
      have i1 : (0 : Int) ≤ (q : Int) := by omega
      have i2 : (q : Int) < (n : Int) := by omega
      go_wp2
      go_quiet (fail)
      go_wp2
      go_roundw
      case rel => exact ⟨q + 1, by omega, by go_num, below_drewN hbr _, hx.below (below_drewN (Below.refl (w.heap.size + 2) wr) _) (by omega), hy.below (below_drewN (Below.refl (w.heap.size + 2) wr) _) (by omega)⟩
      case measure => simp [intOf]; omega
    · obtain rfl : q = n := by omega
      go_wp2
      go_loopw [6] (fun i wz => i = .int .i64 0 ∧ Below w.heap.size w wz ∧ wz.cell? ⟨w.heap.size, 1, none⟩ = some (.slice none 0 0)) (fun _ _ => 0)
      case atStart => exact ⟨rfl, hbr, x1⟩
      case round =>
        obtain ⟨rfl, hbz, z1⟩ := hrel
        go_wp2
        go_ret
        exact ⟨rfl, hbz⟩
end Go.Proofs.Ytnmgaafpbbeceaa
