/- Which pages are taken: the document's functions, in the form that the law takes; the same numbers, walked. -/
import Derived.Test.YtbeojghlldiniaaPlL
import Derived.Test.YtbeojghlldiniaaPlI
namespace Go.Proofs.Ytbeojghlldiniaa.Pl
open Go.RowKit
section
variable {s : ByteArray} {n m : Int}
theorem refMark_any (t : Bool) (w : World) (hs : s.size ≤ 300) (h0 : -9223372036854775808 ≤ n) (h1 : n ≤ 9223372036854775807) :
    Calls Try.prog 13 #[.string s, .int .i64 n, .bool t] w fun e w' => e = .returned (.string (mkB s n t)) ∧ Below w.heap.size w w' := refMark_walk n t hs h0 h1
theorem refFree_any (w : World) (hs : s.size ≤ 300) (h0 : -9223372036854775808 ≤ n) (h1 : n ≤ 9223372036854775807) :
    Calls Try.prog 15 #[.string s, .int .i64 n] w fun e w' => e = .returned (.int .i64 ((freeL s.data.toList n.toNat).length : Nat)) ∧ Below w.heap.size w w' := refFree_walk n hs h0 h1
theorem refPick_any (w : World) (hs : s.size ≤ 300) (h0 : -9223372036854775808 ≤ n) (h1 : n ≤ 9223372036854775807) (h2 : -9223372036854775808 ≤ m) (h3 : m ≤ 1000) :
    Calls Try.prog 9 #[.string s, .int .i64 n, .int .i64 m] w (PickPost (pickL s.data.toList n.toNat m.toNat) w) := refPick_walk n m hs h0 h1 h2 h3
theorem refRoot_any (w : World) (hs : s.size ≤ 300) :
    Calls Try.prog 18 #[.string s] w fun e w' => e = .returned (.int .i64 (rootN s.data.toList : Nat)) ∧ Below w.heap.size w w' := refRoot_walk hs
theorem refSetRoot_any (w : World) (hs : s.size ≤ 300) (h0 : -9223372036854775808 ≤ n) (h1 : n ≤ 9223372036854775807) :
    Calls Try.prog 20 #[.string s, .int .i64 n] w fun e w' => e = .returned (.string (setRB s n)) ∧ Below w.heap.size w w' := refSetRoot_walk n hs h0 h1
end
section
variable {w : World} {A B : Option Addr} {l : List Nat} {n c d : Nat}
set_option maxHeartbeats 1000000 in
theorem same_any (hA : HasN w 0 A l) (hB : HasN w 0 B l) (hn : l.length = n) (h9 : n ≤ 1000) :
    Calls Try.prog 16 #[.slice A n c, .slice B n d] w fun e w' => e = .returned (.bool true) ∧ Below w.heap.size w w' := by
  have HA := Lib.hid (And.intro hA (And.intro hB hn))
  clear hA hB hn
  go_enter Try.func16, Try.ntmps16
  go_wp2_with fail
  go_loopw [5] (fun i wr => ∃ q : Nat, q ≤ n ∧ i = .int .i64 q ∧ Below w.heap.size w wr) (fun i _ => n - (intOf i).toNat)
  case atStart => exact ⟨0, by omega, rfl, Below.refl _ _⟩
  case round =>
    obtain ⟨q, hq, rfl, hBw⟩ := hrel
    by_cases hlt : q < n
    · have hat : l[q]? = some (l[q]'(by rw [HA.out.2.2]; exact hlt)) := List.getElem?_eq_getElem _
      generalize (l[q]'(by rw [HA.out.2.2]; exact hlt)) = x at hat
      obtain ⟨b1, o1, rfl, c1⟩ := HasN.at HA.out.1 hat
      obtain ⟨b2, o2, rfl, c2⟩ := HasN.at HA.out.2.1 hat
      have c1' := (hBw.cell (p := ⟨b1, o1 + q, none⟩) (World.block_lt_of_cell? _ _ c1)).trans c1
      have c2' := (hBw.cell (p := ⟨b2, o2 + q, none⟩) (World.block_lt_of_cell? _ _ c2)).trans c2
      have i0 : (0 : Int) ≤ (q : Int) := by omega
      have i1 : (q : Int) < (n : Int) := by omega
      have HBn := Lib.hid hBw
      clear hat c1 c2 hBw
      go_wp2_with fail
      go_quiet (fail)
      rename Nat => nn
      have hBn := below_drewN HBn.out nn
      clear c1' c2'
      go_wp2
      go_roundw
      case rel => exact ⟨q + 1, by omega, by go_num, hBn⟩
      case measure => simp [intOf]; omega
    · obtain rfl : q = n := by omega
      go_wp2
      go_ret
      exact ⟨rfl, hBw⟩
end
end Go.Proofs.Ytbeojghlldiniaa.Pl
