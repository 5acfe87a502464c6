/- A list of three numbers in each element, out of its reading. -/
import Derived.Test.YtkbmnheppjalgaaN
import Derived.ProofKit
import Derived.OpenShut
import Derived.Carry
import Derived.Deep.Slices
import Derived.Deep.Fields
import Derived.Laws.IdiomArrays
namespace Go.Proofs.Ytkbmnheppjalgaa
open Go.ChangeShapes Go.WideShapes Go.ChangeAt Go.RowKit

theorem cells32 : Try.prog.cellsOf 32 = 3 := by kernel_rfl
theorem cells3 : Try.prog.cellsOf 3 = 1 := by kernel_rfl
section
variable {H : Type} {enc : TypeId × Value → H} {w : World} {base : Nat} {spare : Nat → Bool} {held : Bool}
theorem three_of {cs : List Value} (h : cs.length = 3) : ∃ a b c, cs = [a, b, c] := by
  match cs, h with
  | [a, b, c], _ => exact ⟨a, b, c, rfl⟩
theorem open_trip {fuel : Nat} {cs : List Value} {x : DataW H × List MemPlace} (hl : cs.length = 3) (h : DataW.trod enc Try.prog w base spare held fuel 32 cs = some x) :
    ∃ E : Int × Int × Int, cs = [.int .i64 E.1, .int .i64 E.2.1, .int .i64 E.2.2] := by
  obtain ⟨c0, c1, c2, rfl⟩ := three_of hl
  obtain ⟨y0, y1, y2, m, _, h0, h1, h2⟩ := trod_array3 Try.underlying32 cells3 h
  obtain ⟨a, e0, _, _⟩ := DataW.trod_int Try.underlying3 h0
  obtain ⟨b, e1, _, _⟩ := DataW.trod_int Try.underlying3 h1
  obtain ⟨c, e2, _, _⟩ := DataW.trod_int Try.underlying3 h2
  simp only [List.cons.injEq, and_true] at e0 e1 e2
  subst e0 e1 e2
  exact ⟨(a, b, c), rfl⟩
theorem add_add_three (a : Addr) (hs : a.spot = none) (i j : Nat) : (a.add (i * 3)).add j = ⟨a.block, a.off + i * 3 + j, none⟩ := by
  obtain ⟨b, off, spot⟩ := a
  simp only at hs
  subst hs
  unfold Addr.add
  split <;> split <;> simp_all <;> omega

theorem open_trips {fuel : Nat} {cs : List Value} {x : DataW H × List MemPlace} (h : DataW.trod enc Try.prog w base spare held fuel 26 cs = some x) :
    ∃ (A : Option Addr) (len cap : Nat) (X Y Z : Nat → Int), cs = [.slice A len cap] ∧ len ≤ 9223372036854775807 ∧ Trips w A len X Y Z := by
  rcases Go.Deep.open_slice Try.underlying26 h with ⟨rfl, _⟩ | ⟨a, len, cap, m, n, D, Pl, rfl, hb, hl, hm, hmm, _, hi⟩
  · exact ⟨none, 0, 0, fun _ => 0, fun _ => 0, fun _ => 0, rfl, by omega, fun h => absurd h (Nat.lt_irrefl 0)⟩
  · have hlm : len ≤ m := by rw [hmm]; split <;> omega
    unfold maxLen at hm
    have each : ∀ j, ∃ E : Int × Int × Int, j < len → w.cell? ((a.add (j * 3)).add 0) = some (.int .i64 E.1) ∧ w.cell? ((a.add (j * 3)).add 1) = some (.int .i64 E.2.1) ∧ w.cell? ((a.add (j * 3)).add 2) = some (.int .i64 E.2.2) := by
      intro j
      by_cases hj : j < len
      · obtain ⟨cs', hc, ht⟩ := hi j (by omega)
        rw [cells32] at hc
        obtain ⟨_, hcl, hat⟩ := World.cells?_some hc
        obtain ⟨E, rfl⟩ := open_trip hcl ht
        exact ⟨E, fun _ => ⟨hat 0 (by omega), hat 1 (by omega), hat 2 (by omega)⟩⟩
      · exact ⟨(0, 0, 0), fun h => absurd h hj⟩
    obtain ⟨L, hL⟩ := Classical.axiomOfChoice each
    refine ⟨some a, len, cap, fun j => (L j).1, fun j => (L j).2.1, fun j => (L j).2.2, rfl, by omega, fun h0 => ?_⟩
    have hsp : a.spot = none := by
      have := World.cell?_spot (hL 0 h0).1
      obtain ⟨b, off, spot⟩ := a
      simpa [Addr.add] using this
    have hlt : a.block < w.heap.size := by
      have := World.block_lt_of_cell? w _ (hL 0 h0).1
      rw [add_add_three a hsp] at this
      exact this
    refine ⟨a.block, a.off, ?_, hlt, fun j hj => ?_⟩
    · obtain ⟨b, off, spot⟩ := a
      simp only at hsp
      subst hsp
      rfl
    · have h := hL j hj
      simp only [add_add_three a hsp, Nat.add_zero] at h
      exact h
end
end Go.Proofs.Ytkbmnheppjalgaa
