/- The law's argument, a slice of deeds, out of its reading. -/
import Derived.Test.YtnmgaafpbbeceaaN
import Derived.ProofKit
import Derived.OpenShut
import Derived.Carry
import Derived.Deep.Slices
import Derived.Deep.Fields
namespace Go.Proofs.Ytnmgaafpbbeceaa
open Go.ChangeShapes Go.WideShapes Go.ChangeAt Go.RowKit

theorem cells38 : Try.prog.cellsOf 38 = 6 := by kernel_rfl
theorem cells25 : Try.prog.cellsOf 25 = 3 := by kernel_rfl
theorem cells3 : Try.prog.cellsOf 3 = 1 := by kernel_rfl
theorem cells9 : Try.prog.cellsOf 9 = 1 := by kernel_rfl
theorem cells23 : Try.prog.cellsOf 23 = 1 := by kernel_rfl

theorem wf_u64 {x : Int} (h : (Lit.int .u64 x).wf = true) : 0 ≤ x ∧ x < 18446744073709551616 := by
  simp [Lit.wf, IntKind.min, IntKind.max, IntKind.signed, IntKind.bits] at h
  exact ⟨by omega, by omega⟩
theorem wf_i64 {x : Int} (h : (Lit.int .i64 x).wf = true) : -9223372036854775808 ≤ x ∧ x ≤ 9223372036854775807 := by
  simp [Lit.wf, IntKind.min, IntKind.max, IntKind.signed, IntKind.bits] at h
  exact ⟨by omega, by omega⟩

section
variable {H : Type} {enc : TypeId × Value → H} {w : World} {base : Nat} {spare : Nat → Bool} {held : Bool}
theorem open_fate {fuel : Nat} {cs : List Value} {x : DataW H × List MemPlace} (h : DataW.trod enc Try.prog w base spare held fuel 25 cs = some x) :
    ∃ st tn bt : Int, cs = [.int .u64 st, .int .i64 tn, .int .i64 bt] ∧ 0 ≤ st ∧ st < 18446744073709551616 := by
  obtain ⟨xs, n, _, _, hlen, hxl, hf⟩ := DataW.trod_struct Try.underlying25 h
  rw [cells25] at hlen
  match cs, hlen with
  | [c0, c1, c2], _ =>
    match xs, hxl with
    | [y0, y1, y2], _ =>
      have g0 : DataW.trod enc Try.prog w base spare held n 23 [c0] = some y0 := by have := hf 0 _ rfl; simpa [cells23] using this
      have g1 : DataW.trod enc Try.prog w base spare held n 3 [c1] = some y1 := by have := hf 1 _ rfl; simpa [cells3] using this
      have g2 : DataW.trod enc Try.prog w base spare held n 3 [c2] = some y2 := by have := hf 2 _ rfl; simpa [cells3] using this
      obtain ⟨st, e0, _, w0⟩ := DataW.trod_int Try.underlying23 g0
      obtain ⟨tn, e1, _, _⟩ := DataW.trod_int Try.underlying3 g1
      obtain ⟨bt, e2, _, _⟩ := DataW.trod_int Try.underlying3 g2
      simp only [List.cons.injEq, and_true] at e0 e1 e2
      subst e0 e1 e2
      exact ⟨st, tn, bt, rfl, (wf_u64 w0).1, (wf_u64 w0).2⟩

theorem open_deed {fuel : Nat} {cs : List Value} {x : DataW H × List MemPlace} (h : DataW.trod enc Try.prog w base spare held fuel 38 cs = some x) :
    ∃ D : Deed, D.Ok ∧ cs = [.int .i64 D.k, .int .i64 D.at_, .string D.d, .int .u64 D.st, .int .i64 D.tn, .int .i64 D.by_] := by
  obtain ⟨xs, n, _, _, hlen, hxl, hf⟩ := DataW.trod_struct Try.underlying38 h
  rw [cells38] at hlen
  match cs, hlen with
  | [c0, c1, c2, c3, c4, c5], _ =>
    match xs, hxl with
    | [y0, y1, y2, y3], _ =>
      have g0 : DataW.trod enc Try.prog w base spare held n 3 [c0] = some y0 := by have := hf 0 _ rfl; simpa [cells3] using this
      have g1 : DataW.trod enc Try.prog w base spare held n 3 [c1] = some y1 := by have := hf 1 _ rfl; simpa [cells3] using this
      have g2 : DataW.trod enc Try.prog w base spare held n 9 [c2] = some y2 := by have := hf 2 _ rfl; simpa [cells9] using this
      have g3 : DataW.trod enc Try.prog w base spare held n 25 [c3, c4, c5] = some y3 := by have := hf 3 _ rfl; simpa [cells25] using this
      obtain ⟨k, e0, _, _⟩ := DataW.trod_int Try.underlying3 g0
      obtain ⟨a, e1, _, w1⟩ := DataW.trod_int Try.underlying3 g1
      obtain ⟨s, e2, _, hs⟩ := DataW.trod_string Try.underlying9 g2
      obtain ⟨st, tn, bt, e3, f0, f1⟩ := open_fate g3
      simp only [List.cons.injEq, and_true] at e0 e1 e2 e3
      obtain ⟨rfl, rfl, rfl⟩ := e3
      subst e0 e1 e2
      unfold maxLen at hs
      exact ⟨⟨k, a, s, st, tn, bt⟩, ⟨(wf_i64 w1).2, f0, f1, hs⟩, rfl⟩

theorem add_add_six (a : Addr) (hs : a.spot = none) (i j : Nat) : (a.add (i * 6)).add j = ⟨a.block, a.off + i * 6 + j, none⟩ := by
  obtain ⟨b, off, spot⟩ := a
  simp only at hs
  subst hs
  unfold Addr.add
  split <;> split <;> simp_all <;> omega

theorem open_acts {fuel : Nat} {cs : List Value} {x : DataW H × List MemPlace} (h : DataW.trod enc Try.prog w base spare held fuel 22 cs = some x) :
    ∃ (A : Option Addr) (len cap : Nat) (L : Nat → Deed), cs = [.slice A len cap] ∧ len ≤ 9223372036854775807 ∧ Acts w A len L := by
  have dflt : Deed := ⟨0, 0, ⟨#[]⟩, 0, 0, 0⟩
  rcases Go.Deep.open_slice Try.underlying22 h with ⟨rfl, _⟩ | ⟨a, len, cap, m, n, D, Pl, rfl, hb, hl, hm, hmm, _, hi⟩
  · exact ⟨none, 0, 0, fun _ => dflt, rfl, by omega, fun j hj => absurd hj (Nat.not_lt_zero j), fun h => absurd h (Nat.lt_irrefl 0)⟩
  · have hlm : len ≤ m := by rw [hmm]; split <;> omega
    unfold maxLen at hm
    have each : ∀ j, ∃ E : Deed, j < len → E.Ok ∧ w.cell? ((a.add (j * 6)).add 0) = some (.int .i64 E.k) ∧ w.cell? ((a.add (j * 6)).add 1) = some (.int .i64 E.at_) ∧ w.cell? ((a.add (j * 6)).add 2) = some (.string E.d) ∧
        w.cell? ((a.add (j * 6)).add 3) = some (.int .u64 E.st) ∧ w.cell? ((a.add (j * 6)).add 4) = some (.int .i64 E.tn) ∧ w.cell? ((a.add (j * 6)).add 5) = some (.int .i64 E.by_) := by
      intro j
      by_cases hj : j < len
      · obtain ⟨cs', hc, ht⟩ := hi j (by omega)
        rw [cells38] at hc
        obtain ⟨E, hok, rfl⟩ := open_deed ht
        obtain ⟨_, _, hat⟩ := World.cells?_some hc
        exact ⟨E, fun _ => ⟨hok, hat 0 (by omega), hat 1 (by omega), hat 2 (by omega), hat 3 (by omega), hat 4 (by omega), hat 5 (by omega)⟩⟩
      · exact ⟨dflt, fun h => absurd h hj⟩
    obtain ⟨L, hL⟩ := Classical.axiomOfChoice each
    refine ⟨some a, len, cap, L, rfl, by omega, fun j hj => (hL j hj).1, fun h0 => ?_⟩
    have hsp : a.spot = none := by
      have := World.cell?_spot (hL 0 h0).2.1
      obtain ⟨b, off, spot⟩ := a
      simpa [Addr.add] using this
    have hlt : a.block < w.heap.size := by
      have := World.block_lt_of_cell? w _ (hL 0 h0).2.1
      rw [add_add_six a hsp] at this
      exact this
    refine ⟨a.block, a.off, ?_, hlt, fun j hj => ?_⟩
    · obtain ⟨b, off, spot⟩ := a
      simp only at hsp
      subst hsp
      rfl
    · have h := (hL j hj).2
      simp only [add_add_six a hsp, Nat.add_zero] at h
      exact h
end
end Go.Proofs.Ytnmgaafpbbeceaa
