/- A value that came in, out of its reading. -/
import Derived.Test.YtijadbkdgekcdaaVaA
import Derived.ProofKit
import Derived.OpenShut
import Derived.Carry
import Derived.Deep.Fields
namespace Go.Proofs.Ytijadbkdgekcdaa.Va
open Go.ChangeShapes Go.WideShapes Go.ChangeAt Go.RowKit

theorem cellsV : Try.prog.cellsOf 23 = 3 := by kernel_rfl
theorem cellsI : Try.prog.cellsOf 3 = 1 := by kernel_rfl
theorem cellsS : Try.prog.cellsOf 9 = 1 := by kernel_rfl
theorem three_of {α : Type} {cs : Array α} (h : cs.size = 3) : ∃ a b c, cs = #[a, b, c] := by
  obtain ⟨l⟩ := cs
  match l, h with
  | [a, b, c], _ => exact ⟨a, b, c, rfl⟩
theorem three_list {α : Type} {l : List α} (h : l.length = 3) : ∃ a b c, l = [a, b, c] := by
  match l, h with
  | [a, b, c], _ => exact ⟨a, b, c, rfl⟩
theorem wfI {x : Int} (h : (Lit.int .i64 x).wf = true) : -9223372036854775808 ≤ x ∧ x ≤ 9223372036854775807 := by
  simp [Lit.wf, IntKind.min, IntKind.max, IntKind.signed, IntKind.bits] at h
  exact ⟨by omega, by omega⟩
theorem open_value {H : Type} {enc : TypeId × Value → H} {w W : World} {base b2 : Nat} {spare : Nat → Bool} {held : Bool} {v : Value} {d : DataW H} {p : List MemPlace}
    (hv : Value.okWide Try.prog W .any b2 23 v) (h : DataW.Trod enc Try.prog w base spare held 23 v d p) : ∃ a : V, v = a.v ∧ a.Ok ∧ a.s.size ≤ 9223372036854775807 := by
  obtain ⟨cs, rfl, hsz, _⟩ : ∃ cs, v = .agg cs ∧ cs.size = Try.prog.cellsOf 23 ∧ Row.okWide Try.prog W .any b2 23 cs := by
    simpa [Value.okWide, Try.underlying23, Try.underlying22] using hv
  rw [cellsV] at hsz
  obtain ⟨c0, c1, c2, rfl⟩ := three_of hsz
  obtain ⟨fuel, hf⟩ := h
  obtain ⟨xs, n, _, _, hlen, hxl, hq⟩ := DataW.trod_struct Try.underlying23 hf
  obtain ⟨y0, y1, y2, rfl⟩ := three_list hxl
  have g0 : DataW.trod enc Try.prog w base spare held n 3 [c0] = some y0 := by have := hq 0 _ rfl; simpa [cellsI, Value.cells] using this
  have g1 : DataW.trod enc Try.prog w base spare held n 3 [c1] = some y1 := by have := hq 1 _ rfl; simpa [cellsI, Value.cells] using this
  have g2 : DataW.trod enc Try.prog w base spare held n 9 [c2] = some y2 := by have := hq 2 _ rfl; simpa [cellsI, cellsS, Value.cells] using this
  obtain ⟨k, e0, _, w0⟩ := DataW.trod_int Try.underlying3 g0
  obtain ⟨m, e1, _, w1⟩ := DataW.trod_int Try.underlying3 g1
  obtain ⟨s, e2, _, hs⟩ := DataW.trod_string Try.underlying9 g2
  simp only [List.cons.injEq, and_true] at e0 e1 e2
  subst e0 e1 e2
  unfold maxLen at hs
  exact ⟨⟨k, m, s⟩, rfl, ⟨(wfI w0).1, (wfI w0).2, (wfI w1).1, (wfI w1).2⟩, hs⟩
end Go.Proofs.Ytijadbkdgekcdaa.Va
