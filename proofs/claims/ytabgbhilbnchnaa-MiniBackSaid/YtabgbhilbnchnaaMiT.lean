/- Rows of values that came in, out of their readings. -/
import Derived.Test.YtabgbhilbnchnaaMiM
import Derived.Test.YtabgbhilbnchnaaRoL
namespace Go.Proofs.Ytabgbhilbnchnaa.Mi
open Go.ChangeShapes Go.WideShapes Go.ChangeAt Go.RowKit Va Sc Ro

theorem tcellsRow : Try.prog.cellsOf 34 = 1 := by kernel_rfl
theorem wfI {x : Int} (h : (Lit.int .i64 x).wf = true) : -9223372036854775808 ≤ x ∧ x ≤ 9223372036854775807 := by
  simp [Lit.wf, IntKind.min, IntKind.max, IntKind.signed, IntKind.bits] at h
  exact ⟨by omega, by omega⟩
instance : Inhabited (Li.Gr V) := ⟨⟨none, 0, []⟩⟩
section
variable {H : Type} {enc : TypeId × Value → H} {w : World} {base : Nat} {spare : Nat → Bool} {held : Bool}
theorem open_val {fuel : Nat} {cs : List Value} {x : DataW H × List MemPlace} (h : DataW.trod enc Try.prog w base spare held fuel 36 cs = some x) :
    ∃ a : V, a.Ok ∧ cs = cellsV a := by
  obtain ⟨xs, n, _, _, hlen, hxl, hf⟩ := DataW.trod_struct Try.underlying36 h
  rw [cells34] at hlen
  match cs, hlen with
  | [c0, c1, c2], _ =>
    match xs, hxl with
    | [y0, y1, y2], _ =>
      have g0 : DataW.trod enc Try.prog w base spare held n 3 [c0] = some y0 := by have := hf 0 _ rfl; simpa [cellsInt] using this
      have g1 : DataW.trod enc Try.prog w base spare held n 3 [c1] = some y1 := by have := hf 1 _ rfl; simpa [cellsInt] using this
      have g2 : DataW.trod enc Try.prog w base spare held n 9 [c2] = some y2 := by have := hf 2 _ rfl; simpa [cellsInt, cellsStr] using this
      obtain ⟨k, e0, _, w0⟩ := DataW.trod_int Try.underlying3 g0
      obtain ⟨m, e1, _, w1⟩ := DataW.trod_int Try.underlying3 g1
      obtain ⟨s, e2, _, _⟩ := DataW.trod_string Try.underlying9 g2
      simp only [List.cons.injEq, and_true] at e0 e1 e2
      subst e0 e1 e2
      exact ⟨⟨k, m, s⟩, ⟨(wfI w0).1, (wfI w0).2, (wfI w1).1, (wfI w1).2⟩, rfl⟩
theorem open_vals {fuel : Nat} {cs : List Value} {x : DataW H × List MemPlace} (h : DataW.trod enc Try.prog w base spare held fuel 34 cs = some x) :
    ∃ a : Li.Gr V, (a.l.length ≤ a.cp ∧ a.l.length ≤ 9223372036854775807 ∧ HasV w 0 a.A a.l ∧ ∀ v ∈ a.l, v.Ok) ∧ cs = Li.cellsG a := by
  obtain ⟨A, cp, l, e, h1, h2, h3, h4⟩ := Li.open_list (R := cellsV) (Ok := fun a => a.Ok) Try.underlying34 cells34 (by decide) cellsV_len (fun _ _ _ h => open_val h) h
  exact ⟨⟨A, cp, l⟩, ⟨h1, h2, h4, fun v hv => by
    obtain ⟨j, hj⟩ := List.mem_iff_getElem?.1 hv
    exact h3 j v hj⟩, e⟩
end
theorem open_cells {H : Type} {enc : TypeId × Value → H} {w W : World} {base b2 : Nat} {spare : Nat → Bool} {held : Bool} {v : Value} {d : DataW H} {p : List MemPlace}
    (hv : Value.okWide Try.prog W .any b2 26 v) (h : DataW.Trod enc Try.prog w base spare held 26 v d p) :
    ∃ (A : Option Addr) (cp m : Nat) (l : List (List V)), v = .slice A m cp ∧ l.length = m ∧ m ≤ 9223372036854775807 ∧ (∀ r ∈ l, r.length ≤ 9223372036854775807) ∧ (∀ r ∈ l, ∀ v ∈ r, v.Ok) ∧ HasVV w 0 A l := by
  obtain ⟨fuel, hf⟩ := h
  obtain ⟨A, cp, l, e, h1, h2, h3, h4⟩ := Li.open_list (R := Li.cellsG) (Ok := fun a => a.l.length ≤ a.cp ∧ a.l.length ≤ 9223372036854775807 ∧ HasV w 0 a.A a.l ∧ ∀ v ∈ a.l, v.Ok) Try.underlying26 tcellsRow (by decide) Li.cellsG_len (fun _ _ _ h => open_vals h) hf
  obtain ⟨a0, len, cap, rfl⟩ := okWide_slice Try.underlying26 hv
  simp only [Value.cells, List.cons.injEq, Value.slice.injEq, and_true] at e
  obtain ⟨rfl, rfl, rfl⟩ := e
  have hm : ∀ x ∈ l, x.l.length ≤ x.cp ∧ x.l.length ≤ 9223372036854775807 ∧ HasV w 0 x.A x.l ∧ ∀ v ∈ x.l, v.Ok := fun x hx => by
    obtain ⟨j, hj⟩ := List.mem_iff_getElem?.1 hx
    exact h3 j x hj
  refine ⟨_, _, l.length, l.map Li.Gr.l, rfl, by rw [List.length_map], h2, fun r hr => ?_, fun r hr => ?_, ⟨l, rfl, h4, fun x hx => ⟨(hm x hx).2.2.1, (hm x hx).1⟩⟩⟩
  · obtain ⟨x, hx, rfl⟩ := List.mem_map.1 hr
    exact (hm x hx).2.1
  · obtain ⟨x, hx, rfl⟩ := List.mem_map.1 hr
    exact (hm x hx).2.2.2
end Go.Proofs.Ytabgbhilbnchnaa.Mi
