/- Values, rows and places that came in, out of their readings. -/
import Derived.Test.YtabgbhilbnchnaaRoD
import Derived.Test.YtabgbhilbnchnaaMgS
import Derived.ProofKit
import Derived.OpenShut
import Derived.Carry
namespace Go.Proofs.Ytabgbhilbnchnaa.Ro
open Go.ChangeShapes Go.WideShapes Go.ChangeAt Go.RowKit Va

theorem cells34 : Try.prog.cellsOf 36 = 3 := by kernel_rfl
theorem cellsInt : Try.prog.cellsOf 3 = 1 := by kernel_rfl
theorem cellsStr : Try.prog.cellsOf 9 = 1 := by kernel_rfl
theorem three_of {α : Type} {cs : Array α} (h : cs.size = 3) : ∃ a b c, cs = #[a, b, c] := by
  obtain ⟨l⟩ := cs
  match l, h with
  | [a, b, c], _ => exact ⟨a, b, c, rfl⟩
theorem three_list {α : Type} {l : List α} (h : l.length = 3) : ∃ a b c, l = [a, b, c] := by
  match l, h with
  | [a, b, c], _ => exact ⟨a, b, c, rfl⟩
section
variable {H : Type} {enc : TypeId × Value → H} {w : World} {base : Nat} {spare : Nat → Bool} {held : Bool}
theorem open_v {fuel : Nat} {cs : List Value} {x : DataW H × List MemPlace} (h : DataW.trod enc Try.prog w base spare held fuel 36 cs = some x) :
    ∃ a : V, a.s.size ≤ 9223372036854775807 ∧ cs = cellsV a := by
  obtain ⟨xs, n, _, _, hlen, hxl, hf⟩ := DataW.trod_struct Try.underlying36 h
  rw [cells34] at hlen
  match cs, hlen with
  | [c0, c1, c2], _ =>
    match xs, hxl with
    | [y0, y1, y2], _ =>
      have g0 : DataW.trod enc Try.prog w base spare held n 3 [c0] = some y0 := by have := hf 0 _ rfl; simpa [cellsInt] using this
      have g1 : DataW.trod enc Try.prog w base spare held n 3 [c1] = some y1 := by have := hf 1 _ rfl; simpa [cellsInt] using this
      have g2 : DataW.trod enc Try.prog w base spare held n 9 [c2] = some y2 := by have := hf 2 _ rfl; simpa [cellsInt, cellsStr] using this
      obtain ⟨k, e0, _, _⟩ := DataW.trod_int Try.underlying3 g0
      obtain ⟨m, e1, _, _⟩ := DataW.trod_int Try.underlying3 g1
      obtain ⟨s, e2, _, hs⟩ := DataW.trod_string Try.underlying9 g2
      simp only [List.cons.injEq, and_true] at e0 e1 e2
      subst e0 e1 e2
      unfold maxLen at hs
      exact ⟨⟨k, m, s⟩, hs, rfl⟩
theorem open_i {fuel : Nat} {cs : List Value} {x : DataW H × List MemPlace} (h : DataW.trod enc Try.prog w base spare held fuel 3 cs = some x) :
    ∃ a : Int, True ∧ cs = cellsI a := by
  obtain ⟨k, e0, _, _⟩ := DataW.trod_int Try.underlying3 h
  exact ⟨k, trivial, e0⟩
end
instance : Inhabited V := ⟨⟨0, 0, ⟨#[]⟩⟩⟩
theorem open_row {H : Type} {enc : TypeId × Value → H} {w W : World} {base b2 : Nat} {spare : Nat → Bool} {held : Bool} {v : Value} {d : DataW H} {p : List MemPlace}
    (hv : Value.okWide Try.prog W .any b2 34 v) (h : DataW.Trod enc Try.prog w base spare held 34 v d p) :
    ∃ (A : Option Addr) (cp m : Nat) (l : List V), v = .slice A m cp ∧ l.length = m ∧ m ≤ 9223372036854775807 ∧ (∀ (j : Nat) (a : V), l[j]? = some a → a.s.size ≤ 9223372036854775807) ∧ HasV w 0 A l := by
  obtain ⟨fuel, hf⟩ := h
  obtain ⟨A, cp, l, e, h1, h2, h3, h4⟩ := Li.open_list (R := cellsV) (Ok := fun a => a.s.size ≤ 9223372036854775807) Try.underlying34 cells34 (by decide) cellsV_len (fun _ _ _ h => open_v h) hf
  obtain ⟨a0, len, cap, rfl⟩ := okWide_slice Try.underlying34 hv
  simp only [Value.cells, List.cons.injEq, Value.slice.injEq, and_true] at e
  obtain ⟨rfl, rfl, rfl⟩ := e
  exact ⟨_, _, l.length, l, rfl, rfl, h2, h3, h4⟩
theorem open_places {H : Type} {enc : TypeId × Value → H} {w W : World} {base b2 : Nat} {spare : Nat → Bool} {held : Bool} {v : Value} {d : DataW H} {p : List MemPlace}
    (hv : Value.okWide Try.prog W .any b2 25 v) (h : DataW.Trod enc Try.prog w base spare held 25 v d p) :
    ∃ (A : Option Addr) (cp m : Nat) (l : List Int), v = .slice A m cp ∧ l.length = m ∧ m ≤ 9223372036854775807 ∧ HasI w 0 A l := by
  obtain ⟨fuel, hf⟩ := h
  obtain ⟨A, cp, l, e, h1, h2, _, h4⟩ := Li.open_list (R := cellsI) (Ok := fun _ => True) Try.underlying25 cellsInt (by decide) (fun _ => rfl) (fun _ _ _ h => open_i h) hf
  obtain ⟨a0, len, cap, rfl⟩ := okWide_slice Try.underlying25 hv
  simp only [Value.cells, List.cons.injEq, Value.slice.injEq, and_true] at e
  obtain ⟨rfl, rfl, rfl⟩ := e
  exact ⟨_, _, l.length, l, rfl, rfl, h2, h4⟩
theorem open_value {H : Type} {enc : TypeId × Value → H} {w W : World} {base b2 : Nat} {spare : Nat → Bool} {held : Bool} {v : Value} {d : DataW H} {p : List MemPlace}
    (hv : Value.okWide Try.prog W .any b2 36 v) (h : DataW.Trod enc Try.prog w base spare held 36 v d p) : ∃ (k n : Int) (s : ByteArray), v = .agg #[.int .i64 k, .int .i64 n, .string s] ∧ s.size ≤ 9223372036854775807 := by
  obtain ⟨cs, rfl, hsz, _⟩ : ∃ cs, v = .agg cs ∧ cs.size = Try.prog.cellsOf 36 ∧ Row.okWide Try.prog W .any b2 36 cs := by
    simpa [Value.okWide, Try.underlying36, Try.underlying35] using hv
  obtain ⟨fuel, hf⟩ := h
  obtain ⟨a, hs, e⟩ := open_v hf
  rw [cells34] at hsz
  obtain ⟨c0, c1, c2, rfl⟩ := three_of hsz
  have e : [c0, c1, c2] = cellsV a := by simpa [Value.cells] using e
  unfold cellsV at e
  simp only [List.cons.injEq, and_true] at e
  obtain ⟨rfl, rfl, rfl⟩ := e
  exact ⟨_, _, _, rfl, hs⟩
end Go.Proofs.Ytabgbhilbnchnaa.Ro
