/- Groups and two numbers that came in, out of their readings. -/
import Derived.Test.YtifcepjflkgbmaaSpC
import Derived.ProofKit
import Derived.OpenShut
import Derived.Carry
import Derived.Deep.Slices
import Derived.Deep.Fields
namespace Go.Proofs.Ytifcepjflkgbmaa.Sp
open Go.ChangeShapes Go.WideShapes Go.ChangeAt Go.RowKit

theorem tcellsI : Try.prog.cellsOf 3 = 1 := by kernel_rfl
theorem tcellsU : Try.prog.cellsOf 5 = 1 := by kernel_rfl
theorem tcellsG : Try.prog.cellsOf 44 = 1 := by kernel_rfl
theorem tcellsTwo : Try.prog.cellsOf 23 = 2 := by kernel_rfl
theorem tcellsTwoU : Try.prog.cellsOf 42 = 2 := by kernel_rfl
theorem two_of {α : Type} {cs : Array α} (h : cs.size = 2) : ∃ a b, cs = #[a, b] := by
  obtain ⟨l⟩ := cs
  match l, h with
  | [a, b], _ => exact ⟨a, b, rfl⟩
theorem two_list {α : Type} {l : List α} (h : l.length = 2) : ∃ a b, l = [a, b] := by
  match l, h with
  | [a, b], _ => exact ⟨a, b, rfl⟩
theorem wfI {x : Int} (h : (Lit.int .i64 x).wf = true) : -9223372036854775808 ≤ x ∧ x ≤ 9223372036854775807 := by
  simp [Lit.wf, IntKind.min, IntKind.max, IntKind.signed, IntKind.bits] at h
  exact ⟨by omega, by omega⟩
theorem wfU8 {x : Int} (h : (Lit.int .u8 x).wf = true) : 0 ≤ x ∧ x ≤ 255 := by
  simp [Lit.wf, IntKind.min, IntKind.max, IntKind.signed, IntKind.bits] at h
  exact ⟨by omega, by omega⟩
instance : Inhabited G := ⟨⟨none, 0, []⟩⟩
section
variable {H : Type} {enc : TypeId × Value → H} {w : World} {base : Nat} {spare : Nat → Bool} {held : Bool}
theorem open_n {fuel : Nat} {cs : List Value} {x : DataW H × List MemPlace} (h : DataW.trod enc Try.prog w base spare held fuel 3 cs = some x) :
    ∃ a : Int, (-9223372036854775808 ≤ a ∧ a ≤ 9223372036854775807) ∧ cs = cellsI a := by
  obtain ⟨k, e0, _, h0⟩ := DataW.trod_int Try.underlying3 h
  exact ⟨k, wfI h0, e0⟩
theorem open_group {fuel : Nat} {cs : List Value} {x : DataW H × List MemPlace} (h : DataW.trod enc Try.prog w base spare held fuel 44 cs = some x) :
    ∃ a : G, (a.g.length ≤ a.cp ∧ a.g.length ≤ 9223372036854775807 ∧ HasI w 0 a.A a.g) ∧ cs = cellsG a := by
  obtain ⟨A, cp, l, e, h1, h2, _, h4⟩ := Li.open_list (R := cellsI) (Ok := fun a => -9223372036854775808 ≤ a ∧ a ≤ 9223372036854775807) Try.underlying44 tcellsI (by decide) cellsI_len (fun _ _ _ h => open_n h) h
  exact ⟨⟨A, cp, l⟩, ⟨h1, h2, h4⟩, e⟩
theorem open_groups {w W : World} {base b2 : Nat} {spare : Nat → Bool} {held : Bool} {v : Value} {d : DataW H} {p : List MemPlace}
    (hv : Value.okWide Try.prog W .any b2 22 v) (h : DataW.Trod enc Try.prog w base spare held 22 v d p) :
    ∃ (A : Option Addr) (cp : Nat) (l : List (List Int)), v = .slice A l.length cp ∧ l.length ≤ 9223372036854775807 ∧ (∀ g ∈ l, g.length ≤ 9223372036854775807) ∧ HasLL w 0 A l := by
  obtain ⟨fuel, hf⟩ := h
  obtain ⟨A, cp, l, e, h1, h2, h3, h4⟩ := Li.open_list (R := cellsG) (Ok := fun a => a.g.length ≤ a.cp ∧ a.g.length ≤ 9223372036854775807 ∧ HasI w 0 a.A a.g) Try.underlying22 tcellsG (by decide) cellsG_len (fun _ _ _ h => open_group h) hf
  obtain ⟨a0, len, cap, rfl⟩ := okWide_slice Try.underlying22 hv
  simp only [Value.cells, List.cons.injEq, Value.slice.injEq, and_true] at e
  obtain ⟨rfl, rfl, rfl⟩ := e
  have hm : ∀ x ∈ l, x.g.length ≤ x.cp ∧ x.g.length ≤ 9223372036854775807 ∧ HasI w 0 x.A x.g := fun x hx => by
    obtain ⟨j, hj⟩ := List.mem_iff_getElem?.1 hx
    exact h3 j x hj
  refine ⟨_, _, l.map G.g, by rw [List.length_map], by rw [List.length_map]; exact h2, fun g hg => ?_, ⟨l, rfl, h4, fun x hx => ⟨(hm x hx).2.2, (hm x hx).1⟩⟩⟩
  obtain ⟨x, hx, rfl⟩ := List.mem_map.1 hg
  exact (hm x hx).2.1
theorem open_two {w W : World} {base b2 : Nat} {spare : Nat → Bool} {held : Bool} {v : Value} {d : DataW H} {p : List MemPlace}
    (hv : Value.okWide Try.prog W .any b2 23 v) (h : DataW.Trod enc Try.prog w base spare held 23 v d p) :
    ∃ a b : Int, v = .agg #[.int .i64 a, .int .i64 b] ∧ (-9223372036854775808 ≤ a ∧ a ≤ 9223372036854775807) ∧ (-9223372036854775808 ≤ b ∧ b ≤ 9223372036854775807) := by
  obtain ⟨cs, rfl, hsz, _⟩ : ∃ cs, v = .agg cs ∧ cs.size = Try.prog.cellsOf 23 ∧ Row.okWide Try.prog W .any b2 23 cs := by
    simpa [Value.okWide, Try.underlying23] using hv
  rw [tcellsTwo] at hsz
  obtain ⟨c0, c1, rfl⟩ := two_of hsz
  obtain ⟨fuel, hf⟩ := h
  obtain ⟨xs, n, _, _, hlen, hxl, hq⟩ := DataW.trod_array Try.underlying23 hf
  obtain ⟨y0, y1, rfl⟩ := two_list hxl
  have g0 : DataW.trod enc Try.prog w base spare held n 3 [c0] = some y0 := by have := hq 0 (by decide); simpa [tcellsI, Value.cells] using this
  have g1 : DataW.trod enc Try.prog w base spare held n 3 [c1] = some y1 := by have := hq 1 (by decide); simpa [tcellsI, Value.cells] using this
  obtain ⟨a, ha, e0⟩ := open_n g0
  obtain ⟨b, hb, e1⟩ := open_n g1
  unfold cellsI at e0 e1
  simp only [List.cons.injEq, and_true] at e0 e1
  subst e0 e1
  exact ⟨a, b, rfl, ha, hb⟩
theorem open_twoU {w W : World} {base b2 : Nat} {spare : Nat → Bool} {held : Bool} {v : Value} {d : DataW H} {p : List MemPlace}
    (hv : Value.okWide Try.prog W .any b2 42 v) (h : DataW.Trod enc Try.prog w base spare held 42 v d p) :
    ∃ a b : Nat, v = .agg #[.int .u8 (a : Int), .int .u8 (b : Int)] ∧ a < 256 ∧ b < 256 := by
  obtain ⟨cs, rfl, hsz, _⟩ : ∃ cs, v = .agg cs ∧ cs.size = Try.prog.cellsOf 42 ∧ Row.okWide Try.prog W .any b2 42 cs := by
    simpa [Value.okWide, Try.underlying42] using hv
  rw [tcellsTwoU] at hsz
  obtain ⟨c0, c1, rfl⟩ := two_of hsz
  obtain ⟨fuel, hf⟩ := h
  obtain ⟨xs, n, _, _, hlen, hxl, hq⟩ := DataW.trod_array Try.underlying42 hf
  obtain ⟨y0, y1, rfl⟩ := two_list hxl
  have g0 : DataW.trod enc Try.prog w base spare held n 5 [c0] = some y0 := by have := hq 0 (by decide); simpa [tcellsU, Value.cells] using this
  have g1 : DataW.trod enc Try.prog w base spare held n 5 [c1] = some y1 := by have := hq 1 (by decide); simpa [tcellsU, Value.cells] using this
  obtain ⟨a, e0, _, ha⟩ := DataW.trod_int Try.underlying5 g0
  obtain ⟨b, e1, _, hb⟩ := DataW.trod_int Try.underlying5 g1
  simp only [List.cons.injEq, and_true] at e0 e1
  subst e0 e1
  have ha := wfU8 ha
  have hb := wfU8 hb
  refine ⟨a.toNat, b.toNat, ?_, by omega, by omega⟩
  rw [show ((a.toNat : Nat) : Int) = a by omega, show ((b.toNat : Nat) : Int) = b by omega]
end
end Go.Proofs.Ytifcepjflkgbmaa.Sp
