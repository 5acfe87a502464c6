/- Pages and arrays that came in, out of their readings. -/
import Derived.Test.YtiacdpfodhggmaaDoorLfE
import Derived.Laws.IdiomArrays
import Derived.ProofKit
import Derived.OpenShut
import Derived.Carry
import Derived.Deep.Fields
import Derived.Deep.Slices
namespace Go.Proofs.YtiacdpfodhggmaaDoor.Lf
open Go.ChangeShapes Go.WideShapes Go.ChangeAt Go.RowKit Tal
theorem tcellsI : Tryd.prog.cellsOf 3 = 1 := by kernel_rfl
theorem tcellsS : Tryd.prog.cellsOf 9 = 1 := by kernel_rfl
theorem tcellsP : Tryd.prog.cellsOf 29 = 2 := by kernel_rfl
theorem tcells3 : Tryd.prog.cellsOf 23 = 3 := by kernel_rfl
theorem tcells4 : Tryd.prog.cellsOf 24 = 4 := by kernel_rfl
theorem tcellsU8 : Tryd.prog.cellsOf 5 = 1 := by kernel_rfl
theorem tcellsU16 : Tryd.prog.cellsOf 22 = 1 := by kernel_rfl
theorem wfU16 {x : Int} (h : (Lit.int .u16 x).wf = true) : ∃ a : Nat, x = (a : Int) ∧ a ≤ 65535 := by
  simp [Lit.wf, IntKind.min, IntKind.max, IntKind.signed, IntKind.bits] at h
  exact ⟨x.toNat, by omega, by omega⟩
theorem wfU8 {x : Int} (h : (Lit.int .u8 x).wf = true) : ∃ b : UInt8, x = (b.toNat : Int) := by
  simp [Lit.wf, IntKind.min, IntKind.max, IntKind.signed, IntKind.bits] at h
  refine ⟨UInt8.ofNat x.toNat, ?_⟩
  have h2 : (UInt8.ofNat x.toNat).toNat = x.toNat % 256 := by simp
  rw [h2]
  omega
theorem two_of {α : Type} {cs : Array α} (h : cs.size = 2) : ∃ a b, cs = #[a, b] := by
  obtain ⟨l⟩ := cs
  match l, h with
  | [a, b], _ => exact ⟨a, b, rfl⟩
theorem three_of {α : Type} {cs : Array α} (h : cs.size = 3) : ∃ a b c, cs = #[a, b, c] := by
  obtain ⟨l⟩ := cs
  match l, h with
  | [a, b, c], _ => exact ⟨a, b, c, rfl⟩
theorem four_of {α : Type} {cs : Array α} (h : cs.size = 4) : ∃ a b c d, cs = #[a, b, c, d] := by
  obtain ⟨l⟩ := cs
  match l, h with
  | [a, b, c, d], _ => exact ⟨a, b, c, d, rfl⟩
section
variable {H' : Type} {enc : TypeId × Value → H'} {w : World} {base : Nat} {spare : Nat → Bool} {held : Bool} {W : World} {b2 : Nat} {v : Value} {d : DataW H'} {p : List MemPlace}
theorem open_page (hv : Value.okWide Tryd.prog W .any b2 29 v) (h : DataW.Trod enc Tryd.prog w base spare held 29 v d p) :
    ∃ (n : Int) (s : ByteArray), v = .agg #[.int .i64 n, .string s] ∧ s.size ≤ 9223372036854775807 := by
  obtain ⟨cs, rfl, hsz, _⟩ : ∃ cs, v = .agg cs ∧ cs.size = Tryd.prog.cellsOf 29 ∧ Row.okWide Tryd.prog W .any b2 29 cs := by
    simpa [Value.okWide, Tryd.underlying29] using hv
  rw [tcellsP] at hsz
  obtain ⟨c0, c1, rfl⟩ := two_of hsz
  obtain ⟨fuel, hf0⟩ := h
  obtain ⟨xs, n, _, _, hlen, hxl, hf⟩ := DataW.trod_struct Tryd.underlying29 hf0
  match xs, hxl with
  | [y0, y1], _ =>
    have g0 : DataW.trod enc Tryd.prog w base spare held n 3 [c0] = some y0 := by have := hf 0 _ rfl; simpa [tcellsI, Value.cells] using this
    have g1 : DataW.trod enc Tryd.prog w base spare held n 9 [c1] = some y1 := by have := hf 1 _ rfl; simpa [tcellsI, tcellsS, Value.cells] using this
    obtain ⟨k, e0, _, w0⟩ := DataW.trod_int Tryd.underlying3 g0
    obtain ⟨s, e1, _, hs⟩ := DataW.trod_string Tryd.underlying9 g1
    simp only [List.cons.injEq, and_true] at e0 e1
    subst e0 e1
    unfold maxLen at hs
    exact ⟨k, s, rfl, hs⟩
theorem open_three (hv : Value.okWide Tryd.prog W .any b2 23 v) (h : DataW.Trod enc Tryd.prog w base spare held 23 v d p) :
    ∃ a0 a1 a2 : Nat, v = .agg #[.int .u16 a0, .int .u16 a1, .int .u16 a2] ∧ a0 ≤ 65535 ∧ a1 ≤ 65535 ∧ a2 ≤ 65535 := by
  obtain ⟨cs, rfl, hsz, _⟩ : ∃ cs, v = .agg cs ∧ cs.size = Tryd.prog.cellsOf 23 ∧ Row.okWide Tryd.prog W .any b2 23 cs := by
    simpa [Value.okWide, Tryd.underlying23] using hv
  rw [tcells3] at hsz
  obtain ⟨c0, c1, c2, rfl⟩ := three_of hsz
  obtain ⟨fuel, hf⟩ := h
  obtain ⟨y0, y1, y2, m, hx, hy0, hy1, hy2⟩ := trod_array3 Tryd.underlying23 tcellsU16 hf
  obtain ⟨x0, e0, rfl, w0⟩ := DataW.trod_int Tryd.underlying22 hy0
  obtain ⟨x1, e1, rfl, w1⟩ := DataW.trod_int Tryd.underlying22 hy1
  obtain ⟨x2, e2, rfl, w2⟩ := DataW.trod_int Tryd.underlying22 hy2
  simp only [List.cons.injEq, and_true] at e0 e1 e2
  subst e0 e1 e2
  obtain ⟨a0, rfl, l0⟩ := wfU16 w0
  obtain ⟨a1, rfl, l1⟩ := wfU16 w1
  obtain ⟨a2, rfl, l2⟩ := wfU16 w2
  exact ⟨a0, a1, a2, rfl, l0, l1, l2⟩
theorem open_four (hv : Value.okWide Tryd.prog W .any b2 24 v) (h : DataW.Trod enc Tryd.prog w base spare held 24 v d p) :
    ∃ a0 a1 a2 a3 : UInt8, v = .agg #[.int .u8 a0.toNat, .int .u8 a1.toNat, .int .u8 a2.toNat, .int .u8 a3.toNat] := by
  obtain ⟨cs, rfl, hsz, _⟩ : ∃ cs, v = .agg cs ∧ cs.size = Tryd.prog.cellsOf 24 ∧ Row.okWide Tryd.prog W .any b2 24 cs := by
    simpa [Value.okWide, Tryd.underlying24] using hv
  rw [tcells4] at hsz
  obtain ⟨c0, c1, c2, c3, rfl⟩ := four_of hsz
  obtain ⟨fuel, hf⟩ := h
  obtain ⟨y0, y1, y2, y3, m, hx, hy0, hy1, hy2, hy3⟩ := trod_array4 Tryd.underlying24 tcellsU8 hf
  obtain ⟨x0, e0, rfl, w0⟩ := DataW.trod_int Tryd.underlying5 hy0
  obtain ⟨x1, e1, rfl, w1⟩ := DataW.trod_int Tryd.underlying5 hy1
  obtain ⟨x2, e2, rfl, w2⟩ := DataW.trod_int Tryd.underlying5 hy2
  obtain ⟨x3, e3, rfl, w3⟩ := DataW.trod_int Tryd.underlying5 hy3
  simp only [List.cons.injEq, and_true] at e0 e1 e2 e3
  subst e0 e1 e2 e3
  obtain ⟨a0, rfl⟩ := wfU8 w0
  obtain ⟨a1, rfl⟩ := wfU8 w1
  obtain ⟨a2, rfl⟩ := wfU8 w2
  obtain ⟨a3, rfl⟩ := wfU8 w3
  exact ⟨a0, a1, a2, a3, rfl⟩
end
section
variable {w : World}
theorem back_any (s : ByteArray) (a0 a1 a2 : Nat) (b0 b1 b2 b3 : UInt8) (ht : Tab w) (hs : s.size ≤ 9223372036854775807) (h0 : a0 ≤ 65535) (h1 : a1 ≤ 65535) (h2 : a2 ≤ 65535) :
    Calls Tryd.prog 3 #[.string s, .agg #[.int .u16 a0, .int .u16 a1, .int .u16 a2], .agg #[.int .u8 b0.toNat, .int .u8 b1.toNat, .int .u8 b2.toNat, .int .u8 b3.toNat]] w fun e w' => e = .returned (.bool true) ∧ Below w.heap.size w w' := by
  by_cases h : s.size ≤ 200
  · exact back_yes s a0 a1 a2 (fun j => [b0, b1, b2, b3].getD j 0) ht h h0 h1 h2
  · exact back_no s _ _ _ _ _ _ _ ht (by omega) hs
end
end Go.Proofs.YtiacdpfodhggmaaDoor.Lf
