/- Frames and arrays that came in, out of their readings. -/
import Derived.Test.YtiacdpfodhggmaaDoorFrG
import Derived.Laws.IdiomArrays
import Derived.ProofKit
import Derived.OpenShut
import Derived.Carry
import Derived.ChangeArms
import Derived.Deep.Fields
import Derived.Deep.Slices
namespace Go.Proofs.YtiacdpfodhggmaaDoor.Fr
open Go.ChangeShapes Go.WideShapes Go.ChangeAt Go.RowKit Tal
theorem tcellsI : Tryd.prog.cellsOf 3 = 1 := by kernel_rfl
theorem tcellsS : Tryd.prog.cellsOf 9 = 1 := by kernel_rfl
theorem tcellsB : Tryd.prog.cellsOf 4 = 1 := by kernel_rfl
theorem tcellsF : Tryd.prog.cellsOf 36 = 5 := by kernel_rfl
theorem tcells4 : Tryd.prog.cellsOf 24 = 4 := by kernel_rfl
theorem tcellsU8 : Tryd.prog.cellsOf 5 = 1 := by kernel_rfl
theorem wfU8 {x : Int} (h : (Lit.int .u8 x).wf = true) : ∃ b : UInt8, x = (b.toNat : Int) := by
  simp [Lit.wf, IntKind.min, IntKind.max, IntKind.signed, IntKind.bits] at h
  refine ⟨UInt8.ofNat x.toNat, ?_⟩
  have h2 : (UInt8.ofNat x.toNat).toNat = x.toNat % 256 := by simp
  rw [h2]
  omega
theorem four_of {α : Type} {cs : Array α} (h : cs.size = 4) : ∃ a b c d, cs = #[a, b, c, d] := by
  obtain ⟨l⟩ := cs
  match l, h with
  | [a, b, c, d], _ => exact ⟨a, b, c, d, rfl⟩
theorem five_of {α : Type} {cs : Array α} (h : cs.size = 5) : ∃ a b c d e, cs = #[a, b, c, d, e] := by
  obtain ⟨l⟩ := cs
  match l, h with
  | [a, b, c, d, e], _ => exact ⟨a, b, c, d, e, rfl⟩
section
variable {H' : Type} {enc : TypeId × Value → H'} {w : World} {base : Nat} {spare : Nat → Bool} {held : Bool} {W : World} {b2 : Nat} {v : Value} {d : DataW H'} {p : List MemPlace}
theorem open_frame (hv : Value.okWide Tryd.prog W .any b2 36 v) (h : DataW.Trod enc Tryd.prog w base spare held 36 v d p) : ∃ f : F, v = .agg (cellsF f) := by
  obtain ⟨cs, rfl, hsz, _⟩ : ∃ cs, v = .agg cs ∧ cs.size = Tryd.prog.cellsOf 36 ∧ Row.okWide Tryd.prog W .any b2 36 cs := by
    simpa [Value.okWide, Tryd.underlying36] using hv
  rw [tcellsF] at hsz
  obtain ⟨c0, c1, c2, c3, c4, rfl⟩ := five_of hsz
  obtain ⟨fuel, hf0⟩ := h
  obtain ⟨xs, n, _, _, hlen, hxl, hf⟩ := DataW.trod_struct Tryd.underlying36 hf0
  match xs, hxl with
  | [y0, y1, y2, y3, y4], _ =>
    have g0 : DataW.trod enc Tryd.prog w base spare held n 3 [c0] = some y0 := by have := hf 0 _ rfl; simpa [tcellsI, Value.cells] using this
    have g1 : DataW.trod enc Tryd.prog w base spare held n 3 [c1] = some y1 := by have := hf 1 _ rfl; simpa [tcellsI, Value.cells] using this
    have g2 : DataW.trod enc Tryd.prog w base spare held n 4 [c2] = some y2 := by have := hf 2 _ rfl; simpa [tcellsI, tcellsB, Value.cells] using this
    have g3 : DataW.trod enc Tryd.prog w base spare held n 3 [c3] = some y3 := by have := hf 3 _ rfl; simpa [tcellsI, tcellsB, Value.cells] using this
    have g4 : DataW.trod enc Tryd.prog w base spare held n 9 [c4] = some y4 := by have := hf 4 _ rfl; simpa [tcellsI, tcellsB, tcellsS, Value.cells] using this
    obtain ⟨k0, e0, _, _⟩ := DataW.trod_int Tryd.underlying3 g0
    obtain ⟨k1, e1, _, _⟩ := DataW.trod_int Tryd.underlying3 g1
    obtain ⟨k2, e2, _⟩ := DataW.trod_bool Tryd.underlying4 g2
    obtain ⟨k3, e3, _, _⟩ := DataW.trod_int Tryd.underlying3 g3
    obtain ⟨k4, e4, _, _⟩ := DataW.trod_string Tryd.underlying9 g4
    simp only [List.cons.injEq, and_true] at e0 e1 e2 e3 e4
    subst e0 e1 e2 e3 e4
    exact ⟨⟨k0, k1, k2, k3, k4⟩, rfl⟩
theorem open_four (hv : Value.okWide Tryd.prog W .any b2 24 v) (h : DataW.Trod enc Tryd.prog w base spare held 24 v d p) :
    ∃ a0 a1 a2 a3 : UInt8, v = .agg #[.int .u8 a0.toNat, .int .u8 a1.toNat, .int .u8 a2.toNat, .int .u8 a3.toNat] := by
  obtain ⟨cs, rfl, hsz, _⟩ : ∃ cs, v = .agg cs ∧ cs.size = Tryd.prog.cellsOf 24 ∧ Row.okWide Tryd.prog W .any b2 24 cs := by
    simpa [Value.okWide, Tryd.underlying24] using hv
  rw [tcells4] at hsz
  obtain ⟨c0, c1, c2, c3, rfl⟩ := four_of hsz
  obtain ⟨fuel, hf⟩ := h
  obtain ⟨y0, y1, y2, y3, m, hx, hy0, hy1, hy2, hy3⟩ := trod_array4 Tryd.underlying24 tcellsU8 hf
  obtain ⟨x0, e0, rfl, w0⟩ := DataW.trod_int Tryd.underlying5 hy0
  obtain ⟨x1, e1, rfl, w1⟩ := DataW.trod_int Tryd.underlying5 hy1
  obtain ⟨x2, e2, rfl, w2⟩ := DataW.trod_int Tryd.underlying5 hy2
  obtain ⟨x3, e3, rfl, w3⟩ := DataW.trod_int Tryd.underlying5 hy3
  simp only [List.cons.injEq, and_true] at e0 e1 e2 e3
  subst e0 e1 e2 e3
  obtain ⟨a0, rfl⟩ := wfU8 w0
  obtain ⟨a1, rfl⟩ := wfU8 w1
  obtain ⟨a2, rfl⟩ := wfU8 w2
  obtain ⟨a3, rfl⟩ := wfU8 w3
  exact ⟨a0, a1, a2, a3, rfl⟩
end
/-- Four bytes by their places. -/
def eF (b0 b1 b2 b3 : UInt8) : Nat → UInt8
  | 0 => b0
  | 1 => b1
  | 2 => b2
  | _ => b3
theorem back_int {w : World} (f : F) (x : Int) (b0 b1 b2 b3 : UInt8) (ht : Tab w) (h0 : 0 ≤ x) (h1 : x ≤ 65535) :
    Calls Tryd.prog 6 #[.agg (cellsF f), .int .u16 x, .agg #[.int .u8 b0.toNat, .int .u8 b1.toNat, .int .u8 b2.toNat, .int .u8 b3.toNat]] w fun e w' => e = .returned (.bool true) ∧ Below w.heap.size w w' := by
  obtain ⟨a, rfl⟩ : ∃ a : Nat, x = (a : Int) := ⟨x.toNat, by omega⟩
  exact back_any f a (eF b0 b1 b2 b3) ht (by omega)
end Go.Proofs.YtiacdpfodhggmaaDoor.Fr
