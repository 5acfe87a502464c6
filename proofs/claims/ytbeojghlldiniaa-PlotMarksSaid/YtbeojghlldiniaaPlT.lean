/- Arrays of two and three numbers that came in, out of their readings; the laws for whatever comes in. -/
import Derived.Test.YtbeojghlldiniaaPlD
import Derived.Test.YtbeojghlldiniaaPlE
import Derived.Test.YtbeojghlldiniaaPlF
import Derived.Test.YtbeojghlldiniaaPlH
import Derived.Laws.IdiomArrays
import Derived.ProofKit
import Derived.OpenShut
import Derived.Carry
import Derived.Deep.Fields
import Derived.Deep.Slices
namespace Go.Proofs.Ytbeojghlldiniaa.Pl
open Go.ChangeShapes Go.WideShapes Go.ChangeAt Go.RowKit
theorem tcellsI : Try.prog.cellsOf 3 = 1 := by kernel_rfl
theorem tcells3I : Try.prog.cellsOf 22 = 3 := by kernel_rfl
theorem tcells3 : Try.prog.cellsOf 35 = 3 := by kernel_rfl
theorem tcells2 : Try.prog.cellsOf 37 = 2 := by kernel_rfl
theorem tcellsU16 : Try.prog.cellsOf 34 = 1 := by kernel_rfl
theorem wfU16 {x : Int} (h : (Lit.int .u16 x).wf = true) : ∃ a : Nat, x = (a : Int) ∧ a ≤ 65535 := by
  simp [Lit.wf, IntKind.min, IntKind.max, IntKind.signed, IntKind.bits] at h
  exact ⟨x.toNat, by omega, by omega⟩
theorem wfI {x : Int} (h : (Lit.int .i64 x).wf = true) : -9223372036854775808 ≤ x ∧ x ≤ 9223372036854775807 := by
  simp [Lit.wf, IntKind.min, IntKind.max, IntKind.signed, IntKind.bits] at h
  exact ⟨by omega, by omega⟩
theorem two_of {α : Type} {cs : Array α} (h : cs.size = 2) : ∃ a b, cs = #[a, b] := by
  obtain ⟨l⟩ := cs
  match l, h with
  | [a, b], _ => exact ⟨a, b, rfl⟩
theorem three_of {α : Type} {cs : Array α} (h : cs.size = 3) : ∃ a b c, cs = #[a, b, c] := by
  obtain ⟨l⟩ := cs
  match l, h with
  | [a, b, c], _ => exact ⟨a, b, c, rfl⟩
section
variable {H' : Type} {enc : TypeId × Value → H'} {w : World} {base : Nat} {spare : Nat → Bool} {held : Bool} {W : World} {b2 : Nat} {v : Value} {d : DataW H'} {p : List MemPlace}
theorem trod_array2 {P : Program} {t e : TypeId} {fuel : Nat} {c0 c1 : Value} {x : DataW H' × List MemPlace} (ht : P.underlying t = some (.array 2 e)) (hce : P.cellsOf e = 1)
    (h : DataW.trod enc P w base spare held fuel t [c0, c1] = some x) :
    ∃ y0 y1 n, x = (.agg [y0.1, y1.1], y0.2 ++ y1.2) ∧ DataW.trod enc P w base spare held n e [c0] = some y0 ∧ DataW.trod enc P w base spare held n e [c1] = some y1 := by
  cases fuel with
  | zero => simp [DataW.trod] at h
  | succ n =>
    unfold DataW.trod at h
    rw [ht] at h
    have r2 : List.range 2 = [0, 1] := rfl
    simp [r2, hce] at h
    obtain ⟨_, h⟩ := h
    cases h0 : DataW.trod enc P w base spare held n e [c0] with
    | none => simp [h0] at h
    | some y0 =>
      cases h1 : DataW.trod enc P w base spare held n e [c1] with
      | none => simp [h0, h1] at h
      | some y1 =>
        simp [h0, h1] at h
        exact ⟨y0, y1, n, h.symm, h0, h1⟩
theorem open_three (hv : Value.okWide Try.prog W .any b2 35 v) (h : DataW.Trod enc Try.prog w base spare held 35 v d p) :
    ∃ a0 a1 a2 : Nat, v = .agg #[.int .u16 a0, .int .u16 a1, .int .u16 a2] ∧ a0 ≤ 65535 ∧ a1 ≤ 65535 ∧ a2 ≤ 65535 := by
  obtain ⟨cs, rfl, hsz, _⟩ : ∃ cs, v = .agg cs ∧ cs.size = Try.prog.cellsOf 35 ∧ Row.okWide Try.prog W .any b2 35 cs := by
    simpa [Value.okWide, Try.underlying35] using hv
  rw [tcells3] at hsz
  obtain ⟨c0, c1, c2, rfl⟩ := three_of hsz
  obtain ⟨fuel, hf⟩ := h
  obtain ⟨y0, y1, y2, m, hx, hy0, hy1, hy2⟩ := trod_array3 Try.underlying35 tcellsU16 hf
  obtain ⟨x0, e0, rfl, w0⟩ := DataW.trod_int Try.underlying34 hy0
  obtain ⟨x1, e1, rfl, w1⟩ := DataW.trod_int Try.underlying34 hy1
  obtain ⟨x2, e2, rfl, w2⟩ := DataW.trod_int Try.underlying34 hy2
  simp only [List.cons.injEq, and_true] at e0 e1 e2
  subst e0 e1 e2
  obtain ⟨a0, rfl, l0⟩ := wfU16 w0
  obtain ⟨a1, rfl, l1⟩ := wfU16 w1
  obtain ⟨a2, rfl, l2⟩ := wfU16 w2
  exact ⟨a0, a1, a2, rfl, l0, l1, l2⟩
theorem open_two (hv : Value.okWide Try.prog W .any b2 37 v) (h : DataW.Trod enc Try.prog w base spare held 37 v d p) :
    ∃ a0 a1 : Nat, v = .agg #[.int .u16 a0, .int .u16 a1] ∧ a0 ≤ 65535 ∧ a1 ≤ 65535 := by
  obtain ⟨cs, rfl, hsz, _⟩ : ∃ cs, v = .agg cs ∧ cs.size = Try.prog.cellsOf 37 ∧ Row.okWide Try.prog W .any b2 37 cs := by
    simpa [Value.okWide, Try.underlying37] using hv
  rw [tcells2] at hsz
  obtain ⟨c0, c1, rfl⟩ := two_of hsz
  obtain ⟨fuel, hf⟩ := h
  obtain ⟨y0, y1, m, hx, hy0, hy1⟩ := trod_array2 Try.underlying37 tcellsU16 hf
  obtain ⟨x0, e0, rfl, w0⟩ := DataW.trod_int Try.underlying34 hy0
  obtain ⟨x1, e1, rfl, w1⟩ := DataW.trod_int Try.underlying34 hy1
  simp only [List.cons.injEq, and_true] at e0 e1
  subst e0 e1
  obtain ⟨a0, rfl, l0⟩ := wfU16 w0
  obtain ⟨a1, rfl, l1⟩ := wfU16 w1
  exact ⟨a0, a1, rfl, l0, l1⟩
theorem open_ints (hv : Value.okWide Try.prog W .any b2 22 v) (h : DataW.Trod enc Try.prog w base spare held 22 v d p) :
    ∃ a0 a1 a2 : Int, v = .agg #[.int .i64 a0, .int .i64 a1, .int .i64 a2] ∧ (-9223372036854775808 ≤ a0 ∧ a0 ≤ 9223372036854775807) ∧ (-9223372036854775808 ≤ a1 ∧ a1 ≤ 9223372036854775807) ∧ (-9223372036854775808 ≤ a2 ∧ a2 ≤ 9223372036854775807) := by
  obtain ⟨cs, rfl, hsz, _⟩ : ∃ cs, v = .agg cs ∧ cs.size = Try.prog.cellsOf 22 ∧ Row.okWide Try.prog W .any b2 22 cs := by
    simpa [Value.okWide, Try.underlying22] using hv
  rw [tcells3I] at hsz
  obtain ⟨c0, c1, c2, rfl⟩ := three_of hsz
  obtain ⟨fuel, hf⟩ := h
  obtain ⟨y0, y1, y2, m, hx, hy0, hy1, hy2⟩ := trod_array3 Try.underlying22 tcellsI hf
  obtain ⟨x0, e0, rfl, w0⟩ := DataW.trod_int Try.underlying3 hy0
  obtain ⟨x1, e1, rfl, w1⟩ := DataW.trod_int Try.underlying3 hy1
  obtain ⟨x2, e2, rfl, w2⟩ := DataW.trod_int Try.underlying3 hy2
  simp only [List.cons.injEq, and_true] at e0 e1 e2
  subst e0 e1 e2
  exact ⟨x0, x1, x2, rfl, wfI w0, wfI w1, wfI w2⟩
end
section
variable {w : World}
theorem marks_any (s : ByteArray) (a0 a1 a2 : Nat) (t : Bool) (hs2 : s.size ≤ 9223372036854775807) (h0 : a0 ≤ 65535) (h1 : a1 ≤ 65535) :
    Calls Try.prog 4 #[.string s, .agg #[.int .u16 a0, .int .u16 a1, .int .u16 a2], .bool t] w fun e w' => e = .returned (.bool true) ∧ Below w.heap.size w w' := by
  by_cases hs : s.size = 200
  · exact marks_yes s a0 a1 a2 t hs h0 h1
  · exact marks_no s a0 a1 a2 t hs hs2
theorem picks_any (s : ByteArray) (a0 a1 : Nat) (hs2 : s.size ≤ 9223372036854775807) (h0 : a0 ≤ 65535) (h1 : a1 ≤ 65535) :
    Calls Try.prog 5 #[.string s, .agg #[.int .u16 a0, .int .u16 a1]] w fun e w' => e = .returned (.bool true) ∧ Below w.heap.size w w' := by
  by_cases hs : s.size = 200
  · exact picks_yes s a0 a1 hs h0 h1
  · exact picks_no s a0 a1 hs hs2
theorem all_any (s : ByteArray) (a0 a1 : Nat) (hs2 : s.size ≤ 9223372036854775807) (h0 : a0 ≤ 65535) (h1 : a1 ≤ 65535) :
    Calls Try.prog 6 #[.string s, .agg #[.int .u16 a0, .int .u16 a1]] w fun e w' => e = .returned (.bool true) ∧ Below w.heap.size w w' := by
  by_cases hs : s.size = 200
  · exact all_yes s a0 a1 hs h0 h1
  · exact all_no s a0 a1 hs hs2
theorem tells_any (s : ByteArray) (l0 l1 l2 : Int) (t : Bool) (hs2 : s.size ≤ 9223372036854775807) (b0 : -9223372036854775808 ≤ l0 ∧ l0 ≤ 9223372036854775807) (b1 : -9223372036854775808 ≤ l1 ∧ l1 ≤ 9223372036854775807) (b2 : -9223372036854775808 ≤ l2 ∧ l2 ≤ 9223372036854775807) :
    Calls Try.prog 3 #[.string s, .agg #[.int .i64 l0, .int .i64 l1, .int .i64 l2], .bool t] w fun e w' => e = .returned (.bool true) ∧ Below w.heap.size w w' := by
  by_cases hs : 300 < s.size
  · exact tells_no s l0 l1 l2 t (Or.inl hs) hs2
  by_cases h2 : 1000 < l2
  · exact tells_no s l0 l1 l2 t (Or.inr h2) hs2
  exact tells_yes s l0 l1 l2 t (by omega) (by omega) b0.1 b0.2 b1.1 b1.2 b2.1
end
end Go.Proofs.Ytbeojghlldiniaa.Pl
