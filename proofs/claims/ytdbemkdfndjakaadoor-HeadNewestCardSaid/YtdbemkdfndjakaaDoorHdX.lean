/- Heads, what stays, numbers and lists of heads that came in, out of their readings. -/
import Derived.Test.YtdbemkdfndjakaaDoorHdQ
import Derived.Laws.IdiomArrays
import Derived.ProofKit
import Derived.OpenShut
import Derived.Carry
import Derived.ChangeArms
import Derived.Deep.Fields
import Derived.Deep.Slices
namespace Go.Proofs.YtdbemkdfndjakaaDoor.Hd
open Go.ChangeShapes Go.WideShapes Go.ChangeAt Go.RowKit Tal Sla
theorem tcellsI : Tryd.prog.cellsOf 3 = 1 := by kernel_rfl
theorem tcellsU16 : Tryd.prog.cellsOf 34 = 1 := by kernel_rfl
theorem tcellsH : Tryd.prog.cellsOf 23 = 3 := by kernel_rfl
theorem tcells3 : Tryd.prog.cellsOf 35 = 3 := by kernel_rfl
theorem wfU16 {x : Int} (h : (Lit.int .u16 x).wf = true) : ∃ a : Nat, x = (a : Int) ∧ a < 65536 := by
  simp [Lit.wf, IntKind.min, IntKind.max, IntKind.signed, IntKind.bits] at h
  exact ⟨x.toNat, by omega, by omega⟩
theorem wfI64 {x : Int} (h : (Lit.int .i64 x).wf = true) : -9223372036854775808 ≤ x ∧ x ≤ 9223372036854775807 := by
  simp [Lit.wf, IntKind.min, IntKind.max, IntKind.signed, IntKind.bits] at h
  exact ⟨by omega, by omega⟩
theorem three_of {α : Type} {cs : Array α} (h : cs.size = 3) : ∃ a b c, cs = #[a, b, c] := by
  obtain ⟨l⟩ := cs
  match l, h with
  | [a, b, c], _ => exact ⟨a, b, c, rfl⟩
instance instInhabitedH : Inhabited H := ⟨noH⟩
section
variable {H' : Type} {enc : TypeId × Value → H'} {w : World} {base : Nat} {spare : Nat → Bool} {held : Bool} {W : World} {b2 : Nat} {v : Value} {d : DataW H'} {p : List MemPlace}
set_option maxRecDepth 20000 in
theorem open_head1 {fuel : Nat} {cs : List Value} {x : DataW H' × List MemPlace} (h : DataW.trod enc Tryd.prog w base spare held fuel 23 cs = some x) :
    ∃ f : H, True ∧ (-9223372036854775808 ≤ f.e ∧ f.e ≤ 9223372036854775807) ∧ cs = [.int .i64 f.p, .int .i64 f.l, .int .i64 f.e] := by
  obtain ⟨xs, n, _, _, hlen, hxl, hf⟩ := DataW.trod_struct Tryd.underlying23 h
  rw [tcellsH] at hlen
  match cs, hlen with
  | [c0, c1, c2], _ =>
    match xs, hxl with
    | [y0, y1, y2], _ =>
      have g0 : DataW.trod enc Tryd.prog w base spare held n 3 [c0] = some y0 := by have := hf 0 _ rfl; simpa [tcellsI] using this
      have g1 : DataW.trod enc Tryd.prog w base spare held n 3 [c1] = some y1 := by have := hf 1 _ rfl; simpa [tcellsI] using this
      have g2 : DataW.trod enc Tryd.prog w base spare held n 3 [c2] = some y2 := by have := hf 2 _ rfl; simpa [tcellsI] using this
      obtain ⟨k0, e0, _, _⟩ := DataW.trod_int Tryd.underlying3 g0
      obtain ⟨k1, e1, _, _⟩ := DataW.trod_int Tryd.underlying3 g1
      obtain ⟨k2, e2, _, w2⟩ := DataW.trod_int Tryd.underlying3 g2
      simp only [List.cons.injEq, and_true] at e0 e1 e2
      subst e0 e1 e2
      exact ⟨⟨k0, k1, k2⟩, trivial, wfI64 w2, rfl⟩
set_option maxRecDepth 20000 in
theorem open_head (hv : Value.okWide Tryd.prog W .any b2 23 v) (h : DataW.Trod enc Tryd.prog w base spare held 23 v d p) : ∃ f : H, v = .agg (cellsH f) ∧ -9223372036854775808 ≤ f.e ∧ f.e ≤ 9223372036854775807 := by
  obtain ⟨cs, rfl, hsz, _⟩ : ∃ cs, v = .agg cs ∧ cs.size = Tryd.prog.cellsOf 23 ∧ Row.okWide Tryd.prog W .any b2 23 cs := by
    simpa [Value.okWide, Tryd.underlying23] using hv
  rw [tcellsH] at hsz
  obtain ⟨c0, c1, c2, rfl⟩ := three_of hsz
  obtain ⟨fuel, hf0⟩ := h
  obtain ⟨f, _, he, hc⟩ := open_head1 hf0
  simp only [Value.cells, List.cons.injEq, and_true] at hc
  obtain ⟨rfl, rfl, rfl⟩ := hc
  exact ⟨f, rfl, he.1, he.2⟩
set_option maxRecDepth 20000 in
theorem open_three (hv : Value.okWide Tryd.prog W .any b2 35 v) (h : DataW.Trod enc Tryd.prog w base spare held 35 v d p) :
    ∃ a0 a1 a2 : Nat, v = .agg #[.int .u16 a0, .int .u16 a1, .int .u16 a2] ∧ a0 < 65536 ∧ a1 < 65536 ∧ a2 < 65536 := by
  obtain ⟨cs, rfl, hsz, _⟩ : ∃ cs, v = .agg cs ∧ cs.size = Tryd.prog.cellsOf 35 ∧ Row.okWide Tryd.prog W .any b2 35 cs := by
    simpa [Value.okWide, Tryd.underlying35] using hv
  rw [tcells3] at hsz
  obtain ⟨c0, c1, c2, rfl⟩ := three_of hsz
  obtain ⟨fuel, hf⟩ := h
  obtain ⟨y0, y1, y2, m, hx, hy0, hy1, hy2⟩ := trod_array3 Tryd.underlying35 tcellsU16 hf
  obtain ⟨x0, e0, rfl, w0⟩ := DataW.trod_int Tryd.underlying34 hy0
  obtain ⟨x1, e1, rfl, w1⟩ := DataW.trod_int Tryd.underlying34 hy1
  obtain ⟨x2, e2, rfl, w2⟩ := DataW.trod_int Tryd.underlying34 hy2
  simp only [List.cons.injEq, and_true] at e0 e1 e2
  subst e0 e1 e2
  obtain ⟨a0, rfl, l0⟩ := wfU16 w0
  obtain ⟨a1, rfl, l1⟩ := wfU16 w1
  obtain ⟨a2, rfl, l2⟩ := wfU16 w2
  exact ⟨a0, a1, a2, rfl, l0, l1, l2⟩
set_option maxRecDepth 20000 in
theorem open_heads (hv : Value.okWide Tryd.prog W .any b2 33 v) (h : DataW.Trod enc Tryd.prog w base spare held 33 v d p) :
    ∃ (D : Option Addr) (cp : Nat) (l : List H), v = .slice D l.length cp ∧ l.length ≤ cp ∧ l.length ≤ 9223372036854775807 ∧ HasH w 0 D l := by
  obtain ⟨fuel, hf⟩ := h
  obtain ⟨A0, cp, l, e, h1, h2, h3, h4⟩ := Li.open_list (R := fun h : H => [Value.int .i64 h.p, .int .i64 h.l, .int .i64 h.e]) (Ok := fun _ => True) Tryd.underlying33 tcellsH (by decide) (fun _ => rfl) (fun _ _ _ h => by
    obtain ⟨f, _, _, e⟩ := open_head1 h
    exact ⟨f, trivial, e⟩) hf
  obtain ⟨a0, len, cap, rfl⟩ := okWide_slice Tryd.underlying33 hv
  simp only [Value.cells, List.cons.injEq, Value.slice.injEq, and_true] at e
  obtain ⟨rfl, rfl, rfl⟩ := e
  exact ⟨_, _, l, rfl, h1, h2, h4⟩
end
end Go.Proofs.YtdbemkdfndjakaaDoor.Hd
