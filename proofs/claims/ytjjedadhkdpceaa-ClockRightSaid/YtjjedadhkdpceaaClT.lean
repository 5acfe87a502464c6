/- Deeds and pages at hand that came in, out of their readings. -/
import Derived.Test.YtjjedadhkdpceaaClU
import Derived.ProofKit
import Derived.OpenShut
import Derived.Carry
import Derived.ChangeArms
import Derived.Deep.Fields
import Derived.Deep.Slices
namespace Go.Proofs.Ytjjedadhkdpceaa.Cl
open Go.ChangeShapes Go.WideShapes Go.ChangeAt Go.RowKit

theorem tcellsPage : Try.prog.cellsOf 32 = 2 := by kernel_rfl
theorem tcellsHeld : Try.prog.cellsOf 36 = 4 := by kernel_rfl
theorem tcellsI : Try.prog.cellsOf 3 = 1 := by kernel_rfl
theorem tcellsS : Try.prog.cellsOf 9 = 1 := by kernel_rfl
theorem tcellsBo : Try.prog.cellsOf 4 = 1 := by kernel_rfl
theorem tcellsAct : Try.prog.cellsOf 34 = 3 := by kernel_rfl
theorem tcellsHs : Try.prog.cellsOf 22 = 1 := by kernel_rfl
theorem tcellsCl : Try.prog.cellsOf 24 = 2 := by kernel_rfl
theorem wfI {x : Int} (h : (Lit.int .i64 x).wf = true) : -9223372036854775808 ≤ x ∧ x ≤ 9223372036854775807 := by
  simp [Lit.wf, IntKind.min, IntKind.max, IntKind.signed, IntKind.bits] at h
  exact ⟨by omega, by omega⟩
/-- What is held, as it may come in. -/
structure OkH (p : P) : Prop where
  n : -9223372036854775808 ≤ p.no ∧ p.no ≤ 9223372036854775807
  p : -9223372036854775808 ≤ p.pins ∧ p.pins ≤ 9223372036854775807
instance instInhabitedPcl : Inhabited P := ⟨⟨0, ⟨#[]⟩, false, 0⟩⟩
instance instInhabitedAcl : Inhabited A := ⟨⟨0, 0, ⟨#[]⟩⟩⟩
theorem two_ofC {α : Type} {cs : Array α} (h : cs.size = 2) : ∃ a b, cs = #[a, b] := by
  obtain ⟨l⟩ := cs
  match l, h with
  | [a, b], _ => exact ⟨a, b, rfl⟩
section
variable {H' : Type} {enc : TypeId × Value → H'} {w : World} {base : Nat} {spare : Nat → Bool} {held : Bool}
theorem open_page {fuel : Nat} {c1 c2 : Value} {x : DataW H' × List MemPlace} (h : DataW.trod enc Try.prog w base spare held fuel 32 [c1, c2] = some x) :
    ∃ (t : Int) (s : ByteArray), c1 = .int .i64 t ∧ c2 = .string s ∧ (-9223372036854775808 ≤ t ∧ t ≤ 9223372036854775807) ∧ s.size ≤ 9223372036854775807 := by
  obtain ⟨xs, n, _, _, _, hxl, hf⟩ := DataW.trod_struct Try.underlying32 h
  match xs, hxl with
  | [y0, y1], _ =>
    have g0 : DataW.trod enc Try.prog w base spare held n 3 [c1] = some y0 := by have := hf 0 _ rfl; simpa [tcellsI] using this
    have g1 : DataW.trod enc Try.prog w base spare held n 9 [c2] = some y1 := by have := hf 1 _ rfl; simpa [tcellsI, tcellsS] using this
    obtain ⟨k, e0, _, w0⟩ := DataW.trod_int Try.underlying3 g0
    obtain ⟨s, e1, _, hs⟩ := DataW.trod_string Try.underlying9 g1
    simp only [List.cons.injEq, and_true] at e0 e1
    unfold maxLen at hs
    exact ⟨k, s, e0, e1, wfI w0, hs⟩
theorem open_act {fuel : Nat} {cs : List Value} {x : DataW H' × List MemPlace} (h : DataW.trod enc Try.prog w base spare held fuel 34 cs = some x) :
    ∃ a : A, OkA a ∧ cs = cellsA a := by
  obtain ⟨xs, n, _, _, hlen, hxl, hf⟩ := DataW.trod_struct Try.underlying34 h
  rw [tcellsAct] at hlen
  match cs, hlen with
  | [c0, c1, c2], _ =>
    match xs, hxl with
    | [y0, y1], _ =>
      have g0 : DataW.trod enc Try.prog w base spare held n 3 [c0] = some y0 := by have := hf 0 _ rfl; simpa [tcellsI] using this
      have g1 : DataW.trod enc Try.prog w base spare held n 32 [c1, c2] = some y1 := by have := hf 1 _ rfl; simpa [tcellsI, tcellsPage] using this
      obtain ⟨k, e0, _, w0⟩ := DataW.trod_int Try.underlying3 g0
      obtain ⟨t, s, rfl, rfl, ht, hs⟩ := open_page g1
      simp only [List.cons.injEq, and_true] at e0
      subst e0
      exact ⟨⟨k, t, s⟩, ⟨hs, ht.1, ht.2⟩, rfl⟩
theorem open_held {fuel : Nat} {cs : List Value} {x : DataW H' × List MemPlace} (h : DataW.trod enc Try.prog w base spare held fuel 36 cs = some x) :
    ∃ a : P, OkH a ∧ cs = cellsP a := by
  obtain ⟨xs, n, _, _, hlen, hxl, hf⟩ := DataW.trod_struct Try.underlying36 h
  rw [tcellsHeld] at hlen
  match cs, hlen with
  | [c0, c1, c2, c3], _ =>
    match xs, hxl with
    | [y0, y1, y2], _ =>
      have g0 : DataW.trod enc Try.prog w base spare held n 32 [c0, c1] = some y0 := by have := hf 0 _ rfl; simpa [tcellsPage] using this
      have g1 : DataW.trod enc Try.prog w base spare held n 4 [c2] = some y1 := by have := hf 1 _ rfl; simpa [tcellsPage, tcellsBo] using this
      have g2 : DataW.trod enc Try.prog w base spare held n 3 [c3] = some y2 := by have := hf 2 _ rfl; simpa [tcellsPage, tcellsBo, tcellsI] using this
      obtain ⟨t, s, rfl, rfl, ht, hs⟩ := open_page g0
      obtain ⟨b, e1, _⟩ := DataW.trod_bool Try.underlying4 g1
      obtain ⟨k, e2, _, w2⟩ := DataW.trod_int Try.underlying3 g2
      simp only [List.cons.injEq, and_true] at e1 e2
      subst e1 e2
      exact ⟨⟨t, s, b, k⟩, ⟨ht, wfI w2⟩, rfl⟩
theorem open_acts {W : World} {b2 : Nat} {v : Value} {d : DataW H'} {p : List MemPlace}
    (hv : Value.okWide Try.prog W .any b2 27 v) (h : DataW.Trod enc Try.prog w base spare held 27 v d p) :
    ∃ (D : Option Addr) (cp : Nat) (l : List A), v = .slice D l.length cp ∧ l.length ≤ cp ∧ l.length ≤ 9223372036854775807 ∧ (∀ a ∈ l, OkA a) ∧ HasA w 0 D l := by
  obtain ⟨fuel, hf⟩ := h
  obtain ⟨A0, cp, l, e, h1, h2, h3, h4⟩ := Li.open_list (R := cellsA) (Ok := OkA) Try.underlying27 tcellsAct (by decide) cellsA_len (fun _ _ _ h => open_act h) hf
  obtain ⟨a0, len, cap, rfl⟩ := okWide_slice Try.underlying27 hv
  simp only [Value.cells, List.cons.injEq, Value.slice.injEq, and_true] at e
  obtain ⟨rfl, rfl, rfl⟩ := e
  exact ⟨_, _, l, rfl, h1, h2, fun e he => by
    obtain ⟨j, hj⟩ := List.mem_iff_getElem?.1 he
    exact h3 j e hj, h4⟩
theorem open_clock {W : World} {b2 : Nat} {v : Value} {d : DataW H'} {p : List MemPlace}
    (hv : Value.okWide Try.prog W .any b2 24 v) (h : DataW.Trod enc Try.prog w base spare held 24 v d p) :
    ∃ (D : Option Addr) (n cp : Nat) (l : List P) (hd : Int), v = .agg #[.slice D n cp, .int .i64 hd] ∧ HasP w 0 D l ∧ l.length = n ∧ n ≤ cp ∧
      (∀ p ∈ l, -9223372036854775808 ≤ p.no ∧ p.no ≤ 9223372036854775807 ∧ -9223372036854775808 ≤ p.pins ∧ p.pins ≤ 9223372036854775807) ∧ (-9223372036854775808 ≤ hd ∧ hd ≤ 9223372036854775807) := by
  obtain ⟨cs, rfl, hsz, _⟩ : ∃ cs, v = .agg cs ∧ cs.size = Try.prog.cellsOf 24 ∧ Row.okWide Try.prog W .any b2 24 cs := by
    simpa [Value.okWide, Try.underlying24] using hv
  rw [tcellsCl] at hsz
  obtain ⟨c0, c1, rfl⟩ := two_ofC hsz
  obtain ⟨fuel, hf0⟩ := h
  obtain ⟨xs, n, _, _, hlen, hxl, hf⟩ := DataW.trod_struct Try.underlying24 hf0
  match xs, hxl with
  | [y0, y1], _ =>
    have g0 : DataW.trod enc Try.prog w base spare held n 22 [c0] = some y0 := by have := hf 0 _ rfl; simpa [tcellsHs, Value.cells] using this
    have g1 : DataW.trod enc Try.prog w base spare held n 3 [c1] = some y1 := by have := hf 1 _ rfl; simpa [tcellsI, tcellsHs, Value.cells] using this
    obtain ⟨A0, cp, l, e0, h1, h2, h3, h4⟩ := Li.open_list (R := cellsP) (Ok := OkH) Try.underlying22 tcellsHeld (by decide) cellsP_len (fun _ _ _ h => open_held h) g0
    obtain ⟨m, e1, _, w1⟩ := DataW.trod_int Try.underlying3 g1
    simp only [List.cons.injEq, and_true] at e0 e1
    subst e0 e1
    refine ⟨A0, l.length, cp, l, m, rfl, h4, rfl, h1, fun p hp => ?_, wfI w1⟩
    obtain ⟨j, hj⟩ := List.mem_iff_getElem?.1 hp
    have := h3 j p hj
    exact ⟨this.n.1, this.n.2, this.p.1, this.p.2⟩
end
end Go.Proofs.Ytjjedadhkdpceaa.Cl
