/- Entries and bytes that came in, out of their readings. -/
import Derived.Test.YtmjlfhfadmndhaaBuQ
import Derived.ProofKit
import Derived.OpenShut
import Derived.Carry
import Derived.Deep.Fields
import Derived.Deep.Slices
namespace Go.Proofs.Ytmjlfhfadmndhaa.Bu
open Go.ChangeShapes Go.WideShapes Go.ChangeAt Go.RowKit

theorem tcellsEnt : Try.prog.cellsOf 30 = 3 := by kernel_rfl
theorem tcellsPlace : Try.prog.cellsOf 28 = 2 := by kernel_rfl
theorem tcellsI : Try.prog.cellsOf 3 = 1 := by kernel_rfl
theorem tcellsS : Try.prog.cellsOf 9 = 1 := by kernel_rfl
theorem tcellsU : Try.prog.cellsOf 5 = 1 := by kernel_rfl
theorem wfI {x : Int} (h : (Lit.int .i64 x).wf = true) : -9223372036854775808 ≤ x ∧ x ≤ 9223372036854775807 := by
  simp [Lit.wf, IntKind.min, IntKind.max, IntKind.signed, IntKind.bits] at h
  exact ⟨by omega, by omega⟩
theorem wfU {x : Int} (h : (Lit.int .u8 x).wf = true) : 0 ≤ x ∧ x ≤ 255 := by
  simp [Lit.wf, IntKind.min, IntKind.max, IntKind.signed, IntKind.bits] at h
  exact ⟨by omega, by omega⟩
instance instInhabitedE : Inhabited E := ⟨⟨⟨#[]⟩, 0, 0⟩⟩
theorem three_of {α : Type} {cs : Array α} (h : cs.size = 3) : ∃ a b c, cs = #[a, b, c] := by
  obtain ⟨l⟩ := cs
  match l, h with
  | [a, b, c], _ => exact ⟨a, b, c, rfl⟩
section
variable {H : Type} {enc : TypeId × Value → H} {w : World} {base : Nat} {spare : Nat → Bool} {held : Bool}
theorem open_place {fuel : Nat} {c1 c2 : Value} {x : DataW H × List MemPlace} (h : DataW.trod enc Try.prog w base spare held fuel 28 [c1, c2] = some x) :
    ∃ t s : Int, c1 = .int .i64 t ∧ c2 = .int .i64 s ∧ (-9223372036854775808 ≤ t ∧ t ≤ 9223372036854775807) ∧ (-9223372036854775808 ≤ s ∧ s ≤ 9223372036854775807) := by
  obtain ⟨xs, n, _, _, _, hxl, hf⟩ := DataW.trod_struct Try.underlying28 h
  match xs, hxl with
  | [y0, y1], _ =>
    have g0 : DataW.trod enc Try.prog w base spare held n 3 [c1] = some y0 := by have := hf 0 _ rfl; simpa [tcellsI] using this
    have g1 : DataW.trod enc Try.prog w base spare held n 3 [c2] = some y1 := by have := hf 1 _ rfl; simpa [tcellsI] using this
    obtain ⟨k, e0, _, w0⟩ := DataW.trod_int Try.underlying3 g0
    obtain ⟨m, e1, _, w1⟩ := DataW.trod_int Try.underlying3 g1
    simp only [List.cons.injEq, and_true] at e0 e1
    exact ⟨k, m, e0, e1, wfI w0, wfI w1⟩
theorem open_entry {fuel : Nat} {cs : List Value} {x : DataW H × List MemPlace} (h : DataW.trod enc Try.prog w base spare held fuel 30 cs = some x) :
    ∃ a : E, a.Ok ∧ cs = cellsE a := by
  obtain ⟨xs, n, _, _, hlen, hxl, hf⟩ := DataW.trod_struct Try.underlying30 h
  rw [tcellsEnt] at hlen
  match cs, hlen with
  | [c0, c1, c2], _ =>
    match xs, hxl with
    | [y0, y1], _ =>
      have g0 : DataW.trod enc Try.prog w base spare held n 9 [c0] = some y0 := by have := hf 0 _ rfl; simpa [tcellsS] using this
      have g1 : DataW.trod enc Try.prog w base spare held n 28 [c1, c2] = some y1 := by have := hf 1 _ rfl; simpa [tcellsS, tcellsPlace] using this
      obtain ⟨s, e0, _, hs⟩ := DataW.trod_string Try.underlying9 g0
      obtain ⟨t, u, rfl, rfl, ht, hu⟩ := open_place g1
      simp only [List.cons.injEq, and_true] at e0
      subst e0
      unfold maxLen at hs
      exact ⟨⟨s, t, u⟩, ⟨hs, ht.1, ht.2, hu.1, hu.2⟩, rfl⟩
theorem open_entries {W : World} {b2 : Nat} {v : Value} {d : DataW H} {p : List MemPlace}
    (hv : Value.okWide Try.prog W .any b2 22 v) (h : DataW.Trod enc Try.prog w base spare held 22 v d p) :
    ∃ (A : Option Addr) (cp : Nat) (l : List E), v = .slice A l.length cp ∧ l.length ≤ cp ∧ l.length ≤ 9223372036854775807 ∧ (∀ e ∈ l, e.Ok) ∧ HasE w 0 A l := by
  obtain ⟨fuel, hf⟩ := h
  obtain ⟨A, cp, l, e, h1, h2, h3, h4⟩ := Li.open_list (R := cellsE) (Ok := E.Ok) Try.underlying22 tcellsEnt (by decide) cellsE_len (fun _ _ _ h => open_entry h) hf
  obtain ⟨a0, len, cap, rfl⟩ := okWide_slice Try.underlying22 hv
  simp only [Value.cells, List.cons.injEq, Value.slice.injEq, and_true] at e
  obtain ⟨rfl, rfl, rfl⟩ := e
  exact ⟨_, _, l, rfl, h1, h2, fun e he => by
    obtain ⟨j, hj⟩ := List.mem_iff_getElem?.1 he
    exact h3 j e hj, h4⟩
theorem open_u8s {W : World} {b2 : Nat} {v : Value} {d : DataW H} {p : List MemPlace}
    (hv : Value.okWide Try.prog W .any b2 23 v) (h : DataW.Trod enc Try.prog w base spare held 23 v d p) :
    ∃ (A : Option Addr) (cp : Nat) (l : List Nat), v = .slice A l.length cp ∧ l.length ≤ 9223372036854775807 ∧ (∀ u ∈ l, u ≤ 255) ∧ HasU w 0 A l := by
  obtain ⟨fuel, hf⟩ := h
  obtain ⟨A, cp, l, e, h1, h2, h3, h4⟩ := Li.open_list (R := cellsU) (Ok := fun u => u ≤ 255) Try.underlying23 tcellsU (by decide) cellsU_len (fun _ _ _ h => by
    obtain ⟨k, e0, _, w0⟩ := DataW.trod_int Try.underlying5 h
    have hk := wfU w0
    refine ⟨k.toNat, by omega, ?_⟩
    rw [e0]
    show [Value.int .u8 k] = [Value.int .u8 (k.toNat : Int)]
    rw [Int.toNat_of_nonneg hk.1]) hf
  obtain ⟨a0, len, cap, rfl⟩ := okWide_slice Try.underlying23 hv
  simp only [Value.cells, List.cons.injEq, Value.slice.injEq, and_true] at e
  obtain ⟨rfl, rfl, rfl⟩ := e
  exact ⟨_, _, l, rfl, h2, fun e he => by
    obtain ⟨j, hj⟩ := List.mem_iff_getElem?.1 he
    exact h3 j e hj, h4⟩
theorem open_one {W : World} {b2 : Nat} {v : Value} {d : DataW H} {p : List MemPlace}
    (hv : Value.okWide Try.prog W .any b2 30 v) (h : DataW.Trod enc Try.prog w base spare held 30 v d p) : ∃ a : E, v = .agg #[.string a.key, .int .i64 a.t, .int .i64 a.s] ∧ a.Ok := by
  obtain ⟨cs, rfl, hsz, _⟩ : ∃ cs, v = .agg cs ∧ cs.size = Try.prog.cellsOf 30 ∧ Row.okWide Try.prog W .any b2 30 cs := by
    simpa [Value.okWide, Try.underlying30, Try.underlying29] using hv
  rw [tcellsEnt] at hsz
  obtain ⟨c0, c1, c2, rfl⟩ := three_of hsz
  obtain ⟨fuel, hf⟩ := h
  obtain ⟨a, hok, e⟩ := open_entry hf
  simp only [Value.cells, cellsE, List.cons.injEq, and_true] at e
  obtain ⟨rfl, rfl, rfl⟩ := e
  exact ⟨a, rfl, hok⟩
end
theorem order_int {A : Option Addr} {n cp : Nat} {l : List E} {w : World} (t : Int) (hl : HasE w 0 A l) (hn : l.length = n) (hc : n ≤ cp) (hl9 : n ≤ 9223372036854775807) (h0 : 0 ≤ t) (h1 : t ≤ 255) :
    Calls Try.prog 7 #[.slice A n cp, .int .u8 t] w fun e w' => e = .returned (.bool true) ∧ Below w.heap.size w w' := by
  obtain ⟨k, rfl⟩ : ∃ k : Nat, t = (k : Int) := ⟨t.toNat, by omega⟩
  exact order_any k hl hn hc hl9 (by omega)
end Go.Proofs.Ytmjlfhfadmndhaa.Bu
