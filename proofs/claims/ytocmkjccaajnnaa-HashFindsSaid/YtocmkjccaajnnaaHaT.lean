/- Deeds and indexes that came in, out of their readings. -/
import Derived.Test.YtocmkjccaajnnaaHaQ
import Derived.Test.YtocmkjccaajnnaaHaS
import Derived.Test.YtocmkjccaajnnaaHaV
import Derived.Test.YtocmkjccaajnnaaHaX
import Derived.Test.YtocmkjccaajnnaaHaY
import Derived.ProofKit
import Derived.OpenShut
import Derived.Carry
import Derived.Deep.Fields
import Derived.Deep.Slices
namespace Go.Proofs.Ytocmkjccaajnnaa.Ha
open Go.ChangeShapes Go.WideShapes Go.ChangeAt Go.RowKit Bu

theorem tcellsEnt : Try.prog.cellsOf 51 = 3 := by kernel_rfl
theorem tcellsPlace : Try.prog.cellsOf 30 = 2 := by kernel_rfl
theorem tcellsI : Try.prog.cellsOf 3 = 1 := by kernel_rfl
theorem tcellsS : Try.prog.cellsOf 9 = 1 := by kernel_rfl
theorem tcellsAct : Try.prog.cellsOf 32 = 4 := by kernel_rfl
theorem tcellsB : Try.prog.cellsOf 42 = 1 := by kernel_rfl
theorem tcellsBB : Try.prog.cellsOf 25 = 1 := by kernel_rfl
theorem tcellsH : Try.prog.cellsOf 27 = 3 := by kernel_rfl
theorem wfI {x : Int} (h : (Lit.int .i64 x).wf = true) : -9223372036854775808 ≤ x ∧ x ≤ 9223372036854775807 := by
  simp [Lit.wf, IntKind.min, IntKind.max, IntKind.signed, IntKind.bits] at h
  exact ⟨by omega, by omega⟩
instance instInhabitedEh : Inhabited E := ⟨⟨⟨#[]⟩, 0, 0⟩⟩
instance instInhabitedAc : Inhabited Ac := ⟨⟨0, ⟨⟨#[]⟩, 0, 0⟩⟩⟩
instance instInhabitedGrE : Inhabited (Li.Gr E) := ⟨⟨none, 0, []⟩⟩
theorem three_ofH {α : Type} {cs : Array α} (h : cs.size = 3) : ∃ a b c, cs = #[a, b, c] := by
  obtain ⟨l⟩ := cs
  match l, h with
  | [a, b, c], _ => exact ⟨a, b, c, rfl⟩
section
variable {H' : Type} {enc : TypeId × Value → H'} {w : World} {base : Nat} {spare : Nat → Bool} {held : Bool}
theorem open_place {fuel : Nat} {c1 c2 : Value} {x : DataW H' × List MemPlace} (h : DataW.trod enc Try.prog w base spare held fuel 30 [c1, c2] = some x) :
    ∃ t s : Int, c1 = .int .i64 t ∧ c2 = .int .i64 s ∧ (-9223372036854775808 ≤ t ∧ t ≤ 9223372036854775807) ∧ (-9223372036854775808 ≤ s ∧ s ≤ 9223372036854775807) := by
  obtain ⟨xs, n, _, _, _, hxl, hf⟩ := DataW.trod_struct Try.underlying30 h
  match xs, hxl with
  | [y0, y1], _ =>
    have g0 : DataW.trod enc Try.prog w base spare held n 3 [c1] = some y0 := by have := hf 0 _ rfl; simpa [tcellsI] using this
    have g1 : DataW.trod enc Try.prog w base spare held n 3 [c2] = some y1 := by have := hf 1 _ rfl; simpa [tcellsI] using this
    obtain ⟨k, e0, _, w0⟩ := DataW.trod_int Try.underlying3 g0
    obtain ⟨m, e1, _, w1⟩ := DataW.trod_int Try.underlying3 g1
    simp only [List.cons.injEq, and_true] at e0 e1
    exact ⟨k, m, e0, e1, wfI w0, wfI w1⟩
theorem open_entry {fuel : Nat} {cs : List Value} {x : DataW H' × List MemPlace} (h : DataW.trod enc Try.prog w base spare held fuel 51 cs = some x) :
    ∃ a : E, a.Ok ∧ cs = cellsE a := by
  obtain ⟨xs, n, _, _, hlen, hxl, hf⟩ := DataW.trod_struct Try.underlying51 h
  rw [tcellsEnt] at hlen
  match cs, hlen with
  | [c0, c1, c2], _ =>
    match xs, hxl with
    | [y0, y1], _ =>
      have g0 : DataW.trod enc Try.prog w base spare held n 9 [c0] = some y0 := by have := hf 0 _ rfl; simpa [tcellsS] using this
      have g1 : DataW.trod enc Try.prog w base spare held n 30 [c1, c2] = some y1 := by have := hf 1 _ rfl; simpa [tcellsS, tcellsPlace] using this
      obtain ⟨s, e0, _, hs⟩ := DataW.trod_string Try.underlying9 g0
      obtain ⟨t, u, rfl, rfl, ht, hu⟩ := open_place g1
      simp only [List.cons.injEq, and_true] at e0
      subst e0
      unfold maxLen at hs
      exact ⟨⟨s, t, u⟩, ⟨hs, ht.1, ht.2, hu.1, hu.2⟩, rfl⟩
theorem open_act {fuel : Nat} {cs : List Value} {x : DataW H' × List MemPlace} (h : DataW.trod enc Try.prog w base spare held fuel 32 cs = some x) :
    ∃ a : Ac, a.e.Ok ∧ cs = cellsA a := by
  obtain ⟨xs, n, _, _, hlen, hxl, hf⟩ := DataW.trod_struct Try.underlying32 h
  rw [tcellsAct] at hlen
  match cs, hlen with
  | [c0, c1, c2, c3], _ =>
    match xs, hxl with
    | [y0, y1, y2], _ =>
      have g0 : DataW.trod enc Try.prog w base spare held n 3 [c0] = some y0 := by have := hf 0 _ rfl; simpa [tcellsI] using this
      have g1 : DataW.trod enc Try.prog w base spare held n 9 [c1] = some y1 := by have := hf 1 _ rfl; simpa [tcellsI, tcellsS] using this
      have g2 : DataW.trod enc Try.prog w base spare held n 30 [c2, c3] = some y2 := by have := hf 2 _ rfl; simpa [tcellsI, tcellsS, tcellsPlace] using this
      obtain ⟨k, e0, _, w0⟩ := DataW.trod_int Try.underlying3 g0
      obtain ⟨s, e1, _, hs⟩ := DataW.trod_string Try.underlying9 g1
      obtain ⟨t, u, rfl, rfl, ht, hu⟩ := open_place g2
      simp only [List.cons.injEq, and_true] at e0 e1
      subst e0 e1
      unfold maxLen at hs
      exact ⟨⟨k, ⟨s, t, u⟩⟩, ⟨hs, ht.1, ht.2, hu.1, hu.2⟩, rfl⟩
theorem open_acts {W : World} {b2 : Nat} {v : Value} {d : DataW H'} {p : List MemPlace}
    (hv : Value.okWide Try.prog W .any b2 22 v) (h : DataW.Trod enc Try.prog w base spare held 22 v d p) :
    ∃ (A : Option Addr) (cp : Nat) (l : List Ac), v = .slice A l.length cp ∧ l.length ≤ cp ∧ l.length ≤ 9223372036854775807 ∧ (∀ a ∈ l, a.e.Ok) ∧ HasA w 0 A l := by
  obtain ⟨fuel, hf⟩ := h
  obtain ⟨A, cp, l, e, h1, h2, h3, h4⟩ := Li.open_list (R := cellsA) (Ok := fun a => a.e.Ok) Try.underlying22 tcellsAct (by decide) cellsA_len (fun _ _ _ h => open_act h) hf
  obtain ⟨a0, len, cap, rfl⟩ := okWide_slice Try.underlying22 hv
  simp only [Value.cells, List.cons.injEq, Value.slice.injEq, and_true] at e
  obtain ⟨rfl, rfl, rfl⟩ := e
  exact ⟨_, _, l, rfl, h1, h2, fun e he => by
    obtain ⟨j, hj⟩ := List.mem_iff_getElem?.1 he
    exact h3 j e hj, h4⟩
theorem open_bucket {fuel : Nat} {cs : List Value} {x : DataW H' × List MemPlace} (h : DataW.trod enc Try.prog w base spare held fuel 42 cs = some x) :
    ∃ a : Li.Gr E, (a.l.length ≤ a.cp ∧ a.l.length ≤ 9223372036854775807 ∧ HasE w 0 a.A a.l ∧ ∀ e ∈ a.l, e.Ok) ∧ cs = Li.cellsG a := by
  obtain ⟨A, cp, l, e, h1, h2, h3, h4⟩ := Li.open_list (R := cellsE) (Ok := E.Ok) Try.underlying42 tcellsEnt (by decide) cellsE_len (fun _ _ _ h => open_entry h) h
  exact ⟨⟨A, cp, l⟩, ⟨h1, h2, h4, fun v hv => by
    obtain ⟨j, hj⟩ := List.mem_iff_getElem?.1 hv
    exact h3 j v hj⟩, e⟩
theorem open_hash {W : World} {b2 : Nat} {v : Value} {d : DataW H'} {p : List MemPlace}
    (hv : Value.okWide Try.prog W .any b2 27 v) (h : DataW.Trod enc Try.prog w base spare held 27 v d p) :
    ∃ (lv nx : Int) (A : Option Addr) (n cp : Nat) (bs : List (List E)), v = .agg #[.int .i64 lv, .int .i64 nx, .slice A n cp] ∧ HasBs w 0 A bs ∧ bs.length = n ∧ n ≤ cp ∧ n ≤ 9223372036854775807 ∧ (∀ r ∈ bs, r.length ≤ 9223372036854775807) ∧ (∀ r ∈ bs, ∀ e ∈ r, e.Ok) ∧
      (-9223372036854775808 ≤ lv ∧ lv ≤ 9223372036854775807) ∧ (-9223372036854775808 ≤ nx ∧ nx ≤ 9223372036854775807) := by
  obtain ⟨cs, rfl, hsz, _⟩ : ∃ cs, v = .agg cs ∧ cs.size = Try.prog.cellsOf 27 ∧ Row.okWide Try.prog W .any b2 27 cs := by
    simpa [Value.okWide, Try.underlying27] using hv
  rw [tcellsH] at hsz
  obtain ⟨c0, c1, c2, rfl⟩ := three_ofH hsz
  obtain ⟨fuel, hf0⟩ := h
  obtain ⟨xs, n, _, _, hlen, hxl, hf⟩ := DataW.trod_struct Try.underlying27 hf0
  match xs, hxl with
  | [y0, y1, y2], _ =>
    have g0 : DataW.trod enc Try.prog w base spare held n 3 [c0] = some y0 := by have := hf 0 _ rfl; simpa [tcellsI, Value.cells] using this
    have g1 : DataW.trod enc Try.prog w base spare held n 3 [c1] = some y1 := by have := hf 1 _ rfl; simpa [tcellsI, Value.cells] using this
    have g2 : DataW.trod enc Try.prog w base spare held n 25 [c2] = some y2 := by have := hf 2 _ rfl; simpa [tcellsI, tcellsBB, Value.cells] using this
    obtain ⟨k, e0, _, w0⟩ := DataW.trod_int Try.underlying3 g0
    obtain ⟨m, e1, _, w1⟩ := DataW.trod_int Try.underlying3 g1
    obtain ⟨A, cp, l, e2, h1, h2, h3, h4⟩ := Li.open_list (R := Li.cellsG) (Ok := fun a => a.l.length ≤ a.cp ∧ a.l.length ≤ 9223372036854775807 ∧ HasE w 0 a.A a.l ∧ ∀ v ∈ a.l, v.Ok) Try.underlying25 tcellsB (by decide) Li.cellsG_len (fun _ _ _ h => open_bucket h) g2
    simp only [List.cons.injEq, and_true] at e0 e1 e2
    subst e0 e1 e2
    have hm : ∀ x ∈ l, x.l.length ≤ x.cp ∧ x.l.length ≤ 9223372036854775807 ∧ HasE w 0 x.A x.l ∧ ∀ v ∈ x.l, v.Ok := fun x hx => by
      obtain ⟨j, hj⟩ := List.mem_iff_getElem?.1 hx
      exact h3 j x hj
    refine ⟨k, m, A, l.length, cp, l.map Li.Gr.l, rfl, ⟨l, rfl, h4, fun x hx => ⟨(hm x hx).2.2.1, (hm x hx).1⟩⟩, by rw [List.length_map], h1, h2, fun r hr => ?_, fun r hr => ?_, wfI w0, wfI w1⟩
    · obtain ⟨x, hx, rfl⟩ := List.mem_map.1 hr
      exact (hm x hx).2.1
    · obtain ⟨x, hx, rfl⟩ := List.mem_map.1 hr
      exact (hm x hx).2.2.2
end
section
variable {A : Option Addr} {n cp : Nat} {l : List Ac} {w : World}
theorem halves_int (t : Int) (hl : HasA w 0 A l) (hn : l.length = n) (h9 : n ≤ 9223372036854775807) (h0 : 0 ≤ t) (h1 : t ≤ 255) :
    Calls Try.prog 6 #[.slice A n cp, .int .u8 t] w fun e w' => e = .returned (.bool true) ∧ Below w.heap.size w w' := by
  obtain ⟨k, rfl⟩ : ∃ k : Nat, t = (k : Int) := ⟨t.toNat, by omega⟩
  exact halves_any k hl hn h9 (by omega)
theorem order_int (t : Int) (hl : HasA w 0 A l) (hn : l.length = n) (h9 : n ≤ 9223372036854775807) (h0 : 0 ≤ t) (h1 : t ≤ 255) :
    Calls Try.prog 7 #[.slice A n cp, .int .u8 t] w fun e w' => e = .returned (.bool true) ∧ Below w.heap.size w w' := by
  obtain ⟨k, rfl⟩ : ∃ k : Nat, t = (k : Int) := ⟨t.toNat, by omega⟩
  exact order_any k hl hn h9 (by omega)
theorem tells_int {bs : List (List E)} (lv0 nx0 : Int) (k : ByteArray) (t : Int) (hb : HasBs w 0 A bs) (hn : bs.length = n) (hc : n ≤ cp) (h9 : n ≤ 9223372036854775807) (hr9 : ∀ r ∈ bs, r.length ≤ 9223372036854775807) (hok : ∀ r ∈ bs, ∀ e ∈ r, e.Ok)
    (hk : k.size ≤ 9223372036854775807) (hl : -9223372036854775808 ≤ lv0 ∧ lv0 ≤ 9223372036854775807) (hx : -9223372036854775808 ≤ nx0 ∧ nx0 ≤ 9223372036854775807) (h0 : 0 ≤ t) (h1 : t ≤ 65535) :
    Calls Try.prog 4 #[.agg #[.int .i64 lv0, .int .i64 nx0, .slice A n cp], .string k, .int .u16 t] w fun e w' => e = .returned (.bool true) ∧ Below w.heap.size w w' := by
  obtain ⟨m, rfl⟩ : ∃ m : Nat, t = (m : Int) := ⟨t.toNat, by omega⟩
  exact tells_any lv0 nx0 k m hb hn hc h9 hr9 hok hk hl.1 hl.2 hx.1 hx.2 (by omega)
end
end Go.Proofs.Ytocmkjccaajnnaa.Ha
