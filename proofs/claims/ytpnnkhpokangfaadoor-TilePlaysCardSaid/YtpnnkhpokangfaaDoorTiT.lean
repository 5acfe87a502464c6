/- Deeds, rows and splits that came in, out of their readings. -/
import Derived.Test.YtpnnkhpokangfaaDoorTiF
import Derived.ProofKit
import Derived.OpenShut
import Derived.Carry
import Derived.Test.YtpnnkhpokangfaaDoorRoL
import Derived.Test.YtpnnkhpokangfaaDoorTiS
namespace Go.Proofs.YtpnnkhpokangfaaDoor.Ti
open Go.ChangeShapes Go.WideShapes Go.ChangeAt Go.RowKit Pac Va Sc Mi Sp
set_option maxRecDepth 20000

theorem tcellsRow : Tryd.prog.cellsOf 35 = 1 := by kernel_rfl
theorem tcellsSp : Tryd.prog.cellsOf 28 = 1 := by kernel_rfl
theorem tcellsAct : Tryd.prog.cellsOf 39 = 8 := by kernel_rfl
theorem eight_of {α : Type} {l : List α} (h : l.length = 8) : ∃ a b c d e f g i, l = [a, b, c, d, e, f, g, i] := by
 match l, h with
 | [a, b, c, d, e, f, g, i], _ => exact ⟨a, b, c, d, e, f, g, i, rfl⟩
theorem six_of {α : Type} {l : List α} (h : l.length = 6) : ∃ a b c d e f, l = [a, b, c, d, e, f] := by
 match l, h with
 | [a, b, c, d, e, f], _ => exact ⟨a, b, c, d, e, f, rfl⟩
instance instInhGroup : Inhabited G := ⟨⟨none, 0, []⟩⟩
instance instInhDeed : Inhabited (AV × Ac) := ⟨⟨⟨none, 0, 0, none, 0, 0⟩, ⟨0, 0, 0, [], vZ, []⟩⟩⟩
section
variable {H : Type} {enc : TypeId × Value → H} {w : World} {base : Nat} {spare : Nat → Bool} {held : Bool}
theorem open_val {fuel : Nat} {cs : List Value} {x : DataW H × List MemPlace} (h : DataW.trod enc Tryd.prog w base spare held fuel 37 cs = some x) :
  ∃ a : V, a.Ok ∧ cs = Ro.cellsV a := by
 obtain ⟨xs, n, _, _, hlen, hxl, hf⟩ := DataW.trod_struct Tryd.underlying37 h
 rw [Ro.cells34] at hlen
 match cs, hlen with
 | [c0, c1, c2], _ =>
  match xs, hxl with
  | [y0, y1, y2], _ =>
   have g0 : DataW.trod enc Tryd.prog w base spare held n 3 [c0] = some y0 := by have := hf 0 _ rfl; simpa [Ro.cellsInt] using this
   have g1 : DataW.trod enc Tryd.prog w base spare held n 3 [c1] = some y1 := by have := hf 1 _ rfl; simpa [Ro.cellsInt] using this
   have g2 : DataW.trod enc Tryd.prog w base spare held n 9 [c2] = some y2 := by have := hf 2 _ rfl; simpa [Ro.cellsInt, Ro.cellsStr] using this
   obtain ⟨k, e0, _, w0⟩ := DataW.trod_int Tryd.underlying3 g0
   obtain ⟨m, e1, _, w1⟩ := DataW.trod_int Tryd.underlying3 g1
   obtain ⟨s, e2, _, _⟩ := DataW.trod_string Tryd.underlying9 g2
   simp only [List.cons.injEq, and_true] at e0 e1 e2
   subst e0 e1 e2
   exact ⟨⟨k, m, s⟩, ⟨(wfI w0).1, (wfI w0).2, (wfI w1).1, (wfI w1).2⟩, rfl⟩
theorem open_vals {fuel : Nat} {cs : List Value} {x : DataW H × List MemPlace} (h : DataW.trod enc Tryd.prog w base spare held fuel 35 cs = some x) :
  ∃ (A : Option Addr) (cp : Nat) (l : List V), cs = [.slice A l.length cp] ∧ l.length ≤ cp ∧ l.length ≤ 9223372036854775807 ∧ (∀ v ∈ l, v.Ok) ∧ Ro.HasV w 0 A l := by
 obtain ⟨A, cp, l, e, h1, h2, h3, h4⟩ := Li.open_list (R := Ro.cellsV) (Ok := fun a => a.Ok) Tryd.underlying35 Ro.cells34 (by decide) Ro.cellsV_len (fun _ _ _ h => open_val h) h
 exact ⟨A, cp, l, e, h1, h2, fun v hv => by
  obtain ⟨j, hj⟩ := List.mem_iff_getElem?.1 hv
  exact h3 j v hj, h4⟩
theorem open_sp {fuel : Nat} {cs : List Value} {x : DataW H × List MemPlace} (h : DataW.trod enc Tryd.prog w base spare held fuel 28 cs = some x) (hw : Wt Tryd.prog 28 x.1) :
  ∃ (A : Option Addr) (cp : Nat) (l : List (List Int)), cs = [.slice A l.length cp] ∧ l.length ≤ cp ∧ l.length ≤ 9223372036854775807 ∧ (∀ g ∈ l, g.length ≤ 17592186044416) ∧ HasLL w 0 A l := by
 obtain ⟨A, cp, l, e, h1, h2, h3, h4, _⟩ := open_listW (R := Sp.cellsG) (Ok := fun a => a.g.length ≤ a.cp ∧ a.g.length ≤ 17592186044416 ∧ Sp.HasI w 0 a.A a.g) Tryd.underlying28 tcellsG (by decide) Sp.cellsG_len (fun _ _ _ h hw => open_groupW h hw) h hw
 have hm : ∀ x ∈ l, x.g.length ≤ x.cp ∧ x.g.length ≤ 17592186044416 ∧ Sp.HasI w 0 x.A x.g := fun x hx => by
  obtain ⟨j, hj⟩ := List.mem_iff_getElem?.1 hx
  exact h3 j x hj
 refine ⟨A, cp, l.map G.g, by rw [List.length_map]; exact e, by rw [List.length_map]; exact h1, by rw [List.length_map]; exact h2, fun g hg => ?_, ⟨l, rfl, h4, fun x hx => ⟨(hm x hx).2.2, (hm x hx).1⟩⟩⟩
 obtain ⟨x, hx, rfl⟩ := List.mem_map.1 hg
 exact (hm x hx).2.1
theorem open_act {fuel : Nat} {cs : List Value} {x : DataW H × List MemPlace} (h : DataW.trod enc Tryd.prog w base spare held fuel 39 cs = some x) (hw : Wt Tryd.prog 39 x.1) :
  ∃ y : AV × Ac, HasAc w (fun b => b < w.heap.size) y.1 y.2 ∧ cs = cellsAc y := by
 obtain ⟨xs, n, _, hxe, hlen, hxl, hf⟩ := DataW.trod_struct Tryd.underlying39 h
 rw [hxe] at hw
 have hw := wt_struct Tryd.underlying39 hw
 rw [tcellsAct] at hlen
 obtain ⟨c0, c1, c2, c3, c4, c5, c6, c7, rfl⟩ := eight_of hlen
 obtain ⟨y0, y1, y2, y3, y4, y5, rfl⟩ := six_of hxl
 have hw5 : Wt Tryd.prog 28 y5.1 := by
  simp only [List.map_cons, List.map_nil, DataW.weightsEach, List.all_append, Bool.and_eq_true] at hw
  exact hw.2.2.2.2.2.1
 have g0 : DataW.trod enc Tryd.prog w base spare held n 3 [c0] = some y0 := by have := hf 0 _ rfl; simpa [Ro.cellsInt] using this
 have g1 : DataW.trod enc Tryd.prog w base spare held n 3 [c1] = some y1 := by have := hf 1 _ rfl; simpa [Ro.cellsInt] using this
 have g2 : DataW.trod enc Tryd.prog w base spare held n 3 [c2] = some y2 := by have := hf 2 _ rfl; simpa [Ro.cellsInt] using this
 have g3 : DataW.trod enc Tryd.prog w base spare held n 35 [c3] = some y3 := by have := hf 3 _ rfl; simpa [Ro.cellsInt, tcellsRow] using this
 have g4 : DataW.trod enc Tryd.prog w base spare held n 37 [c4, c5, c6] = some y4 := by have := hf 4 _ rfl; simpa [Ro.cellsInt, tcellsRow, Ro.cells34] using this
 have g5 : DataW.trod enc Tryd.prog w base spare held n 28 [c7] = some y5 := by have := hf 5 _ rfl; simpa [Ro.cellsInt, tcellsRow, Ro.cells34, tcellsSp] using this
 obtain ⟨k, e0, _, w0⟩ := DataW.trod_int Tryd.underlying3 g0
 obtain ⟨s, e1, _, w1⟩ := DataW.trod_int Tryd.underlying3 g1
 obtain ⟨c, e2, _, w2⟩ := DataW.trod_int Tryd.underlying3 g2
 obtain ⟨A, cp, row, e3, h1, h2, h3, h4⟩ := open_vals g3
 obtain ⟨v, hv, e4⟩ := open_val g4
 obtain ⟨B, cq, l, e5, l1, l2, l3, l4⟩ := open_sp g5 hw5
 unfold Ro.cellsV at e4
 simp only [List.cons.injEq, and_true] at e0 e1 e2 e3 e4 e5
 obtain ⟨e4, e6, e7⟩ := e4
 subst e0 e1 e2 e3 e4 e5 e6 e7
 exact ⟨⟨⟨A, row.length, cp, B, l.length, cq⟩, ⟨k, s, c, row, v, l⟩⟩, ⟨h4, rfl, h1, sp_of l4 (fun b _ hb => hb), rfl, l1, h2, l2, l3, ⟨(wfI w0).1, (wfI w0).2, (wfI w1).1, (wfI w1).2, (wfI w2).1, (wfI w2).2, h3, hv⟩⟩, rfl⟩
theorem open_acts {W : World} {b2 : Nat} {v : Value} {d : DataW H} {p : List MemPlace}
  (hv : Value.okWide Tryd.prog W .any b2 25 v) (h : DataW.Trod enc Tryd.prog w base spare held 25 v d p) (hw : Wt Tryd.prog 25 d) :
  ∃ (A : Option Addr) (cp m : Nat) (l : List (AV × Ac)), v = .slice A m cp ∧ l.length = m ∧ m ≤ 9223372036854775807 ∧ HasAcs w (fun b => b < w.heap.size) A l := by
 obtain ⟨fuel, hf⟩ := h
 obtain ⟨A, cp, l, e, h1, h2, h3, h4, _⟩ := open_listW (R := cellsAc) (Ok := fun y => HasAc w (fun b => b < w.heap.size) y.1 y.2) Tryd.underlying25 tcellsAct (by decide) cellsAc_len (fun _ _ _ h hw => open_act h hw) hf hw
 obtain ⟨a0, len, cap, rfl⟩ := okWide_slice Tryd.underlying25 hv
 simp only [Value.cells, List.cons.injEq, Value.slice.injEq, and_true] at e
 obtain ⟨rfl, rfl, rfl⟩ := e
 exact ⟨_, _, l.length, l, rfl, rfl, h2, h4, fun y hy => by
  obtain ⟨j, hj⟩ := List.mem_iff_getElem?.1 hy
  exact h3 j y hj⟩
end
end Go.Proofs.YtpnnkhpokangfaaDoor.Ti
