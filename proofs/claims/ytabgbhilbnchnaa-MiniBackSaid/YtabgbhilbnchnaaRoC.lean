/- Whether a row may be of a schema: the document's, walked. -/
import Derived.Test.YtabgbhilbnchnaaRoB
import Derived.Test.YtabgbhilbnchnaaMgP
namespace Go.Proofs.Ytabgbhilbnchnaa.Ro
open Go.RowKit Pac Va Sc Lex

theorem cell_below {w w' : World} (h : Below w.heap.size w w') {b i : Nat} {v : Value} (hc : w.cell? ⟨b, i, none⟩ = some v) : w'.cell? ⟨b, i, none⟩ = some v :=
  (h.cell (p := ⟨b, i, none⟩) (World.block_lt_of_cell? w _ hc)).trans hc
/-- A column and a value in memory. -/
def At6 (w : World) (b1 i1 b2 i2 : Nat) (c : C) (a : V) : Prop :=
  w.cell? ⟨b1, i1, none⟩ = some (.string c.n) ∧ w.cell? ⟨b1, i1 + 1, none⟩ = some (.int .i64 c.k) ∧ w.cell? ⟨b1, i1 + 2, none⟩ = some (.bool c.z) ∧ w.cell? ⟨b2, i2, none⟩ = some (.int .i64 a.k) ∧ w.cell? ⟨b2, i2 + 1, none⟩ = some (.int .i64 a.n) ∧ w.cell? ⟨b2, i2 + 2, none⟩ = some (.string a.s)
theorem At6.below {w w' : World} {b1 i1 b2 i2 : Nat} {c : C} {a : V} (h : At6 w b1 i1 b2 i2 c a) (hb : Below w.heap.size w w') : At6 w' b1 i1 b2 i2 c a :=
  ⟨cell_below hb h.1, cell_below hb h.2.1, cell_below hb h.2.2.1, cell_below hb h.2.2.2.1, cell_below hb h.2.2.2.2.1, cell_below hb h.2.2.2.2.2⟩
theorem errs_none {cs : List C} {l : List V} {m : Nat} (hm : cs.length = m) (h : ∀ (j : Nat), j < m → ∀ (c : C) (v : V), cs[j]? = some c → l[j]? = some v → fitsE c v = 0) : errs cs l = 0 :=
  (errs_ok cs l).2 fun j c v hc hv => h j (by rw [← hm]; exact (List.getElem?_eq_some_iff.1 hc).1) c v hc hv

end Go.Proofs.Ytabgbhilbnchnaa.Ro
