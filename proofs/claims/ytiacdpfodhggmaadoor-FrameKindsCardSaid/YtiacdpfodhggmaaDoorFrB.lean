/- A frame in a variable, and what a question answers. -/
import Derived.Test.YtiacdpfodhggmaaDoorFrA
import Derived.Test.YtiacdpfodhggmaaDoorTalE
namespace Go.Proofs.YtiacdpfodhggmaaDoor.Fr
open Go.RowKit Tal
def cellsF (f : F) : Array Value := #[.int .i64 f.e, .int .i64 f.i, .bool f.c, .int .i64 f.p, .string f.d]
def noF : F := ⟨0, 0, false, 0, ⟨#[]⟩⟩
/-- A frame in a variable. -/
structure BoxF (w : World) (g : Nat) (f : F) : Prop where
  c0 : w.cell? ⟨g, 0, none⟩ = some (.int .i64 f.e)
  c1 : w.cell? ⟨g, 1, none⟩ = some (.int .i64 f.i)
  c2 : w.cell? ⟨g, 2, none⟩ = some (.bool f.c)
  c3 : w.cell? ⟨g, 3, none⟩ = some (.int .i64 f.p)
  c4 : w.cell? ⟨g, 4, none⟩ = some (.string f.d)
  f : ∀ i, w.frozen? ⟨g, i, none⟩ = false
section
variable {w w' : World} {g q B : Nat} {f : F}
theorem BoxF.lt (h : BoxF w g f) : g < w.heap.size := World.block_lt_of_cell? w _ h.c0
theorem BoxF.below (h : BoxF w g f) (hb : Below B w w') (hB : g < B) : BoxF w' g f :=
  ⟨(hb.cell (p := ⟨g, 0, none⟩) hB).trans h.c0, (hb.cell (p := ⟨g, 1, none⟩) hB).trans h.c1, (hb.cell (p := ⟨g, 2, none⟩) hB).trans h.c2, (hb.cell (p := ⟨g, 3, none⟩) hB).trans h.c3, (hb.cell (p := ⟨g, 4, none⟩) hB).trans h.c4, fun i => (hb.frozen (p := ⟨g, i, none⟩) hB).trans (h.f i)⟩
theorem BoxF.new (w : World) (f : F) (t : TypeId) : BoxF (w.alloc (.cells (cellsF f) t)) w.heap.size f := by
  unfold cellsF
  constructor <;> simp [go_sem]
end
theorem cell_belowF {w w' : World} (h : Below w.heap.size w w') {b i : Nat} {v : Value} (hc : w.cell? ⟨b, i, none⟩ = some v) : w'.cell? ⟨b, i, none⟩ = some v :=
  (h.cell (p := ⟨b, i, none⟩) (World.block_lt_of_cell? w _ hc)).trans hc
theorem str_ne {a b : ByteArray} (h : a ≠ b) : (a.toList == b.toList) = false := by
  rw [beq_eq_false_iff_ne]
  exact fun e => h (ByteArray.ext (Array.toList_inj.1 (by simpa [ByteArray.toList_eq] using e)))
def BoolF (p : Prop) (w : World) (e : Ending) (w' : World) : Prop := ∃ b : Bool, e = .returned (.bool b) ∧ (b = true ↔ p) ∧ Below w.heap.size w w'
end Go.Proofs.YtiacdpfodhggmaaDoor.Fr
