/- A list of three numbers in each element; a variable of three cells. -/
import Derived.Test.YtkbmnheppjalgaaI
import Derived.Test.YtkbmnheppjalgaaX
namespace Go.Proofs.Ytkbmnheppjalgaa
open Go.RowKit Pac

/-- The slice at A of m elements holds three numbers in each. -/
def Trips (w : World) (A : Option Addr) (m : Nat) (X Y Z : Nat → Int) : Prop :=
  0 < m → ∃ b off, A = some ⟨b, off, none⟩ ∧ b < w.heap.size ∧ ∀ j, j < m →
    w.cell? ⟨b, off + j * 3, none⟩ = some (.int .i64 (X j)) ∧ w.cell? ⟨b, off + j * 3 + 1, none⟩ = some (.int .i64 (Y j)) ∧ w.cell? ⟨b, off + j * 3 + 2, none⟩ = some (.int .i64 (Z j))

/-- A variable of three cells. -/
structure Box3 (w : World) (g : Nat) (v0 v1 v2 : Value) : Prop where
  c0 : w.cell? ⟨g, 0, none⟩ = some v0
  c1 : w.cell? ⟨g, 1, none⟩ = some v1
  c2 : w.cell? ⟨g, 2, none⟩ = some v2
theorem Box3.new (w : World) (v0 v1 v2 : Value) (t : TypeId) : Box3 (w.alloc (.cells #[v0, v1, v2] t)) w.heap.size v0 v1 v2 := by
  constructor <;> simp [go_sem]
theorem Box3.lt {w : World} {g : Nat} {v0 v1 v2 : Value} (h : Box3 w g v0 v1 v2) : g < w.heap.size := World.block_lt_of_cell? w _ h.c0
theorem Box3.bar {g g' : Nat} {w w' : World} {v0 v1 v2 : Value} (h : Box3 w g v0 v1 v2) (hb : Bar g' w w') (hne : g ≠ g') : Box3 w' g v0 v1 v2 :=
  ⟨(hb.cell h.lt hne).trans h.c0, (hb.cell h.lt hne).trans h.c1, (hb.cell h.lt hne).trans h.c2⟩
theorem Box3.drew {g : Nat} {w : World} {v0 v1 v2 : Value} (h : Box3 w g v0 v1 v2) : Box3 w.drew g v0 v1 v2 := ⟨h.c0, h.c1, h.c2⟩
theorem Box3.three {g : Nat} {w : World} {v0 v1 v2 : Value} (h : Box3 w g v0 v1 v2) : w.cell? ⟨g, 0, none⟩ = some v0 ∧ w.cell? ⟨g, 1, none⟩ = some v1 ∧ w.cell? ⟨g, 2, none⟩ = some v2 := ⟨h.c0, h.c1, h.c2⟩

end Go.Proofs.Ytkbmnheppjalgaa
