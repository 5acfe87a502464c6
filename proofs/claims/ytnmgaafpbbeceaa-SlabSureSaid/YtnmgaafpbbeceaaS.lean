/- Storing a struct of five cells, in a world that is not written out. -/
import Derived.Test.YtnmgaafpbbeceaaC
import Derived.Deep.MidRow
namespace Go.Proofs.Ytnmgaafpbbeceaa
open Go.RowKit Go.Shelf

/-- A variable of five cells. -/
structure Box5 (w : World) (g : Nat) (v0 v1 v2 v3 v4 : Value) : Prop where
  c0 : w.cell? ⟨g, 0, none⟩ = some v0
  c1 : w.cell? ⟨g, 1, none⟩ = some v1
  c2 : w.cell? ⟨g, 2, none⟩ = some v2
  c3 : w.cell? ⟨g, 3, none⟩ = some v3
  c4 : w.cell? ⟨g, 4, none⟩ = some v4
  f : ∀ i, w.frozen? ⟨g, i, none⟩ = false

/-- All blocks but one are as they were. -/
structure But (g : Nat) (w w' : World) : Prop where
  os : w'.os = w.os
  tape : w'.tape = w.tape
  output : w'.output = w.output
  size : w'.heap.size = w.heap.size
  block : ∀ k, k ≠ g → w'.heap[k]? = w.heap[k]?

theorem But.refl (g : Nat) (w : World) : But g w w := ⟨rfl, rfl, rfl, rfl, fun _ _ => rfl⟩
theorem But.setCell {g : Nat} {a w : World} (h : But g a w) (i : Nat) (u : Value) : But g a (w.setCell ⟨g, i, none⟩ u) :=
  ⟨h.os, h.tape, h.output, by simpa using h.size, fun k hk => (Below.heap_setCell w ⟨g, i, none⟩ u k hk).trans (h.block k hk)⟩
theorem But.below {g B : Nat} {w w' : World} (h : But g w w') (hB : B ≤ g) : Below B w w' :=
  ⟨h.os, h.tape, h.output, by rw [h.size]; exact Nat.le_refl _, fun k hk => h.block k (by omega)⟩
theorem But.cell {g : Nat} {w w' : World} (h : But g w w') {p : Addr} (hp : p.block ≠ g) : w'.cell? p = w.cell? p := World.cell?_of_block (w := w) (h.block p.block hp)
theorem But.frozen {g : Nat} {w w' : World} (h : But g w w') {p : Addr} (hp : p.block ≠ g) : w'.frozen? p = w.frozen? p := World.frozen?_of_block (w := w) (h.block p.block hp)
theorem Box5.but {g g' : Nat} {w w' : World} {v0 v1 v2 v3 v4 : Value} (h : Box5 w g v0 v1 v2 v3 v4) (hb : But g' w w') (hne : g ≠ g') : Box5 w' g v0 v1 v2 v3 v4 :=
  ⟨(hb.cell hne).trans h.c0, (hb.cell hne).trans h.c1, (hb.cell hne).trans h.c2, (hb.cell hne).trans h.c3, (hb.cell hne).trans h.c4, fun i => (hb.frozen hne).trans (h.f i)⟩
theorem Box5.below {g B : Nat} {w w' : World} {v0 v1 v2 v3 v4 : Value} (h : Box5 w g v0 v1 v2 v3 v4) (hb : Below B w w') (hB : g < B) : Box5 w' g v0 v1 v2 v3 v4 :=
  ⟨(hb.cell (p := ⟨g, 0, none⟩) hB).trans h.c0, (hb.cell (p := ⟨g, 1, none⟩) hB).trans h.c1, (hb.cell (p := ⟨g, 2, none⟩) hB).trans h.c2, (hb.cell (p := ⟨g, 3, none⟩) hB).trans h.c3, (hb.cell (p := ⟨g, 4, none⟩) hB).trans h.c4, fun i => (hb.frozen (p := ⟨g, i, none⟩) hB).trans (h.f i)⟩
theorem Box5.new (w : World) (v0 v1 v2 v3 v4 : Value) (t : TypeId) : Box5 (w.alloc (.cells #[v0, v1, v2, v3, v4] t)) w.heap.size v0 v1 v2 v3 v4 := by
  constructor <;> simp [go_sem]
theorem Box5.alloc {g : Nat} {w : World} {v0 v1 v2 v3 v4 : Value} (h : Box5 w g v0 v1 v2 v3 v4) (o : Obj) : Box5 (w.alloc o) g v0 v1 v2 v3 v4 := by
  have hlt : g < w.heap.size := World.block_lt_of_cell? w _ h.c0
  exact h.below ((Below.refl (g + 1) w).alloc hlt o) (by omega)
theorem Box5.set {g : Nat} {w : World} {v0 v1 v2 v3 v4 : Value} (h : Box5 w g v0 v1 v2 v3 v4) (u0 u1 u2 u3 u4 : Value) :
    Box5 (((((w.setCell ⟨g, 0, none⟩ u0).setCell ⟨g, 1, none⟩ u1).setCell ⟨g, 2, none⟩ u2).setCell ⟨g, 3, none⟩ u3).setCell ⟨g, 4, none⟩ u4) g u0 u1 u2 u3 u4 := by
  obtain ⟨h0, h1, h2, h3, h4, hf⟩ := h
  have o : ∀ (W : World) (i j : Nat) (u : Value), i ≠ j → (W.setCell ⟨g, i, none⟩ u).cell? ⟨g, j, none⟩ = W.cell? ⟨g, j, none⟩ := fun W i j u hij => World.cell?_setCell_other W _ _ u (fun e => hij (by injection e))
  refine ⟨?_, ?_, ?_, ?_, ?_, fun i => by simp [hf]⟩
  · rw [o _ _ _ _ (by decide), o _ _ _ _ (by decide), o _ _ _ _ (by decide), o _ _ _ _ (by decide)]
    exact World.cell?_setCell_same _ _ _ h0
  · rw [o _ _ _ _ (by decide), o _ _ _ _ (by decide), o _ _ _ _ (by decide)]
    exact World.cell?_setCell_same _ _ _ ((o _ _ _ _ (by decide)).trans h1)
  · rw [o _ _ _ _ (by decide), o _ _ _ _ (by decide)]
    exact World.cell?_setCell_same _ _ _ (((o _ _ _ _ (by decide)).trans (o _ _ _ _ (by decide))).trans h2)
  · rw [o _ _ _ _ (by decide)]
    exact World.cell?_setCell_same _ _ _ ((((o _ _ _ _ (by decide)).trans (o _ _ _ _ (by decide))).trans (o _ _ _ _ (by decide))).trans h3)
  · exact World.cell?_setCell_same _ _ _ (((((o _ _ _ _ (by decide)).trans (o _ _ _ _ (by decide))).trans (o _ _ _ _ (by decide))).trans (o _ _ _ _ (by decide))).trans h4)

/-- A struct of five cells is stored into its variable. -/
theorem wpList_store5 {P : Program} {ops : Array Oper} {rest : List Oper} {op : Oper} {a : Act} {w : World} {Q : Exit → Act → World → Prop} (hgd : op.guard = none) (ty : TypeId) (x y : Operand) (ho : op.op = .store ty x y)
    (g : Nat) (v0 v1 v2 v3 v4 u0 u1 u2 u3 u4 : Value) (hx : a.eval x = .pointer (some ⟨g, 0, none⟩)) (hy : a.eval y = .agg #[u0, u1, u2, u3, u4])
    (hb : Box5 w g v0 v1 v2 v3 v4) (hi : (P.info? ty).map (·.size) = some 5) (h1 : (#[u0, u1, u2, u3, u4] : Array Value).all (·.oneCell') = true)
    (h : ∀ w', Box5 w' g u0 u1 u2 u3 u4 → But g w w' → wpList P ops Q rest (a.put op.dst undef) w') : wpList P ops Q (op :: rest) a w := by
  refine wpList_store_mid hgd ty x y ho g 0 #[u0, u1, u2, u3, u4] hx hy ?_ hi h1 (h _ (hb.set u0 u1 u2 u3 u4) ((((((But.refl g w).setCell 0 u0).setCell 1 u1).setCell 2 u2).setCell 3 u3).setCell 4 u4))
  intro j hj
  have hj' : j < 5 := hj
  refine ⟨?_, hb.f _⟩
  rw [Nat.zero_add]
  have e : j = 0 ∨ j = 1 ∨ j = 2 ∨ j = 3 ∨ j = 4 := by omega
  rcases e with rfl | rfl | rfl | rfl | rfl
  · rw [hb.c0]; rfl
  · rw [hb.c1]; rfl
  · rw [hb.c2]; rfl
  · rw [hb.c3]; rfl
  · rw [hb.c4]; rfl

theorem size31 : (Try.prog.info? 31).map (·.size) = some 5 := by kernel_rfl
end Go.Proofs.Ytnmgaafpbbeceaa
