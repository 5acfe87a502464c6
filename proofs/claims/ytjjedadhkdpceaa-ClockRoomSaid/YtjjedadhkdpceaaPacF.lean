/- Boxes in memory; what reading does to one, plainly; a Box's Num, walked. -/
import Derived.Test.YtjjedadhkdpceaaPacE
import Derived.Deep.MidRow
namespace Go.Proofs.Ytjjedadhkdpceaa.Pac
open Go.RowKit

/-- A variable of two cells. -/
structure Box2 (w : World) (g : Nat) (v0 v1 : Value) : Prop where
  c0 : w.cell? ⟨g, 0, none⟩ = some v0
  c1 : w.cell? ⟨g, 1, none⟩ = some v1
  f : ∀ i, w.frozen? ⟨g, i, none⟩ = false
/-- All blocks that were there, but one, are as they were. -/
structure Bar (g : Nat) (w w' : World) : Prop where
  os : w'.os = w.os
  tape : w'.tape = w.tape
  output : w'.output = w.output
  size : w.heap.size ≤ w'.heap.size
  block : ∀ k, k < w.heap.size → k ≠ g → w'.heap[k]? = w.heap[k]?
theorem Bar.refl (g : Nat) (w : World) : Bar g w w := ⟨rfl, rfl, rfl, Nat.le_refl _, fun _ _ _ => rfl⟩
theorem Bar.trans {g : Nat} {a b c : World} (h : Bar g a b) (k : Bar g b c) : Bar g a c :=
  ⟨k.os.trans h.os, k.tape.trans h.tape, k.output.trans h.output, Nat.le_trans h.size k.size, fun j hj hne => (k.block j (Nat.lt_of_lt_of_le hj h.size) hne).trans (h.block j hj hne)⟩
theorem Bar.setCell {g : Nat} {a w : World} (h : Bar g a w) (i : Nat) (u : Value) : Bar g a (w.setCell ⟨g, i, none⟩ u) :=
  ⟨h.os, h.tape, h.output, by simpa using h.size, fun k hk hne => (Below.heap_setCell w ⟨g, i, none⟩ u k hne).trans (h.block k hk hne)⟩
theorem Bar.drew {g : Nat} {a w : World} (h : Bar g a w) : Bar g a w.drew := ⟨h.os, h.tape, h.output, h.size, h.block⟩
theorem Bar.of_below (g : Nat) {B : Nat} {w w' : World} (h : Below B w w') (hB : w.heap.size ≤ B) : Bar g w w' :=
  ⟨h.os, h.tape, h.output, h.size, fun k hk _ => h.block k (Nat.lt_of_lt_of_le hk hB)⟩
theorem Bar.below {g B : Nat} {w w' : World} (h : Bar g w w') (hB : B ≤ g) (hw : B ≤ w.heap.size) : Below B w w' :=
  ⟨h.os, h.tape, h.output, h.size, fun k hk => h.block k (Nat.lt_of_lt_of_le hk hw) (by omega)⟩
theorem Bar.cell {g : Nat} {w w' : World} (h : Bar g w w') {p : Addr} (hlt : p.block < w.heap.size) (hp : p.block ≠ g) : w'.cell? p = w.cell? p := World.cell?_of_block (w := w) (h.block p.block hlt hp)
theorem Bar.frozen {g : Nat} {w w' : World} (h : Bar g w w') {p : Addr} (hlt : p.block < w.heap.size) (hp : p.block ≠ g) : w'.frozen? p = w.frozen? p := World.frozen?_of_block (w := w) (h.block p.block hlt hp)
theorem Box2.lt {w : World} {g : Nat} {v0 v1 : Value} (h : Box2 w g v0 v1) : g < w.heap.size := World.block_lt_of_cell? w _ h.c0
theorem Box2.bar {g g' : Nat} {w w' : World} {v0 v1 : Value} (h : Box2 w g v0 v1) (hb : Bar g' w w') (hne : g ≠ g') : Box2 w' g v0 v1 :=
  ⟨(hb.cell h.lt hne).trans h.c0, (hb.cell h.lt hne).trans h.c1, fun i => (hb.frozen h.lt hne).trans (h.f i)⟩
theorem Box2.below {g B : Nat} {w w' : World} {v0 v1 : Value} (h : Box2 w g v0 v1) (hb : Below B w w') (hB : g < B) : Box2 w' g v0 v1 :=
  ⟨(hb.cell (p := ⟨g, 0, none⟩) hB).trans h.c0, (hb.cell (p := ⟨g, 1, none⟩) hB).trans h.c1, fun i => (hb.frozen (p := ⟨g, i, none⟩) hB).trans (h.f i)⟩
theorem Box2.new (w : World) (v0 v1 : Value) (t : TypeId) : Box2 (w.alloc (.cells #[v0, v1] t)) w.heap.size v0 v1 := by
  constructor <;> simp [go_sem]
theorem Box2.alloc {g : Nat} {w : World} {v0 v1 : Value} (h : Box2 w g v0 v1) (o : Obj) : Box2 (w.alloc o) g v0 v1 :=
  h.below ((Below.refl (g + 1) w).alloc h.lt o) (by omega)
theorem Box2.drew {g : Nat} {w : World} {v0 v1 : Value} (h : Box2 w g v0 v1) : Box2 w.drew g v0 v1 := h.below ((Below.refl (g + 1) w).drew) (by omega)
theorem Box2.set0 {g : Nat} {w : World} {v0 v1 : Value} (h : Box2 w g v0 v1) (u : Value) : Box2 (w.setCell ⟨g, 0, none⟩ u) g u v1 :=
  ⟨World.cell?_setCell_same _ _ _ h.c0, (World.cell?_setCell_other w _ _ u (fun e => by injection e with e1 e2; exact absurd e2 (by decide))).trans h.c1, fun i => by simp [h.f]⟩
theorem Box2.set1 {g : Nat} {w : World} {v0 v1 : Value} (h : Box2 w g v0 v1) (u : Value) : Box2 (w.setCell ⟨g, 1, none⟩ u) g v0 u :=
  ⟨(World.cell?_setCell_other w _ _ u (fun e => by injection e with e1 e2; exact absurd e2 (by decide))).trans h.c0, World.cell?_setCell_same _ _ _ h.c1, fun i => by simp [h.f]⟩

/-- Box g holds the bytes s, and is bad or not. -/
abbrev IsBox (w : World) (g : Nat) (s : ByteArray) (bad : Bool) : Prop := Box2 w g (.string s) (.bool bad)

def numR (s : ByteArray) (bad : Bool) : Int := if bad then 0 else (rdB s).1
def numS (s : ByteArray) (bad : Bool) : ByteArray := if bad then s else s.extract (rdB s).2 s.size
def numBad (s : ByteArray) (bad : Bool) : Bool := if bad then true else (((rdB s).2 : Int) == 0)

theorem rdB_le (s : ByteArray) : (rdB s).2 ≤ s.size := by
  unfold rdB
  split
  · exact Nat.sub_le _ _
  · exact Nat.zero_le _
theorem rdB_range (s : ByteArray) : -9223372036854775808 ≤ (rdB s).1 ∧ (rdB s).1 ≤ 9223372036854775807 := by
  unfold rdB
  split
  · rename_i u r h
    exact unzig_range u (rdN_some h).2
  · exact ⟨by decide, by decide⟩
theorem numS_size (s : ByteArray) (bad : Bool) : (numS s bad).size ≤ s.size := by
  unfold numS
  split
  · exact Nat.le_refl _
  · rw [ByteArray.size_extract]; omega
theorem numR_range (s : ByteArray) (bad : Bool) : -9223372036854775808 ≤ numR s bad ∧ numR s bad ≤ 9223372036854775807 := by
  unfold numR
  split
  · exact ⟨by decide, by decide⟩
  · exact rdB_range s

def btwBad (s : ByteArray) (bad : Bool) (lo hi : Int) : Bool := numBad s bad || decide (numR s bad < lo) || decide (hi < numR s bad)
def btwR (s : ByteArray) (bad : Bool) (lo hi : Int) : Int := if btwBad s bad lo hi then 0 else numR s bad
theorem btwR_range (s : ByteArray) (bad : Bool) (lo hi : Int) : -9223372036854775808 ≤ btwR s bad lo hi ∧ btwR s bad lo hi ≤ 9223372036854775807 := by
  unfold btwR
  split
  · exact ⟨by decide, by decide⟩
  · exact numR_range s bad

def doneB (s : ByteArray) (bad : Bool) : Bool := if bad then false else s.toList.isEmpty
end Go.Proofs.Ytjjedadhkdpceaa.Pac
