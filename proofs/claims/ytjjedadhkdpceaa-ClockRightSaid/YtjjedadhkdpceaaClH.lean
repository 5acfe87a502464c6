/- Pages at hand: one is put: the document's, walked. -/
import Derived.Test.YtjjedadhkdpceaaClG
import Derived.Deep.CutRange
namespace Go.Proofs.Ytjjedadhkdpceaa.Cl
open Go.RowKit Pac Lex

structure Box4 (w : World) (g : Nat) (v0 v1 v2 v3 : Value) : Prop where
  c0 : w.cell? ⟨g, 0, none⟩ = some v0
  c1 : w.cell? ⟨g, 1, none⟩ = some v1
  c2 : w.cell? ⟨g, 2, none⟩ = some v2
  c3 : w.cell? ⟨g, 3, none⟩ = some v3
  f : ∀ i, w.frozen? ⟨g, i, none⟩ = false
section
variable {w w' : World} {g q B : Nat} {v0 v1 v2 v3 : Value}
theorem Box4.lt (h : Box4 w g v0 v1 v2 v3) : g < w.heap.size := World.block_lt_of_cell? w _ h.c0
theorem Box4.bar (h : Box4 w g v0 v1 v2 v3) (hb : Bar q w w') (hne : g ≠ q) : Box4 w' g v0 v1 v2 v3 :=
  ⟨(hb.cell h.lt hne).trans h.c0, (hb.cell h.lt hne).trans h.c1, (hb.cell h.lt hne).trans h.c2, (hb.cell h.lt hne).trans h.c3, fun i => (hb.frozen h.lt hne).trans (h.f i)⟩
theorem Box4.below (h : Box4 w g v0 v1 v2 v3) (hb : Below B w w') (hB : g < B) : Box4 w' g v0 v1 v2 v3 :=
  ⟨(hb.cell (p := ⟨g, 0, none⟩) hB).trans h.c0, (hb.cell (p := ⟨g, 1, none⟩) hB).trans h.c1, (hb.cell (p := ⟨g, 2, none⟩) hB).trans h.c2, (hb.cell (p := ⟨g, 3, none⟩) hB).trans h.c3, fun i => (hb.frozen (p := ⟨g, i, none⟩) hB).trans (h.f i)⟩
theorem Box4.new (w : World) (v0 v1 v2 v3 : Value) (t : TypeId) : Box4 (w.alloc (.cells #[v0, v1, v2, v3] t)) w.heap.size v0 v1 v2 v3 := by
  constructor <;> simp [go_sem]
end
/-- What holds while a page is put: the pages are in a row of the call's own. -/
structure PutM (w : World) (g n base : Nat) (no : Int) (d : ByteArray) (l : List P) (h g5 c5 : Nat) (W : World) : Prop where
  own : W.ownsRow base 36 4 (.slice (some ⟨g5, 0, none⟩) n c5) n (Li.cellsL cellsP l)
  x : Box2 W g (.slice (some ⟨g5, 0, none⟩) n c5) (.int .i64 h)
  p : Box2 W (g + 1) (.int .i64 no) (.string d)
  y : Box2 W (g + 2) (.slice none 0 0) (.int .i64 0)
  B : Below w.heap.size w W
  bs : base ≤ W.heap.size
section
variable {w W W' : World} {g n base h g5 c5 : Nat} {no : Int} {d : ByteArray} {l : List P}
theorem PutM.below (m : PutM w g n base no d l h g5 c5 W) (hb : Below W.heap.size W W') : PutM w g n base no d l h g5 c5 W' :=
  ⟨Li.own_below m.own hb (Nat.le_refl _), m.x.below hb m.x.lt, m.p.below hb m.p.lt, m.y.below hb m.y.lt, m.B.trans (hb.mono m.B.size), Nat.le_trans m.bs hb.size⟩
theorem PutM.lt (m : PutM w g n base no d l h g5 c5 W) : base ≤ g5 ∧ g5 < W.heap.size := m.own.lt g5 rfl
theorem PutM.has (m : PutM w g n base no d l h g5 c5 W) (hn : l.length = n) : HasP W 0 (some ⟨g5, 0, none⟩) l ∧ n ≤ c5 := by
  obtain ⟨A', c', e, hcc, hl⟩ := Li.list_of_own cellsP_len m.own hn
  injection e with e1 e2 e3
  subst e1 e3
  exact ⟨hl.lower (Nat.zero_le _), hcc⟩
theorem PutM.at (m : PutM w g n base no d l h g5 c5 W) {i : Nat} {p : P} (hp : l[i]? = some p) : W.cell? ⟨g5, i * 4, none⟩ = some (.int .i64 p.no) ∧ W.cell? ⟨g5, i * 4 + 1, none⟩ = some (.string p.data) ∧ W.cell? ⟨g5, i * 4 + 2, none⟩ = some (.bool p.ref) ∧ W.cell? ⟨g5, i * 4 + 3, none⟩ = some (.int .i64 p.pins) := by
  have hlt := (List.getElem?_eq_some_iff.1 hp).1
  have hl := m.own.1
  rw [Li.cellsL_len cellsP_len] at hl
  have key : ∀ t (ht : t < 4) v, (cellsP p)[t]? = some v → W.cell? ⟨g5, i * 4 + t, none⟩ = some v := fun t ht v hv => by
    have h1 := m.own.cellAt (i * 4 + t) (by omega)
    rw [Li.cellsL_at cellsP_len l i p hp t v hv] at h1
    exact h1
  exact ⟨key 0 (by decide) _ rfl, key 1 (by decide) _ rfl, key 2 (by decide) _ rfl, key 3 (by decide) _ rfl⟩
end
theorem modify_two {α : Type} (l : List α) (i : Nat) (f f' : α → α) : (l.modify i f).modify i f' = l.modify i (fun x => f' (f x)) := by
  apply List.ext_getElem?
  intro j
  rw [List.getElem?_modify, List.getElem?_modify, List.getElem?_modify]
  by_cases e : i = j
  · subst e; cases l[i]? <;> simp
  · simp [e]
theorem modify_set {α : Type} {l : List α} {i : Nat} {x : α} {f : α → α} (h : l[i]? = some x) : l.modify i f = l.set i (f x) := by
  apply List.ext_getElem?
  intro j
  rw [List.getElem?_modify]
  by_cases e : i = j
  · subst e
    rw [List.getElem?_set_self (List.getElem?_eq_some_iff.1 h).1, h]
    simp
  · rw [List.getElem?_set_ne e]
    simp [e]
def setNo (n : Int) (p : P) : P := { p with no := n }
def setData (d : ByteArray) (p : P) : P := { p with data := d }
def setRef (b : Bool) (p : P) : P := { p with ref := b }
def setPins (k : Int) (p : P) : P := { p with pins := k }
section
variable {W : World} {base g5 n c5 i : Nat} {l : List P} {p : P}
/-- Three cells of a page are stored. -/
theorem own_over (hown : W.ownsRow base 36 4 (.slice (some ⟨g5, 0, none⟩) n c5) n (Li.cellsL cellsP l)) (hp : l[i]? = some p) (no : Int) (d : ByteArray) :
    (((W.setCell ⟨g5, i * 4, none⟩ (.int .i64 no)).setCell ⟨g5, i * 4 + 1, none⟩ (.string d)).setCell ⟨g5, i * 4 + 2, none⟩ (.bool true)).ownsRow base 36 4 (.slice (some ⟨g5, 0, none⟩) n c5) n (Li.cellsL cellsP (l.modify i (over no d))) := by
  have h1 := (hown.stored (i * 4) (.int .i64 no)).1
  rw [show i * 4 = i * 4 + 0 from rfl, cells_modify (f := setNo no) cellsP_len (by decide) hp rfl] at h1
  have hp1 : (l.modify i (setNo no))[i]? = some (setNo no p) := by rw [List.getElem?_modify]; simp [hp]
  have h2 := (h1.stored (i * 4 + 1) (.string d)).1
  rw [cells_modify (f := setData d) cellsP_len (by decide) hp1 rfl] at h2
  have hp2 : ((l.modify i (setNo no)).modify i (setData d))[i]? = some (setData d (setNo no p)) := by rw [List.getElem?_modify]; simp [hp1]
  have h3 := (h2.stored (i * 4 + 2) (.bool true)).1
  rw [cells_modify (f := setRef true) cellsP_len (by decide) hp2 rfl, modify_two, modify_two] at h3
  exact h3
/-- All four. -/
theorem own_whole (hown : W.ownsRow base 36 4 (.slice (some ⟨g5, 0, none⟩) n c5) n (Li.cellsL cellsP l)) (hp : l[i]? = some p) (x : P) :
    ((((W.setCell ⟨g5, i * 4, none⟩ (.int .i64 x.no)).setCell ⟨g5, i * 4 + 1, none⟩ (.string x.data)).setCell ⟨g5, i * 4 + 2, none⟩ (.bool x.ref)).setCell ⟨g5, i * 4 + 3, none⟩ (.int .i64 x.pins)).ownsRow base 36 4 (.slice (some ⟨g5, 0, none⟩) n c5) n (Li.cellsL cellsP (l.set i x)) := by
  have h1 := (hown.stored (i * 4) (.int .i64 x.no)).1
  rw [show i * 4 = i * 4 + 0 from rfl, cells_modify (f := setNo x.no) cellsP_len (by decide) hp rfl] at h1
  have hp1 : (l.modify i (setNo x.no))[i]? = some (setNo x.no p) := by rw [List.getElem?_modify]; simp [hp]
  have h2 := (h1.stored (i * 4 + 1) (.string x.data)).1
  rw [cells_modify (f := setData x.data) cellsP_len (by decide) hp1 rfl] at h2
  have hp2 : ((l.modify i (setNo x.no)).modify i (setData x.data))[i]? = some (setData x.data (setNo x.no p)) := by rw [List.getElem?_modify]; simp [hp1]
  have h3 := (h2.stored (i * 4 + 2) (.bool x.ref)).1
  rw [cells_modify (f := setRef x.ref) cellsP_len (by decide) hp2 rfl] at h3
  have hp3 : (((l.modify i (setNo x.no)).modify i (setData x.data)).modify i (setRef x.ref))[i]? = some (setRef x.ref (setData x.data (setNo x.no p))) := by rw [List.getElem?_modify]; simp [hp2]
  have h4 := (h3.stored (i * 4 + 3) (.int .i64 x.pins)).1
  rw [cells_modify (f := setPins x.pins) cellsP_len (by decide) hp3 rfl, modify_two, modify_two, modify_two, modify_set hp] at h4
  exact h4
end
theorem spin_pass {x : P} {n : Nat} {l : List P} {h : Nat} {p : P} (hp : l[h]? = some p) (h0 : 0 < p.pins) : spinL x (n + 1) l h = spinL x n l ((h + 1) % l.length) := by
  show (match l[h]? with | none => (l, h) | some p => _) = _
  rw [hp]
  simp only
  rw [if_pos h0]
theorem spin_clear {x : P} {n : Nat} {l : List P} {h : Nat} {p : P} (hp : l[h]? = some p) (h0 : ¬ 0 < p.pins) (h1 : p.ref = true) : spinL x (n + 1) l h = spinL x n (l.set h (setRef false p)) ((h + 1) % l.length) := by
  show (match l[h]? with | none => (l, h) | some p => _) = _
  rw [hp]
  simp only
  rw [if_neg h0, if_pos h1]
  rfl
theorem spin_take {x : P} {n : Nat} {l : List P} {h : Nat} {p : P} (hp : l[h]? = some p) (h0 : ¬ 0 < p.pins) (h1 : p.ref = false) : spinL x (n + 1) l h = (l.set h x, (h + 1) % l.length) := by
  show (match l[h]? with | none => (l, h) | some p => _) = _
  rw [hp]
  simp only
  rw [if_neg h0, if_neg (by rw [h1]; simp)]
section
variable {w W : World} {g n base h h2 g5 c5 i : Nat} {no : Int} {d : ByteArray} {l : List P} {p : P}
theorem PutM.hand (m : PutM w g n base no d l h g5 c5 W) (hg : w.heap.size = g) (hb : g + 3 ≤ base) (h2 : Nat) : PutM w g n base no d l h2 g5 c5 (W.setCell ⟨g, 1, none⟩ (.int .i64 h2)) :=
  have hbar := (Bar.refl g W).setCell 1 (.int .i64 h2)
  ⟨Li.own_bar m.own hbar (by omega), m.x.set1 _, m.p.bar hbar (by omega), m.y.bar hbar (by omega), m.B.trans (hbar.below (B := w.heap.size) (Nat.le_of_eq hg) m.B.size), Nat.le_trans m.bs hbar.size⟩
theorem PutM.noref (m : PutM w g n base no d l h g5 c5 W) (hg : w.heap.size = g) (hb : g + 3 ≤ base) (hp : l[i]? = some p) : PutM w g n base no d (l.set i (setRef false p)) h g5 c5 (W.setCell ⟨g5, i * 4 + 2, none⟩ (.bool false)) := by
  have hbar := (Bar.refl g5 W).setCell (i * 4 + 2) (.bool false)
  have h5 := m.lt
  have h1 := (m.own.stored (i * 4 + 2) (.bool false)).1
  rw [cells_modify (f := setRef false) cellsP_len (by decide) hp rfl, modify_set hp] at h1
  exact ⟨h1, m.x.bar hbar (by omega), m.p.bar hbar (by omega), m.y.bar hbar (by omega), m.B.trans (hbar.below (B := w.heap.size) (by omega) m.B.size), Nat.le_trans m.bs hbar.size⟩
end
section
variable {A : Option Addr} {n cp m : Nat} {w : World}
end
end Go.Proofs.Ytjjedadhkdpceaa.Cl
