/- Columns in memory; what may be, plainly, column by column. -/
import Derived.Test.YtodhhoegdfpakaaScA
import Derived.Test.YtodhhoegdfpakaaPacH
import Derived.Deep.MidRow
namespace Go.Proofs.Ytodhhoegdfpakaa.Sc
open Go.RowKit Pac

theorem bar_alloc {g : Nat} {a w : World} (h : Bar g a w) (o : Obj) : Bar g a (w.alloc o) :=
  h.trans (Bar.of_below g ((Below.refl w.heap.size w).alloc (Nat.le_refl _) o) (Nat.le_refl _))
theorem bar_set {g : Nat} {a w : World} (h : Bar g a w) {p : Addr} (hp : a.heap.size ≤ p.block) (u : Value) : Bar g a (w.setCell p u) :=
  ⟨h.os, h.tape, h.output, by simpa using h.size, fun k hk hne => (Below.heap_setCell w p u k (by omega)).trans (h.block k hk hne)⟩
/-- A variable of three cells. -/
structure Box3 (w : World) (g : Nat) (v0 v1 v2 : Value) : Prop where
  c0 : w.cell? ⟨g, 0, none⟩ = some v0
  c1 : w.cell? ⟨g, 1, none⟩ = some v1
  c2 : w.cell? ⟨g, 2, none⟩ = some v2
  f : ∀ i, w.frozen? ⟨g, i, none⟩ = false
theorem Box3.lt {w : World} {g : Nat} {v0 v1 v2 : Value} (h : Box3 w g v0 v1 v2) : g < w.heap.size := World.block_lt_of_cell? w _ h.c0
theorem Box3.bar {g g' : Nat} {w w' : World} {v0 v1 v2 : Value} (h : Box3 w g v0 v1 v2) (hb : Bar g' w w') (hne : g ≠ g') : Box3 w' g v0 v1 v2 :=
  ⟨(hb.cell h.lt hne).trans h.c0, (hb.cell h.lt hne).trans h.c1, (hb.cell h.lt hne).trans h.c2, fun i => (hb.frozen h.lt hne).trans (h.f i)⟩
theorem Box3.below {g B : Nat} {w w' : World} {v0 v1 v2 : Value} (h : Box3 w g v0 v1 v2) (hb : Below B w w') (hB : g < B) : Box3 w' g v0 v1 v2 :=
  ⟨(hb.cell (p := ⟨g, 0, none⟩) hB).trans h.c0, (hb.cell (p := ⟨g, 1, none⟩) hB).trans h.c1, (hb.cell (p := ⟨g, 2, none⟩) hB).trans h.c2, fun i => (hb.frozen (p := ⟨g, i, none⟩) hB).trans (h.f i)⟩
theorem Box3.new (w : World) (v0 v1 v2 : Value) (t : TypeId) : Box3 (w.alloc (.cells #[v0, v1, v2] t)) w.heap.size v0 v1 v2 := by
  constructor <;> simp [go_sem]
theorem Box3.alloc {g : Nat} {w : World} {v0 v1 v2 : Value} (h : Box3 w g v0 v1 v2) (o : Obj) : Box3 (w.alloc o) g v0 v1 v2 :=
  h.below ((Below.refl (g + 1) w).alloc h.lt o) (by omega)

theorem Box3.drew {g : Nat} {w : World} {v0 v1 v2 : Value} (h : Box3 w g v0 v1 v2) : Box3 w.drew g v0 v1 v2 := h.below ((Below.refl (g + 1) w).drew) (by omega)
theorem Box3.setOther {w : World} {g : Nat} {v0 v1 v2 : Value} (h : Box3 w g v0 v1 v2) {p : Addr} (hp : p.block ≠ g) (u : Value) : Box3 (w.setCell p u) g v0 v1 v2 := by
  have o : ∀ i, (w.setCell p u).cell? ⟨g, i, none⟩ = w.cell? ⟨g, i, none⟩ := fun i => World.cell?_setCell_other w _ _ u (fun e => hp (by rw [e]))
  exact ⟨(o 0).trans h.c0, (o 1).trans h.c1, (o 2).trans h.c2, fun i => by simp [h.f]⟩
theorem Box3.set0 {w : World} {g : Nat} {v0 v1 v2 : Value} (h : Box3 w g v0 v1 v2) (u : Value) : Box3 (w.setCell ⟨g, 0, none⟩ u) g u v1 v2 :=
  ⟨World.cell?_setCell_same _ _ _ h.c0, (World.cell?_setCell_other w _ _ u (fun e => by injection e with e1 e2; exact absurd e2 (by decide))).trans h.c1, (World.cell?_setCell_other w _ _ u (fun e => by injection e with e1 e2; exact absurd e2 (by decide))).trans h.c2, fun i => by simp [h.f]⟩
theorem Box3.set1 {w : World} {g : Nat} {v0 v1 v2 : Value} (h : Box3 w g v0 v1 v2) (u : Value) : Box3 (w.setCell ⟨g, 1, none⟩ u) g v0 u v2 :=
  ⟨(World.cell?_setCell_other w _ _ u (fun e => by injection e with e1 e2; exact absurd e2 (by decide))).trans h.c0, World.cell?_setCell_same _ _ _ h.c1, (World.cell?_setCell_other w _ _ u (fun e => by injection e with e1 e2; exact absurd e2 (by decide))).trans h.c2, fun i => by simp [h.f]⟩
theorem Box3.set2 {w : World} {g : Nat} {v0 v1 v2 : Value} (h : Box3 w g v0 v1 v2) (u : Value) : Box3 (w.setCell ⟨g, 2, none⟩ u) g v0 v1 u :=
  ⟨(World.cell?_setCell_other w _ _ u (fun e => by injection e with e1 e2; exact absurd e2 (by decide))).trans h.c0, (World.cell?_setCell_other w _ _ u (fun e => by injection e with e1 e2; exact absurd e2 (by decide))).trans h.c1, World.cell?_setCell_same _ _ _ h.c2, fun i => by simp [h.f]⟩
theorem box2_setOther {w : World} {g : Nat} {v0 v1 : Value} (h : Box2 w g v0 v1) {p : Addr} (hp : p.block ≠ g) (u : Value) : Box2 (w.setCell p u) g v0 v1 := by
  have o : ∀ i, (w.setCell p u).cell? ⟨g, i, none⟩ = w.cell? ⟨g, i, none⟩ := fun i => World.cell?_setCell_other w _ _ u (fun e => hp (by rw [e]))
  exact ⟨(o 0).trans h.c0, (o 1).trans h.c1, fun i => by simp [h.f]⟩

theorem results_col {fn : Func} {p : Tmp} (h : fn.results = #[.cell p 32]) (tmps : Array Value) (w : World) (g : Nat) (v0 v1 v2 : Value)
    (hp : tmps.getD p undef = .pointer (some ⟨g, 0, none⟩)) (c0 : w.cell? ⟨g, 0, none⟩ = some v0) (c1 : w.cell? ⟨g, 1, none⟩ = some v1) (c2 : w.cell? ⟨g, 2, none⟩ = some v2) :
    (results fn tmps).run Try.prog w = .ok (.agg #[v0, v1, v2]) w := by
  have hp' : tmps[p]?.getD undef = .pointer (some ⟨g, 0, none⟩) := by simpa using hp
  clear hp
  simp only [results, h]
  go_simp

theorem results_sch {fn : Func} {p : Tmp} (h : fn.results = #[.cell p 24]) (tmps : Array Value) (w : World) (g : Nat) (v0 v1 : Value)
    (hp : tmps.getD p undef = .pointer (some ⟨g, 0, none⟩)) (c0 : w.cell? ⟨g, 0, none⟩ = some v0) (c1 : w.cell? ⟨g, 1, none⟩ = some v1) :
    (results fn tmps).run Try.prog w = .ok (.agg #[v0, v1]) w := by
  have hp' : tmps[p]?.getD undef = .pointer (some ⟨g, 0, none⟩) := by simpa using hp
  clear hp
  simp only [results, h]
  go_simp

/-- A column as a value. -/
def C.v (c : C) : Value := .agg #[.string c.n, .int .i64 c.k, .bool c.z]
structure C.Ok (c : C) : Prop where
  k0 : -9223372036854775808 ≤ c.k
  k1 : c.k ≤ 9223372036854775807
  nz : c.n.size ≤ 9223372036854775807

/-- The slice at A holds these columns, in memory from lo on. -/
def HasCols (w : World) (lo : Nat) (A : Option Addr) (l : List C) : Prop :=
  l ≠ [] → ∃ b o, A = some ⟨b, o, none⟩ ∧ lo ≤ b ∧ b < w.heap.size ∧ ∀ j c, l[j]? = some c →
    w.cell? ⟨b, o + j * 3, none⟩ = some (.string c.n) ∧ w.cell? ⟨b, o + j * 3 + 1, none⟩ = some (.int .i64 c.k) ∧ w.cell? ⟨b, o + j * 3 + 2, none⟩ = some (.bool c.z)
theorem HasCols.below {w w' : World} {lo B : Nat} {A : Option Addr} {l : List C} (h : HasCols w lo A l) (hb : Below B w w') (hB : w.heap.size ≤ B) : HasCols w' lo A l := by
  intro hl
  obtain ⟨b, o, hA, hlo, hlt, hc⟩ := h hl
  have hbB : b < B := Nat.lt_of_lt_of_le hlt hB
  have e : ∀ i, w'.cell? ⟨b, i, none⟩ = w.cell? ⟨b, i, none⟩ := fun i => hb.cell (p := ⟨b, i, none⟩) hbB
  exact ⟨b, o, hA, hlo, Nat.lt_of_lt_of_le hlt hb.size, fun j c hj => by simp only [e]; exact hc j c hj⟩
theorem HasCols.bar {w w' : World} {lo g : Nat} {A : Option Addr} {l : List C} (h : HasCols w lo A l) (hb : Bar g w w') (hg : g < lo ∨ w.heap.size ≤ g) : HasCols w' lo A l := by
  intro hl
  obtain ⟨b, o, hA, hlo, hlt, hc⟩ := h hl
  have e : ∀ i, w'.cell? ⟨b, i, none⟩ = w.cell? ⟨b, i, none⟩ := fun i => hb.cell (p := ⟨b, i, none⟩) hlt (by show b ≠ g; omega)
  exact ⟨b, o, hA, hlo, Nat.lt_of_lt_of_le hlt hb.size, fun j c hj => by simp only [e]; exact hc j c hj⟩
theorem HasCols.lower {w : World} {lo lo' : Nat} {A : Option Addr} {l : List C} (h : HasCols w lo A l) (hl : lo' ≤ lo) : HasCols w lo' A l := by
  intro hn
  obtain ⟨b, o, hA, hlo, r⟩ := h hn
  exact ⟨b, o, hA, Nat.le_trans hl hlo, r⟩
theorem HasCols.take {w : World} {lo : Nat} {A : Option Addr} {l : List C} (h : HasCols w lo A l) (q : Nat) : HasCols w lo A (l.take q) := by
  intro hn
  have hl : l ≠ [] := fun e => hn (by rw [e]; simp)
  obtain ⟨b, o, hA, hlo, hlt, hc⟩ := h hl
  refine ⟨b, o, hA, hlo, hlt, fun j c hj => hc j c ?_⟩
  rw [List.getElem?_take] at hj
  split at hj
  · exact hj
  · cases hj
theorem HasCols.nil (w : World) (lo : Nat) (A : Option Addr) : HasCols w lo A [] := fun h => absurd rfl h

/-- A schema as a value. -/
def IsSch (w : World) (lo : Nat) (v : Value) (nm : ByteArray) (l : List C) : Prop :=
  ∃ A c, v = .agg #[.string nm, .slice A l.length c] ∧ l.length ≤ c ∧ HasCols w lo A l
theorem IsSch.below {w w' : World} {lo B : Nat} {v : Value} {nm : ByteArray} {l : List C} (h : IsSch w lo v nm l) (hb : Below B w w') (hB : w.heap.size ≤ B) : IsSch w' lo v nm l := by
  obtain ⟨A, c, e, hc, hl⟩ := h
  exact ⟨A, c, e, hc, hl.below hb hB⟩
theorem IsSch.bar {w w' : World} {lo g : Nat} {v : Value} {nm : ByteArray} {l : List C} (h : IsSch w lo v nm l) (hb : Bar g w w') (hg : g < lo ∨ w.heap.size ≤ g) : IsSch w' lo v nm l := by
  obtain ⟨A, c, e, hc, hl⟩ := h
  exact ⟨A, c, e, hc, hl.bar hb hg⟩
theorem IsSch.lower {w : World} {lo lo' : Nat} {v : Value} {nm : ByteArray} {l : List C} (h : IsSch w lo v nm l) (hl : lo' ≤ lo) : IsSch w lo' v nm l := by
  obtain ⟨A, c, e, hc, hk⟩ := h
  exact ⟨A, c, e, hc, hk.lower hl⟩

/-- Is this one of the names? -/
def nameIn (l : List C) (s : ByteArray) : Bool := (l.map (fun c => c.n.data.toList)).contains s.data.toList
def keyB (c : C) : Bool := !c.z && (c.k != 2)
def plainB (c : C) : Bool := wordB c.n && decide (1 ≤ c.k) && decide (c.k ≤ 3)
theorem nameIn_succ {l : List C} {q : Nat} {c : C} (h : l[q]? = some c) (s : ByteArray) : nameIn (l.take (q + 1)) s = (nameIn (l.take q) s || (c.n.toList == s.toList)) := by
  unfold nameIn
  rw [List.take_add_one, h]
  simp only [Option.toList_some, List.map_append, List.map_cons, List.map_nil, ByteArray.toList_eq]
  rw [Bool.eq_iff_iff, Bool.or_eq_true, List.contains_iff_mem, List.mem_append, List.contains_iff_mem, List.mem_singleton, beq_iff_eq]
  exact or_congr Iff.rfl eq_comm
theorem nameIn_take {l : List C} {q : Nat} {s : ByteArray} (h : nameIn (l.take q) s = true) : nameIn l s = true := by
  unfold nameIn at h ⊢
  simp only [List.contains_iff_mem, List.mem_map] at h ⊢
  obtain ⟨c, hc, e⟩ := h
  exact ⟨c, List.mem_of_mem_take hc, e⟩
theorem nameIn_all {l : List C} {s : ByteArray} : nameIn (l.take l.length) s = nameIn l s := by rw [List.take_length]

theorem colsB_iff : ∀ (l : List C) (i : Nat) (before : List (List UInt8)), colsB i before l = true ↔ ∀ j c, l[j]? = some c → colB (i + j) c = true ∧ (before ++ (l.take j).map (fun c => c.n.data.toList)).contains c.n.data.toList = false
  | [], i, before => by simp [colsB]
  | c :: l, i, before => by
    simp only [colsB, Bool.and_eq_true, colsB_iff l (i + 1) (before ++ [c.n.data.toList]), Bool.not_eq_true']
    constructor
    · rintro ⟨⟨h1, h2⟩, h3⟩ j d hj
      cases j with
      | zero =>
        simp only [List.getElem?_cons_zero, Option.some.injEq] at hj
        subst hj
        exact ⟨by simpa using h1, by simpa using h2⟩
      | succ j =>
        simp only [List.getElem?_cons_succ] at hj
        obtain ⟨a, b⟩ := h3 j d hj
        exact ⟨by rw [show i + (j + 1) = i + 1 + j by omega]; exact a, by simpa [List.append_assoc] using b⟩
    · intro h
      obtain ⟨a, b⟩ := h 0 c rfl
      refine ⟨⟨by simpa using a, by simpa using b⟩, fun j d hj => ?_⟩
      obtain ⟨a, b⟩ := h (j + 1) d (by simpa using hj)
      exact ⟨by rw [show i + 1 + j = i + (j + 1) by omega]; exact a, by simpa [List.append_assoc] using b⟩
/-- One column, as it stands. -/
def oneB (l : List C) (j : Nat) (c : C) : Prop := colB j c = true ∧ nameIn (l.take j) c.n = false
theorem colsB_all (l : List C) : colsB 0 [] l = true ↔ ∀ j c, l[j]? = some c → oneB l j c := by
  rw [colsB_iff]
  simp only [Nat.zero_add, List.nil_append]
  rfl
theorem rightS_of {nm : ByteArray} {l : List C} (h1 : wordB nm = true) (h2 : 1 ≤ l.length) (h3 : l.length ≤ 8) (h4 : ∀ j c, l[j]? = some c → oneB l j c) : rightS nm l = true := by
  unfold rightS
  rw [h1, decide_eq_true h2, decide_eq_true h3, (colsB_all l).2 h4]
  rfl
theorem rightS_word {nm : ByteArray} {l : List C} (h : wordB nm = false) : rightS nm l = false := by
  unfold rightS
  rw [h]
  rfl
theorem rightS_few {nm : ByteArray} {l : List C} (h : ¬ 1 ≤ l.length) : rightS nm l = false := by
  unfold rightS
  rw [decide_eq_false h]
  cases wordB nm <;> rfl
theorem rightS_many {nm : ByteArray} {l : List C} (h : ¬ l.length ≤ 8) : rightS nm l = false := by
  unfold rightS
  rw [decide_eq_false h]
  cases wordB nm
  · rfl
  · cases decide (1 ≤ l.length) <;> rfl
theorem rightS_one {nm : ByteArray} {l : List C} {j : Nat} {c : C} (hj : l[j]? = some c) (h : ¬ oneB l j c) : rightS nm l = false := by
  cases hr : rightS nm l with
  | false => rfl
  | true =>
    exfalso
    unfold rightS at hr
    simp only [Bool.and_eq_true] at hr
    exact h ((colsB_all l).1 hr.2.2.2 j c hj)
theorem colB_zero (c : C) : colB 0 c = (plainB c && keyB c) := by
  unfold colB plainB keyB
  obtain ⟨n, k, z⟩ := c
  simp only
  cases wordB n <;> cases z <;> cases decide (1 ≤ k) <;> cases decide (k ≤ 3) <;> simp [bne]
theorem colB_succ {j : Nat} (c : C) (h : 0 < j) : colB j c = plainB c := by
  unfold colB plainB
  obtain ⟨n, k, z⟩ := c
  have e : (j == 0) = false := beq_eq_false_iff_ne.2 (by omega)
  simp only [e]
  cases wordB n <;> cases decide (1 ≤ k) <;> cases decide (k ≤ 3) <;> rfl
end Go.Proofs.Ytodhhoegdfpakaa.Sc
