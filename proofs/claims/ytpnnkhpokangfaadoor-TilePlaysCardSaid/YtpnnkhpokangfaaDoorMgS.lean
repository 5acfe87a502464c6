/- Texts ScA, ScB, ScC, ScD, ScE, ScT, one behind the other. -/
import Derived.Test.YtpnnkhpokangfaaDoorMgP
import Derived.Deep.MidRow
import Derived.ProofKit
import Derived.OpenShut
import Derived.Carry
import Derived.Deep.Slices
import Derived.Deep.Fields
/- Schemas, plainly: printed, read, there and back. No program. -/
namespace Go.Proofs.YtpnnkhpokangfaaDoor.Sc
open Go.RowKit Pac

/-- A column: its name, its kind, whether it may be nothing. -/
structure C where
 n : ByteArray
 k : Int
 z : Bool
def colNum (c : C) : Int := if c.z then 2 * c.k + 1 else 2 * c.k
def wordB (s : ByteArray) : Bool := s.data.toList.all (fun b => decide (97 ≤ b.toNat) && decide (b.toNat ≤ 122)) && (decide (1 ≤ s.size) && decide (s.size ≤ 20))
/-- May column number i be? -/
def colB (i : Nat) (c : C) : Bool := wordB c.n && (decide (1 ≤ c.k) && (decide (c.k ≤ 3) && !(i == 0 && (c.z || c.k == 2))))
/-- May these stand behind i columns of the names 'before'? -/
def colsB : Nat → List (List UInt8) → List C → Bool
 | _, _, [] => true
 | i, before, c :: l => (colB i c && !before.contains c.n.data.toList) && colsB (i + 1) (before ++ [c.n.data.toList]) l
def rightS (name : ByteArray) (cs : List C) : Bool := wordB name && (decide (1 ≤ cs.length) && (decide (cs.length ≤ 8) && colsB 0 [] cs))
def printC (c : C) : ByteArray := txtB c.n ++ encB (zig (colNum c))
def catC : List C → ByteArray
 | [] => ⟨#[]⟩
 | c :: l => printC c ++ catC l
def printS (name : ByteArray) (cs : List C) : ByteArray := txtB name ++ (encB (zig (cs.length : Int)) ++ catC cs)
/-- One column is read. -/
def readC (s : ByteArray) : C × ByteArray × Bool :=
 (⟨txtR s false 20, (btwR (txtS s false 20) (txtBad s false 20) 0 7).tdiv 2, (btwR (txtS s false 20) (txtBad s false 20) 0 7).tmod 2 == 1⟩, numS (txtS s false 20) (txtBad s false 20), btwBad (txtS s false 20) (txtBad s false 20) 0 7)
def readCs : Nat → ByteArray → Bool → List C × ByteArray × Bool
 | 0, s, d => ([], s, d)
 | m + 1, s, d => if d = true then ([], s, d) else ((readC s).1 :: (readCs m (readC s).2.1 (readC s).2.2).1, (readCs m (readC s).2.1 (readC s).2.2).2)
/-- All is read, but not yet judged. -/
def seenS (s : ByteArray) (bad : Bool) : ByteArray × List C × ByteArray × Bool :=
 (txtR s bad 20, readCs (btwR (txtS s bad 20) (txtBad s bad 20) 1 8).toNat (numS (txtS s bad 20) (txtBad s bad 20)) (btwBad (txtS s bad 20) (txtBad s bad 20) 1 8))
def readS (s : ByteArray) (bad : Bool) : ByteArray × List C × ByteArray × Bool :=
 if ((seenS s bad).2.2.2 || !rightS (seenS s bad).1 (seenS s bad).2.1) = true then (⟨#[]⟩, [], (seenS s bad).2.2.1, true) else seenS s bad

theorem word_size {s : ByteArray} (h : wordB s = true) : 1 ≤ s.size ∧ s.size ≤ 20 := by
 unfold wordB at h
 simp only [Bool.and_eq_true, decide_eq_true_eq] at h
 exact h.2
theorem col_parts {i : Nat} {c : C} (h : colB i c = true) : wordB c.n = true ∧ 1 ≤ c.k ∧ c.k ≤ 3 := by
 unfold colB at h
 simp only [Bool.and_eq_true, decide_eq_true_eq] at h
 exact ⟨h.1, h.2.1, h.2.2.1⟩
theorem colNum_back (c : C) (h0 : 1 ≤ c.k) (h1 : c.k ≤ 3) : (colNum c).tdiv 2 = c.k ∧ ((colNum c).tmod 2 == 1) = c.z ∧ 0 ≤ colNum c ∧ colNum c ≤ 7 := by
 obtain ⟨n, k, z⟩ := c
 unfold colNum
 simp only at h0 h1 ⊢
 cases z
 ·simp only [Bool.false_eq_true, if_false]
  rw [Int.tdiv_eq_ediv_of_nonneg (by omega), Int.tmod_eq_emod_of_nonneg (by omega)]
  refine ⟨by omega, ?_, by omega, by omega⟩
  exact beq_eq_false_iff_ne.2 (by omega)
 ·simp only [if_true]
  rw [Int.tdiv_eq_ediv_of_nonneg (by omega), Int.tmod_eq_emod_of_nonneg (by omega)]
  refine ⟨by omega, ?_, by omega, by omega⟩
  exact beq_iff_eq.2 (by omega)
theorem readC_print (c : C) (r : ByteArray) (hw : wordB c.n = true) (h0 : 1 ≤ c.k) (h1 : c.k ≤ 3) : readC (printC c ++ r) = (c, r, false) := by
 have hs := word_size hw
 obtain ⟨b1, b2, b3, b4⟩ := colNum_back c h0 h1
 obtain ⟨e1, e2, e3⟩ := text_enc c.n (encB (zig (colNum c)) ++ r) 20 (by omega) (by omega)
 obtain ⟨f1, f2, f3⟩ := btw_enc (colNum c) 0 7 r (by omega) (by omega) b3 b4
 unfold readC printC
 rw [app_assoc, e1, e2, e3, f1, f2, f3, b1, b2]
theorem readCs_print : ∀ (cs : List C) (i : Nat) (before : List (List UInt8)) (r : ByteArray), colsB i before cs = true → readCs cs.length (catC cs ++ r) false = (cs, r, false)
 | [], _, _, r, _ => by
  have : (⟨#[]⟩ ++ r : ByteArray) = r := bytesEq' (by rw [app_list]; rfl)
  show ([], (⟨#[]⟩ ++ r : ByteArray), false) = _
  rw [this]
 | c :: l, i, before, r, h => by
  simp only [colsB, Bool.and_eq_true] at h
  obtain ⟨hw, h0, h1⟩ := col_parts h.1.1
  have ih := readCs_print l (i + 1) _ r h.2
  show (if false = true then _ else _) = _
  rw [if_neg (by simp)]
  simp only [catC, app_assoc, readC_print c (catC l ++ r) hw h0 h1, ih]
theorem back (name : ByteArray) (cs : List C) (m : ByteArray) (h : rightS name cs = true) : readS (printS name cs ++ m) false = (name, cs, m, false) := by
 have h' := h
 unfold rightS at h
 simp only [Bool.and_eq_true, decide_eq_true_eq] at h
 obtain ⟨hw, h0, h1, hc⟩ := h
 have hs := word_size hw
 obtain ⟨e1, e2, e3⟩ := text_enc name (encB (zig (cs.length : Int)) ++ (catC cs ++ m)) 20 (by omega) (by omega)
 obtain ⟨f1, f2, f3⟩ := btw_enc (cs.length : Int) 1 8 (catC cs ++ m) (by omega) (by omega) (by omega) (by omega)
 have hS : seenS (printS name cs ++ m) false = (name, cs, m, false) := by
  unfold seenS printS
  rw [app_assoc, app_assoc, e1, e2, e3, f1, f2, f3, Int.toNat_natCast, readCs_print cs 0 [] m hc]
 unfold readS
 rw [hS, if_neg (by simp [h'])]

theorem print_inj {n1 n2 : ByteArray} {c1 c2 : List C} (h1 : rightS n1 c1 = true) (h2 : rightS n2 c2 = true) (e : printS n1 c1 = printS n2 c2) : n1 = n2 ∧ c1 = c2 := by
 have a := back n1 c1 ⟨#[]⟩ h1
 rw [e, back n2 c2 ⟨#[]⟩ h2] at a
 injection a with a1 a2
 injection a2 with a2 a3
 exact ⟨a1.symm, a2.symm⟩
end Go.Proofs.YtpnnkhpokangfaaDoor.Sc

/- Columns in memory; what may be, plainly, column by column. -/
namespace Go.Proofs.YtpnnkhpokangfaaDoor.Sc
open Go.RowKit Pac

theorem bar_alloc {g : Nat} {a w : World} (h : Bar g a w) (o : Obj) : Bar g a (w.alloc o) :=
 h.trans (Bar.of_below g ((Below.refl w.heap.size w).alloc (Nat.le_refl _) o) (Nat.le_refl _))
/-- A variable of three cells. -/
structure Box3 (w : World) (g : Nat) (v0 v1 v2 : Value) : Prop where
 c0 : w.cell? ⟨g, 0, none⟩ = some v0
 c1 : w.cell? ⟨g, 1, none⟩ = some v1
 c2 : w.cell? ⟨g, 2, none⟩ = some v2
 f : ∀ i, w.frozen? ⟨g, i, none⟩ = false
theorem Box3.lt {w : World} {g : Nat} {v0 v1 v2 : Value} (h : Box3 w g v0 v1 v2) : g < w.heap.size := World.block_lt_of_cell? w _ h.c0
theorem Box3.bar {g g' : Nat} {w w' : World} {v0 v1 v2 : Value} (h : Box3 w g v0 v1 v2) (hb : Bar g' w w') (hne : g ≠ g') : Box3 w' g v0 v1 v2 :=
 ⟨(hb.cell h.lt hne).trans h.c0, (hb.cell h.lt hne).trans h.c1, (hb.cell h.lt hne).trans h.c2, fun i => (hb.frozen h.lt hne).trans (h.f i)⟩
theorem Box3.below {g B : Nat} {w w' : World} {v0 v1 v2 : Value} (h : Box3 w g v0 v1 v2) (hb : Below B w w') (hB : g < B) : Box3 w' g v0 v1 v2 :=
 ⟨(hb.cell (p := ⟨g, 0, none⟩) hB).trans h.c0, (hb.cell (p := ⟨g, 1, none⟩) hB).trans h.c1, (hb.cell (p := ⟨g, 2, none⟩) hB).trans h.c2, fun i => (hb.frozen (p := ⟨g, i, none⟩) hB).trans (h.f i)⟩
theorem Box3.new (w : World) (v0 v1 v2 : Value) (t : TypeId) : Box3 (w.alloc (.cells #[v0, v1, v2] t)) w.heap.size v0 v1 v2 := by
 constructor <;> simp [go_sem]
theorem Box3.alloc {g : Nat} {w : World} {v0 v1 v2 : Value} (h : Box3 w g v0 v1 v2) (o : Obj) : Box3 (w.alloc o) g v0 v1 v2 :=
 h.below ((Below.refl (g + 1) w).alloc h.lt o) (by omega)

theorem Box3.drew {g : Nat} {w : World} {v0 v1 v2 : Value} (h : Box3 w g v0 v1 v2) : Box3 w.drew g v0 v1 v2 := h.below ((Below.refl (g + 1) w).drew) (by omega)
theorem Box3.setOther {w : World} {g : Nat} {v0 v1 v2 : Value} (h : Box3 w g v0 v1 v2) {p : Addr} (hp : p.block ≠ g) (u : Value) : Box3 (w.setCell p u) g v0 v1 v2 := by
 have o : ∀ i, (w.setCell p u).cell? ⟨g, i, none⟩ = w.cell? ⟨g, i, none⟩ := fun i => World.cell?_setCell_other w _ _ u (fun e => hp (by rw [e]))
 exact ⟨(o 0).trans h.c0, (o 1).trans h.c1, (o 2).trans h.c2, fun i => by simp [h.f]⟩
theorem Box3.set0 {w : World} {g : Nat} {v0 v1 v2 : Value} (h : Box3 w g v0 v1 v2) (u : Value) : Box3 (w.setCell ⟨g, 0, none⟩ u) g u v1 v2 :=
 ⟨World.cell?_setCell_same _ _ _ h.c0, (World.cell?_setCell_other w _ _ u (fun e => by injection e with e1 e2; exact absurd e2 (by decide))).trans h.c1, (World.cell?_setCell_other w _ _ u (fun e => by injection e with e1 e2; exact absurd e2 (by decide))).trans h.c2, fun i => by simp [h.f]⟩
theorem Box3.set1 {w : World} {g : Nat} {v0 v1 v2 : Value} (h : Box3 w g v0 v1 v2) (u : Value) : Box3 (w.setCell ⟨g, 1, none⟩ u) g v0 u v2 :=
 ⟨(World.cell?_setCell_other w _ _ u (fun e => by injection e with e1 e2; exact absurd e2 (by decide))).trans h.c0, World.cell?_setCell_same _ _ _ h.c1, (World.cell?_setCell_other w _ _ u (fun e => by injection e with e1 e2; exact absurd e2 (by decide))).trans h.c2, fun i => by simp [h.f]⟩
theorem Box3.set2 {w : World} {g : Nat} {v0 v1 v2 : Value} (h : Box3 w g v0 v1 v2) (u : Value) : Box3 (w.setCell ⟨g, 2, none⟩ u) g v0 v1 u :=
 ⟨(World.cell?_setCell_other w _ _ u (fun e => by injection e with e1 e2; exact absurd e2 (by decide))).trans h.c0, (World.cell?_setCell_other w _ _ u (fun e => by injection e with e1 e2; exact absurd e2 (by decide))).trans h.c1, World.cell?_setCell_same _ _ _ h.c2, fun i => by simp [h.f]⟩
theorem box2_setOther {w : World} {g : Nat} {v0 v1 : Value} (h : Box2 w g v0 v1) {p : Addr} (hp : p.block ≠ g) (u : Value) : Box2 (w.setCell p u) g v0 v1 := by
 have o : ∀ i, (w.setCell p u).cell? ⟨g, i, none⟩ = w.cell? ⟨g, i, none⟩ := fun i => World.cell?_setCell_other w _ _ u (fun e => hp (by rw [e]))
 exact ⟨(o 0).trans h.c0, (o 1).trans h.c1, fun i => by simp [h.f]⟩

theorem results_sch {fn : Func} {p : Tmp} (h : fn.results = #[.cell p 24]) (tmps : Array Value) (w : World) (g : Nat) (v0 v1 : Value)
  (hp : tmps.getD p undef = .pointer (some ⟨g, 0, none⟩)) (c0 : w.cell? ⟨g, 0, none⟩ = some v0) (c1 : w.cell? ⟨g, 1, none⟩ = some v1) :
  (results fn tmps).run Tryd.prog w = .ok (.agg #[v0, v1]) w := by
 have hp' : tmps[p]?.getD undef = .pointer (some ⟨g, 0, none⟩) := by simpa using hp
 clear hp
 simp only [results, h]
 go_simp

/-- A column as a value. -/
def C.v (c : C) : Value := .agg #[.string c.n, .int .i64 c.k, .bool c.z]
structure C.Ok (c : C) : Prop where
 k0 : -9223372036854775808 ≤ c.k
 k1 : c.k ≤ 9223372036854775807
 nz : c.n.size ≤ 9223372036854775807

/-- The slice at A holds these columns, in memory from lo on. -/
def HasCols (w : World) (lo : Nat) (A : Option Addr) (l : List C) : Prop :=
 l ≠ [] → ∃ b o, A = some ⟨b, o, none⟩ ∧ lo ≤ b ∧ b < w.heap.size ∧ ∀ j c, l[j]? = some c →
  w.cell? ⟨b, o + j * 3, none⟩ = some (.string c.n) ∧ w.cell? ⟨b, o + j * 3 + 1, none⟩ = some (.int .i64 c.k) ∧ w.cell? ⟨b, o + j * 3 + 2, none⟩ = some (.bool c.z)
theorem HasCols.below {w w' : World} {lo B : Nat} {A : Option Addr} {l : List C} (h : HasCols w lo A l) (hb : Below B w w') (hB : w.heap.size ≤ B) : HasCols w' lo A l := by
 intro hl
 obtain ⟨b, o, hA, hlo, hlt, hc⟩ := h hl
 have hbB : b < B := Nat.lt_of_lt_of_le hlt hB
 have e : ∀ i, w'.cell? ⟨b, i, none⟩ = w.cell? ⟨b, i, none⟩ := fun i => hb.cell (p := ⟨b, i, none⟩) hbB
 exact ⟨b, o, hA, hlo, Nat.lt_of_lt_of_le hlt hb.size, fun j c hj => by simp only [e]; exact hc j c hj⟩
theorem HasCols.bar {w w' : World} {lo g : Nat} {A : Option Addr} {l : List C} (h : HasCols w lo A l) (hb : Bar g w w') (hg : g < lo ∨ w.heap.size ≤ g) : HasCols w' lo A l := by
 intro hl
 obtain ⟨b, o, hA, hlo, hlt, hc⟩ := h hl
 have e : ∀ i, w'.cell? ⟨b, i, none⟩ = w.cell? ⟨b, i, none⟩ := fun i => hb.cell (p := ⟨b, i, none⟩) hlt (by show b ≠ g; omega)
 exact ⟨b, o, hA, hlo, Nat.lt_of_lt_of_le hlt hb.size, fun j c hj => by simp only [e]; exact hc j c hj⟩
theorem HasCols.lower {w : World} {lo lo' : Nat} {A : Option Addr} {l : List C} (h : HasCols w lo A l) (hl : lo' ≤ lo) : HasCols w lo' A l := by
 intro hn
 obtain ⟨b, o, hA, hlo, r⟩ := h hn
 exact ⟨b, o, hA, Nat.le_trans hl hlo, r⟩
theorem HasCols.take {w : World} {lo : Nat} {A : Option Addr} {l : List C} (h : HasCols w lo A l) (q : Nat) : HasCols w lo A (l.take q) := by
 intro hn
 have hl : l ≠ [] := fun e => hn (by rw [e]; simp)
 obtain ⟨b, o, hA, hlo, hlt, hc⟩ := h hl
 refine ⟨b, o, hA, hlo, hlt, fun j c hj => hc j c ?_⟩
 rw [List.getElem?_take] at hj
 split at hj
 ·exact hj
 ·cases hj
theorem HasCols.nil (w : World) (lo : Nat) (A : Option Addr) : HasCols w lo A [] := fun h => absurd rfl h

/-- A schema as a value. -/
def IsSch (w : World) (lo : Nat) (v : Value) (nm : ByteArray) (l : List C) : Prop :=
 ∃ A c, v = .agg #[.string nm, .slice A l.length c] ∧ l.length ≤ c ∧ HasCols w lo A l
theorem IsSch.below {w w' : World} {lo B : Nat} {v : Value} {nm : ByteArray} {l : List C} (h : IsSch w lo v nm l) (hb : Below B w w') (hB : w.heap.size ≤ B) : IsSch w' lo v nm l := by
 obtain ⟨A, c, e, hc, hl⟩ := h
 exact ⟨A, c, e, hc, hl.below hb hB⟩
theorem IsSch.bar {w w' : World} {lo g : Nat} {v : Value} {nm : ByteArray} {l : List C} (h : IsSch w lo v nm l) (hb : Bar g w w') (hg : g < lo ∨ w.heap.size ≤ g) : IsSch w' lo v nm l := by
 obtain ⟨A, c, e, hc, hl⟩ := h
 exact ⟨A, c, e, hc, hl.bar hb hg⟩
theorem IsSch.lower {w : World} {lo lo' : Nat} {v : Value} {nm : ByteArray} {l : List C} (h : IsSch w lo v nm l) (hl : lo' ≤ lo) : IsSch w lo' v nm l := by
 obtain ⟨A, c, e, hc, hk⟩ := h
 exact ⟨A, c, e, hc, hk.lower hl⟩

/-- Is this one of the names? -/
def nameIn (l : List C) (s : ByteArray) : Bool := (l.map (fun c => c.n.data.toList)).contains s.data.toList
theorem nameIn_succ {l : List C} {q : Nat} {c : C} (h : l[q]? = some c) (s : ByteArray) : nameIn (l.take (q + 1)) s = (nameIn (l.take q) s || (c.n.toList == s.toList)) := by
 unfold nameIn
 rw [List.take_add_one, h]
 simp only [Option.toList_some, List.map_append, List.map_cons, List.map_nil, ByteArray.toList_eq]
 rw [Bool.eq_iff_iff, Bool.or_eq_true, List.contains_iff_mem, List.mem_append, List.contains_iff_mem, List.mem_singleton, beq_iff_eq]
 exact or_congr Iff.rfl eq_comm
theorem nameIn_take {l : List C} {q : Nat} {s : ByteArray} (h : nameIn (l.take q) s = true) : nameIn l s = true := by
 unfold nameIn at h ⊢
 simp only [List.contains_iff_mem, List.mem_map] at h ⊢
 obtain ⟨c, hc, e⟩ := h
 exact ⟨c, List.mem_of_mem_take hc, e⟩
theorem colsB_iff : ∀ (l : List C) (i : Nat) (before : List (List UInt8)), colsB i before l = true ↔ ∀ j c, l[j]? = some c → colB (i + j) c = true ∧ (before ++ (l.take j).map (fun c => c.n.data.toList)).contains c.n.data.toList = false
 | [], i, before => by simp [colsB]
 | c :: l, i, before => by
  simp only [colsB, Bool.and_eq_true, colsB_iff l (i + 1) (before ++ [c.n.data.toList]), Bool.not_eq_true']
  constructor
  ·rintro ⟨⟨h1, h2⟩, h3⟩ j d hj
   cases j with
   | zero =>
    simp only [List.getElem?_cons_zero, Option.some.injEq] at hj
    subst hj
    exact ⟨by simpa using h1, by simpa using h2⟩
   | succ j =>
    simp only [List.getElem?_cons_succ] at hj
    obtain ⟨a, b⟩ := h3 j d hj
    exact ⟨by rw [show i + (j + 1) = i + 1 + j by omega]; exact a, by simpa [List.append_assoc] using b⟩
  ·intro h
   obtain ⟨a, b⟩ := h 0 c rfl
   refine ⟨⟨by simpa using a, by simpa using b⟩, fun j d hj => ?_⟩
   obtain ⟨a, b⟩ := h (j + 1) d (by simpa using hj)
   exact ⟨by rw [show i + 1 + j = i + (j + 1) by omega]; exact a, by simpa [List.append_assoc] using b⟩
/-- One column, as it stands. -/
def oneB (l : List C) (j : Nat) (c : C) : Prop := colB j c = true ∧ nameIn (l.take j) c.n = false
theorem colsB_all (l : List C) : colsB 0 [] l = true ↔ ∀ j c, l[j]? = some c → oneB l j c := by
 rw [colsB_iff]
 simp only [Nat.zero_add, List.nil_append]
 rfl
theorem rightS_of {nm : ByteArray} {l : List C} (h1 : wordB nm = true) (h2 : 1 ≤ l.length) (h3 : l.length ≤ 8) (h4 : ∀ j c, l[j]? = some c → oneB l j c) : rightS nm l = true := by
 unfold rightS
 rw [h1, decide_eq_true h2, decide_eq_true h3, (colsB_all l).2 h4]
 rfl
theorem rightS_word {nm : ByteArray} {l : List C} (h : wordB nm = false) : rightS nm l = false := by
 unfold rightS
 rw [h]
 rfl
theorem rightS_few {nm : ByteArray} {l : List C} (h : ¬ 1 ≤ l.length) : rightS nm l = false := by
 unfold rightS
 rw [decide_eq_false h]
 cases wordB nm <;> rfl
theorem rightS_many {nm : ByteArray} {l : List C} (h : ¬ l.length ≤ 8) : rightS nm l = false := by
 unfold rightS
 rw [decide_eq_false h]
 cases wordB nm
 ·rfl
 ·cases decide (1 ≤ l.length) <;> rfl
theorem rightS_one {nm : ByteArray} {l : List C} {j : Nat} {c : C} (hj : l[j]? = some c) (h : ¬ oneB l j c) : rightS nm l = false := by
 cases hr : rightS nm l with
 | false => rfl
 | true =>
  exfalso
  unfold rightS at hr
  simp only [Bool.and_eq_true] at hr
  exact h ((colsB_all l).1 hr.2.2.2 j c hj)
end Go.Proofs.YtpnnkhpokangfaaDoor.Sc

/- Names, and what may be in a column; walked. -/
namespace Go.Proofs.YtpnnkhpokangfaaDoor.Sc
open Go.RowKit Pac

def letB (b : UInt8) : Bool := decide (97 ≤ b.toNat) && decide (b.toNat ≤ 122)
theorem wordB_def (s : ByteArray) : wordB s = (s.data.toList.all letB && (decide (1 ≤ s.size) && decide (s.size ≤ 20))) := rfl
theorem let_succ {s : ByteArray} {q : Nat} (hq : q < s.size) (h : (s.data.toList.take q).all letB = true) (h1 : ¬ s[q].toNat < 97) (h2 : ¬ 122 < s[q].toNat) : (s.data.toList.take (q + 1)).all letB = true := by
 have hkl : s.data.toList.take (q + 1) = s.data.toList.take q ++ [s[q]] := by
  rw [List.take_succ_eq_append_getElem (by simpa using hq)]; rfl
 rw [hkl, List.all_append, h]
 simp only [List.all_cons, List.all_nil, letB, Bool.true_and, Bool.and_true, Bool.and_eq_true, decide_eq_true_eq]
 omega
theorem let_bad {s : ByteArray} {q : Nat} (hq : q < s.size) (h : s[q].toNat < 97 ∨ 122 < s[q].toNat) : wordB s = false := by
 have : s.data.toList.all letB = false := by
  rw [List.all_eq_false]
  refine ⟨s[q], List.getElem_mem (l := s.data.toList) (by simpa using hq), ?_⟩
  simp only [letB, Bool.and_eq_true, decide_eq_true_eq]
  omega
 rw [wordB_def, this]
 rfl
theorem let_all {s : ByteArray} {q : Nat} (hq : q = s.size) (h : (s.data.toList.take q).all letB = true) : wordB s = (decide (1 ≤ s.size) && decide (s.size ≤ 20)) := by
 rw [wordB_def]
 rw [List.take_of_length_le (by rw [Array.length_toList, hq]; exact Nat.le_refl _)] at h
 rw [h]
 rfl
set_option maxHeartbeats 1000000 in
theorem word_any (s : ByteArray) (w : World) (hs : s.size ≤ 9223372036854775807) : Calls Tryd.prog 53 #[.string s] w fun e w' => e = .returned (.bool (wordB s)) ∧ w = w' := by
 obtain ⟨z, hz⟩ : ∃ z, wordB s = z := ⟨_, rfl⟩
 rw [hz]
 have HZ := Lib.hid hz
 clear hz
 go_enter Tryd.func53, Tryd.ntmps53
 go_wp2
 go_loop [3] (fun i => ∃ q : Nat, q ≤ s.size ∧ i = .int .i64 q ∧ Hid ((s.data.toList.take q).all letB = true)) (fun i => s.size - (intOf i).toNat)
 case atStart => exact ⟨0, Nat.zero_le _, rfl, Lib.hid rfl⟩
 case round =>
  obtain ⟨q, hq, rfl, hH⟩ := hrel
  by_cases hlt : q < s.size
  ·by_cases a1 : s[q].toNat < 97
   ·have HB := Lib.hid (let_bad hlt (Or.inl a1))
    go_wp2
    go_ret
    exact ⟨by rw [← HZ.out, HB.out]; rfl, rfl⟩
   ·by_cases a2 : 122 < s[q].toNat
    ·have HB := Lib.hid (let_bad hlt (Or.inr a2))
     go_wp2
     go_ret
     exact ⟨by rw [← HZ.out, HB.out]; rfl, rfl⟩
    ·go_wp2
     go_round
     case rel => exact ⟨q + 1, by omega, by go_num, Lib.hid (let_succ hlt hH.out a1 a2)⟩
     case measure => simp [intOf]; omega
  ·obtain rfl : q = s.size := by omega
   have HF := Lib.hid (let_all rfl hH.out)
   have e20 : decide ((s.size : Int) ≤ 20) = decide (s.size ≤ 20) := decide_eq_decide.2 (by omega)
   by_cases h1 : 1 ≤ s.size
   ·have H20 := Lib.hid e20
    have H1 := Lib.hid (decide_eq_true h1)
    clear e20
    go_wp2
    go_ret
    refine ⟨?_, rfl⟩
    rw [← HZ.out, HF.out, H1.out, ← H20.out]
    rfl
   ·have H1 := Lib.hid (decide_eq_false h1)
    clear e20
    go_wp2
    go_ret
    refine ⟨?_, rfl⟩
    rw [← HZ.out, HF.out, H1.out]
    rfl

end Go.Proofs.YtpnnkhpokangfaaDoor.Sc

/- Whether a schema may be: the program's, walked. -/
namespace Go.Proofs.YtpnnkhpokangfaaDoor.Sc
open Go.RowKit Pac Lex

theorem not_new {l : List C} {j : Nat} {c : C} (h : nameIn (l.take j) c.n = true) : ¬ oneB l j c := by
 rintro ⟨_, h2⟩
 rw [h] at h2
 cases h2
end Go.Proofs.YtpnnkhpokangfaaDoor.Sc

/- Whether a schema may be: the document's, walked. -/
namespace Go.Proofs.YtpnnkhpokangfaaDoor.Sc
open Go.RowKit Pac

theorem not_col {l : List C} {j : Nat} {c : C} (h : colB j c = false) : ¬ oneB l j c := fun h1 => by
 have := h1.1
 rw [h] at this
 cases this
theorem colB_def (j : Nat) (n : ByteArray) (k : Int) (z : Bool) : colB j ⟨n, k, z⟩ = (wordB n && (decide (1 ≤ k) && (decide (k ≤ 3) && !(j == 0 && (z || k == 2))))) := rfl

set_option maxRecDepth 20000 in
set_option maxHeartbeats 4000000 in
theorem refRight_any (A : Option Addr) (cp : Nat) (nm : ByteArray) (l : List C) (lo : Nat) (w : World) (h : HasCols w lo A l) (hcp : l.length ≤ cp) (hn : nm.size ≤ 9223372036854775807) (hl : l.length ≤ 9223372036854775807) (hok : ∀ (j : Nat) (c : C), l[j]? = some c → c.Ok) :
  Calls Tryd.prog 34 #[.agg #[.string nm, .slice A l.length cp]] w fun e w' => e = .returned (.bool (rightS nm l)) ∧ Below w.heap.size w w' := by
 have hcall := fun W : World => word_any nm W hn
 have hF0 : wordB nm = false → rightS nm l = false := rightS_word
 have hF1 := fun h => rightS_few (nm := nm) (l := l) h
 have hF2 := fun h => rightS_many (nm := nm) (l := l) h
 have hF3 := fun j c h1 h2 => rightS_one (nm := nm) (l := l) (j := j) (c := c) h1 h2
 have hT := fun h1 h2 h3 h4 => rightS_of (nm := nm) (l := l) h1 h2 h3 h4
 generalize rightS nm l = z at hF0 hF1 hF2 hF3 hT ⊢
 generalize wordB nm = x at hF0 hT hcall
 obtain ⟨m, hm⟩ : ∃ m, l.length = m := ⟨_, rfl⟩
 rw [hm] at hF1 hF2 hT hl hcp ⊢
 have HA := Lib.hid h
 have HM := Lib.hid hm
 have HF3 := Lib.hid hF3
 have HT := Lib.hid hT
 have HK := Lib.hid hok
 clear h hm hF3 hT hok
 have hB0 := (Below.refl w.heap.size w).alloc (Nat.le_refl _) (.cells #[.string nm, .slice A m cp] 24)
 have hx0 := Box2.new w (.string nm) (.slice A m cp) 24
 have HB0 := Lib.hid hB0
 clear hB0
 go_enter Tryd.func34, Tryd.ntmps34
 go_wp2_with fail
 refine (hcall _).mono ?_
 rintro e w1 ⟨rfl, rfl⟩
 clear hcall
 have c0 := hx0.c0
 have c1 := hx0.c1
 cases x
 ·have HZ := Lib.hid (hF0 rfl)
  clear hF0 hF1 hF2
  go_wp2
  go_ret
  exact ⟨by rw [HZ.out]; rfl, HB0.out⟩
 ·by_cases h1 : 1 ≤ m
  ·by_cases h2 : m ≤ 8
   ·clear hF0 hF1 hF2
    go_wp2
    have h00 : Box2 (w.alloc (.cells #[.string nm, .slice A m cp] 24)) w.heap.size (.string nm) (.slice A m cp) := hx0
    go_loopw [3] (fun i wr => ∃ q : Nat, q ≤ m ∧ i = .int .i64 q ∧ Hid (∀ j, j < q → ∀ c, l[j]? = some c → oneB l j c) ∧ Below w.heap.size w wr ∧ Box2 wr w.heap.size (.string nm) (.slice A m cp)) (fun i _ => m - (intOf i).toNat)
    case atStart => exact ⟨0, Nat.zero_le _, rfl, Lib.hid (fun j hj => absurd hj (Nat.not_lt_zero j)), HB0.out, h00⟩
    case round =>
     obtain ⟨q, hq, rfl, hH, hB, hx⟩ := hrel
     have c0 := hx.c0
     have c1 := hx.c1
     by_cases hlt : q < m
     ·have hne : l ≠ [] := fun e => by have := HM.out; rw [e] at this; simp at this; omega
      have hg : l[q]? = some (l[q]'(by rw [HM.out]; exact hlt)) := List.getElem?_eq_getElem _
      obtain ⟨b, o, rfl, hlo, hlb, hc⟩ := (HA.out.below hB (Nat.le_refl _)) hne
      obtain ⟨d0, d1, d2⟩ := hc q _ hg
      have hok := HK.out q _ hg
      generalize (l[q]'(by rw [HM.out]; exact hlt)) = c at hg d0 d1 d2 hok
      obtain ⟨n, k, zz⟩ := c
      obtain ⟨k0, k1, nz⟩ := hok
      simp only at d0 d1 d2 k0 k1 nz
      have hcall := fun W : World => word_any n W nz
      have HF : Hid (colB q ⟨n, k, zz⟩ = false → z = false) := Lib.hid (fun e => HF3.out q _ hg (not_col e))
      have HN : Hid (nameIn (l.take q) n = true → z = false) := Lib.hid (fun e => HF3.out q _ hg (not_new e))
      have HS : Hid (colB q ⟨n, k, zz⟩ = true → nameIn (l.take q) n = false → ∀ j, j < q + 1 → ∀ c, l[j]? = some c → oneB l j c) := Lib.hid (fun e1 e2 j hj c hc => by
       by_cases hjq : j < q
       ·exact hH.out j hjq c hc
       ·obtain rfl : j = q := by omega
        rw [hg] at hc
        injection hc with hc
        subst hc
        exact ⟨e1, e2⟩)
      have hD := colB_def q n k zz
      generalize colB q ⟨n, k, zz⟩ = cb at hD HF HS
      generalize wordB n = x at hcall hD
      have HD := Lib.hid hD
      clear hD hc hg
      have hxN := hx.alloc (.cells #[.string n, .int .i64 k, .bool zz] 60)
      have hvN := Box3.new wr (.string n) (.int .i64 k) (.bool zz) 60
      have hBN := hB.alloc hB.size (.cells #[.string n, .int .i64 k, .bool zz] 60)
      go_wp2_with fail
      refine (hcall _).mono ?_
      rintro e w5 ⟨rfl, rfl⟩
      clear hcall d0 d1 d2 c0 c1
      generalize wr.alloc (.cells #[.string n, .int .i64 k, .bool zz] 60) = w3 at hxN hvN hBN ⊢
      generalize wr.heap.size = v at hvN ⊢
      have v0 := hvN.c0
      have v1 := hvN.c1
      have v2 := hvN.c2
      have g1 := hxN.c1
      cases x
      ·have HZ : Hid (z = false) := Lib.hid (HF.out (by rw [HD.out]; rfl))
       go_wp2
       go_ret
       exact ⟨by rw [HZ.out]; rfl, hBN⟩
      ·by_cases a1 : 1 ≤ k
       ·by_cases a2 : k ≤ 3
        ·have hgo : (((q : Int) == 0) = true ∧ zz = true ∧ cb = false) ∨ (((q : Int) == 0) = true ∧ zz = false ∧ (k == 2) = true ∧ cb = false) ∨ (((q : Int) == 0) = true ∧ zz = false ∧ (k == 2) = false ∧ cb = true) ∨ (((q : Int) == 0) = false ∧ cb = true) := by
          rw [HD.out, decide_eq_true a1, decide_eq_true a2]
          by_cases q0 : q = 0
          ·subst q0
           cases zz
           ·cases hk2 : k == 2
            ·exact Or.inr (Or.inr (Or.inl ⟨rfl, rfl, rfl, rfl⟩))
            ·exact Or.inr (Or.inl ⟨rfl, rfl, rfl, rfl⟩)
           ·exact Or.inl ⟨rfl, rfl, rfl⟩
          ·have e1 : (q == 0) = false := beq_eq_false_iff_ne.2 q0
           exact Or.inr (Or.inr (Or.inr ⟨beq_eq_false_iff_ne.2 (by omega), by rw [e1]; rfl⟩))
         rcases hgo with ⟨e1, rfl, e3⟩ | ⟨e1, rfl, e2, e3⟩ | hgo
         ·have HZ : Hid (z = false) := Lib.hid (HF.out e3)
          clear e3
          go_wp2
          go_ret
          exact ⟨by rw [HZ.out]; rfl, hBN⟩
         ·have HZ : Hid (z = false) := Lib.hid (HF.out e3)
          clear e3
          go_wp2
          go_ret
          exact ⟨by rw [HZ.out]; rfl, hBN⟩
         ·have HC : Hid (cb = true) := Lib.hid (by rcases hgo with ⟨_, _, _, e⟩ | ⟨_, e⟩ <;> exact e)
          have hgo2 : (((q : Int) == 0) = true ∧ zz = false ∧ (k == 2) = false) ∨ (((q : Int) == 0) = false) := by
           rcases hgo with ⟨e1, e2, e3, _⟩ | ⟨e1, _⟩
           ·exact Or.inl ⟨e1, e2, e3⟩
           ·exact Or.inr e1
          clear hgo
          have HL : Hid (HasCols w lo (some ⟨b, o, none⟩) l) := HA
          rcases hgo2 with ⟨e1, rfl, e2⟩ | e1
          all_goals
           go_wp2
           have hxM := hxN
           have hvM := hvN
           have hBM := hBN
           clear hxN hvN hBN v0 v1 v2 g1
           go_loopw [5] (fun i wz => ∃ j : Nat, j ≤ q ∧ i = .int .i64 j ∧ Hid (nameIn (l.take j) n = false) ∧ Below w.heap.size w wz ∧ Box2 wz w.heap.size (.string nm) (.slice (some ⟨b, o, none⟩) m cp) ∧ (∃ s1 s2, Box3 wz v (.string n) s1 s2)) (fun i _ => q - (intOf i).toNat)
           case atStart => exact ⟨0, Nat.zero_le _, rfl, Lib.hid rfl, hBM, hxM, ⟨_, _, hvM⟩⟩
           case round =>
            obtain ⟨j, hj, rfl, hJ, hBz, hxz, ⟨s1, s2, hvz⟩⟩ := hrel
            have g1 := hxz.c1
            have v0 := hvz.c0
            by_cases hjq : j < q
            ·have hgj : l[j]? = some (l[j]'(by rw [HM.out]; omega)) := List.getElem?_eq_getElem _
             have HJS := Lib.hid (nameIn_succ hgj n)
             obtain ⟨b', o', hbo, hlo', hlb', hcz⟩ := (HL.out.below hBz (Nat.le_refl _)) (fun e => by have := HM.out; rw [e] at this; simp at this; omega)
             injection hbo with hbo
             injection hbo with hb1 hb2
             subst hb1 hb2
             obtain ⟨d0, d1, d2⟩ := hcz j _ hgj
             generalize (l[j]'(by rw [HM.out]; omega)) = c at d0 d1 d2 HJS
             obtain ⟨n2, k2, z2⟩ := c
             simp only at d0 d1 d2 HJS
             have i1 : (j : Int) < (m : Int) := by omega
             have i0 : (0 : Int) ≤ (j : Int) := by omega
             clear hcz hgj d1 d2
             by_cases he : (n2.toList == n.toList) = true
             ·have HZ : Hid (z = false) := Lib.hid (HN.out (by
               have e4 : nameIn ((l.take q).take (j + 1)) n = true := by
                rw [List.take_take, show min (j + 1) q = j + 1 by omega, HJS.out, he]
                exact Bool.or_true _
               exact nameIn_take e4))
              go_wp2
              go_region
              go_wp2
              go_ret
              exact ⟨by rw [HZ.out]; rfl, hBz.drew⟩
             ·have he : (n2.toList == n.toList) = false := by simpa using he
              go_wp2
              go_region
              go_wp2
              go_roundw
              case rel => exact ⟨j + 1, by omega, by go_num, Lib.hid (by rw [HJS.out, hJ.out, he]; rfl), hBz.drew, hxz.drew, ⟨_, _, hvz.drew⟩⟩
              case measure => simp [intOf]; omega
            ·obtain rfl : j = q := by omega
             go_wp2
             go_roundw
             case rel => exact ⟨j + 1, by omega, by go_num, Lib.hid (HS.out HC.out hJ.out), hBz, hxz⟩
             case measure => simp [intOf]; omega
        ·have HZ : Hid (z = false) := Lib.hid (HF.out (by rw [HD.out, decide_eq_true a1, decide_eq_false a2]; rfl))
         go_wp2
         go_ret
         exact ⟨by rw [HZ.out]; rfl, hBN⟩
       ·have HZ : Hid (z = false) := Lib.hid (HF.out (by rw [HD.out, decide_eq_false a1]; rfl))
        go_wp2
        go_ret
        exact ⟨by rw [HZ.out]; rfl, hBN⟩
     ·obtain rfl : q = m := by omega
      have HZ : Hid (z = true) := Lib.hid (HT.out trivial h1 h2 (fun j c hc => hH.out j (by rw [← HM.out]; exact (List.getElem?_eq_some_iff.1 hc).1) c hc))
      go_wp2
      go_ret
      exact ⟨by rw [HZ.out]; rfl, hB⟩
   ·have H2 := Lib.hid (hF2 h2)
    clear hF0 hF1 hF2
    go_wp2
    go_ret
    exact ⟨by rw [H2.out]; rfl, HB0.out⟩
  ·have H1 := Lib.hid (hF1 h1)
   clear hF0 hF1 hF2
   go_wp2
   go_ret
   exact ⟨by rw [H1.out]; rfl, HB0.out⟩
end Go.Proofs.YtpnnkhpokangfaaDoor.Sc

/- A schema that came in, out of its reading. -/
namespace Go.Proofs.YtpnnkhpokangfaaDoor.Sc
open Go.ChangeShapes Go.WideShapes Go.ChangeAt Go.RowKit

theorem cells24 : Tryd.prog.cellsOf 24 = 2 := by kernel_rfl
theorem cells41 : Tryd.prog.cellsOf 60 = 3 := by kernel_rfl
theorem cells3 : Tryd.prog.cellsOf 3 = 1 := by kernel_rfl
theorem cells4 : Tryd.prog.cellsOf 4 = 1 := by kernel_rfl
theorem cells9 : Tryd.prog.cellsOf 9 = 1 := by kernel_rfl
theorem cells22 : Tryd.prog.cellsOf 22 = 1 := by kernel_rfl
theorem two_of {α : Type} {cs : Array α} (h : cs.size = 2) : ∃ a b, cs = #[a, b] := by
 obtain ⟨l⟩ := cs
 match l, h with
 | [a, b], _ => exact ⟨a, b, rfl⟩
theorem two_list {α : Type} {l : List α} (h : l.length = 2) : ∃ a b, l = [a, b] := by
 match l, h with
 | [a, b], _ => exact ⟨a, b, rfl⟩
theorem wfI {x : Int} (h : (Lit.int .i64 x).wf = true) : -9223372036854775808 ≤ x ∧ x ≤ 9223372036854775807 := by
 simp [Lit.wf, IntKind.min, IntKind.max, IntKind.signed, IntKind.bits] at h
 exact ⟨by omega, by omega⟩
section
variable {H : Type} {enc : TypeId × Value → H} {w : World} {base : Nat} {spare : Nat → Bool} {held : Bool}
set_option maxRecDepth 20000 in
theorem open_col {fuel : Nat} {cs : List Value} {x : DataW H × List MemPlace} (h : DataW.trod enc Tryd.prog w base spare held fuel 60 cs = some x) :
  ∃ c : C, c.Ok ∧ cs = [.string c.n, .int .i64 c.k, .bool c.z] := by
 obtain ⟨xs, n, _, _, hlen, hxl, hf⟩ := DataW.trod_struct Tryd.underlying60 h
 rw [cells41] at hlen
 match cs, hlen with
 | [c0, c1, c2], _ =>
  match xs, hxl with
  | [y0, y1, y2], _ =>
   have g0 : DataW.trod enc Tryd.prog w base spare held n 9 [c0] = some y0 := by have := hf 0 _ rfl; simpa [cells9] using this
   have g1 : DataW.trod enc Tryd.prog w base spare held n 3 [c1] = some y1 := by have := hf 1 _ rfl; simpa [cells9, cells3] using this
   have g2 : DataW.trod enc Tryd.prog w base spare held n 4 [c2] = some y2 := by have := hf 2 _ rfl; simpa [cells9, cells3, cells4] using this
   obtain ⟨s, e0, _, hs⟩ := DataW.trod_string Tryd.underlying9 g0
   obtain ⟨k, e1, _, w1⟩ := DataW.trod_int Tryd.underlying3 g1
   obtain ⟨z, e2, _⟩ := DataW.trod_bool Tryd.underlying4 g2
   simp only [List.cons.injEq, and_true] at e0 e1 e2
   subst e0 e1 e2
   unfold maxLen at hs
   exact ⟨⟨s, k, z⟩, ⟨(wfI w1).1, (wfI w1).2, hs⟩, rfl⟩

theorem add_add3 (a : Addr) (hs : a.spot = none) (i j : Nat) : (a.add (i * 3)).add j = ⟨a.block, a.off + i * 3 + j, none⟩ := by
 obtain ⟨b, off, spot⟩ := a
 simp only at hs
 subst hs
 unfold Addr.add
 split <;> split <;> simp_all <;> omega

theorem open_cols {fuel : Nat} {cs : List Value} {x : DataW H × List MemPlace} (h : DataW.trod enc Tryd.prog w base spare held fuel 22 cs = some x) :
  ∃ (A : Option Addr) (cp : Nat) (l : List C), cs = [.slice A l.length cp] ∧ l.length ≤ cp ∧ l.length ≤ 9223372036854775807 ∧ (∀ (j : Nat) (c : C), l[j]? = some c → c.Ok) ∧ HasCols w 0 A l := by
 rcases Go.Deep.open_slice Tryd.underlying22 h with ⟨rfl, _⟩ | ⟨a, len, cap, m, n, D, Pl, rfl, hb, hl, hm, hmm, _, hi⟩
 ·exact ⟨none, 0, [], rfl, Nat.le_refl _, by decide, fun j c h => by simp at h, HasCols.nil _ _ _⟩
 ·have hlm : len ≤ m := by rw [hmm]; split <;> omega
  unfold maxLen at hm
  have each : ∀ j, ∃ E : C, j < len → E.Ok ∧ w.cell? ((a.add (j * 3)).add 0) = some (.string E.n) ∧ w.cell? ((a.add (j * 3)).add 1) = some (.int .i64 E.k) ∧ w.cell? ((a.add (j * 3)).add 2) = some (.bool E.z) := by
   intro j
   by_cases hj : j < len
   ·obtain ⟨cs', hc, ht⟩ := hi j (by omega)
    rw [cells41] at hc
    obtain ⟨E, hok, rfl⟩ := open_col ht
    obtain ⟨_, _, hat⟩ := World.cells?_some hc
    exact ⟨E, fun _ => ⟨hok, hat 0 (by omega), hat 1 (by omega), hat 2 (by omega)⟩⟩
   ·exact ⟨⟨⟨#[]⟩, 0, false⟩, fun h => absurd h hj⟩
  obtain ⟨L, hL⟩ := Classical.axiomOfChoice each
  have hlen : ((List.range len).map L).length = len := by rw [List.length_map, List.length_range]
  have hat : ∀ (j : Nat) (c : C), ((List.range len).map L)[j]? = some c → j < len ∧ c = L j := fun j c hc => by
   have hj : j < len := by
    have := (List.getElem?_eq_some_iff.1 hc).1
    rw [hlen] at this
    exact this
   rw [List.getElem?_map, List.getElem?_range hj] at hc
   exact ⟨hj, (Option.some.inj hc).symm⟩
  refine ⟨some a, cap, (List.range len).map L, by rw [hlen], by rw [hlen]; exact hl, by rw [hlen]; omega, fun j c hc => ?_, fun hne => ?_⟩
  ·obtain ⟨hj, rfl⟩ := hat j c hc
   exact (hL j hj).1
  ·have h0 : 0 < len := by
    rcases Nat.eq_zero_or_pos len with h | h
    ·subst h; exact absurd rfl hne
    ·exact h
   have hsp : a.spot = none := by
    have := World.cell?_spot (hL 0 h0).2.1
    obtain ⟨b, off, spot⟩ := a
    simpa [Addr.add] using this
   have hlt : a.block < w.heap.size := by
    have := World.block_lt_of_cell? w _ (hL 0 h0).2.1
    rw [add_add3 a hsp] at this
    exact this
   refine ⟨a.block, a.off, ?_, Nat.zero_le _, hlt, fun j c hc => ?_⟩
   ·obtain ⟨b, off, spot⟩ := a
    simp only at hsp
    subst hsp
    rfl
   ·obtain ⟨hj, rfl⟩ := hat j c hc
    have h := (hL j hj).2
    simp only [add_add3 a hsp, Nat.add_zero] at h
    exact h
end
set_option maxRecDepth 20000 in
theorem open_schema {H : Type} {enc : TypeId × Value → H} {w W : World} {base b2 : Nat} {spare : Nat → Bool} {held : Bool} {v : Value} {d : DataW H} {p : List MemPlace}
  (hv : Value.okWide Tryd.prog W .any b2 24 v) (h : DataW.Trod enc Tryd.prog w base spare held 24 v d p) :
  ∃ (nm : ByteArray) (A : Option Addr) (cp m : Nat) (l : List C), v = .agg #[.string nm, .slice A m cp] ∧ l.length = m ∧ m ≤ cp ∧ nm.size ≤ 9223372036854775807 ∧ m ≤ 9223372036854775807 ∧ (∀ (j : Nat) (c : C), l[j]? = some c → c.Ok) ∧ HasCols w 0 A l := by
 obtain ⟨cs, rfl, hsz, _⟩ : ∃ cs, v = .agg cs ∧ cs.size = Tryd.prog.cellsOf 24 ∧ Row.okWide Tryd.prog W .any b2 24 cs := by
  simpa [Value.okWide, Tryd.underlying24, Tryd.underlying23] using hv
 rw [cells24] at hsz
 obtain ⟨c0, c1, rfl⟩ := two_of hsz
 obtain ⟨fuel, hf⟩ := h
 obtain ⟨xs, n, _, _, hlen, hxl, hq⟩ := DataW.trod_struct Tryd.underlying24 hf
 obtain ⟨y0, y1, rfl⟩ := two_list hxl
 have g0 : DataW.trod enc Tryd.prog w base spare held n 9 [c0] = some y0 := by have := hq 0 _ rfl; simpa [cells9, Value.cells] using this
 have g1 : DataW.trod enc Tryd.prog w base spare held n 22 [c1] = some y1 := by have := hq 1 _ rfl; simpa [cells9, cells22, Value.cells] using this
 obtain ⟨s, e0, _, hs⟩ := DataW.trod_string Tryd.underlying9 g0
 obtain ⟨A, cp, l, e1, h1, h2, h3, h4⟩ := open_cols g1
 simp only [List.cons.injEq, and_true] at e0 e1
 subst e0 e1
 unfold maxLen at hs
 exact ⟨s, A, cp, l.length, l, rfl, rfl, h1, hs, h2, h3, h4⟩
end Go.Proofs.YtpnnkhpokangfaaDoor.Sc
