/- The value that bytes begin with, plainly; the document's, walked. -/
import Derived.Test.YtpnnkhpokangfaaDoorVaC
namespace Go.Proofs.YtpnnkhpokangfaaDoor.Va
open Go.RowKit Pac

theorem bar_alloc {g : Nat} {a w : World} (h : Bar g a w) (o : Obj) : Bar g a (w.alloc o) :=
 h.trans (Bar.of_below g ((Below.refl w.heap.size w).alloc (Nat.le_refl _) o) (Nat.le_refl _))
/-- A variable of three cells. -/
structure Box3 (w : World) (g : Nat) (v0 v1 v2 : Value) : Prop where
 c0 : w.cell? ⟨g, 0, none⟩ = some v0
 c1 : w.cell? ⟨g, 1, none⟩ = some v1
 c2 : w.cell? ⟨g, 2, none⟩ = some v2
 f : ∀ i, w.frozen? ⟨g, i, none⟩ = false
theorem Box3.lt {w : World} {g : Nat} {v0 v1 v2 : Value} (h : Box3 w g v0 v1 v2) : g < w.heap.size := World.block_lt_of_cell? w _ h.c0
theorem Box3.bar {g g' : Nat} {w w' : World} {v0 v1 v2 : Value} (h : Box3 w g v0 v1 v2) (hb : Bar g' w w') (hne : g ≠ g') : Box3 w' g v0 v1 v2 :=
 ⟨(hb.cell h.lt hne).trans h.c0, (hb.cell h.lt hne).trans h.c1, (hb.cell h.lt hne).trans h.c2, fun i => (hb.frozen h.lt hne).trans (h.f i)⟩
theorem Box3.below {g B : Nat} {w w' : World} {v0 v1 v2 : Value} (h : Box3 w g v0 v1 v2) (hb : Below B w w') (hB : g < B) : Box3 w' g v0 v1 v2 :=
 ⟨(hb.cell (p := ⟨g, 0, none⟩) hB).trans h.c0, (hb.cell (p := ⟨g, 1, none⟩) hB).trans h.c1, (hb.cell (p := ⟨g, 2, none⟩) hB).trans h.c2, fun i => (hb.frozen (p := ⟨g, i, none⟩) hB).trans (h.f i)⟩
theorem Box3.new (w : World) (v0 v1 v2 : Value) (t : TypeId) : Box3 (w.alloc (.cells #[v0, v1, v2] t)) w.heap.size v0 v1 v2 := by
 constructor <;> simp [go_sem]
theorem Box3.alloc {g : Nat} {w : World} {v0 v1 v2 : Value} (h : Box3 w g v0 v1 v2) (o : Obj) : Box3 (w.alloc o) g v0 v1 v2 :=
 h.below ((Below.refl (g + 1) w).alloc h.lt o) (by omega)

/-- What is read: the value, what is left, whether it went wrong. -/
def seen (k : Nat) (s : ByteArray) : V × ByteArray × Bool :=
 if k = 1 ∨ k = 2 then (⟨k, numR s false, ⟨#[]⟩⟩, numS s false, numBad s false) else if k = 3 then (⟨3, 0, txtR s false 60⟩, txtS s false 60, txtBad s false 60) else (⟨k, 0, ⟨#[]⟩⟩, s, false)
def judged (x : V × ByteArray × Bool) : V × ByteArray × Bool := if (x.2.2 || !rightV x.1) = true then (⟨0, 0, ⟨#[]⟩⟩, x.2.1, true) else x
def readV (s : ByteArray) (bad : Bool) : V × ByteArray × Bool :=
 if bad = true then (⟨0, 0, ⟨#[]⟩⟩, s, true) else if h : 0 < s.size then judged (seen s[0].toNat (s.extract 1 s.size)) else (⟨0, 0, ⟨#[]⟩⟩, s, true)

theorem ready {w : World} {g : Nat} {s : ByteArray} (s1 : ByteArray) (k : Int) (t : TypeId) (hb : IsBox w g s false) :
  IsBox (((w.setCell ⟨g, 0, none⟩ (.string s1)).alloc (.cells #[.int .i64 0, .int .i64 0, .string ⟨#[]⟩] t)).alloc (.cells #[.int .i64 k, .int .i64 0, .string ⟨#[]⟩] t)) g s1 false ∧
  Box3 (((w.setCell ⟨g, 0, none⟩ (.string s1)).alloc (.cells #[.int .i64 0, .int .i64 0, .string ⟨#[]⟩] t)).alloc (.cells #[.int .i64 k, .int .i64 0, .string ⟨#[]⟩] t)) w.heap.size (.int .i64 0) (.int .i64 0) (.string ⟨#[]⟩) ∧
  Box3 (((w.setCell ⟨g, 0, none⟩ (.string s1)).alloc (.cells #[.int .i64 0, .int .i64 0, .string ⟨#[]⟩] t)).alloc (.cells #[.int .i64 k, .int .i64 0, .string ⟨#[]⟩] t)) (w.heap.size + 1) (.int .i64 k) (.int .i64 0) (.string ⟨#[]⟩) ∧
  Bar g w (((w.setCell ⟨g, 0, none⟩ (.string s1)).alloc (.cells #[.int .i64 0, .int .i64 0, .string ⟨#[]⟩] t)).alloc (.cells #[.int .i64 k, .int .i64 0, .string ⟨#[]⟩] t)) := by
 have hb1 := hb.set0 (.string s1)
 have hB1 := (Bar.refl g w).setCell 0 (.string s1)
 have e1 : (w.setCell ⟨g, 0, none⟩ (.string s1)).heap.size = w.heap.size := by simp
 have e2 : ((w.setCell ⟨g, 0, none⟩ (.string s1)).alloc (.cells #[.int .i64 0, .int .i64 0, .string ⟨#[]⟩] t)).heap.size = w.heap.size + 1 := by simp
 have h1 := (Box3.new (w.setCell ⟨g, 0, none⟩ (.string s1)) (.int .i64 0) (.int .i64 0) (.string ⟨#[]⟩) t).alloc (.cells #[.int .i64 k, .int .i64 0, .string ⟨#[]⟩] t)
 have h2 := Box3.new ((w.setCell ⟨g, 0, none⟩ (.string s1)).alloc (.cells #[.int .i64 0, .int .i64 0, .string ⟨#[]⟩] t)) (.int .i64 k) (.int .i64 0) (.string ⟨#[]⟩) t
 rw [e1] at h1
 rw [e2] at h2
 exact ⟨(hb1.alloc _).alloc _, h1, h2, bar_alloc (bar_alloc hB1 _) _⟩
theorem Box3.setOther {w : World} {g : Nat} {v0 v1 v2 : Value} (h : Box3 w g v0 v1 v2) {p : Addr} (hp : p.block ≠ g) (u : Value) : Box3 (w.setCell p u) g v0 v1 v2 := by
 have o : ∀ i, (w.setCell p u).cell? ⟨g, i, none⟩ = w.cell? ⟨g, i, none⟩ := fun i => World.cell?_setCell_other w _ _ u (fun e => hp (by rw [e]))
 exact ⟨(o 0).trans h.c0, (o 1).trans h.c1, (o 2).trans h.c2, fun i => by simp [h.f]⟩
theorem Box3.set0 {w : World} {g : Nat} {v0 v1 v2 : Value} (h : Box3 w g v0 v1 v2) (u : Value) : Box3 (w.setCell ⟨g, 0, none⟩ u) g u v1 v2 :=
 ⟨World.cell?_setCell_same _ _ _ h.c0, (World.cell?_setCell_other w _ _ u (fun e => by injection e with e1 e2; exact absurd e2 (by decide))).trans h.c1, (World.cell?_setCell_other w _ _ u (fun e => by injection e with e1 e2; exact absurd e2 (by decide))).trans h.c2, fun i => by simp [h.f]⟩
theorem Box3.set1 {w : World} {g : Nat} {v0 v1 v2 : Value} (h : Box3 w g v0 v1 v2) (u : Value) : Box3 (w.setCell ⟨g, 1, none⟩ u) g v0 u v2 :=
 ⟨(World.cell?_setCell_other w _ _ u (fun e => by injection e with e1 e2; exact absurd e2 (by decide))).trans h.c0, World.cell?_setCell_same _ _ _ h.c1, (World.cell?_setCell_other w _ _ u (fun e => by injection e with e1 e2; exact absurd e2 (by decide))).trans h.c2, fun i => by simp [h.f]⟩
theorem Box3.set2 {w : World} {g : Nat} {v0 v1 v2 : Value} (h : Box3 w g v0 v1 v2) (u : Value) : Box3 (w.setCell ⟨g, 2, none⟩ u) g v0 v1 u :=
 ⟨(World.cell?_setCell_other w _ _ u (fun e => by injection e with e1 e2; exact absurd e2 (by decide))).trans h.c0, (World.cell?_setCell_other w _ _ u (fun e => by injection e with e1 e2; exact absurd e2 (by decide))).trans h.c1, World.cell?_setCell_same _ _ _ h.c2, fun i => by simp [h.f]⟩
theorem box2_setOther {w : World} {g : Nat} {v0 v1 : Value} (h : Box2 w g v0 v1) {p : Addr} (hp : p.block ≠ g) (u : Value) : Box2 (w.setCell p u) g v0 v1 := by
 have o : ∀ i, (w.setCell p u).cell? ⟨g, i, none⟩ = w.cell? ⟨g, i, none⟩ := fun i => World.cell?_setCell_other w _ _ u (fun e => hp (by rw [e]))
 exact ⟨(o 0).trans h.c0, (o 1).trans h.c1, fun i => by simp [h.f]⟩

theorem results_three {fn : Func} {p : Tmp} (h : fn.results = #[.cell p 37]) (tmps : Array Value) (w : World) (g : Nat) (v0 v1 v2 : Value)
  (hp : tmps.getD p undef = .pointer (some ⟨g, 0, none⟩)) (c0 : w.cell? ⟨g, 0, none⟩ = some v0) (c1 : w.cell? ⟨g, 1, none⟩ = some v1) (c2 : w.cell? ⟨g, 2, none⟩ = some v2) :
  (results fn tmps).run Tryd.prog w = .ok (.agg #[v0, v1, v2]) w := by
 have hp' : tmps[p]?.getD undef = .pointer (some ⟨g, 0, none⟩) := by simpa using hp
 clear hp
 simp only [results, h]
 go_simp

end Go.Proofs.YtpnnkhpokangfaaDoor.Va
