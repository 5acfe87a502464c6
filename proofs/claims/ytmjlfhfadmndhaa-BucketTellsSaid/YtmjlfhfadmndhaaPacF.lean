/- Boxes in memory; what reading does to one, plainly; a Box's Num, walked. -/
import Derived.Test.YtmjlfhfadmndhaaPacE
import Derived.Deep.MidRow
namespace Go.Proofs.Ytmjlfhfadmndhaa.Pac
open Go.RowKit

/-- A variable of two cells. -/
structure Box2 (w : World) (g : Nat) (v0 v1 : Value) : Prop where
  c0 : w.cell? ⟨g, 0, none⟩ = some v0
  c1 : w.cell? ⟨g, 1, none⟩ = some v1
  f : ∀ i, w.frozen? ⟨g, i, none⟩ = false
/-- All blocks that were there, but one, are as they were. -/
structure Bar (g : Nat) (w w' : World) : Prop where
  os : w'.os = w.os
  tape : w'.tape = w.tape
  output : w'.output = w.output
  size : w.heap.size ≤ w'.heap.size
  block : ∀ k, k < w.heap.size → k ≠ g → w'.heap[k]? = w.heap[k]?
theorem Bar.refl (g : Nat) (w : World) : Bar g w w := ⟨rfl, rfl, rfl, Nat.le_refl _, fun _ _ _ => rfl⟩
theorem Bar.trans {g : Nat} {a b c : World} (h : Bar g a b) (k : Bar g b c) : Bar g a c :=
  ⟨k.os.trans h.os, k.tape.trans h.tape, k.output.trans h.output, Nat.le_trans h.size k.size, fun j hj hne => (k.block j (Nat.lt_of_lt_of_le hj h.size) hne).trans (h.block j hj hne)⟩
theorem Bar.setCell {g : Nat} {a w : World} (h : Bar g a w) (i : Nat) (u : Value) : Bar g a (w.setCell ⟨g, i, none⟩ u) :=
  ⟨h.os, h.tape, h.output, by simpa using h.size, fun k hk hne => (Below.heap_setCell w ⟨g, i, none⟩ u k hne).trans (h.block k hk hne)⟩
theorem Bar.drew {g : Nat} {a w : World} (h : Bar g a w) : Bar g a w.drew := ⟨h.os, h.tape, h.output, h.size, h.block⟩
theorem Bar.of_below (g : Nat) {B : Nat} {w w' : World} (h : Below B w w') (hB : w.heap.size ≤ B) : Bar g w w' :=
  ⟨h.os, h.tape, h.output, h.size, fun k hk _ => h.block k (Nat.lt_of_lt_of_le hk hB)⟩
theorem Bar.below {g B : Nat} {w w' : World} (h : Bar g w w') (hB : B ≤ g) (hw : B ≤ w.heap.size) : Below B w w' :=
  ⟨h.os, h.tape, h.output, h.size, fun k hk => h.block k (Nat.lt_of_lt_of_le hk hw) (by omega)⟩
theorem Bar.cell {g : Nat} {w w' : World} (h : Bar g w w') {p : Addr} (hlt : p.block < w.heap.size) (hp : p.block ≠ g) : w'.cell? p = w.cell? p := World.cell?_of_block (w := w) (h.block p.block hlt hp)
theorem Bar.frozen {g : Nat} {w w' : World} (h : Bar g w w') {p : Addr} (hlt : p.block < w.heap.size) (hp : p.block ≠ g) : w'.frozen? p = w.frozen? p := World.frozen?_of_block (w := w) (h.block p.block hlt hp)
theorem Box2.lt {w : World} {g : Nat} {v0 v1 : Value} (h : Box2 w g v0 v1) : g < w.heap.size := World.block_lt_of_cell? w _ h.c0
theorem Box2.bar {g g' : Nat} {w w' : World} {v0 v1 : Value} (h : Box2 w g v0 v1) (hb : Bar g' w w') (hne : g ≠ g') : Box2 w' g v0 v1 :=
  ⟨(hb.cell h.lt hne).trans h.c0, (hb.cell h.lt hne).trans h.c1, fun i => (hb.frozen h.lt hne).trans (h.f i)⟩
theorem Box2.below {g B : Nat} {w w' : World} {v0 v1 : Value} (h : Box2 w g v0 v1) (hb : Below B w w') (hB : g < B) : Box2 w' g v0 v1 :=
  ⟨(hb.cell (p := ⟨g, 0, none⟩) hB).trans h.c0, (hb.cell (p := ⟨g, 1, none⟩) hB).trans h.c1, fun i => (hb.frozen (p := ⟨g, i, none⟩) hB).trans (h.f i)⟩
theorem Box2.new (w : World) (v0 v1 : Value) (t : TypeId) : Box2 (w.alloc (.cells #[v0, v1] t)) w.heap.size v0 v1 := by
  constructor <;> simp [go_sem]
theorem Box2.alloc {g : Nat} {w : World} {v0 v1 : Value} (h : Box2 w g v0 v1) (o : Obj) : Box2 (w.alloc o) g v0 v1 :=
  h.below ((Below.refl (g + 1) w).alloc h.lt o) (by omega)
theorem Box2.drew {g : Nat} {w : World} {v0 v1 : Value} (h : Box2 w g v0 v1) : Box2 w.drew g v0 v1 := h.below ((Below.refl (g + 1) w).drew) (by omega)
theorem Box2.set0 {g : Nat} {w : World} {v0 v1 : Value} (h : Box2 w g v0 v1) (u : Value) : Box2 (w.setCell ⟨g, 0, none⟩ u) g u v1 :=
  ⟨World.cell?_setCell_same _ _ _ h.c0, (World.cell?_setCell_other w _ _ u (fun e => by injection e with e1 e2; exact absurd e2 (by decide))).trans h.c1, fun i => by simp [h.f]⟩
theorem Box2.set1 {g : Nat} {w : World} {v0 v1 : Value} (h : Box2 w g v0 v1) (u : Value) : Box2 (w.setCell ⟨g, 1, none⟩ u) g v0 u :=
  ⟨(World.cell?_setCell_other w _ _ u (fun e => by injection e with e1 e2; exact absurd e2 (by decide))).trans h.c0, World.cell?_setCell_same _ _ _ h.c1, fun i => by simp [h.f]⟩

/-- Box g holds the bytes s, and is bad or not. -/
abbrev IsBox (w : World) (g : Nat) (s : ByteArray) (bad : Bool) : Prop := Box2 w g (.string s) (.bool bad)

def numR (s : ByteArray) (bad : Bool) : Int := if bad then 0 else (rdB s).1
def numS (s : ByteArray) (bad : Bool) : ByteArray := if bad then s else s.extract (rdB s).2 s.size
def numBad (s : ByteArray) (bad : Bool) : Bool := if bad then true else (((rdB s).2 : Int) == 0)

theorem rdB_le (s : ByteArray) : (rdB s).2 ≤ s.size := by
  unfold rdB
  split
  · exact Nat.sub_le _ _
  · exact Nat.zero_le _
theorem rdB_range (s : ByteArray) : -9223372036854775808 ≤ (rdB s).1 ∧ (rdB s).1 ≤ 9223372036854775807 := by
  unfold rdB
  split
  · rename_i u r h
    exact unzig_range u (rdN_some h).2
  · exact ⟨by decide, by decide⟩
theorem numS_size (s : ByteArray) (bad : Bool) : (numS s bad).size ≤ s.size := by
  unfold numS
  split
  · exact Nat.le_refl _
  · rw [ByteArray.size_extract]; omega
theorem numR_range (s : ByteArray) (bad : Bool) : -9223372036854775808 ≤ numR s bad ∧ numR s bad ≤ 9223372036854775807 := by
  unfold numR
  split
  · exact ⟨by decide, by decide⟩
  · exact rdB_range s

set_option maxHeartbeats 400000 in
theorem spoilt_any (g : Nat) (s : ByteArray) (bad : Bool) (w : World) (hb : IsBox w g s bad) :
    Calls Try.prog 46 #[.pointer (some ⟨g, 0, none⟩)] w fun e w' => e = .returned (.bool bad) ∧ w = w' := by
  have c1 := hb.c1
  go_enter Try.func46, Try.ntmps46
  go_wp2
  go_ret
  exact ⟨rfl, rfl⟩

set_option maxHeartbeats 400000 in
theorem num_good (g : Nat) (s : ByteArray) (w : World) (hb : IsBox w g s false) (hs : s.size ≤ 9223372036854775807) :
    Calls Try.prog 50 #[.pointer (some ⟨g, 0, none⟩)] w fun e w' => e = .returned (.int .i64 (rdB s).1) ∧ IsBox w' g (s.extract (rdB s).2 s.size) (((rdB s).2 : Int) == 0) ∧ Bar g w w' := by
  have HB := Lib.hid hb
  have c0 := hb.c0
  have hle := rdB_le s
  have i1 : ((rdB s).2 : Int) ≤ (s.size : Int) := by omega
  go_enter Try.func50, Try.ntmps50
  go_wp2_with fail
  refine (spoilt_any g s false w hb).mono ?_
  rintro e w1 ⟨rfl, rfl⟩
  go_wp2_with fail
  refine (begin_any s w hs).mono ?_
  rintro e w2 ⟨rfl, hw2⟩
  have hb2 := hb.below hw2 hb.lt
  have c0 := hb2.c0
  have c1 := hb2.c1
  have f := hb2.f
  go_wp2
  go_ret
  exact ⟨rfl, (hb2.set0 _).set1 _, ((Bar.of_below g hw2 (Nat.le_refl _)).setCell 0 _).setCell 1 _⟩
set_option maxHeartbeats 400000 in
theorem num_bad (g : Nat) (s : ByteArray) (w : World) (hb : IsBox w g s true) :
    Calls Try.prog 50 #[.pointer (some ⟨g, 0, none⟩)] w fun e w' => e = .returned (.int .i64 0) ∧ w = w' := by
  go_enter Try.func50, Try.ntmps50
  go_wp2_with fail
  refine (spoilt_any g s true w hb).mono ?_
  rintro e w1 ⟨rfl, rfl⟩
  go_wp2
  go_ret
  exact ⟨rfl, rfl⟩
theorem boxNum_any (g : Nat) (s : ByteArray) (bad : Bool) (w : World) (hb : IsBox w g s bad) (hs : s.size ≤ 9223372036854775807) :
    Calls Try.prog 50 #[.pointer (some ⟨g, 0, none⟩)] w fun e w' => e = .returned (.int .i64 (numR s bad)) ∧ IsBox w' g (numS s bad) (numBad s bad) ∧ Bar g w w' := by
  cases bad with
  | true =>
    refine (num_bad g s w hb).mono ?_
    rintro e w1 ⟨rfl, rfl⟩
    exact ⟨rfl, hb, Bar.refl _ _⟩
  | false => exact num_good g s w hb hs

def btwBad (s : ByteArray) (bad : Bool) (lo hi : Int) : Bool := numBad s bad || decide (numR s bad < lo) || decide (hi < numR s bad)
def btwR (s : ByteArray) (bad : Bool) (lo hi : Int) : Int := if btwBad s bad lo hi then 0 else numR s bad
theorem btwR_range (s : ByteArray) (bad : Bool) (lo hi : Int) : -9223372036854775808 ≤ btwR s bad lo hi ∧ btwR s bad lo hi ≤ 9223372036854775807 := by
  unfold btwR
  split
  · exact ⟨by decide, by decide⟩
  · exact numR_range s bad

set_option maxHeartbeats 400000 in
theorem boxBetween_any (g : Nat) (s : ByteArray) (bad : Bool) (lo hi : Int) (w : World) (hb : IsBox w g s bad) (hs : s.size ≤ 9223372036854775807) :
    Calls Try.prog 44 #[.pointer (some ⟨g, 0, none⟩), .int .i64 lo, .int .i64 hi] w fun e w' => e = .returned (.int .i64 (btwR s bad lo hi)) ∧ IsBox w' g (numS s bad) (btwBad s bad lo hi) ∧ Bar g w w' := by
  have hc := boxNum_any g s bad w hb hs
  have hR : btwR s bad lo hi = if btwBad s bad lo hi then 0 else numR s bad := rfl
  have hB : btwBad s bad lo hi = (numBad s bad || decide (numR s bad < lo) || decide (hi < numR s bad)) := rfl
  generalize numR s bad = n at hR hB hc
  generalize numS s bad = s1 at hc ⊢
  generalize numBad s bad = d at hB hc
  generalize btwR s bad lo hi = r at hR ⊢
  generalize btwBad s bad lo hi = z at hR hB ⊢
  have HR := Lib.hid hR
  have HB := Lib.hid hB
  clear hR hB
  go_enter Try.func44, Try.ntmps44
  go_wp2_with fail
  refine hc.mono ?_
  rintro e w1 ⟨rfl, hb1, hw1⟩
  go_wp2_with fail
  refine (spoilt_any g s1 d w1 hb1).mono ?_
  rintro e w2 ⟨rfl, rfl⟩
  have c1 := hb1.c1
  have f := hb1.f
  cases d with
  | true =>
    have HZ : Hid (z = true ∧ r = 0) := Lib.hid (by have h1 := HB.out; have h2 := HR.out; simp at h1; subst h1; exact ⟨rfl, h2⟩)
    go_wp2
    go_ret
    rw [HZ.out.1, HZ.out.2]
    exact ⟨rfl, hb1, hw1⟩
  | false =>
    by_cases h1 : n < lo
    · have HZ : Hid (z = true ∧ r = 0) := Lib.hid (by have h3 := HB.out; have h2 := HR.out; simp [h1] at h3; subst h3; exact ⟨rfl, h2⟩)
      go_wp2
      go_ret
      rw [HZ.out.1, HZ.out.2]
      exact ⟨rfl, hb1.set1 _, hw1.setCell 1 _⟩
    · by_cases h4 : hi < n
      · have HZ : Hid (z = true ∧ r = 0) := Lib.hid (by have h3 := HB.out; have h2 := HR.out; simp [h1, h4] at h3; subst h3; exact ⟨rfl, h2⟩)
        go_wp2
        go_ret
        rw [HZ.out.1, HZ.out.2]
        exact ⟨rfl, hb1.set1 _, hw1.setCell 1 _⟩
      · have HZ : Hid (z = false ∧ r = n) := Lib.hid (by have h3 := HB.out; have h2 := HR.out; simp [h1, h4] at h3; subst h3; exact ⟨rfl, h2⟩)
        go_wp2
        go_ret
        rw [HZ.out.1, HZ.out.2]
        exact ⟨rfl, hb1, hw1⟩
def doneB (s : ByteArray) (bad : Bool) : Bool := if bad then false else s.toList.isEmpty
end Go.Proofs.Ytmjlfhfadmndhaa.Pac
