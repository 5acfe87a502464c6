/- A head in a variable; Right, Size, Home, Log of the program (762697a) and the document, walked. -/
import Derived.Test.YtdbemkdfndjakaaDoorHdA
import Derived.Test.YtdbemkdfndjakaaDoorTalE
import Derived.Test.YtdbemkdfndjakaaDoorMgJ
namespace Go.Proofs.YtdbemkdfndjakaaDoor.Hd
open Go.RowKit Tal Sla
def cellsH (h : H) : Array Value := #[.int .i64 h.p, .int .i64 h.l, .int .i64 h.e]
/-- A head in a variable. -/
structure BoxH (w : World) (g : Nat) (h : H) : Prop where
  c0 : w.cell? ⟨g, 0, none⟩ = some (.int .i64 h.p)
  c1 : w.cell? ⟨g, 1, none⟩ = some (.int .i64 h.l)
  c2 : w.cell? ⟨g, 2, none⟩ = some (.int .i64 h.e)
  f : ∀ i, w.frozen? ⟨g, i, none⟩ = false
section
variable {w w' : World} {g q B : Nat} {h : H}
theorem BoxH.lt (k : BoxH w g h) : g < w.heap.size := World.block_lt_of_cell? w _ k.c0
theorem BoxH.below (k : BoxH w g h) (hb : Below B w w') (hB : g < B) : BoxH w' g h :=
  ⟨(hb.cell (p := ⟨g, 0, none⟩) hB).trans k.c0, (hb.cell (p := ⟨g, 1, none⟩) hB).trans k.c1, (hb.cell (p := ⟨g, 2, none⟩) hB).trans k.c2, fun i => (hb.frozen (p := ⟨g, i, none⟩) hB).trans (k.f i)⟩
theorem BoxH.new (w : World) (h : H) (t : TypeId) : BoxH (w.alloc (.cells (cellsH h) t)) w.heap.size h := by
  unfold cellsH
  constructor <;> simp [go_sem]
theorem cell_set (w : World) (g i j : Nat) (u v : Value) (hij : i ≠ j) (h : w.cell? ⟨g, j, none⟩ = some v) : (w.setCell ⟨g, i, none⟩ u).cell? ⟨g, j, none⟩ = some v :=
  (World.cell?_setCell_other w _ _ u (fun e => by injection e with _ e2; exact hij e2)).trans h
/-- Another head put into the variable. -/
theorem BoxH.put (k : BoxH w g h) (u : H) : BoxH (((w.setCell ⟨g, 0, none⟩ (.int .i64 u.p)).setCell ⟨g, 1, none⟩ (.int .i64 u.l)).setCell ⟨g, 2, none⟩ (.int .i64 u.e)) g u := by
  have a0 := World.cell?_setCell_same w ⟨g, 0, none⟩ (.int .i64 u.p) k.c0
  have b1 := cell_set w g 0 1 (.int .i64 u.p) _ (by decide) k.c1
  have b2 := cell_set w g 0 2 (.int .i64 u.p) _ (by decide) k.c2
  have f0 : ∀ i, (w.setCell ⟨g, 0, none⟩ (.int .i64 u.p)).frozen? ⟨g, i, none⟩ = false := fun i => by rw [World.frozen?_setCell]; exact k.f i
  generalize w.setCell ⟨g, 0, none⟩ (.int .i64 u.p) = w1 at a0 b1 b2 f0 ⊢
  have a0 := cell_set w1 g 1 0 (.int .i64 u.l) _ (by decide) a0
  have a1 := World.cell?_setCell_same w1 ⟨g, 1, none⟩ (.int .i64 u.l) b1
  have b2 := cell_set w1 g 1 2 (.int .i64 u.l) _ (by decide) b2
  have f0 : ∀ i, (w1.setCell ⟨g, 1, none⟩ (.int .i64 u.l)).frozen? ⟨g, i, none⟩ = false := fun i => by rw [World.frozen?_setCell]; exact f0 i
  generalize w1.setCell ⟨g, 1, none⟩ (.int .i64 u.l) = w2 at a0 a1 b2 f0 ⊢
  exact ⟨cell_set w2 g 2 0 _ _ (by decide) a0, cell_set w2 g 2 1 _ _ (by decide) a1, World.cell?_setCell_same w2 ⟨g, 2, none⟩ _ b2, fun i => by rw [World.frozen?_setCell]; exact f0 i⟩
theorem below_putH (hB : Below B w w') (hg : B ≤ g) (u : H) : Below B w (((w'.setCell ⟨g, 0, none⟩ (.int .i64 u.p)).setCell ⟨g, 1, none⟩ (.int .i64 u.l)).setCell ⟨g, 2, none⟩ (.int .i64 u.e)) :=
  ((hB.setCell (p := ⟨g, 0, none⟩) hg _).setCell (p := ⟨g, 1, none⟩) hg _).setCell (p := ⟨g, 2, none⟩) hg _
theorem cell_belowH (h : Below w.heap.size w w') {b i : Nat} {v : Value} (hc : w.cell? ⟨b, i, none⟩ = some v) : w'.cell? ⟨b, i, none⟩ = some v :=
  (h.cell (p := ⟨b, i, none⟩) (World.block_lt_of_cell? w _ hc)).trans hc
end
theorem str_ne {a b : ByteArray} (h : a ≠ b) : (a.toList == b.toList) = false := by
  rw [beq_eq_false_iff_ne]
  exact fun e => h (ByteArray.ext (Array.toList_inj.1 (by simpa [ByteArray.toList_eq] using e)))
theorem results_h2 {fn : Func} {p q : Tmp} (h : fn.results = #[.cell p 23, .tmp q]) (tmps : Array Value) (w : World) (g : Nat) (v0 v1 v2 : Value)
    (hp : tmps.getD p undef = .pointer (some ⟨g, 0, none⟩)) (c0 : w.cell? ⟨g, 0, none⟩ = some v0) (c1 : w.cell? ⟨g, 1, none⟩ = some v1) (c2 : w.cell? ⟨g, 2, none⟩ = some v2) :
    (results fn tmps).run Tryd.prog w = .ok (.tuple #[.agg #[v0, v1, v2], tmps.getD q undef]) w := by
  have hp' : tmps[p]?.getD undef = .pointer (some ⟨g, 0, none⟩) := by simpa using hp
  clear hp
  simp only [results, h]
  go_simp
def BoolH (p : Prop) (w : World) (e : Ending) (w' : World) : Prop := ∃ b : Bool, e = .returned (.bool b) ∧ (b = true ↔ p) ∧ Below w.heap.size w w'
theorem rightH_iff (h : H) : RightH h ↔ (8 ≤ h.p ∧ h.p ≤ 512 ∧ 4 ≤ h.l ∧ h.l ≤ 512 ∧ 1 ≤ h.e ∧ h.e < 2147483648) :=
  ⟨fun k => ⟨k.p0, k.p1, k.l0, k.l1, k.e0, k.e1⟩, fun ⟨a, b, c, d, e, f⟩ => ⟨a, b, c, d, e, f⟩⟩
set_option maxHeartbeats 1600000 in
theorem right_any (h : H) (w : World) :
    Calls Tryd.prog 8 #[.agg (cellsH h)] w (BoolH (RightH h) w) := by
  have hB := (Below.refl w.heap.size w).alloc (Nat.le_refl _) (.cells (cellsH h) 23)
  have hiff := rightH_iff h
  obtain ⟨hp, hl, he⟩ := h
  unfold cellsH at hB ⊢
  simp only at hB hiff ⊢
  generalize hP : RightH ⟨hp, hl, he⟩ = MP at hiff ⊢
  clear hP
  have HI := Lib.hid hiff
  have HB := Lib.hid hB
  clear hiff hB
  go_enter Tryd.func8, Tryd.ntmps8
  by_cases a0 : ¬ (8 : Int) ≤ hp
  · have HQ : Hid (¬ MP) := Lib.hid (by rw [HI.out]; omega)
    have b0 : decide ((8 : Int) ≤ hp) = false := decide_eq_false (by omega)
    clear HI
    go_wp2
    go_ret
    exact ⟨false, rfl, ⟨fun e => (by cases e), fun e => absurd e HQ.out⟩, HB.out⟩
  by_cases a1 : ¬ hp ≤ 512
  · have HQ : Hid (¬ MP) := Lib.hid (by rw [HI.out]; omega)
    have b0 : decide ((8 : Int) ≤ hp) = true := decide_eq_true (by omega)
    have b1 : decide (hp ≤ 512) = false := decide_eq_false (by omega)
    clear HI
    go_wp2
    go_ret
    exact ⟨false, rfl, ⟨fun e => (by cases e), fun e => absurd e HQ.out⟩, HB.out⟩
  by_cases a2 : ¬ (4 : Int) ≤ hl
  · have HQ : Hid (¬ MP) := Lib.hid (by rw [HI.out]; omega)
    have b0 : decide ((8 : Int) ≤ hp) = true := decide_eq_true (by omega)
    have b1 : decide (hp ≤ 512) = true := decide_eq_true (by omega)
    have b2 : decide ((4 : Int) ≤ hl) = false := decide_eq_false (by omega)
    clear HI
    go_wp2
    go_ret
    exact ⟨false, rfl, ⟨fun e => (by cases e), fun e => absurd e HQ.out⟩, HB.out⟩
  by_cases a3 : ¬ hl ≤ 512
  · have HQ : Hid (¬ MP) := Lib.hid (by rw [HI.out]; omega)
    have b0 : decide ((8 : Int) ≤ hp) = true := decide_eq_true (by omega)
    have b1 : decide (hp ≤ 512) = true := decide_eq_true (by omega)
    have b2 : decide ((4 : Int) ≤ hl) = true := decide_eq_true (by omega)
    have b3 : decide (hl ≤ 512) = false := decide_eq_false (by omega)
    clear HI
    go_wp2
    go_ret
    exact ⟨false, rfl, ⟨fun e => (by cases e), fun e => absurd e HQ.out⟩, HB.out⟩
  by_cases a4 : ¬ (1 : Int) ≤ he
  · have HQ : Hid (¬ MP) := Lib.hid (by rw [HI.out]; omega)
    have b0 : decide ((8 : Int) ≤ hp) = true := decide_eq_true (by omega)
    have b1 : decide (hp ≤ 512) = true := decide_eq_true (by omega)
    have b2 : decide ((4 : Int) ≤ hl) = true := decide_eq_true (by omega)
    have b3 : decide (hl ≤ 512) = true := decide_eq_true (by omega)
    have b4 : decide ((1 : Int) ≤ he) = false := decide_eq_false (by omega)
    clear HI
    go_wp2
    go_ret
    exact ⟨false, rfl, ⟨fun e => (by cases e), fun e => absurd e HQ.out⟩, HB.out⟩
  by_cases a5 : ¬ he ≤ 2147483647
  · have HQ : Hid (¬ MP) := Lib.hid (by rw [HI.out]; omega)
    have b0 : decide ((8 : Int) ≤ hp) = true := decide_eq_true (by omega)
    have b1 : decide (hp ≤ 512) = true := decide_eq_true (by omega)
    have b2 : decide ((4 : Int) ≤ hl) = true := decide_eq_true (by omega)
    have b3 : decide (hl ≤ 512) = true := decide_eq_true (by omega)
    have b4 : decide ((1 : Int) ≤ he) = true := decide_eq_true (by omega)
    have b5 : decide (he ≤ 2147483647) = false := decide_eq_false (by omega)
    clear HI
    go_wp2
    go_ret
    exact ⟨false, rfl, ⟨fun e => (by cases e), fun e => absurd e HQ.out⟩, HB.out⟩
  have HQ : Hid MP := Lib.hid (by rw [HI.out]; omega)
  have b0 : decide ((8 : Int) ≤ hp) = true := decide_eq_true (by omega)
  have b1 : decide (hp ≤ 512) = true := decide_eq_true (by omega)
  have b2 : decide ((4 : Int) ≤ hl) = true := decide_eq_true (by omega)
  have b3 : decide (hl ≤ 512) = true := decide_eq_true (by omega)
  have b4 : decide ((1 : Int) ≤ he) = true := decide_eq_true (by omega)
  have b5 : decide (he ≤ 2147483647) = true := decide_eq_true (by omega)
  clear HI
  go_wp2
  go_ret
  exact ⟨true, rfl, ⟨fun e => HQ.out, fun e => rfl⟩, HB.out⟩
set_option maxHeartbeats 1600000 in
theorem refRight_any (h : H) (w : World) :
    Calls Tryd.prog 11 #[.agg (cellsH h)] w (BoolH (RightH h) w) := by
  have hB := (Below.refl w.heap.size w).alloc (Nat.le_refl _) (.cells (cellsH h) 23)
  have hiff := rightH_iff h
  obtain ⟨hp, hl, he⟩ := h
  unfold cellsH at hB ⊢
  simp only at hB hiff ⊢
  generalize hP : RightH ⟨hp, hl, he⟩ = MP at hiff ⊢
  clear hP
  have HI := Lib.hid hiff
  have HB := Lib.hid hB
  clear hiff hB
  go_enter Tryd.func11, Tryd.ntmps11
  by_cases a0 : ¬ (8 : Int) ≤ hp
  · have HQ : Hid (¬ MP) := Lib.hid (by rw [HI.out]; omega)
    have b0 : decide ((8 : Int) ≤ hp) = false := decide_eq_false (by omega)
    clear HI
    go_wp2
    go_ret
    exact ⟨false, rfl, ⟨fun e => (by cases e), fun e => absurd e HQ.out⟩, HB.out⟩
  by_cases a1 : ¬ hp ≤ 512
  · have HQ : Hid (¬ MP) := Lib.hid (by rw [HI.out]; omega)
    have b0 : decide ((8 : Int) ≤ hp) = true := decide_eq_true (by omega)
    have b1 : decide (hp ≤ 512) = false := decide_eq_false (by omega)
    clear HI
    go_wp2
    go_ret
    exact ⟨false, rfl, ⟨fun e => (by cases e), fun e => absurd e HQ.out⟩, HB.out⟩
  by_cases a2 : ¬ (4 : Int) ≤ hl
  · have HQ : Hid (¬ MP) := Lib.hid (by rw [HI.out]; omega)
    have b0 : decide ((8 : Int) ≤ hp) = true := decide_eq_true (by omega)
    have b1 : decide (hp ≤ 512) = true := decide_eq_true (by omega)
    have b2 : decide ((4 : Int) ≤ hl) = false := decide_eq_false (by omega)
    clear HI
    go_wp2
    go_ret
    exact ⟨false, rfl, ⟨fun e => (by cases e), fun e => absurd e HQ.out⟩, HB.out⟩
  by_cases a3 : ¬ hl ≤ 512
  · have HQ : Hid (¬ MP) := Lib.hid (by rw [HI.out]; omega)
    have b0 : decide ((8 : Int) ≤ hp) = true := decide_eq_true (by omega)
    have b1 : decide (hp ≤ 512) = true := decide_eq_true (by omega)
    have b2 : decide ((4 : Int) ≤ hl) = true := decide_eq_true (by omega)
    have b3 : decide (hl ≤ 512) = false := decide_eq_false (by omega)
    clear HI
    go_wp2
    go_ret
    exact ⟨false, rfl, ⟨fun e => (by cases e), fun e => absurd e HQ.out⟩, HB.out⟩
  by_cases a4 : ¬ (1 : Int) ≤ he
  · have HQ : Hid (¬ MP) := Lib.hid (by rw [HI.out]; omega)
    have b0 : decide ((8 : Int) ≤ hp) = true := decide_eq_true (by omega)
    have b1 : decide (hp ≤ 512) = true := decide_eq_true (by omega)
    have b2 : decide ((4 : Int) ≤ hl) = true := decide_eq_true (by omega)
    have b3 : decide (hl ≤ 512) = true := decide_eq_true (by omega)
    have b4 : decide ((1 : Int) ≤ he) = false := decide_eq_false (by omega)
    clear HI
    go_wp2
    go_ret
    exact ⟨false, rfl, ⟨fun e => (by cases e), fun e => absurd e HQ.out⟩, HB.out⟩
  by_cases a5 : ¬ he < 2147483648
  · have HQ : Hid (¬ MP) := Lib.hid (by rw [HI.out]; omega)
    have b0 : decide ((8 : Int) ≤ hp) = true := decide_eq_true (by omega)
    have b1 : decide (hp ≤ 512) = true := decide_eq_true (by omega)
    have b2 : decide ((4 : Int) ≤ hl) = true := decide_eq_true (by omega)
    have b3 : decide (hl ≤ 512) = true := decide_eq_true (by omega)
    have b4 : decide ((1 : Int) ≤ he) = true := decide_eq_true (by omega)
    have b5 : decide (he < 2147483648) = false := decide_eq_false (by omega)
    clear HI
    go_wp2
    go_ret
    exact ⟨false, rfl, ⟨fun e => (by cases e), fun e => absurd e HQ.out⟩, HB.out⟩
  have HQ : Hid MP := Lib.hid (by rw [HI.out]; omega)
  have b0 : decide ((8 : Int) ≤ hp) = true := decide_eq_true (by omega)
  have b1 : decide (hp ≤ 512) = true := decide_eq_true (by omega)
  have b2 : decide ((4 : Int) ≤ hl) = true := decide_eq_true (by omega)
  have b3 : decide (hl ≤ 512) = true := decide_eq_true (by omega)
  have b4 : decide ((1 : Int) ≤ he) = true := decide_eq_true (by omega)
  have b5 : decide (he < 2147483648) = true := decide_eq_true (by omega)
  clear HI
  go_wp2
  go_ret
  exact ⟨true, rfl, ⟨fun e => HQ.out, fun e => rfl⟩, HB.out⟩
theorem size_any (h : H) (w : World) :
    Calls Tryd.prog 14 #[.agg (cellsH h)] w fun e w' => e = .returned (.int .i64 (wrap64 (wrap64 (2 + h.p) + h.l))) ∧ Below w.heap.size w w' := by
  have hB := (Below.refl w.heap.size w).alloc (Nat.le_refl _) (.cells (cellsH h) 23)
  obtain ⟨hp, hl, he⟩ := h
  unfold cellsH at hB ⊢
  simp only at hB ⊢
  go_enter Tryd.func14, Tryd.ntmps14
  go_wp2
  go_ret
  exact ⟨rfl, hB⟩
theorem home_any (n : Int) (w : World) :
    Calls Tryd.prog 16 #[.int .i64 n] w fun e w' => e = .returned (.int .i64 (wrap64 (2 + n))) ∧ w' = w := by
  go_enter Tryd.func16, Tryd.ntmps16
  go_wp2
  go_ret
  exact ⟨rfl, rfl⟩
theorem log_any (h : H) (n : Int) (w : World) :
    Calls Tryd.prog 18 #[.agg (cellsH h), .int .i64 n] w fun e w' => e = .returned (.int .i64 (wrap64 (wrap64 (2 + h.p) + n))) ∧ Below w.heap.size w w' := by
  have hB := (Below.refl w.heap.size w).alloc (Nat.le_refl _) (.cells (cellsH h) 23)
  obtain ⟨hp, hl, he⟩ := h
  unfold cellsH at hB ⊢
  simp only at hB ⊢
  go_enter Tryd.func18, Tryd.ntmps18
  go_wp2
  go_ret
  exact ⟨rfl, hB⟩
end Go.Proofs.YtdbemkdfndjakaaDoor.Hd
