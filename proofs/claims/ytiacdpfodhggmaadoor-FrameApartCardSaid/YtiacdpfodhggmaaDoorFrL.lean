/- Frames: the program's Right at 4d08357, walked. -/
import Derived.Test.YtiacdpfodhggmaaDoorFrK
namespace Go.Proofs.YtiacdpfodhggmaaDoor.Fr
open Go.RowKit Tal Lf
section
set_option maxRecDepth 20000 in
set_option maxHeartbeats 3200000 in
theorem right_any (f : F) (w : World) :
    Calls Tryd.prog 14 #[.agg (cellsF f)] w (BoolF (RightF f) w) := by
  have hB := (Below.refl w.heap.size w).alloc (Nat.le_refl _) (.cells (cellsF f) 36)
  have hiff : RightF f ↔ (1 ≤ f.e ∧ f.e < 2147483648 ∧ 0 ≤ f.i ∧ f.i < 512 ∧ 0 ≤ f.p ∧ f.p < 512 ∧ f.d.size = lenOf f.c) :=
    ⟨fun h => ⟨h.e0, h.e1, h.i0, h.i1, h.p0, h.p1, by cases hc : f.c with
      | true => exact h.dc hc
      | false => exact h.dp hc⟩, fun ⟨a, b, c, d, e, g, h⟩ => ⟨a, b, c, d, e, g, fun hc => by rw [h, hc]; rfl, fun hc => by rw [h, hc]; rfl⟩⟩
  obtain ⟨fe, fi, fc, fp, fd⟩ := f
  unfold cellsF at hB ⊢
  simp only at hB hiff ⊢
  have hD := fun k => below_drewN (Below.refl (w.alloc (.cells #[.int .i64 fe, .int .i64 fi, .bool fc, .int .i64 fp, .string fd] 36)).heap.size (w.alloc (.cells #[.int .i64 fe, .int .i64 fi, .bool fc, .int .i64 fp, .string fd] 36))) k
  generalize hP : RightF ⟨fe, fi, fc, fp, fd⟩ = MP at hiff ⊢
  clear hP
  have HI := Lib.hid hiff
  clear hiff
  have hR := fun W : World => dataBytes_any fc W
  generalize lenOf fc = ln at HI hR
  go_enter Tryd.func14, Tryd.ntmps14
  by_cases a0 : ¬ (1 : Int) ≤ fe
  · have HQ : Hid (¬ MP) := Lib.hid (by rw [HI.out]; omega)
    have b0 : decide ((1 : Int) ≤ fe) = false := decide_eq_false (by omega)
    clear HI
    go_wp2
    go_quiet ((go_at_call 24; exact Calls.quiet_of_same (hR _)))
    go_wp2
    go_ret
    exact ⟨false, rfl, ⟨fun e => (by cases e), fun e => absurd e HQ.out⟩, hB.trans ((hD _).mono hB.size)⟩
  by_cases a1 : ¬ fe ≤ 2147483647
  · have HQ : Hid (¬ MP) := Lib.hid (by rw [HI.out]; omega)
    have b0 : decide ((1 : Int) ≤ fe) = true := decide_eq_true (by omega)
    have b1 : decide (fe ≤ 2147483647) = false := decide_eq_false (by omega)
    clear HI
    go_wp2
    go_quiet ((go_at_call 24; exact Calls.quiet_of_same (hR _)))
    go_wp2
    go_ret
    exact ⟨false, rfl, ⟨fun e => (by cases e), fun e => absurd e HQ.out⟩, hB.trans ((hD _).mono hB.size)⟩
  by_cases a2 : ¬ (0 : Int) ≤ fi
  · have HQ : Hid (¬ MP) := Lib.hid (by rw [HI.out]; omega)
    have b0 : decide ((1 : Int) ≤ fe) = true := decide_eq_true (by omega)
    have b1 : decide (fe ≤ 2147483647) = true := decide_eq_true (by omega)
    have b2 : decide ((0 : Int) ≤ fi) = false := decide_eq_false (by omega)
    clear HI
    go_wp2
    go_quiet ((go_at_call 24; exact Calls.quiet_of_same (hR _)))
    go_wp2
    go_ret
    exact ⟨false, rfl, ⟨fun e => (by cases e), fun e => absurd e HQ.out⟩, hB.trans ((hD _).mono hB.size)⟩
  by_cases a3 : ¬ fi < 512
  · have HQ : Hid (¬ MP) := Lib.hid (by rw [HI.out]; omega)
    have b0 : decide ((1 : Int) ≤ fe) = true := decide_eq_true (by omega)
    have b1 : decide (fe ≤ 2147483647) = true := decide_eq_true (by omega)
    have b2 : decide ((0 : Int) ≤ fi) = true := decide_eq_true (by omega)
    have b3 : decide (fi < 512) = false := decide_eq_false (by omega)
    clear HI
    go_wp2
    go_quiet ((go_at_call 24; exact Calls.quiet_of_same (hR _)))
    go_wp2
    go_ret
    exact ⟨false, rfl, ⟨fun e => (by cases e), fun e => absurd e HQ.out⟩, hB.trans ((hD _).mono hB.size)⟩
  by_cases a4 : ¬ (0 : Int) ≤ fp
  · have HQ : Hid (¬ MP) := Lib.hid (by rw [HI.out]; omega)
    have b0 : decide ((1 : Int) ≤ fe) = true := decide_eq_true (by omega)
    have b1 : decide (fe ≤ 2147483647) = true := decide_eq_true (by omega)
    have b2 : decide ((0 : Int) ≤ fi) = true := decide_eq_true (by omega)
    have b3 : decide (fi < 512) = true := decide_eq_true (by omega)
    have b4 : decide ((0 : Int) ≤ fp) = false := decide_eq_false (by omega)
    clear HI
    go_wp2
    go_quiet ((go_at_call 24; exact Calls.quiet_of_same (hR _)))
    go_wp2
    go_ret
    exact ⟨false, rfl, ⟨fun e => (by cases e), fun e => absurd e HQ.out⟩, hB.trans ((hD _).mono hB.size)⟩
  by_cases a5 : ¬ fp < 512
  · have HQ : Hid (¬ MP) := Lib.hid (by rw [HI.out]; omega)
    have b0 : decide ((1 : Int) ≤ fe) = true := decide_eq_true (by omega)
    have b1 : decide (fe ≤ 2147483647) = true := decide_eq_true (by omega)
    have b2 : decide ((0 : Int) ≤ fi) = true := decide_eq_true (by omega)
    have b3 : decide (fi < 512) = true := decide_eq_true (by omega)
    have b4 : decide ((0 : Int) ≤ fp) = true := decide_eq_true (by omega)
    have b5 : decide (fp < 512) = false := decide_eq_false (by omega)
    clear HI
    go_wp2
    go_quiet ((go_at_call 24; exact Calls.quiet_of_same (hR _)))
    go_wp2
    go_ret
    exact ⟨false, rfl, ⟨fun e => (by cases e), fun e => absurd e HQ.out⟩, hB.trans ((hD _).mono hB.size)⟩
  by_cases a6 : fd.size = ln
  · have HQ : Hid (MP) := Lib.hid (by rw [HI.out]; omega)
    have b0 : decide ((1 : Int) ≤ fe) = true := decide_eq_true (by omega)
    have b1 : decide (fe ≤ 2147483647) = true := decide_eq_true (by omega)
    have b2 : decide ((0 : Int) ≤ fi) = true := decide_eq_true (by omega)
    have b3 : decide (fi < 512) = true := decide_eq_true (by omega)
    have b4 : decide ((0 : Int) ≤ fp) = true := decide_eq_true (by omega)
    have b5 : decide (fp < 512) = true := decide_eq_true (by omega)
    have b6 : ((fd.size : Int) == (ln : Int)) = true := by rw [beq_iff_eq]; omega
    have b7 : (fd.size == ln) = true := by rw [beq_iff_eq]; omega
    clear a6
    clear HI
    go_wp2
    go_quiet ((go_at_call 24; exact Calls.quiet_of_same (hR _)))
    go_wp2
    go_ret
    exact ⟨true, rfl, ⟨fun e => HQ.out, fun e => rfl⟩, hB.trans ((hD _).mono hB.size)⟩
  · have HQ : Hid (¬ MP) := Lib.hid (by rw [HI.out]; omega)
    have b0 : decide ((1 : Int) ≤ fe) = true := decide_eq_true (by omega)
    have b1 : decide (fe ≤ 2147483647) = true := decide_eq_true (by omega)
    have b2 : decide ((0 : Int) ≤ fi) = true := decide_eq_true (by omega)
    have b3 : decide (fi < 512) = true := decide_eq_true (by omega)
    have b4 : decide ((0 : Int) ≤ fp) = true := decide_eq_true (by omega)
    have b5 : decide (fp < 512) = true := decide_eq_true (by omega)
    have b6 : ((fd.size : Int) == (ln : Int)) = false := by rw [beq_eq_false_iff_ne]; omega
    have b7 : (fd.size == ln) = false := by rw [beq_eq_false_iff_ne]; omega
    clear a6
    clear HI
    go_wp2
    go_quiet ((go_at_call 24; exact Calls.quiet_of_same (hR _)))
    go_wp2
    go_ret
    exact ⟨false, rfl, ⟨fun e => (by cases e), fun e => absurd e HQ.out⟩, hB.trans ((hD _).mono hB.size)⟩
end
end Go.Proofs.YtiacdpfodhggmaaDoor.Fr
