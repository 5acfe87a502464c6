/- PlotMarks, walked. -/
import Derived.Test.YtbeojghlldiniaaPlC
namespace Go.Proofs.Ytbeojghlldiniaa.Pl
open Go.RowKit
theorem w64 {x : Int} (h0 : -9223372036854775808 ≤ x) (h1 : x ≤ 9223372036854775807) : wrap64 x = x := by unfold wrap64; omega
section
variable {w : World}
theorem marks_no (s : ByteArray) (a0 a1 a2 : Int) (t : Bool) (hs : s.size ≠ 200) (hs2 : s.size ≤ 9223372036854775807) :
    Calls Try.prog 4 #[.string s, .agg #[.int .u16 a0, .int .u16 a1, .int .u16 a2], .bool t] w fun e w' => e = .returned (.bool true) ∧ Below w.heap.size w w' := by
  have hbox := (Below.refl w.heap.size w).alloc (Nat.le_refl _) (.cells #[.int .u16 a0, .int .u16 a1, .int .u16 a2] 35)
  have d1 : ((s.size : Int) != 200) = true := bne_iff_ne.2 (by omega)
  go_enter Try.func4, Try.ntmps4
  go_wp2_with fail
  refine (awake_any _).mono ?_
  rintro e w1 ⟨rfl, hb1⟩
  go_wp2
  go_ret
  exact ⟨rfl, hbox.trans (hb1.mono hbox.size)⟩
set_option maxRecDepth 20000 in
set_option maxHeartbeats 4000000 in
theorem marks_yes (s : ByteArray) (a0 a1 a2 : Nat) (t : Bool) (hs : s.size = 200) (h0 : a0 ≤ 65535) (h1 : a1 ≤ 65535) :
    Calls Try.prog 4 #[.string s, .agg #[.int .u16 a0, .int .u16 a1, .int .u16 a2], .bool t] w fun e w' => e = .returned (.bool true) ∧ Below w.heap.size w w' := by
  have hbox := Lib.hid ((Below.refl w.heap.size w).alloc (Nat.le_refl _) (.cells #[.int .u16 a0, .int .u16 a1, .int .u16 a2] 35))
  have c0 : (w.alloc (.cells #[.int .u16 a0, .int .u16 a1, .int .u16 a2] 35)).cell? ⟨w.heap.size, 0, none⟩ = some (.int .u16 a0) := by simp
  have c1 : (w.alloc (.cells #[.int .u16 a0, .int .u16 a1, .int .u16 a2] 35)).cell? ⟨w.heap.size, 1, none⟩ = some (.int .u16 a1) := by simp
  obtain ⟨x0, hx0⟩ : ∃ x0, x0 = a0 % 512 := ⟨_, rfl⟩
  obtain ⟨x1, hx1⟩ : ∃ x1, x1 = a1 % 512 := ⟨_, rfl⟩
  have HX := Lib.hid (show (a0 : Int) % 512 = (x0 : Int) ∧ (a1 : Int) % 512 = (x1 : Int) ∧ x0 < 512 ∧ x1 < 512 ∧ a0 ≤ 65535 ∧ a1 ≤ 65535 from ⟨by omega, by omega, by omega, by omega, h0, h1⟩)
  have hsl : s.data.toList.length = 200 := by simpa using hs
  have HM : Hid ((∀ i, i < 512 → tk (mk s.data.toList x0 t) i = if i = x0 then t else tk s.data.toList i) ∧ (mk s.data.toList x0 t).length = 200 ∧ rootN (mk s.data.toList x0 t) = rootN s.data.toList) :=
    Lib.hid ⟨fun i _ => tk_mk ⟨HX.out.2.2.1, by have := HX.out.2.2.1; omega⟩, by rw [mk_len, hsl], root_mk⟩
  have HR : Hid ((∀ i, tk (setR s.data.toList x1) i = tk s.data.toList i) ∧ (setR s.data.toList x1).length = 200 ∧ rootN (setR s.data.toList x1) = x1) :=
    Lib.hid ⟨fun i => tk_setR, by rw [setR_len, hsl], root_setR (by omega) HX.out.2.2.2.1⟩
  have HP1 : Hid (∀ W, Calls Try.prog 12 #[.string s, .int .i64 x0, .bool t] W fun e w' => e = .returned (.string (mkB s x0 t)) ∧ Below W.heap.size W w') := Lib.hid (fun W => mark_any t W (by omega) (by omega) (by have := HX.out.2.2.1; omega))
  have HP2 : Hid (∀ W, Calls Try.prog 19 #[.string s, .int .i64 x1] W fun e w' => e = .returned (.string (setRB s x1)) ∧ Below W.heap.size W w') := Lib.hid (fun W => setRoot_any W (by omega) (by omega) (by have := HX.out.2.2.2.1; omega))
  rw [← mkB_nat] at HM
  rw [← setRB_nat] at HR
  generalize mkB s x0 t = x at HM HP1
  generalize setRB s x1 = y at HR HP2
  have hx200 : x.size = 200 := by have := HM.out.2.1; simpa using this
  have hy200 : y.size = 200 := by have := HR.out.2.1; simpa using this
  have HT0 : Hid (∀ (W : World) (i : Nat), i < 512 → Calls Try.prog 10 #[.string s, .int .i64 i] W fun e w' => e = .returned (.bool (tk s.data.toList i)) ∧ Below W.heap.size W w') := Lib.hid (fun W i hi => by
    rw [← tkI_nat]; exact taken_any W (by omega) (by omega) (by omega))
  have HT1 : Hid (∀ (W : World) (i : Nat), i < 512 → Calls Try.prog 10 #[.string x, .int .i64 i] W fun e w' => e = .returned (.bool (if i = x0 then t else tk s.data.toList i)) ∧ Below W.heap.size W w') := Lib.hid (fun W i hi => by
    rw [← HM.out.1 i hi, ← tkI_nat]; exact taken_any W (by omega) (by omega) (by omega))
  have HT2 : Hid (∀ (W : World) (i : Nat), i < 512 → Calls Try.prog 10 #[.string y, .int .i64 i] W fun e w' => e = .returned (.bool (tk s.data.toList i)) ∧ Below W.heap.size W w') := Lib.hid (fun W i hi => by
    rw [← HR.out.1 i, ← tkI_nat]; exact taken_any W (by omega) (by omega) (by omega))
  have HR0 : Hid (∀ W, Calls Try.prog 17 #[.string s] W fun e w' => e = .returned (.int .i64 (rootN s.data.toList : Nat)) ∧ Below W.heap.size W w') := Lib.hid (fun W => root_any W (by omega))
  have HR1 : Hid (∀ W, Calls Try.prog 17 #[.string x] W fun e w' => e = .returned (.int .i64 (rootN s.data.toList : Nat)) ∧ Below W.heap.size W w') := Lib.hid (fun W => by
    rw [← HM.out.2.2]; exact root_any W (by omega))
  have HR2 : Hid (∀ W, Calls Try.prog 17 #[.string y] W fun e w' => e = .returned (.int .i64 (x1 : Nat)) ∧ Below W.heap.size W w') := Lib.hid (fun W => by
    have := root_any (s := y) W (by omega)
    rw [HR.out.2.2] at this
    exact this)
  generalize rootN s.data.toList = rn at HR0 HR1
  generalize htk : tk s.data.toList = f at HT0 HT1 HT2
  have d1 : ((s.size : Int) != 200) = false := by rw [hs]; rfl
  have HS := Lib.hid (show s.size = 200 ∧ x.size = 200 ∧ y.size = 200 from ⟨hs, hx200, hy200⟩)
  clear hs hsl HM HR hx0 hx1 h0 h1 hx200 hy200 htk
  go_enter Try.func4, Try.ntmps4
  go_wp2_with fail
  go_quiet (fail)
  have v0 : (wrap64 (a0 : Int)).tmod 512 = (x0 : Int) := by rw [w64 (by omega) (by have := HX.out.2.2.2.2.1; omega), Int.tmod_eq_emod_of_nonneg (by omega)]; exact HX.out.1
  have v1 : (wrap64 (a1 : Int)).tmod 512 = (x1 : Int) := by rw [w64 (by omega) (by have := HX.out.2.2.2.2.2; omega), Int.tmod_eq_emod_of_nonneg (by omega)]; exact HX.out.2.1
  simp only [v0, v1]
  clear v0 v1 d1 c0 c1
  rename_i nq
  have hB := below_drewN hbox.out nq
  clear hbox
  generalize (w.alloc (.cells #[.int .u16 a0, .int .u16 a1, .int .u16 a2] 35)).drewN nq = w1 at hB ⊢
  go_wp2_with fail
  refine (HP1.out w1).mono ?_
  rintro e w2 ⟨rfl, hb⟩
  have hB := hB.trans (hb.mono hB.size)
  clear hb
  go_wp2_with fail
  refine (HP2.out w2).mono ?_
  rintro e w3 ⟨rfl, hb⟩
  have hB := hB.trans (hb.mono hB.size)
  clear hb
  go_wp2_with fail
  go_loopw [11] (fun i wr => ∃ q : Nat, q ≤ 512 ∧ i = .int .i64 q ∧ Below w.heap.size w wr) (fun i _ => 512 - (intOf i).toNat)
  case atStart => exact ⟨0, by omega, rfl, hB⟩
  case round =>
    clear hB
    obtain ⟨q, hq, rfl, hB⟩ := hrel
    by_cases hlt : q < 512
    · have d1 : decide ((q : Int) < 512) = true := by simp; omega
      go_wp2_with fail
      refine (HT1.out wr q hlt).mono ?_
      rintro e y1 ⟨rfl, hb⟩
      have hB := hB.trans (hb.mono hB.size)
      clear hb
      by_cases hn : q = x0
      · subst hn
        rw [if_pos rfl]
        have d2 : ((q : Int) == (q : Int)) = true := by simp
        have d3 : ((q : Int) != (q : Int)) = false := by simp
        have d4 : (f q != f q) = false := by simp
        have HH := Lib.hid (And.intro hq hlt)
        cases t
        all_goals
          go_wp2_with fail
          refine (HT2.out y1 q HH.out.2).mono ?_
          rintro e y2 ⟨rfl, hb⟩
          have hB := hB.trans (hb.mono hB.size)
          clear hb
          go_wp2_with fail
          refine (HT0.out y2 q HH.out.2).mono ?_
          rintro e y3 ⟨rfl, hb⟩
          have hB := hB.trans (hb.mono hB.size)
          clear hb
          go_wp2
          go_roundw
          case rel => exact ⟨q + 1, by omega, by go_num, hB⟩
          case measure => simp [intOf]; omega
      · rw [if_neg hn]
        have d2 : ((q : Int) == (x0 : Int)) = false := beq_eq_false_iff_ne.2 (by omega)
        have d3 : ((q : Int) != (x0 : Int)) = true := bne_iff_ne.2 (by omega)
        have d4 : (f q != f q) = false := by simp
        go_wp2_with fail
        refine (HT0.out y1 q hlt).mono ?_
        rintro e y2 ⟨rfl, hb⟩
        have hB := hB.trans (hb.mono hB.size)
        clear hb
        go_wp2_with fail
        refine (HT2.out y2 q hlt).mono ?_
        rintro e y3 ⟨rfl, hb⟩
        have hB := hB.trans (hb.mono hB.size)
        clear hb
        go_wp2_with fail
        refine (HT0.out y3 q hlt).mono ?_
        rintro e y4 ⟨rfl, hb⟩
        have hB := hB.trans (hb.mono hB.size)
        clear hb
        go_wp2
        go_roundw
        case rel => exact ⟨q + 1, by omega, by go_num, hB⟩
        case measure => simp [intOf]; omega
    · obtain rfl : q = 512 := by omega
      have e1 : ((x.size : Int) == (s.size : Int)) = true := by rw [HS.out.1, HS.out.2.1]; rfl
      have e2 : ((y.size : Int) == (s.size : Int)) = true := by rw [HS.out.1, HS.out.2.2]; rfl
      go_wp2_with fail
      refine (awake_any wr).mono ?_
      rintro e y1 ⟨rfl, hb⟩
      have hB := hB.trans (hb.mono hB.size)
      clear hb
      go_wp2_with fail
      refine (HR1.out y1).mono ?_
      rintro e y2 ⟨rfl, hb⟩
      have hB := hB.trans (hb.mono hB.size)
      clear hb
      go_wp2_with fail
      refine (HR0.out y2).mono ?_
      rintro e y3 ⟨rfl, hb⟩
      have hB := hB.trans (hb.mono hB.size)
      clear hb
      go_wp2_with fail
      refine (HR2.out y3).mono ?_
      rintro e y4 ⟨rfl, hb⟩
      have hB := hB.trans (hb.mono hB.size)
      clear hb
      go_wp2_with fail
      go_ret
      exact ⟨rfl, hB⟩
end
end Go.Proofs.Ytbeojghlldiniaa.Pl
