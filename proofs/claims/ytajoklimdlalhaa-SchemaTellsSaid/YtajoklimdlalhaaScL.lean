/- A schema is read, and judged: the program's, walked. -/
import Derived.Test.YtajoklimdlalhaaScK
namespace Go.Proofs.Ytajoklimdlalhaa.Sc
open Go.RowKit Pac

theorem readS_bad (s : ByteArray) : readS s true = (⟨#[]⟩, [], s, true) := by
  have h2 : (seenP s true).2.2 = (s, true) := by
    show (readP _ (numS (txtS s true 20) (txtBad s true 20)) (btwBad (txtS s true 20) (txtBad s true 20) 1 8)).2 = _
    rw [txtBad_bad, txtS_bad]
    have e : btwBad s true 1 8 = true := by unfold btwBad numBad; simp
    rw [e, readP_bad]
    rfl
  rw [readS_seenP, h2]
  rfl
/-- What is seen is small enough. -/
theorem seenP_facts (s : ByteArray) (d : Bool) (hs : s.size ≤ 9223372036854775807) : (seenP s d).1.size ≤ 9223372036854775807 ∧ (seenP s d).2.1.length ≤ 8 ∧ ∀ (j : Nat) (c : C), (seenP s d).2.1[j]? = some c → c.Ok := by
  have h1 := btwR_high (txtS s d 20) (txtBad s d 20) 1 8 (by omega)
  refine ⟨Nat.le_trans (txtR_le s d 20) hs, ?_, readP_ok _ _ _ (Nat.le_trans (numS_size _ _) (Nat.le_trans (txtS_size s d 20) hs))⟩
  show (readP _ _ _).1.length ≤ 8
  rw [readP_len]
  omega

set_option maxRecDepth 20000 in
set_option maxHeartbeats 8000000 in
theorem read_any (g : Nat) (s : ByteArray) (d : Bool) (w : World) (hb : IsBox w g s d) (hs : s.size ≤ 9223372036854775807) :
    Calls Try.prog 14 #[.pointer (some ⟨g, 0, none⟩)] w (SchPost g w.heap.size (readS s d).1 (readS s d).2.1 (readS s d).2.2.1 (readS s d).2.2.2 w) := by
  have hlt := hb.lt
  have hbA := hb.alloc (.cells #[.string ⟨#[]⟩, .slice none 0 0] 24)
  have hrA := Box2.new w (.string ⟨#[]⟩) (.slice none 0 0) 24
  have hBA := bar_alloc (Bar.refl g w) (.cells #[.string ⟨#[]⟩, .slice none 0 0] 24)
  have c1 := hbA.c1
  have ngr : g ≠ w.heap.size := by omega
  cases d with
  | true =>
    rw [readS_bad]
    have r0 := hrA.c0
    have r1 := hrA.c1
    have rf := hrA.f
    go_enter Try.func14, Try.ntmps14
    go_wp2
    refine bodyPost_ret (results_sch rfl _ _ w.heap.size _ _ rfl r0 r1) rfl ?_
    exact ⟨_, rfl, ⟨none, 0, rfl, Nat.le_refl _, HasCols.nil _ _ _⟩, hbA, hBA⟩
  | false =>
    have hc1 := schema_any g s false (w.alloc (.cells #[.string ⟨#[]⟩, .slice none 0 0] 24)) hbA hs
    obtain ⟨hnz, hll, hok⟩ := seenP_facts s false hs
    have hRS := readS_seenP s false
    generalize seenP s false = Z at hc1 hnz hll hok hRS
    obtain ⟨nm, l, s2, d2⟩ := Z
    simp only at hc1 hnz hll hok hRS
    generalize readS s false = J at hRS ⊢
    have HOK := Lib.hid hok
    have HRS := Lib.hid hRS
    clear hok hRS
    go_enter Try.func14, Try.ntmps14
    go_wp2_with fail
    refine hc1.mono ?_
    rintro e w1 ⟨v, rfl, ⟨A, cp, rfl, hcp, hC1⟩, hb1, hB1⟩
    have hr1 := hrA.bar hB1 (Ne.symm ngr)
    have hBB := hBA.trans hB1
    have hlo : w.heap.size + 1 ≤ (w.alloc (.cells #[.string ⟨#[]⟩, .slice none 0 0] 24)).heap.size := by simp
    have hC1 := hC1.lower hlo
    have lv : w.heap.size < w1.heap.size := hr1.lt
    have gv : g < w1.heap.size := hb1.lt
    clear hc1 hbA hrA hBA c1 hB1 hlo
    have hx2 := Box2.new w1 (.string nm) (.slice A l.length cp) 24
    have hb2 := hb1.alloc (.cells #[.string nm, .slice A l.length cp] 24)
    have hr2 := hr1.alloc (.cells #[.string nm, .slice A l.length cp] 24)
    have hC2 := hC1.below ((Below.refl w1.heap.size w1).alloc (Nat.le_refl _) (.cells #[.string nm, .slice A l.length cp] 24)) (Nat.le_refl _)
    have hB2 := bar_alloc hBB (.cells #[.string nm, .slice A l.length cp] 24)
    clear hb1 hr1 hC1 hBB
    have HX := Lib.hid (And.intro hC2 (And.intro hB2 (And.intro lv gv)))
    clear hC2 hB2 lv gv
    have x0 := hx2.c0
    have x1 := hx2.c1
    have b1 := hb2.c1
    have bf := hb2.f
    have r0 := hr2.c0
    have r1 := hr2.c1
    have rf := hr2.f
    cases d2 with
    | true =>
      have hJ : J = (⟨#[]⟩, [], s2, true) := HRS.out
      subst hJ
      go_wp2
      obtain ⟨hC2, hB2, lv, gv⟩ := HX.out
      have hrZ := ((box2_setOther hr2 (p := ⟨g, 1, none⟩) ngr (.bool true)).set0 (.string ⟨#[]⟩)).set1 (.slice none 0 0)
      have hbZ := box2_setOther (box2_setOther (hb2.set1 (.bool true)) (p := ⟨w.heap.size, 0, none⟩) (Ne.symm ngr) (.string ⟨#[]⟩)) (p := ⟨w.heap.size, 1, none⟩) (Ne.symm ngr) (.slice none 0 0)
      have hBZ := bar_set (bar_set (hB2.setCell 1 (.bool true)) (p := ⟨w.heap.size, 0, none⟩) (Nat.le_refl _) (.string ⟨#[]⟩)) (p := ⟨w.heap.size, 1, none⟩) (Nat.le_refl _) (.slice none 0 0)
      refine bodyPost_ret (results_sch rfl _ _ w.heap.size _ _ rfl hrZ.c0 hrZ.c1) rfl ?_
      exact ⟨_, rfl, ⟨none, 0, rfl, Nat.le_refl _, HasCols.nil _ _ _⟩, hbZ, hBZ⟩
    | false =>
      go_wp2_with fail
      obtain ⟨hC2, hB2, lv, gv⟩ := HX.out
      refine (right_any A cp nm l (w.heap.size + 1) _ hC2 hcp hnz (by omega) HOK.out).mono ?_
      rintro e y ⟨rfl, hy⟩
      have hx3 := hx2.below hy hx2.lt
      have hb3 := hb2.below hy hb2.lt
      have hr3 := hr2.below hy hr2.lt
      have hC3 := hC2.below hy (Nat.le_refl _)
      have hB3 := hB2.trans (Bar.of_below g hy (Nat.le_refl _))
      clear hx2 hb2 hr2 hC2 hB2 hy HX x0 x1 b1 bf r0 r1 rf
      have x0 := hx3.c0
      have x1 := hx3.c1
      have b1 := hb3.c1
      have bf := hb3.f
      have r0 := hr3.c0
      have r1 := hr3.c1
      have rf := hr3.f
      have HC3 := Lib.hid (And.intro hC3 (And.intro hB3 (And.intro lv gv)))
      clear hC3 hB3 lv gv
      have hR := HRS.out
      generalize rightS nm l = r at hR ⊢
      clear HRS
      cases r with
      | false =>
        have hJ : J = (⟨#[]⟩, [], s2, true) := hR
        subst hJ
        go_wp2
        obtain ⟨hC3, hB3, lv, gv⟩ := HC3.out
        have hrZ := ((box2_setOther hr3 (p := ⟨g, 1, none⟩) ngr (.bool true)).set0 (.string ⟨#[]⟩)).set1 (.slice none 0 0)
        have hbZ := box2_setOther (box2_setOther (hb3.set1 (.bool true)) (p := ⟨w.heap.size, 0, none⟩) (Ne.symm ngr) (.string ⟨#[]⟩)) (p := ⟨w.heap.size, 1, none⟩) (Ne.symm ngr) (.slice none 0 0)
        have hBZ := bar_set (bar_set (hB3.setCell 1 (.bool true)) (p := ⟨w.heap.size, 0, none⟩) (Nat.le_refl _) (.string ⟨#[]⟩)) (p := ⟨w.heap.size, 1, none⟩) (Nat.le_refl _) (.slice none 0 0)
        refine bodyPost_ret (results_sch rfl _ _ w.heap.size _ _ rfl hrZ.c0 hrZ.c1) rfl ?_
        exact ⟨_, rfl, ⟨none, 0, rfl, Nat.le_refl _, HasCols.nil _ _ _⟩, hbZ, hBZ⟩
      | true =>
        have hJ : J = (nm, l, s2, false) := hR
        subst hJ
        have gv := HC3.out.2.2.2
        have ngv : g ≠ w1.heap.size := Nat.ne_of_lt gv
        clear gv hR
        go_wp2
        obtain ⟨hC3, hB3, lv, gv⟩ := HC3.out
        have hrZ := ((box2_setOther hr3 (p := ⟨g, 1, none⟩) ngr (.bool false)).set0 (.string nm)).set1 (.slice A l.length cp)
        have hbZ := box2_setOther (box2_setOther (hb3.set1 (.bool false)) (p := ⟨w.heap.size, 0, none⟩) (Ne.symm ngr) (.string nm)) (p := ⟨w.heap.size, 1, none⟩) (Ne.symm ngr) (.slice A l.length cp)
        have hBZ := bar_set (bar_set (hB3.setCell 1 (.bool false)) (p := ⟨w.heap.size, 0, none⟩) (Nat.le_refl _) (.string nm)) (p := ⟨w.heap.size, 1, none⟩) (Nat.le_refl _) (.slice A l.length cp)
        have hCZ := ((hC3.bar ((Bar.refl g _).setCell 1 (.bool false)) (Or.inl (by omega))).bar ((Bar.refl w.heap.size _).setCell 0 (.string nm)) (Or.inl (Nat.lt_succ_self _))).bar ((Bar.refl w.heap.size _).setCell 1 (.slice A l.length cp)) (Or.inl (Nat.lt_succ_self _))
        refine bodyPost_ret (results_sch rfl _ _ w.heap.size _ _ rfl hrZ.c0 hrZ.c1) rfl ?_
        exact ⟨_, rfl, ⟨A, cp, rfl, hcp, hCZ.lower (Nat.le_succ _)⟩, hbZ, hBZ⟩
end Go.Proofs.Ytajoklimdlalhaa.Sc
