/- PackReads: whatever the bytes and the list, walked. -/
import Derived.Test.YtkbmnheppjalgaaC0
import Derived.Test.YtkbmnheppjalgaaC1
import Derived.Test.YtkbmnheppjalgaaC2
import Derived.Test.YtkbmnheppjalgaaC3
namespace Go.Proofs.Ytkbmnheppjalgaa
open Go.RowKit Pac

set_option maxRecDepth 20000 in
set_option maxHeartbeats 4000000 in
theorem reads_any (s0 : ByteArray) (A : Option Addr) (n c : Nat) (X Y Z : Nat → Int) (w : World) (hn : n ≤ 9223372036854775807) (h : Trips w A n X Y Z) :
    Calls Try.prog 4 #[.string s0, .slice A n c] w fun e w' => e = .returned (.bool true) ∧ Below w.heap.size w w' := by
  go_enter Try.func4, Try.ntmps4
  by_cases hst : 500 < s0.size ∨ 50 < n
  · by_cases hs : 500 < s0.size
    · go_wp2_with fail
      refine (awake_any _).mono ?_
      rintro e w2 ⟨rfl, hw2⟩
      go_wp2
      go_ret
      exact ⟨rfl, hw2⟩
    · have hm : 50 < n := by omega
      go_wp2_with fail
      refine (awake_any _).mono ?_
      rintro e w2 ⟨rfl, hw2⟩
      go_wp2
      go_ret
      exact ⟨rfl, hw2⟩
  · have hs : ¬ 500 < s0.size := by omega
    have hm : ¬ 50 < n := by omega
    clear hst
    have HT := Lib.hid h
    clear h
    go_wp2
    have hb1 := (Box2.new w (.string s0) (.bool false) 29).alloc (.cells #[.string s0, .bool false] 31)
    have hb2 := Box2.new (w.alloc (.cells #[.string s0, .bool false] 29)) (.string s0) (.bool false) 31
    have hB2 : Below w.heap.size w ((w.alloc (.cells #[.string s0, .bool false] 29)).alloc (.cells #[.string s0, .bool false] 31)) := ((Below.refl w.heap.size w).alloc (Nat.le_refl _) _).alloc (by simp) _
    have hsz2 : (w.alloc (.cells #[.string s0, .bool false] 29)).heap.size = w.heap.size + 1 := by simp
    rw [hsz2] at hb2
    clear hsz2
    have hne : w.heap.size ≠ w.heap.size + 1 := by omega
    have hg : w.heap.size ≤ w.heap.size + 1 := by omega
    generalize w.heap.size + 1 = g2 at hb2 hne hg ⊢
    generalize ((w.alloc (.cells #[.string s0, .bool false] 29)).alloc (.cells #[.string s0, .bool false] 31)) = w2 at hb1 hb2 hB2 ⊢
    have HN := Lib.hid hne
    have HG := Lib.hid hg
    clear hne hg
    go_loopw [7, 8] (fun i _ wr => ∃ (k : Nat) (s : ByteArray) (bad : Bool), i = .int .i64 k ∧ k ≤ n ∧ s.size ≤ 500 ∧ Box2 wr w.heap.size (.string s) (.bool bad) ∧ Box2 wr g2 (.string s) (.bool bad) ∧ Below w.heap.size w wr)
      (fun i _ _ => n - (intOf i).toNat)
    case atStart => exact ⟨0, s0, false, rfl, by omega, by omega, hb1, hb2, hB2⟩
    case round =>
      obtain ⟨k, s, bad, rfl, hk, hsz, hA, hB, hBw⟩ := hrel
      clear hb1 hb2 hB2
      by_cases hlt : k < n
      · obtain ⟨b, off, rfl, hbl, hcells⟩ := HT.out (by omega)
        obtain ⟨x0, x1, x2⟩ := hcells k hlt
        have x0 := (hBw.cell (p := ⟨b, off + k * 3, none⟩) hbl).trans x0
        have x1 := (hBw.cell (p := ⟨b, off + k * 3 + 1, none⟩) hbl).trans x1
        have x2 := (hBw.cell (p := ⟨b, off + k * 3 + 2, none⟩) hbl).trans x2
        generalize X k = x at x0
        generalize Y k = y at x1
        generalize Z k = z at x2
        clear hcells hbl
        go_wp2
        have hx := Box3.new wr (.int .i64 x) (.int .i64 y) (.int .i64 z) 32
        have hA3 := hA.alloc (.cells #[.int .i64 x, .int .i64 y, .int .i64 z] 32)
        have hB3 := hB.alloc (.cells #[.int .i64 x, .int .i64 y, .int .i64 z] 32)
        have hBw3 := hBw.alloc hBw.size (.cells #[.int .i64 x, .int .i64 y, .int .i64 z] 32)
        have nA : wr.heap.size ≠ w.heap.size := Nat.ne_of_gt hA.lt
        have nB : wr.heap.size ≠ g2 := Nat.ne_of_gt hB.lt
        generalize (wr.alloc (.cells #[.int .i64 x, .int .i64 y, .int .i64 z] 32)) = w3 at hA3 hB3 hBw3 hx ⊢
        generalize wr.heap.size = gx at hx nA nB ⊢
        clear x0 x1 x2 hA hB hBw
        by_cases q0 : x = 0
        · subst q0
          have hz1 := numS_size s bad
          refine cond0 (by kernel_rfl) w.heap.size g2 gx y z s bad (numS s bad) (numBad s bad) (doneB (numS s bad) (numBad s bad)) (numR s bad) w3 HN.out nA nB hx hA3 hB3 (fun W h => boxNum_any w.heap.size s bad W h (by omega)) (fun W h => refBoxNum_any g2 s bad W h (by omega)) (fun W h => boxDone_any w.heap.size (numS s bad) (numBad s bad) W h) (fun W h => refDone_any g2 (numS s bad) (numBad s bad) W h) _ _ _ _ _ _ _ _ _ _ _ _ _ _ _ _ _ _ _ _ _ _ _ _ _ _ _ _ _ _ _ _ _ _ _ _ _ _ _ _ _ _ _ _ _ _ _ _ _ _ _ _ _ _ _ _ _ _ _ _ _ _ _ _ _ _ _ _ _ _ _ _ _ _ _ _ _ _ _ _ _ _ _ _ _ _ _ _ _ _ _ _ _ _ _ _ _ _ _ _ _ _ _ _ _ _ _ _ _ _ _ _ _ _ ?_
          intro _ _ _ _ _ _ _ _ _ _ _ _ _ _ _ _ _ _ _ _ _ _ _ _ _ _ _ _ _ _ _ _ _ _ _ _ _ _ _ _ _ _ _ _ _ _ _ _ _ _ _ _ _ _ _ _ _ _ _ _ _ _ _ _ _ _ _ _ _ _ _ _ _ _ _ _ _ _ _ _ _ w5 hA5 hB5 hW5
          have hBw5 := hBw3.trans (hW5 w.heap.size hBw3.size (Nat.le_refl _) HG.out)
          generalize numBad s bad = d1 at hA5 hB5
          generalize numS s bad = s1 at hA5 hB5 hz1
          clear hx hA3 hB3 hBw3 hW5 nA nB
          go_wp2
          go_roundw
          case rel => exact ⟨k + 1, s1, d1, by go_num, by omega, by omega, hA5, hB5, hBw5⟩
          case measure => simp [intOf]; omega
        · by_cases q1 : x = 1
          · subst q1
            have hz1 := numS_size s bad
            refine cond1 (by kernel_rfl) w.heap.size g2 gx y z s bad (numS s bad) (btwBad s bad y z) (doneB (numS s bad) (btwBad s bad y z)) (btwR s bad y z) w3 HN.out nA nB hx hA3 hB3 (fun W h => boxBetween_any w.heap.size s bad y z W h (by omega)) (fun W h => refBetween_any g2 s bad y z W h (by omega)) (fun W h => boxDone_any w.heap.size (numS s bad) (btwBad s bad y z) W h) (fun W h => refDone_any g2 (numS s bad) (btwBad s bad y z) W h) _ _ _ _ _ _ _ _ _ _ _ _ _ _ _ _ _ _ _ _ _ _ _ _ _ _ _ _ _ _ _ _ _ _ _ _ _ _ _ _ _ _ _ _ _ _ _ _ _ _ _ _ _ _ _ _ _ _ _ _ _ _ _ _ _ _ _ _ _ _ _ _ _ _ _ _ _ _ _ _ _ _ _ _ _ _ _ _ _ _ _ _ _ _ _ _ _ _ _ _ _ _ _ _ _ _ _ _ _ _ _ _ _ _ ?_
            intro _ _ _ _ _ _ _ _ _ _ _ _ _ _ _ _ _ _ _ _ _ _ _ _ _ _ _ _ _ _ _ _ _ _ _ _ _ _ _ _ _ _ _ _ _ _ _ _ _ _ _ _ _ _ _ _ _ _ _ _ _ _ _ _ _ _ _ _ _ _ _ _ _ _ _ _ _ _ _ _ _ w5 hA5 hB5 hW5
            have hBw5 := hBw3.trans (hW5 w.heap.size hBw3.size (Nat.le_refl _) HG.out)
            generalize btwBad s bad y z = d1 at hA5 hB5
            generalize numS s bad = s1 at hA5 hB5 hz1
            clear hx hA3 hB3 hBw3 hW5 nA nB
            go_wp2
            go_roundw
            case rel => exact ⟨k + 1, s1, d1, by go_num, by omega, by omega, hA5, hB5, hBw5⟩
            case measure => simp [intOf]; omega
          · by_cases q2 : x = 2
            · subst q2
              have hz1 := txtS_size s bad y
              refine cond2 (by kernel_rfl) w.heap.size g2 gx y z s bad (txtS s bad y) (txtBad s bad y) (doneB (txtS s bad y) (txtBad s bad y)) (txtR s bad y) w3 HN.out nA nB hx hA3 hB3 (fun W h => boxText_any w.heap.size s bad y W h (by omega)) (fun W h => refBoxText_any g2 s bad y W h (by omega)) (fun W h => boxDone_any w.heap.size (txtS s bad y) (txtBad s bad y) W h) (fun W h => refDone_any g2 (txtS s bad y) (txtBad s bad y) W h) _ _ _ _ _ _ _ _ _ _ _ _ _ _ _ _ _ _ _ _ _ _ _ _ _ _ _ _ _ _ _ _ _ _ _ _ _ _ _ _ _ _ _ _ _ _ _ _ _ _ _ _ _ _ _ _ _ _ _ _ _ _ _ _ _ _ _ _ _ _ _ _ _ _ _ _ _ _ _ _ _ _ _ _ _ _ _ _ _ _ _ _ _ _ _ _ _ _ _ _ _ _ _ _ _ _ _ _ _ _ _ _ _ _ ?_
              intro _ _ _ _ _ _ _ _ _ _ _ _ _ _ _ _ _ _ _ _ _ _ _ _ _ _ _ _ _ _ _ _ _ _ _ _ _ _ _ _ _ _ _ _ _ _ _ _ _ _ _ _ _ _ _ _ _ _ _ _ _ _ _ _ _ _ _ _ _ _ _ _ _ _ _ _ _ _ _ _ _ w5 hA5 hB5 hW5
              have hBw5 := hBw3.trans (hW5 w.heap.size hBw3.size (Nat.le_refl _) HG.out)
              generalize txtBad s bad y = d1 at hA5 hB5
              generalize txtS s bad y = s1 at hA5 hB5 hz1
              clear hx hA3 hB3 hBw3 hW5 nA nB
              go_wp2
              go_roundw
              case rel => exact ⟨k + 1, s1, d1, by go_num, by omega, by omega, hA5, hB5, hBw5⟩
              case measure => simp [intOf]; omega
            · have e0 : (x == 0) = false := beq_eq_false_iff_ne.2 q0
              have e1 : (x == 1) = false := beq_eq_false_iff_ne.2 q1
              have e2 : (x == 2) = false := beq_eq_false_iff_ne.2 q2
              have hz1 : s.size ≤ s.size := Nat.le_refl _
              refine cond3 (by kernel_rfl) w.heap.size g2 gx x y z s bad (s) (bad) (doneB (s) (bad)) w3 HN.out nA nB hx hA3 hB3 e0 e1 e2 rfl rfl (fun W h => boxDone_any w.heap.size (s) (bad) W h) (fun W h => refDone_any g2 (s) (bad) W h) _ _ _ _ _ _ _ _ _ _ _ _ _ _ _ _ _ _ _ _ _ _ _ _ _ _ _ _ _ _ _ _ _ _ _ _ _ _ _ _ _ _ _ _ _ _ _ _ _ _ _ _ _ _ _ _ _ _ _ _ _ _ _ _ _ _ _ _ _ _ _ _ _ _ _ _ _ _ _ _ _ _ _ _ _ _ _ _ _ _ _ _ _ _ _ _ _ _ _ _ _ _ _ _ _ _ _ _ _ _ _ _ _ _ ?_
              intro _ _ _ _ _ _ _ _ _ _ _ _ _ _ _ _ _ _ _ _ _ _ _ _ _ _ _ _ _ _ _ _ _ _ _ _ _ _ _ _ _ _ _ _ _ _ _ _ _ _ _ _ _ _ _ _ _ _ _ _ _ _ _ _ _ _ _ _ _ _ _ _ _ _ _ _ _ _ _ _ _ w5 hA5 hB5 hW5
              have hBw5 := hBw3.trans (hW5 w.heap.size hBw3.size (Nat.le_refl _) HG.out)
              have _h0 := hz1
              clear hx hA3 hB3 hBw3 hW5 nA nB
              go_wp2
              go_roundw
              case rel => exact ⟨k + 1, s, bad, by go_num, by omega, by omega, hA5, hB5, hBw5⟩
              case measure => simp [intOf]; omega
      · go_wp2_with fail
        refine (awake_any _).mono ?_
        rintro e w5 ⟨rfl, hw5⟩
        have hB5 := hBw.trans (hw5.mono hBw.size)
        go_wp2
        go_ret
        exact ⟨rfl, hB5⟩
end Go.Proofs.Ytkbmnheppjalgaa
