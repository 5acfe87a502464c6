/- The value that bytes begin with: the program's, walked. -/
import Derived.Test.YtnhejeppjhjnpaaVaD
import Derived.Test.YtnhejeppjhjnpaaVaB
import Derived.Test.YtnhejeppjhjnpaaVaE
namespace Go.Proofs.Ytnhejeppjhjnpaa.Va
open Go.RowKit Pac

/-- One byte off a box. -/
def byR (s : ByteArray) (bad : Bool) : Int := if bad = true then 0 else if h : 0 < s.size then (s[0].toNat : Int) else 0
def byS (s : ByteArray) (bad : Bool) : ByteArray := if bad = true then s else if 0 < s.size then s.extract 1 s.size else s
def byBad (s : ByteArray) (bad : Bool) : Bool := if bad = true then true else if 0 < s.size then false else true

set_option maxHeartbeats 800000 in
theorem byte_any (g : Nat) (s : ByteArray) (bad : Bool) (w : World) (hb : IsBox w g s bad) (hs : s.size ≤ 9223372036854775807) :
    Calls Try.prog 25 #[.pointer (some ⟨g, 0, none⟩)] w fun e w' => e = .returned (.int .i64 (byR s bad)) ∧ IsBox w' g (byS s bad) (byBad s bad) ∧ Bar g w w' := by
  have c0 := hb.c0
  have c1 := hb.c1
  have f := hb.f
  cases bad with
  | true =>
    show Calls Try.prog 25 #[.pointer (some ⟨g, 0, none⟩)] w fun e w' => e = .returned (.int .i64 0) ∧ IsBox w' g s true ∧ Bar g w w'
    go_enter Try.func25, Try.ntmps25
    go_wp2
    go_ret
    exact ⟨rfl, hb, Bar.refl _ _⟩
  | false =>
    by_cases h0 : 0 < s.size
    · have hR : byR s false = (s[0].toNat : Int) := by unfold byR; rw [dif_pos h0]; rfl
      have hS : byS s false = s.extract 1 s.size := by unfold byS; rw [if_pos h0]; rfl
      have hD : byBad s false = false := by unfold byBad; rw [if_pos h0]; rfl
      rw [hR, hS, hD]
      clear hR hS hD
      have hne := not_empty h0
      have i1 : (1 : Int) ≤ (s.size : Int) := by omega
      have hc8 : s[0].toNat < 256 := s[0].toNat_lt
      have e1 : wrap64 (s[0].toNat : Int) = (s[0].toNat : Int) := by unfold wrap64; omega
      go_enter Try.func25, Try.ntmps25
      go_wp2
      go_ret
      exact ⟨rfl, hb.set0 _, (Bar.refl g w).setCell 0 _⟩
    · have hR : byR s false = 0 := by unfold byR; rw [dif_neg h0]; rfl
      have hS : byS s false = s := by unfold byS; rw [if_neg h0]; rfl
      have hD : byBad s false = true := by unfold byBad; rw [if_neg h0]; rfl
      rw [hR, hS, hD]
      clear hR hS hD
      have hne := is_empty h0
      go_enter Try.func25, Try.ntmps25
      go_wp2
      go_ret
      exact ⟨rfl, hb.set1 _, (Bar.refl g w).setCell 1 _⟩

/-- What the walk ends in. -/
def fin (a : V) (s : ByteArray) (d : Bool) : V × ByteArray × Bool := if d = true then (⟨0, 0, ⟨#[]⟩⟩, s, true) else (a, s, false)
theorem none_empty : (⟨#[]⟩ : ByteArray).toList.isEmpty = true := by rw [ByteArray.toList_eq]; rfl
theorem judged_of {a : V} {s : ByteArray} {d : Bool} (h : d = false → rightV a = true) : judged (a, s, d) = fin a s d := by
  cases d with
  | true => rfl
  | false =>
    unfold judged fin
    rw [if_neg (by simp [h rfl])]
    rfl
theorem read_bad (s : ByteArray) : readV s true = fin ⟨0, 0, ⟨#[]⟩⟩ s true := rfl
theorem read_none {s : ByteArray} (h : ¬ 0 < s.size) : readV s false = fin ⟨0, 0, ⟨#[]⟩⟩ s true := by unfold readV; rw [dif_neg h]; rfl
theorem seen_0 (s : ByteArray) : judged (seen 0 s) = fin ⟨0, 0, ⟨#[]⟩⟩ s false := judged_of fun _ => by unfold rightV; simp [none_empty]
theorem seen_1 (s : ByteArray) : judged (seen 1 s) = fin ⟨1, numR s false, ⟨#[]⟩⟩ (numS s false) (numBad s false) := judged_of fun _ => by unfold rightV; simp [none_empty]
theorem seen_2 (s : ByteArray) : judged (seen 2 s) = fin ⟨2, btwR s false 0 1, ⟨#[]⟩⟩ (numS s false) (btwBad s false 0 1) := by
  show judged (⟨2, numR s false, ⟨#[]⟩⟩, numS s false, numBad s false) = _
  unfold btwR btwBad
  generalize numR s false = n
  generalize numS s false = s2
  cases numBad s false with
  | true => rfl
  | false =>
    by_cases q0 : n = 0
    · subst q0; exact judged_of fun _ => by unfold rightV; simp [none_empty]
    · by_cases q1 : n = 1
      · subst q1; exact judged_of fun _ => by unfold rightV; simp [none_empty]
      · have e : (false || decide (n < 0) || decide (1 < n)) = true := by
          rw [Bool.false_or, Bool.or_eq_true, decide_eq_true_eq, decide_eq_true_eq]
          omega
        rw [e]
        unfold judged fin
        rw [if_pos (by unfold rightV; simp [q0, q1])]
        rfl
theorem txtR_size {s : ByteArray} {d : Bool} {most : Int} (h : txtBad s d most = false) : ((txtR s d most).size : Int) ≤ most := by
  have h' := h
  unfold txtBad at h'
  simp only [Bool.or_eq_false_iff, decide_eq_false_iff_not] at h'
  have hp := btwR_pos s d 0 most (Int.le_refl _)
  have hb : btwR s d 0 most ≤ most := by
    have e := h'.1
    unfold btwR
    rw [if_neg (by simp [e])]
    unfold btwBad at e
    simp at e
    omega
  unfold txtR
  rw [if_neg (by simp [h]), ByteArray.size_extract]
  omega
theorem seen_3 (s : ByteArray) : judged (seen 3 s) = fin ⟨3, 0, txtR s false 60⟩ (txtS s false 60) (txtBad s false 60) := judged_of fun h => by
  have := txtR_size (s := s) (d := false) (most := 60) h
  unfold rightV
  simp [this]
theorem seen_else {c : Nat} (s : ByteArray) (h : 3 < c) : judged (seen c s) = fin ⟨c, 0, ⟨#[]⟩⟩ s true := by
  have hS : seen c s = (⟨c, 0, ⟨#[]⟩⟩, s, false) := by unfold seen; rw [if_neg (by omega), if_neg (by omega)]
  rw [hS]
  unfold judged fin
  rw [if_pos (by unfold rightV; rw [if_neg (by simp; omega), if_neg (by simp; omega), if_neg (by simp; omega), if_neg (by simp; omega)]; rfl)]
  rfl

set_option maxRecDepth 20000 in
set_option maxHeartbeats 6400000 in
theorem read_any (g : Nat) (s : ByteArray) (bad : Bool) (w : World) (hb : IsBox w g s bad) (hs : s.size ≤ 9223372036854775807) :
    Calls Try.prog 15 #[.pointer (some ⟨g, 0, none⟩)] w fun e w' => e = .returned (readV s bad).1.v ∧ IsBox w' g (readV s bad).2.1 (readV s bad).2.2 ∧ Bar g w w' := by
  have hlt := hb.lt
  have hz1 : (byS s bad).size ≤ 9223372036854775807 := by
    unfold byS
    split
    · exact hs
    · split
      · rw [ByteArray.size_extract]; omega
      · exact hs
  have hc1 := byte_any g s bad (w.alloc (.cells #[.int .i64 0, .int .i64 0, .string ⟨#[]⟩] 23)) (hb.alloc _) hs
  have hc2 := fun (W : World) (h : IsBox W g (byS s bad) false) => boxNum_any g (byS s bad) false W h hz1
  have hc3 := fun (W : World) (h : IsBox W g (byS s bad) false) => boxBetween_any g (byS s bad) false 0 1 W h hz1
  have hc4 := fun (W : World) (h : IsBox W g (byS s bad) false) => boxText_any g (byS s bad) false 60 W h hz1
  have hJ : (byBad s bad = true ∧ readV s bad = fin ⟨0, 0, ⟨#[]⟩⟩ (byS s bad) true) ∨ (byBad s bad = false ∧ ∃ c : Nat, byR s bad = (c : Int) ∧ readV s bad = judged (seen c (byS s bad))) := by
    cases bad with
    | true => exact Or.inl ⟨rfl, read_bad s⟩
    | false =>
      by_cases h0 : 0 < s.size
      · refine Or.inr ⟨?_, s[0].toNat, ?_, ?_⟩
        · unfold byBad; rw [if_pos h0]; rfl
        · unfold byR; rw [dif_pos h0]; rfl
        · unfold readV byS; rw [dif_pos h0, if_pos h0]; rfl
      · refine Or.inl ⟨?_, ?_⟩
        · unfold byBad; rw [if_neg h0]; rfl
        · rw [read_none h0]; unfold byS; rw [if_neg h0]; rfl
  clear hz1
  generalize readV s bad = J at hJ ⊢
  generalize byS s bad = s1 at hc1 hc2 hc3 hc4 hJ ⊢
  generalize byR s bad = k at hc1 hJ ⊢
  generalize byBad s bad = bad1 at hc1 hJ ⊢
  have HJ := Lib.hid hJ
  clear hJ
  have hr0 := Box3.new w (.int .i64 0) (.int .i64 0) (.string ⟨#[]⟩) 23
  have hB0 := bar_alloc (Bar.refl g w) (.cells #[.int .i64 0, .int .i64 0, .string ⟨#[]⟩] 23)
  have gr : g ≠ w.heap.size := by omega
  go_enter Try.func15, Try.ntmps15
  go_wp2_with fail
  refine hc1.mono ?_
  rintro e w1 ⟨rfl, hb1, hB1⟩
  clear hc1
  have hr1 := hr0.bar hB1 (Ne.symm gr)
  have hB1 := hB0.trans hB1
  have gv : g ≠ w1.heap.size := Nat.ne_of_lt hb1.lt
  have rv : w.heap.size ≠ w1.heap.size := Nat.ne_of_lt hr1.lt
  have lv : w.heap.size ≤ w1.heap.size := hB1.size
  have lr := Nat.le_refl w.heap.size
  have hb2 := hb1.alloc (.cells #[.int .i64 k, .int .i64 0, .string ⟨#[]⟩] 23)
  have hr2 := hr1.alloc (.cells #[.int .i64 k, .int .i64 0, .string ⟨#[]⟩] 23)
  have hv2 := Box3.new w1 (.int .i64 k) (.int .i64 0) (.string ⟨#[]⟩) 23
  have hB2 := bar_alloc hB1 (.cells #[.int .i64 k, .int .i64 0, .string ⟨#[]⟩] 23)
  have HG := Lib.hid (And.intro gr (And.intro gv (And.intro rv (And.intro lv lr))))
  clear hb1 hr1 hB1 hr0 hB0 gr gv rv lv lr
  have b1 := hb2.c1
  have bf := hb2.f
  have v0 := hv2.c0
  have r0 := hr2.c0
  have r1 := hr2.c1
  have r2 := hr2.c2
  have rf := hr2.f
  rcases HJ.out with ⟨rfl, hJ⟩ | ⟨rfl, c, hk, hJ⟩
  · clear hc2 hc3 hc4 v0
    have HJ2 := Lib.hid hJ
    clear hJ
    go_wp2
    obtain ⟨gr, gv, rv, lv, lr⟩ := HG.out
    have hrZ := ((hr2.set0 (.int .i64 0)).set1 (.int .i64 0)).set2 (.string ⟨#[]⟩)
    have hbZ := box2_setOther (box2_setOther (box2_setOther hb2 (p := ⟨w.heap.size, 0, none⟩) (Ne.symm gr) (.int .i64 0)) (p := ⟨w.heap.size, 1, none⟩) (Ne.symm gr) (.int .i64 0)) (p := ⟨w.heap.size, 2, none⟩) (Ne.symm gr) (.string ⟨#[]⟩)
    have hBZ := bar_set (bar_set (bar_set hB2 (p := ⟨w.heap.size, 0, none⟩) lr (.int .i64 0)) (p := ⟨w.heap.size, 1, none⟩) lr (.int .i64 0)) (p := ⟨w.heap.size, 2, none⟩) lr (.string ⟨#[]⟩)
    refine bodyPost_ret (results_three rfl _ _ w.heap.size (.int .i64 0) (.int .i64 0) (.string ⟨#[]⟩) rfl hrZ.c0 hrZ.c1 hrZ.c2) rfl ?_
    rw [HJ2.out]
    exact ⟨rfl, hbZ, hBZ⟩
  · subst hk
    obtain ⟨gr, gv, rv, lv, lr⟩ := HG.out
    have v1 := hv2.c1
    have v2 := hv2.c2
    have vf := hv2.f
    by_cases q0 : c = 0
    · subst q0
      have v0 : (w1.alloc (.cells #[.int .i64 0, .int .i64 0, .string ⟨#[]⟩] 23)).cell? ⟨w1.heap.size, 0, none⟩ = some (.int .i64 0) := v0
      have b1 : (w1.alloc (.cells #[.int .i64 0, .int .i64 0, .string ⟨#[]⟩] 23)).cell? ⟨g, 1, none⟩ = some (.bool false) := b1
      have bf : ∀ i, (w1.alloc (.cells #[.int .i64 0, .int .i64 0, .string ⟨#[]⟩] 23)).frozen? ⟨g, i, none⟩ = false := bf
      have v1 : (w1.alloc (.cells #[.int .i64 0, .int .i64 0, .string ⟨#[]⟩] 23)).cell? ⟨w1.heap.size, 1, none⟩ = some (.int .i64 0) := v1
      have v2 : (w1.alloc (.cells #[.int .i64 0, .int .i64 0, .string ⟨#[]⟩] 23)).cell? ⟨w1.heap.size, 2, none⟩ = some (.string ⟨#[]⟩) := v2
      have vf : ∀ i, (w1.alloc (.cells #[.int .i64 0, .int .i64 0, .string ⟨#[]⟩] 23)).frozen? ⟨w1.heap.size, i, none⟩ = false := vf
      have r0 : (w1.alloc (.cells #[.int .i64 0, .int .i64 0, .string ⟨#[]⟩] 23)).cell? ⟨w.heap.size, 0, none⟩ = some (.int .i64 0) := r0
      have r1 : (w1.alloc (.cells #[.int .i64 0, .int .i64 0, .string ⟨#[]⟩] 23)).cell? ⟨w.heap.size, 1, none⟩ = some (.int .i64 0) := r1
      have r2 : (w1.alloc (.cells #[.int .i64 0, .int .i64 0, .string ⟨#[]⟩] 23)).cell? ⟨w.heap.size, 2, none⟩ = some (.string ⟨#[]⟩) := r2
      have rf : ∀ i, (w1.alloc (.cells #[.int .i64 0, .int .i64 0, .string ⟨#[]⟩] 23)).frozen? ⟨w.heap.size, i, none⟩ = false := rf
      have hb2 : IsBox (w1.alloc (.cells #[.int .i64 0, .int .i64 0, .string ⟨#[]⟩] 23)) g s1 false := hb2
      have hr2 : Box3 (w1.alloc (.cells #[.int .i64 0, .int .i64 0, .string ⟨#[]⟩] 23)) w.heap.size (.int .i64 0) (.int .i64 0) (.string ⟨#[]⟩) := hr2
      have hB2 : Bar g w (w1.alloc (.cells #[.int .i64 0, .int .i64 0, .string ⟨#[]⟩] 23)) := hB2
      have HJ2 := Lib.hid (hJ.trans (seen_0 s1))
      clear hJ hc2 hc3 hc4
      go_wp2
      have hrZ := (((hr2).set0 (.int .i64 0)).set1 (.int .i64 0)).set2 (.string ⟨#[]⟩)
      have hbZ := box2_setOther (box2_setOther (box2_setOther (hb2) (p := ⟨w.heap.size, 0, none⟩) (Ne.symm gr) (.int .i64 0)) (p := ⟨w.heap.size, 1, none⟩) (Ne.symm gr) (.int .i64 0)) (p := ⟨w.heap.size, 2, none⟩) (Ne.symm gr) (.string ⟨#[]⟩)
      have hBZ := bar_set (bar_set (bar_set (hB2) (p := ⟨w.heap.size, 0, none⟩) lr (.int .i64 0)) (p := ⟨w.heap.size, 1, none⟩) lr (.int .i64 0)) (p := ⟨w.heap.size, 2, none⟩) lr (.string ⟨#[]⟩)
      refine bodyPost_ret (results_three rfl _ _ w.heap.size (.int .i64 0) (.int .i64 0) (.string ⟨#[]⟩) rfl hrZ.c0 hrZ.c1 hrZ.c2) rfl ?_
      rw [HJ2.out]
      exact ⟨rfl, hbZ, hBZ⟩
    · by_cases q1 : c = 1
      · subst q1
        have b1 : (w1.alloc (.cells #[.int .i64 1, .int .i64 0, .string ⟨#[]⟩] 23)).cell? ⟨g, 1, none⟩ = some (.bool false) := b1
        have v0 : (w1.alloc (.cells #[.int .i64 1, .int .i64 0, .string ⟨#[]⟩] 23)).cell? ⟨w1.heap.size, 0, none⟩ = some (.int .i64 1) := v0
        have hb2 : IsBox (w1.alloc (.cells #[.int .i64 1, .int .i64 0, .string ⟨#[]⟩] 23)) g s1 false := hb2
        have hr2 : Box3 (w1.alloc (.cells #[.int .i64 1, .int .i64 0, .string ⟨#[]⟩] 23)) w.heap.size (.int .i64 0) (.int .i64 0) (.string ⟨#[]⟩) := hr2
        have hv2 : Box3 (w1.alloc (.cells #[.int .i64 1, .int .i64 0, .string ⟨#[]⟩] 23)) w1.heap.size (.int .i64 1) (.int .i64 0) (.string ⟨#[]⟩) := hv2
        have hB2 : Bar g w (w1.alloc (.cells #[.int .i64 1, .int .i64 0, .string ⟨#[]⟩] 23)) := hB2
        have hJ := hJ.trans (seen_1 s1)
        clear hc3 hc4
        generalize numR s1 false = n at hc2 hJ
        generalize numS s1 false = s2 at hc2 hJ
        generalize numBad s1 false = d at hc2 hJ
        have HJ2 := Lib.hid hJ
        clear hJ
        go_wp2_with fail
        clear b1 bf v0 r0 r1 r2 rf v1 v2 vf
        generalize w1.alloc (.cells #[.int .i64 1, .int .i64 0, .string ⟨#[]⟩] 23) = w2 at hb2 hr2 hv2 hB2 ⊢
        generalize w1.heap.size = bv at hv2 gv rv lv ⊢
        refine (hc2 _ hb2).mono ?_
        rintro e w4 ⟨rfl, hb4, hB4⟩
        have hr4 := hr2.bar hB4 (Ne.symm gr)
        have hv4 := hv2.bar hB4 (Ne.symm gv)
        have hB4 := hB2.trans hB4
        clear hc2 hb2 hr2 hv2 hB2
        have hv5 := hv4.set1 (.int .i64 n)
        have hr5 := hr4.setOther (p := ⟨bv, 1, none⟩) (Ne.symm rv) (.int .i64 n)
        have hb5 := box2_setOther hb4 (p := ⟨bv, 1, none⟩) (Ne.symm gv) (.int .i64 n)
        have hB5 := bar_set hB4 (p := ⟨bv, 1, none⟩) lv (.int .i64 n)
        have v0 := hv4.c0
        have v1 := hv4.c1
        have v2 := hv4.c2
        have vf := hv4.f
        have b1 := hb4.c1
        have bf := hb4.f
        have r0 := hr4.c0
        have r1 := hr4.c1
        have r2 := hr4.c2
        have rf := hr4.f
        clear hb4 hr4 hv4 hB4
        cases d
        · go_wp2
          have hrZ := (((hr5).set0 (.int .i64 1)).set1 (.int .i64 n)).set2 (.string ⟨#[]⟩)
          have hbZ := box2_setOther (box2_setOther (box2_setOther (hb5) (p := ⟨w.heap.size, 0, none⟩) (Ne.symm gr) (.int .i64 1)) (p := ⟨w.heap.size, 1, none⟩) (Ne.symm gr) (.int .i64 n)) (p := ⟨w.heap.size, 2, none⟩) (Ne.symm gr) (.string ⟨#[]⟩)
          have hBZ := bar_set (bar_set (bar_set (hB5) (p := ⟨w.heap.size, 0, none⟩) lr (.int .i64 1)) (p := ⟨w.heap.size, 1, none⟩) lr (.int .i64 n)) (p := ⟨w.heap.size, 2, none⟩) lr (.string ⟨#[]⟩)
          refine bodyPost_ret (results_three rfl _ _ w.heap.size (.int .i64 1) (.int .i64 n) (.string ⟨#[]⟩) rfl hrZ.c0 hrZ.c1 hrZ.c2) rfl ?_
          rw [HJ2.out]
          exact ⟨rfl, hbZ, hBZ⟩
        · go_wp2
          have hrZ := (((hr5).set0 (.int .i64 0)).set1 (.int .i64 0)).set2 (.string ⟨#[]⟩)
          have hbZ := box2_setOther (box2_setOther (box2_setOther (hb5) (p := ⟨w.heap.size, 0, none⟩) (Ne.symm gr) (.int .i64 0)) (p := ⟨w.heap.size, 1, none⟩) (Ne.symm gr) (.int .i64 0)) (p := ⟨w.heap.size, 2, none⟩) (Ne.symm gr) (.string ⟨#[]⟩)
          have hBZ := bar_set (bar_set (bar_set (hB5) (p := ⟨w.heap.size, 0, none⟩) lr (.int .i64 0)) (p := ⟨w.heap.size, 1, none⟩) lr (.int .i64 0)) (p := ⟨w.heap.size, 2, none⟩) lr (.string ⟨#[]⟩)
          refine bodyPost_ret (results_three rfl _ _ w.heap.size (.int .i64 0) (.int .i64 0) (.string ⟨#[]⟩) rfl hrZ.c0 hrZ.c1 hrZ.c2) rfl ?_
          rw [HJ2.out]
          exact ⟨rfl, hbZ, hBZ⟩
      · by_cases q2 : c = 2
        · subst q2
          have b1 : (w1.alloc (.cells #[.int .i64 2, .int .i64 0, .string ⟨#[]⟩] 23)).cell? ⟨g, 1, none⟩ = some (.bool false) := b1
          have v0 : (w1.alloc (.cells #[.int .i64 2, .int .i64 0, .string ⟨#[]⟩] 23)).cell? ⟨w1.heap.size, 0, none⟩ = some (.int .i64 2) := v0
          have hb2 : IsBox (w1.alloc (.cells #[.int .i64 2, .int .i64 0, .string ⟨#[]⟩] 23)) g s1 false := hb2
          have hr2 : Box3 (w1.alloc (.cells #[.int .i64 2, .int .i64 0, .string ⟨#[]⟩] 23)) w.heap.size (.int .i64 0) (.int .i64 0) (.string ⟨#[]⟩) := hr2
          have hv2 : Box3 (w1.alloc (.cells #[.int .i64 2, .int .i64 0, .string ⟨#[]⟩] 23)) w1.heap.size (.int .i64 2) (.int .i64 0) (.string ⟨#[]⟩) := hv2
          have hB2 : Bar g w (w1.alloc (.cells #[.int .i64 2, .int .i64 0, .string ⟨#[]⟩] 23)) := hB2
          have hJ := hJ.trans (seen_2 s1)
          clear hc2 hc4
          generalize btwR s1 false 0 1 = n at hc3 hJ
          generalize numS s1 false = s2 at hc3 hJ
          generalize btwBad s1 false 0 1 = d at hc3 hJ
          have HJ2 := Lib.hid hJ
          clear hJ
          go_wp2_with fail
          clear b1 bf v0 r0 r1 r2 rf v1 v2 vf
          generalize w1.alloc (.cells #[.int .i64 2, .int .i64 0, .string ⟨#[]⟩] 23) = w2 at hb2 hr2 hv2 hB2 ⊢
          generalize w1.heap.size = bv at hv2 gv rv lv ⊢
          refine (hc3 _ hb2).mono ?_
          rintro e w4 ⟨rfl, hb4, hB4⟩
          have hr4 := hr2.bar hB4 (Ne.symm gr)
          have hv4 := hv2.bar hB4 (Ne.symm gv)
          have hB4 := hB2.trans hB4
          clear hc3 hb2 hr2 hv2 hB2
          have hv5 := hv4.set1 (.int .i64 n)
          have hr5 := hr4.setOther (p := ⟨bv, 1, none⟩) (Ne.symm rv) (.int .i64 n)
          have hb5 := box2_setOther hb4 (p := ⟨bv, 1, none⟩) (Ne.symm gv) (.int .i64 n)
          have hB5 := bar_set hB4 (p := ⟨bv, 1, none⟩) lv (.int .i64 n)
          have v0 := hv4.c0
          have v1 := hv4.c1
          have v2 := hv4.c2
          have vf := hv4.f
          have b1 := hb4.c1
          have bf := hb4.f
          have r0 := hr4.c0
          have r1 := hr4.c1
          have r2 := hr4.c2
          have rf := hr4.f
          clear hb4 hr4 hv4 hB4
          cases d
          · go_wp2
            have hrZ := (((hr5).set0 (.int .i64 2)).set1 (.int .i64 n)).set2 (.string ⟨#[]⟩)
            have hbZ := box2_setOther (box2_setOther (box2_setOther (hb5) (p := ⟨w.heap.size, 0, none⟩) (Ne.symm gr) (.int .i64 2)) (p := ⟨w.heap.size, 1, none⟩) (Ne.symm gr) (.int .i64 n)) (p := ⟨w.heap.size, 2, none⟩) (Ne.symm gr) (.string ⟨#[]⟩)
            have hBZ := bar_set (bar_set (bar_set (hB5) (p := ⟨w.heap.size, 0, none⟩) lr (.int .i64 2)) (p := ⟨w.heap.size, 1, none⟩) lr (.int .i64 n)) (p := ⟨w.heap.size, 2, none⟩) lr (.string ⟨#[]⟩)
            refine bodyPost_ret (results_three rfl _ _ w.heap.size (.int .i64 2) (.int .i64 n) (.string ⟨#[]⟩) rfl hrZ.c0 hrZ.c1 hrZ.c2) rfl ?_
            rw [HJ2.out]
            exact ⟨rfl, hbZ, hBZ⟩
          · go_wp2
            have hrZ := (((hr5).set0 (.int .i64 0)).set1 (.int .i64 0)).set2 (.string ⟨#[]⟩)
            have hbZ := box2_setOther (box2_setOther (box2_setOther (hb5) (p := ⟨w.heap.size, 0, none⟩) (Ne.symm gr) (.int .i64 0)) (p := ⟨w.heap.size, 1, none⟩) (Ne.symm gr) (.int .i64 0)) (p := ⟨w.heap.size, 2, none⟩) (Ne.symm gr) (.string ⟨#[]⟩)
            have hBZ := bar_set (bar_set (bar_set (hB5) (p := ⟨w.heap.size, 0, none⟩) lr (.int .i64 0)) (p := ⟨w.heap.size, 1, none⟩) lr (.int .i64 0)) (p := ⟨w.heap.size, 2, none⟩) lr (.string ⟨#[]⟩)
            refine bodyPost_ret (results_three rfl _ _ w.heap.size (.int .i64 0) (.int .i64 0) (.string ⟨#[]⟩) rfl hrZ.c0 hrZ.c1 hrZ.c2) rfl ?_
            rw [HJ2.out]
            exact ⟨rfl, hbZ, hBZ⟩
        · by_cases q3 : c = 3
          · subst q3
            have b1 : (w1.alloc (.cells #[.int .i64 3, .int .i64 0, .string ⟨#[]⟩] 23)).cell? ⟨g, 1, none⟩ = some (.bool false) := b1
            have v0 : (w1.alloc (.cells #[.int .i64 3, .int .i64 0, .string ⟨#[]⟩] 23)).cell? ⟨w1.heap.size, 0, none⟩ = some (.int .i64 3) := v0
            have hb2 : IsBox (w1.alloc (.cells #[.int .i64 3, .int .i64 0, .string ⟨#[]⟩] 23)) g s1 false := hb2
            have hr2 : Box3 (w1.alloc (.cells #[.int .i64 3, .int .i64 0, .string ⟨#[]⟩] 23)) w.heap.size (.int .i64 0) (.int .i64 0) (.string ⟨#[]⟩) := hr2
            have hv2 : Box3 (w1.alloc (.cells #[.int .i64 3, .int .i64 0, .string ⟨#[]⟩] 23)) w1.heap.size (.int .i64 3) (.int .i64 0) (.string ⟨#[]⟩) := hv2
            have hB2 : Bar g w (w1.alloc (.cells #[.int .i64 3, .int .i64 0, .string ⟨#[]⟩] 23)) := hB2
            have hJ := hJ.trans (seen_3 s1)
            clear hc2 hc3
            generalize txtR s1 false 60 = n at hc4 hJ
            generalize txtS s1 false 60 = s2 at hc4 hJ
            generalize txtBad s1 false 60 = d at hc4 hJ
            have HJ2 := Lib.hid hJ
            clear hJ
            go_wp2_with fail
            clear b1 bf v0 r0 r1 r2 rf v1 v2 vf
            generalize w1.alloc (.cells #[.int .i64 3, .int .i64 0, .string ⟨#[]⟩] 23) = w2 at hb2 hr2 hv2 hB2 ⊢
            generalize w1.heap.size = bv at hv2 gv rv lv ⊢
            refine (hc4 _ hb2).mono ?_
            rintro e w4 ⟨rfl, hb4, hB4⟩
            have hr4 := hr2.bar hB4 (Ne.symm gr)
            have hv4 := hv2.bar hB4 (Ne.symm gv)
            have hB4 := hB2.trans hB4
            clear hc4 hb2 hr2 hv2 hB2
            have hv5 := hv4.set2 (.string n)
            have hr5 := hr4.setOther (p := ⟨bv, 2, none⟩) (Ne.symm rv) (.string n)
            have hb5 := box2_setOther hb4 (p := ⟨bv, 2, none⟩) (Ne.symm gv) (.string n)
            have hB5 := bar_set hB4 (p := ⟨bv, 2, none⟩) lv (.string n)
            have v0 := hv4.c0
            have v1 := hv4.c1
            have v2 := hv4.c2
            have vf := hv4.f
            have b1 := hb4.c1
            have bf := hb4.f
            have r0 := hr4.c0
            have r1 := hr4.c1
            have r2 := hr4.c2
            have rf := hr4.f
            clear hb4 hr4 hv4 hB4
            cases d
            · go_wp2
              have hrZ := (((hr5).set0 (.int .i64 3)).set1 (.int .i64 0)).set2 (.string n)
              have hbZ := box2_setOther (box2_setOther (box2_setOther (hb5) (p := ⟨w.heap.size, 0, none⟩) (Ne.symm gr) (.int .i64 3)) (p := ⟨w.heap.size, 1, none⟩) (Ne.symm gr) (.int .i64 0)) (p := ⟨w.heap.size, 2, none⟩) (Ne.symm gr) (.string n)
              have hBZ := bar_set (bar_set (bar_set (hB5) (p := ⟨w.heap.size, 0, none⟩) lr (.int .i64 3)) (p := ⟨w.heap.size, 1, none⟩) lr (.int .i64 0)) (p := ⟨w.heap.size, 2, none⟩) lr (.string n)
              refine bodyPost_ret (results_three rfl _ _ w.heap.size (.int .i64 3) (.int .i64 0) (.string n) rfl hrZ.c0 hrZ.c1 hrZ.c2) rfl ?_
              rw [HJ2.out]
              exact ⟨rfl, hbZ, hBZ⟩
            · go_wp2
              have hrZ := (((hr5).set0 (.int .i64 0)).set1 (.int .i64 0)).set2 (.string ⟨#[]⟩)
              have hbZ := box2_setOther (box2_setOther (box2_setOther (hb5) (p := ⟨w.heap.size, 0, none⟩) (Ne.symm gr) (.int .i64 0)) (p := ⟨w.heap.size, 1, none⟩) (Ne.symm gr) (.int .i64 0)) (p := ⟨w.heap.size, 2, none⟩) (Ne.symm gr) (.string ⟨#[]⟩)
              have hBZ := bar_set (bar_set (bar_set (hB5) (p := ⟨w.heap.size, 0, none⟩) lr (.int .i64 0)) (p := ⟨w.heap.size, 1, none⟩) lr (.int .i64 0)) (p := ⟨w.heap.size, 2, none⟩) lr (.string ⟨#[]⟩)
              refine bodyPost_ret (results_three rfl _ _ w.heap.size (.int .i64 0) (.int .i64 0) (.string ⟨#[]⟩) rfl hrZ.c0 hrZ.c1 hrZ.c2) rfl ?_
              rw [HJ2.out]
              exact ⟨rfl, hbZ, hBZ⟩
          · have p0 : ((c : Int) == 0) = false := beq_eq_false_iff_ne.2 (by omega)
            have p1 : ((c : Int) == 1) = false := beq_eq_false_iff_ne.2 (by omega)
            have p2 : ((c : Int) == 2) = false := beq_eq_false_iff_ne.2 (by omega)
            have p3 : ((c : Int) == 3) = false := beq_eq_false_iff_ne.2 (by omega)
            have HJ2 := Lib.hid (hJ.trans (seen_else s1 (by omega)))
            clear hJ hc2 hc3 hc4 q0 q1 q2 q3
            go_wp2
            have hrZ := (((hr2.setOther (p := ⟨g, 1, none⟩) gr (.bool true)).set0 (.int .i64 0)).set1 (.int .i64 0)).set2 (.string ⟨#[]⟩)
            have hbZ := box2_setOther (box2_setOther (box2_setOther (hb2.set1 (.bool true)) (p := ⟨w.heap.size, 0, none⟩) (Ne.symm gr) (.int .i64 0)) (p := ⟨w.heap.size, 1, none⟩) (Ne.symm gr) (.int .i64 0)) (p := ⟨w.heap.size, 2, none⟩) (Ne.symm gr) (.string ⟨#[]⟩)
            have hBZ := bar_set (bar_set (bar_set (hB2.setCell 1 (.bool true)) (p := ⟨w.heap.size, 0, none⟩) lr (.int .i64 0)) (p := ⟨w.heap.size, 1, none⟩) lr (.int .i64 0)) (p := ⟨w.heap.size, 2, none⟩) lr (.string ⟨#[]⟩)
            refine bodyPost_ret (results_three rfl _ _ w.heap.size (.int .i64 0) (.int .i64 0) (.string ⟨#[]⟩) rfl hrZ.c0 hrZ.c1 hrZ.c2) rfl ?_
            rw [HJ2.out]
            exact ⟨rfl, hbZ, hBZ⟩
end Go.Proofs.Ytnhejeppjhjnpaa.Va
