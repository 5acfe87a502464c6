/- The document's examples of layer 8, walked. -/
import Derived.Test.YtifcepjflkgbmaaSpL
namespace Go.Proofs.Ytifcepjflkgbmaa.Sp
open Go.RowKit Pac Lex

theorem find_yes {l : List (List Int)} {c : Int} {i k i' k' : Nat} {b : Bool} (h1 : b = true → atG c l = some (i, k)) (h2 : b = false → atG c l = none ∧ i = 0 ∧ k = 0) (h : atG c l = some (i', k')) : b = true ∧ i = i' ∧ k = k' := by
  cases b
  · have := (h2 rfl).1
    rw [h] at this
    cases this
  · have := h1 rfl
    rw [h] at this
    injection this with this
    injection this with e1 e2
    exact ⟨rfl, e1.symm, e2.symm⟩
theorem find_no {l : List (List Int)} {c : Int} {i k : Nat} {b : Bool} (h1 : b = true → atG c l = some (i, k)) (h2 : b = false → atG c l = none ∧ i = 0 ∧ k = 0) (h : atG c l = none) : b = false ∧ i = 0 ∧ k = 0 := by
  cases b
  · exact ⟨rfl, (h2 rfl).2⟩
  · have := h1 rfl
    rw [h] at this
    cases this
set_option maxRecDepth 20000 in
set_option maxHeartbeats 6400000 in
theorem awake_any (w : World) : Calls Try.prog 9 #[] w fun e w' => e = .returned (.bool true) ∧ Below w.heap.size w w' := by
  go_enter Try.func9, Try.ntmps9
  go_wp2_with fail
  have hB := Below.refl w.heap.size w
  obtain ⟨hl, hq⟩ := lit2 (w := w) (a := [0, 2]) (b := [1]) (ca := #[.int .i64 0, .int .i64 2]) (cb := #[.int .i64 1]) (na := 2) (nb := 1) rfl rfl rfl rfl
  have hB := hB.trans hq
  clear hq
  generalize (((w.alloc (.cells #[.int .i64 0, .int .i64 2] 3)).alloc (.cells #[.int .i64 1] 3)).alloc (.cells #[.slice (some ⟨w.heap.size, 0, none⟩) 2 2, .slice (some ⟨w.heap.size + 1, 0, none⟩) 1 1] 44)) = z0 at hl hB ⊢
  generalize w.heap.size + 2 = gl at hl ⊢
  have hl := hl.lower (Nat.zero_le _)
  refine (print_any (some ⟨gl, 0, none⟩) 2 [[0, 2], [1]] 3 0 z0 hl ex_split).mono ?_
  rintro e y1 ⟨rfl, hy⟩
  have hl := hl.below hy (Nat.le_refl _)
  have hB := hB.trans (hy.mono hB.size)
  clear hy
  have HRD := ex_read
  have hps : (printSp [[0, 2], [1]]).size ≤ 9223372036854775807 := by decide +kernel
  generalize printSp [[0, 2], [1]] = p at HRD hps ⊢
  have hb := Box2.new y1 (.string p) (.bool false) 36
  have hrd := read_any y1.heap.size p false 3 _ hb hps (by decide) (by decide)
  rw [HRD] at hrd
  clear HRD hps
  go_wp2_with fail
  refine (hrd).mono ?_
  rintro e y2 ⟨AX, cx, S1, rfl, hcx, hx, hb, hS, hbar⟩
  have hy := ((Below.refl y1.heap.size y1).alloc (Nat.le_refl _) (.cells #[.string p, .bool false] 36)).trans (hbar.below (B := y1.heap.size) (Nat.le_refl _) (by simp))
  have hl := hl.below hy (Nat.le_refl _)
  have hB := hB.trans (hy.mono hB.size)
  have hx := hx.lower (Nat.zero_le _)
  obtain rfl := hS rfl
  simp only at hcx hx hb
  clear hrd hy hbar hS
  generalize y1.heap.size = g at hb ⊢
  go_wp2_with fail
  refine (find_any (some ⟨gl, 0, none⟩) 2 [[0, 2], [1]] 2 0 y2 hl (by decide) (by decide)).mono ?_
  rintro e y3 ⟨i, k, b, rfl, h1, h2, hy⟩
  have hl := hl.below hy (Nat.le_refl _)
  have hx := hx.below hy (Nat.le_refl _)
  have hb := hb.below hy hb.lt
  have hB := hB.trans (hy.mono hB.size)
  obtain ⟨rfl, rfl, rfl⟩ := find_yes h1 h2 ex_f1
  clear h1 h2 hy
  go_wp2_with fail
  refine (find_any (some ⟨gl, 0, none⟩) 2 [[0, 2], [1]] 3 0 y3 hl (by decide) (by decide)).mono ?_
  rintro e y4 ⟨i, k, b, rfl, h1, h2, hy⟩
  have hl := hl.below hy (Nat.le_refl _)
  have hx := hx.below hy (Nat.le_refl _)
  have hb := hb.below hy hb.lt
  have hB := hB.trans (hy.mono hB.size)
  obtain ⟨rfl, rfl, rfl⟩ := find_no h1 h2 ex_f2
  clear h1 h2 hy
  go_wp2_with fail
  have hc := right_any (some ⟨gl, 0, none⟩) 2 [[0, 2], [1]] 3 0 y4 hl (by decide) (by decide) (by decide) (by decide)
  rw [ex_r1] at hc
  refine (hc).mono ?_
  rintro e y5 ⟨rfl, hy⟩
  have hl := hl.below hy (Nat.le_refl _)
  have hx := hx.below hy (Nat.le_refl _)
  have hb := hb.below hy hb.lt
  have hB := hB.trans (hy.mono hB.size)
  clear hc hy
  go_wp2_with fail
  have hc := right_any (some ⟨gl, 0, none⟩) 2 [[0, 2], [1]] 4 0 y5 hl (by decide) (by decide) (by decide) (by decide)
  rw [ex_r2] at hc
  refine (hc).mono ?_
  rintro e y6 ⟨rfl, hy⟩
  have hl := hl.below hy (Nat.le_refl _)
  have hx := hx.below hy (Nat.le_refl _)
  have hb := hb.below hy hb.lt
  have hB := hB.trans (hy.mono hB.size)
  clear hc hy
  go_wp2_with fail
  obtain ⟨hm, hq⟩ := lit2 (w := y6) (a := [1]) (b := [0, 2]) (ca := #[.int .i64 1]) (cb := #[.int .i64 0, .int .i64 2]) (na := 1) (nb := 2) rfl rfl rfl rfl
  have hl := hl.below hq (Nat.le_refl _)
  have hx := hx.below hq (Nat.le_refl _)
  have hb := hb.below hq hb.lt
  have hB := hB.trans (hq.mono hB.size)
  clear hq
  generalize (((y6.alloc (.cells #[.int .i64 1] 3)).alloc (.cells #[.int .i64 0, .int .i64 2] 3)).alloc (.cells #[.slice (some ⟨y6.heap.size, 0, none⟩) 1 1, .slice (some ⟨y6.heap.size + 1, 0, none⟩) 2 2] 44)) = z7 at hm hB hl hx hb ⊢
  generalize y6.heap.size + 2 = g8 at hm ⊢
  have hm := hm.lower (Nat.zero_le _)
  have hc := right_any (some ⟨g8, 0, none⟩) 2 [[1], [0, 2]] 3 0 z7 hm (by decide) (by decide) (by decide) (by decide)
  rw [ex_r3] at hc
  refine (hc).mono ?_
  rintro e y9 ⟨rfl, hy⟩
  have hl := hl.below hy (Nat.le_refl _)
  have hx := hx.below hy (Nat.le_refl _)
  have hb := hb.below hy hb.lt
  have hB := hB.trans (hy.mono hB.size)
  clear hc hy hm
  go_wp2_with fail
  obtain ⟨hm, hq⟩ := lit2 (w := y9) (a := [2, 0]) (b := [1]) (ca := #[.int .i64 2, .int .i64 0]) (cb := #[.int .i64 1]) (na := 2) (nb := 1) rfl rfl rfl rfl
  have hl := hl.below hq (Nat.le_refl _)
  have hx := hx.below hq (Nat.le_refl _)
  have hb := hb.below hq hb.lt
  have hB := hB.trans (hq.mono hB.size)
  clear hq
  generalize (((y9.alloc (.cells #[.int .i64 2, .int .i64 0] 3)).alloc (.cells #[.int .i64 1] 3)).alloc (.cells #[.slice (some ⟨y9.heap.size, 0, none⟩) 2 2, .slice (some ⟨y9.heap.size + 1, 0, none⟩) 1 1] 44)) = z10 at hm hB hl hx hb ⊢
  generalize y9.heap.size + 2 = g11 at hm ⊢
  have hm := hm.lower (Nat.zero_le _)
  have hc := right_any (some ⟨g11, 0, none⟩) 2 [[2, 0], [1]] 3 0 z10 hm (by decide) (by decide) (by decide) (by decide)
  rw [ex_r4] at hc
  refine (hc).mono ?_
  rintro e y12 ⟨rfl, hy⟩
  have hl := hl.below hy (Nat.le_refl _)
  have hx := hx.below hy (Nat.le_refl _)
  have hb := hb.below hy hb.lt
  have hB := hB.trans (hy.mono hB.size)
  clear hc hy hm
  go_wp2_with fail
  have hc := refSame_any AX (some ⟨gl, 0, none⟩) cx 2 [[0, 2], [1]] [[0, 2], [1]] 0 0 y12 hx hl (by decide) (by decide) (by decide) (by decide)
  rw [decide_eq_true rfl] at hc
  refine (hc).mono ?_
  rintro e y13 ⟨rfl, hy⟩
  have hl := hl.below hy (Nat.le_refl _)
  have hx := hx.below hy (Nat.le_refl _)
  have hb := hb.below hy hb.lt
  have hB := hB.trans (hy.mono hB.size)
  clear hc hy
  go_wp2_with fail
  clear hx hl
  refine (boxDone_any g ⟨#[]⟩ false y13 hb).mono ?_
  rintro e yd ⟨rfl, rfl⟩
  have hdn : doneB ⟨#[]⟩ false = true := by decide +kernel
  rw [hdn]
  clear hdn hb
  go_wp2_with fail
  have hc := one_any 2 y13 (by decide) (by decide)
  rw [ex_one] at hc
  refine (hc).mono ?_
  rintro e y14 ⟨AO, co, rfl, _, ho, hy⟩
  have hB := hB.trans (hy.mono hB.size)
  have ho := ho.lower (Nat.zero_le _)
  clear hc hy
  go_wp2_with fail
  obtain ⟨hm, hq⟩ := lit1 (w := y14) (a := [0, 1]) (ca := #[.int .i64 0, .int .i64 1]) (na := 2) rfl rfl
  have ho := ho.below hq (Nat.le_refl _)
  have hB := hB.trans (hq.mono hB.size)
  clear hq
  generalize ((y14.alloc (.cells #[.int .i64 0, .int .i64 1] 3)).alloc (.cells #[.slice (some ⟨y14.heap.size, 0, none⟩) 2 2] 44)) = z15 at hm hB ho ⊢
  generalize y14.heap.size + 1 = g16 at hm ⊢
  have hm := hm.lower (Nat.zero_le _)
  have hc := refSame_any AO (some ⟨g16, 0, none⟩) co 1 [[0, 1]] [[0, 1]] 0 0 z15 ho hm (by decide) (by decide) (by decide) (by decide)
  rw [decide_eq_true rfl] at hc
  refine (hc).mono ?_
  rintro e y17 ⟨rfl, hy⟩
  have hB := hB.trans (hy.mono hB.size)
  clear hc hy ho hm
  go_wp2_with fail
  have hc := each_any 2 y17 (by decide) (by decide)
  rw [ex_each] at hc
  refine (hc).mono ?_
  rintro e y18 ⟨AE, ce, rfl, _, ho, hy⟩
  have hB := hB.trans (hy.mono hB.size)
  have ho := ho.lower (Nat.zero_le _)
  clear hc hy
  go_wp2_with fail
  obtain ⟨hm, hq⟩ := lit2 (w := y18) (a := [0]) (b := [1]) (ca := #[.int .i64 0]) (cb := #[.int .i64 1]) (na := 1) (nb := 1) rfl rfl rfl rfl
  have ho := ho.below hq (Nat.le_refl _)
  have hB := hB.trans (hq.mono hB.size)
  clear hq
  generalize (((y18.alloc (.cells #[.int .i64 0] 3)).alloc (.cells #[.int .i64 1] 3)).alloc (.cells #[.slice (some ⟨y18.heap.size, 0, none⟩) 1 1, .slice (some ⟨y18.heap.size + 1, 0, none⟩) 1 1] 44)) = z19 at hm hB ho ⊢
  generalize y18.heap.size + 2 = g20 at hm ⊢
  have hm := hm.lower (Nat.zero_le _)
  have hc := refSame_any AE (some ⟨g20, 0, none⟩) ce 2 [[0], [1]] [[0], [1]] 0 0 z19 ho hm (by decide) (by decide) (by decide) (by decide)
  rw [decide_eq_true rfl] at hc
  refine (hc).mono ?_
  rintro e y21 ⟨rfl, hy⟩
  have hB := hB.trans (hy.mono hB.size)
  clear hc hy ho hm
  go_wp2_with fail
  obtain ⟨hm, hq⟩ := lit3 (w := y21) (a := [0, 3]) (b := [1]) (c := [2]) (ca := #[.int .i64 0, .int .i64 3]) (cb := #[.int .i64 1]) (cc := #[.int .i64 2]) (na := 2) (nb := 1) (nc := 1) rfl rfl rfl rfl rfl rfl
  have hB := hB.trans (hq.mono hB.size)
  clear hq
  generalize ((((y21.alloc (.cells #[.int .i64 0, .int .i64 3] 3)).alloc (.cells #[.int .i64 1] 3)).alloc (.cells #[.int .i64 2] 3)).alloc (.cells #[.slice (some ⟨y21.heap.size, 0, none⟩) 2 2, .slice (some ⟨y21.heap.size + 1, 0, none⟩) 1 1, .slice (some ⟨y21.heap.size + 2, 0, none⟩) 1 1] 44)) = z22 at hm hB ⊢
  generalize y21.heap.size + 3 = g23 at hm ⊢
  have hm := hm.lower (Nat.zero_le _)
  have hc := join_any (some ⟨g23, 0, none⟩) 3 [[0, 3], [1], [2]] 4 2 0 0 z22 hm ex_split4 (Nat.zero_le _) (by decide) (by decide) (by decide) (by decide)
  rw [ex_join] at hc
  refine (hc).mono ?_
  rintro e y24 ⟨AJ, cj, rfl, ho, hy⟩
  have hB := hB.trans (hy.mono hB.size)
  clear hc hy hm
  go_wp2_with fail
  obtain ⟨hm, hq⟩ := lit2 (w := y24) (a := [0, 2, 3]) (b := [1]) (ca := #[.int .i64 0, .int .i64 2, .int .i64 3]) (cb := #[.int .i64 1]) (na := 3) (nb := 1) rfl rfl rfl rfl
  have ho := ho.below hq (Nat.le_refl _)
  have hB := hB.trans (hq.mono hB.size)
  clear hq
  generalize (((y24.alloc (.cells #[.int .i64 0, .int .i64 2, .int .i64 3] 3)).alloc (.cells #[.int .i64 1] 3)).alloc (.cells #[.slice (some ⟨y24.heap.size, 0, none⟩) 3 3, .slice (some ⟨y24.heap.size + 1, 0, none⟩) 1 1] 44)) = z25 at hm hB ho ⊢
  generalize y24.heap.size + 2 = g26 at hm ⊢
  have hm := hm.lower (Nat.zero_le _)
  have hc := refSame_any AJ (some ⟨g26, 0, none⟩) cj 2 [[0, 2, 3], [1]] [[0, 2, 3], [1]] 0 0 z25 ho hm (by decide) (by decide) (by decide) (by decide)
  rw [decide_eq_true rfl] at hc
  refine (hc).mono ?_
  rintro e y27 ⟨rfl, hy⟩
  have hB := hB.trans (hy.mono hB.size)
  clear hc hy ho hm
  go_wp2_with fail
  have hc := one_any 0 y27 (by decide) (by decide)
  rw [ex_one0] at hc
  refine (hc).mono ?_
  rintro e y28 ⟨AZ, cz, rfl, _, _, hy⟩
  have hB := hB.trans (hy.mono hB.size)
  clear hc hy
  go_wp2
  go_ret
  exact ⟨rfl, hB⟩
end Go.Proofs.Ytifcepjflkgbmaa.Sp
