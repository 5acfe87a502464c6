/- SplitCounts: whatever groups, walked. -/
import Derived.Test.YtifcepjflkgbmaaSpM
namespace Go.Proofs.Ytifcepjflkgbmaa.Sp
open Go.RowKit Pac Lex

theorem few_out {l : List (List Int)} (h : fewB l = true) : l.length ≤ 20 ∧ ∀ g ∈ l, g.length ≤ 20 := of_decide_eq_true h
open Classical in
theorem right_out {l : List (List Int)} {cols : Int} (h : rightSp l cols = true) : ∃ n : Nat, cols = n ∧ IsSplit l n := of_decide_eq_true h
theorem right_more {l : List (List Int)} {n : Nat} (h : IsSplit l n) : rightSp l ((n : Int) + 1) = false := by
  have := (rightSp_nat (l := l) (n := n + 1)).2 (fun h' => by have := h.only h'; omega)
  rw [show ((n : Int) + 1) = ((n + 1 : Nat) : Int) by omega]
  exact this
theorem right_less {l : List (List Int)} {n : Nat} (h : IsSplit l n) : rightSp l ((n : Int) - 1) = false := by
  have h1 := h.n1
  have := (rightSp_nat (l := l) (n := n - 1)).2 (fun h' => by have := h.only h'; omega)
  rw [show ((n : Int) - 1) = ((n - 1 : Nat) : Int) by omega]
  exact this
theorem IsSplit.sizes {l : List (List Int)} {n : Nat} (h : IsSplit l n) : l.length ≤ 1000000 ∧ ∀ g ∈ l, g.length ≤ 1000000 := by
  have h1 := h.few
  have h2 := h.n8
  exact ⟨by omega, fun g hg => by have := h.short hg; omega⟩

set_option maxRecDepth 20000 in
set_option maxHeartbeats 6400000 in
theorem counts_any (A1 : Option Addr) (cp1 : Nat) (l1 : List (List Int)) (cols : Int) (lo1 : Nat) (w : World) (h1 : HasLL w lo1 A1 l1) (hl1 : l1.length ≤ 9223372036854775807) (hg1 : ∀ g ∈ l1, g.length ≤ 9223372036854775807) (hc0 : -9223372036854775808 ≤ cols) (hc1 : cols ≤ 9223372036854775807) :
    Calls Try.prog 7 #[.slice A1 l1.length cp1, .int .i64 cols] w fun e w' => e = .returned (.bool true) ∧ Below w.heap.size w w' := by
  have hcs := small_any A1 cp1 l1 lo1 w h1 hl1 hg1
  obtain ⟨m, hm⟩ : ∃ m, l1.length = m := ⟨_, rfl⟩
  have HM := Lib.hid hm
  have hL := h1
  rw [hm] at hcs hl1 ⊢
  clear h1 hm hg1
  obtain ⟨f, hf⟩ : ∃ f, fewB l1 = f := ⟨_, rfl⟩
  rw [hf] at hcs
  have HF := Lib.hid hf
  clear hf
  go_enter Try.func7, Try.ntmps7
  go_wp2_with fail
  refine hcs.mono ?_
  rintro e w1 ⟨rfl, hB⟩
  have hL := hL.below hB (Nat.le_refl _)
  clear hcs
  cases f
  · clear hL
    go_wp2_with fail
    refine (awake_any _).mono ?_
    rintro e y9 ⟨rfl, hy⟩
    have hB := hB.trans (hy.mono hB.size)
    clear hy
    go_wp2
    go_ret
    exact ⟨rfl, hB⟩
  · have hfew := few_out HF.out
    have hcr := right_any A1 cp1 l1 cols lo1 w1 hL (by omega) (fun g hg => by have := hfew.2 g hg; omega) hc0 hc1
    obtain ⟨r, hr⟩ : ∃ r, rightSp l1 cols = r := ⟨_, rfl⟩
    rw [hr, HM.out] at hcr
    have HR := Lib.hid hr
    clear hr hfew
    go_wp2_with fail
    refine hcr.mono ?_
    rintro e w2 ⟨rfl, hy⟩
    have hL := hL.below hy (Nat.le_refl _)
    have hB := hB.trans (hy.mono hB.size)
    clear hy hcr
    cases r
    · clear hL
      go_wp2_with fail
      refine (awake_any _).mono ?_
      rintro e y9 ⟨rfl, hy⟩
      have hB := hB.trans (hy.mono hB.size)
      clear hy
      go_wp2
      go_ret
      exact ⟨rfl, hB⟩
    · obtain ⟨n, rfl, hs⟩ := right_out HR.out
      have HS := Lib.hid hs
      have HO : Hid (oneI n = oneS n ∧ IsSplit (oneS n) n) := Lib.hid ⟨by unfold oneI; rw [Int.toNat_natCast], one_split hs.n1 hs.n8⟩
      have HE : Hid (eachI n = eachS n ∧ IsSplit (eachS n) n) := Lib.hid ⟨by unfold eachI; rw [Int.toNat_natCast], each_split hs.n1 hs.n8⟩
      have hn8 := hs.n8
      have hn1 := hs.n1
      have HA := Lib.hid hL
      clear hs hL
      go_wp2
      go_loopw [5, 6] (fun x i wr => ∃ (q u : Nat), q ≤ m ∧ i = .int .i64 q ∧ x = .int .i64 u ∧ u ≤ 8 ∧ Hid (u = (l1.take q).flatten.length) ∧ Below w2.heap.size w2 wr) (fun _ i _ => m - (intOf i).toNat)
      case atStart => exact ⟨0, 0, Nat.zero_le _, rfl, rfl, by omega, Lib.hid (by simp), Below.refl _ _⟩
      case round =>
        obtain ⟨q, u, hq, rfl, rfl, hu8, hH, hBr⟩ := hrel
        by_cases hlt : q < m
        · have hg1 : l1[q]? = some (l1[q]'(by rw [HM.out]; exact hlt)) := List.getElem?_eq_getElem _
          generalize (l1[q]'(by rw [HM.out]; exact hlt)) = g at hg1
          obtain ⟨b1, o1, A3, c3, rfl, _, hlb1, d1, _, _⟩ := (HA.out.below hBr (Nat.le_refl _)).at hg1
          have hsum : (l1.take (q + 1)).flatten.length = u + g.length := by rw [take_flat hg1, List.length_append, hH.out]
          have hle : u + g.length ≤ 8 := by
            have h1 := take_flat_le l1 (q + 1)
            have h2 := HS.out.len
            omega
          have HU : Hid (u + g.length = (l1.take (q + 1)).flatten.length) := Lib.hid hsum.symm
          obtain ⟨p, hp⟩ : ∃ p, g.length = p := ⟨_, rfl⟩
          rw [hp] at d1 hle HU
          have i1 : (q : Int) < (m : Int) := by omega
          have i0 : (0 : Int) ≤ (q : Int) := by omega
          clear hsum hp hg1
          go_wp2
          clear d1
          go_roundw
          case rel => exact ⟨q + 1, u + p, by omega, by go_num, by go_num, hle, HU, hBr⟩
          case measure => simp [intOf]; omega
        · obtain rfl : q = m := by omega
          obtain rfl : u = n := by
            have h1 := hH.out
            rw [show l1.take q = l1 by rw [← HM.out]; exact List.take_length, HS.out.len] at h1
            exact h1
          have hL := HA.out.below hBr (Nat.le_refl _)
          have hB := hB.trans (hBr.mono hB.size)
          clear hBr hlt hH hq HR HF
          go_wp2_with fail
          have m1 : (0 : Int) ≤ (u : Int) := by omega
          refine (awake_any _).mono ?_
          rintro e y0 ⟨rfl, hy⟩
          have hL := hL.below hy (Nat.le_refl _)
          have hB := hB.trans (hy.mono hB.size)
          clear hy
          by_cases hm1 : q = 1
          · have b1 : ((q : Int) == 1) = true := beq_iff_eq.2 (by omega)
            have v1 : decide (l1 = oneI u) = true := decide_eq_true (by rw [HO.out.1]; exact HS.out.one_iff.1 (by rw [HM.out]; exact hm1))
            clear hm1
            go_wp2_with fail
            have hcO := one_any (u : Int) y0 (by omega) (by omega)
            refine hcO.mono ?_
            rintro e y1 ⟨AO, co, rfl, _, ho, hy⟩
            have hL := hL.below hy (Nat.le_refl _)
            have hB := hB.trans (hy.mono hB.size)
            have ho := ho.lower (Nat.zero_le _)
            clear hcO hy
            go_wp2_with fail
            have hcS := refSame_any A1 AO cp1 co l1 (oneI u) lo1 0 y1 hL ho (by have := HS.out.sizes.1; omega) (by have := HO.out.2.sizes.1; rw [HO.out.1]; omega) (fun g hg => by have := HS.out.sizes.2 g hg; omega) (fun g hg => by rw [HO.out.1] at hg; have := HO.out.2.sizes.2 g hg; omega)
            rw [HM.out, v1] at hcS
            refine hcS.mono ?_
            rintro e y2 ⟨rfl, hy⟩
            have hL := hL.below hy (Nat.le_refl _)
            have hB := hB.trans (hy.mono hB.size)
            clear hcS hy ho
            go_wp2_with fail
            clear b1 v1
            by_cases hmn : q = u
            · have b2 : ((q : Int) == (u : Int)) = true := beq_iff_eq.2 (by omega)
              have v2 : decide (l1 = eachI u) = true := decide_eq_true (by rw [HE.out.1]; exact HS.out.each_iff.1 (by rw [HM.out]; exact hmn))
              clear hmn
              have hcO := each_any (u : Int) y2 (by omega) (by omega)
              refine hcO.mono ?_
              rintro e y3 ⟨AE, ce, rfl, _, ho, hy⟩
              have hL := hL.below hy (Nat.le_refl _)
              have hB := hB.trans (hy.mono hB.size)
              have ho := ho.lower (Nat.zero_le _)
              clear hcO hy
              go_wp2_with fail
              have hcS := refSame_any A1 AE cp1 ce l1 (eachI u) lo1 0 y3 hL ho (by have := HS.out.sizes.1; omega) (by have := HE.out.2.sizes.1; rw [HE.out.1]; omega) (fun g hg => by have := HS.out.sizes.2 g hg; omega) (fun g hg => by rw [HE.out.1] at hg; have := HE.out.2.sizes.2 g hg; omega)
              rw [HM.out, v2] at hcS
              refine hcS.mono ?_
              rintro e y4 ⟨rfl, hy⟩
              have hL := hL.below hy (Nat.le_refl _)
              have hB := hB.trans (hy.mono hB.size)
              clear hcS hy ho
              go_wp2_with fail
              have hcR := right_any A1 cp1 l1 ((u : Int) + 1) lo1 y4 hL HS.out.sizes.1 HS.out.sizes.2 (by omega) (by omega)
              rw [HM.out, right_more HS.out] at hcR
              refine hcR.mono ?_
              rintro e y5 ⟨rfl, hy⟩
              have hL := hL.below hy (Nat.le_refl _)
              have hB := hB.trans (hy.mono hB.size)
              clear hcR hy
              go_wp2_with fail
              have hcR := right_any A1 cp1 l1 ((u : Int) - 1) lo1 y5 hL HS.out.sizes.1 HS.out.sizes.2 (by omega) (by omega)
              rw [HM.out, right_less HS.out] at hcR
              refine hcR.mono ?_
              rintro e y6 ⟨rfl, hy⟩
              have hB := hB.trans (hy.mono hB.size)
              clear hcR hy hL
              go_wp2
              go_ret
              exact ⟨rfl, hB⟩
            · have b2 : ((q : Int) == (u : Int)) = false := beq_eq_false_iff_ne.2 (by omega)
              have v2 : decide (l1 = eachI u) = false := decide_eq_false (fun e => hmn (by rw [HE.out.1] at e; rw [← HM.out]; exact HS.out.each_iff.2 e))
              clear hmn
              have hcO := each_any (u : Int) y2 (by omega) (by omega)
              refine hcO.mono ?_
              rintro e y3 ⟨AE, ce, rfl, _, ho, hy⟩
              have hL := hL.below hy (Nat.le_refl _)
              have hB := hB.trans (hy.mono hB.size)
              have ho := ho.lower (Nat.zero_le _)
              clear hcO hy
              go_wp2_with fail
              have hcS := refSame_any A1 AE cp1 ce l1 (eachI u) lo1 0 y3 hL ho (by have := HS.out.sizes.1; omega) (by have := HE.out.2.sizes.1; rw [HE.out.1]; omega) (fun g hg => by have := HS.out.sizes.2 g hg; omega) (fun g hg => by rw [HE.out.1] at hg; have := HE.out.2.sizes.2 g hg; omega)
              rw [HM.out, v2] at hcS
              refine hcS.mono ?_
              rintro e y4 ⟨rfl, hy⟩
              have hL := hL.below hy (Nat.le_refl _)
              have hB := hB.trans (hy.mono hB.size)
              clear hcS hy ho
              go_wp2_with fail
              have hcR := right_any A1 cp1 l1 ((u : Int) + 1) lo1 y4 hL HS.out.sizes.1 HS.out.sizes.2 (by omega) (by omega)
              rw [HM.out, right_more HS.out] at hcR
              refine hcR.mono ?_
              rintro e y5 ⟨rfl, hy⟩
              have hL := hL.below hy (Nat.le_refl _)
              have hB := hB.trans (hy.mono hB.size)
              clear hcR hy
              go_wp2_with fail
              have hcR := right_any A1 cp1 l1 ((u : Int) - 1) lo1 y5 hL HS.out.sizes.1 HS.out.sizes.2 (by omega) (by omega)
              rw [HM.out, right_less HS.out] at hcR
              refine hcR.mono ?_
              rintro e y6 ⟨rfl, hy⟩
              have hB := hB.trans (hy.mono hB.size)
              clear hcR hy hL
              go_wp2
              go_ret
              exact ⟨rfl, hB⟩
          · have b1 : ((q : Int) == 1) = false := beq_eq_false_iff_ne.2 (by omega)
            have v1 : decide (l1 = oneI u) = false := decide_eq_false (fun e => hm1 (by rw [HO.out.1] at e; rw [← HM.out]; exact HS.out.one_iff.2 e))
            clear hm1
            go_wp2_with fail
            have hcO := one_any (u : Int) y0 (by omega) (by omega)
            refine hcO.mono ?_
            rintro e y1 ⟨AO, co, rfl, _, ho, hy⟩
            have hL := hL.below hy (Nat.le_refl _)
            have hB := hB.trans (hy.mono hB.size)
            have ho := ho.lower (Nat.zero_le _)
            clear hcO hy
            go_wp2_with fail
            have hcS := refSame_any A1 AO cp1 co l1 (oneI u) lo1 0 y1 hL ho (by have := HS.out.sizes.1; omega) (by have := HO.out.2.sizes.1; rw [HO.out.1]; omega) (fun g hg => by have := HS.out.sizes.2 g hg; omega) (fun g hg => by rw [HO.out.1] at hg; have := HO.out.2.sizes.2 g hg; omega)
            rw [HM.out, v1] at hcS
            refine hcS.mono ?_
            rintro e y2 ⟨rfl, hy⟩
            have hL := hL.below hy (Nat.le_refl _)
            have hB := hB.trans (hy.mono hB.size)
            clear hcS hy ho
            go_wp2_with fail
            clear b1 v1
            by_cases hmn : q = u
            · have b2 : ((q : Int) == (u : Int)) = true := beq_iff_eq.2 (by omega)
              have v2 : decide (l1 = eachI u) = true := decide_eq_true (by rw [HE.out.1]; exact HS.out.each_iff.1 (by rw [HM.out]; exact hmn))
              clear hmn
              have hcO := each_any (u : Int) y2 (by omega) (by omega)
              refine hcO.mono ?_
              rintro e y3 ⟨AE, ce, rfl, _, ho, hy⟩
              have hL := hL.below hy (Nat.le_refl _)
              have hB := hB.trans (hy.mono hB.size)
              have ho := ho.lower (Nat.zero_le _)
              clear hcO hy
              go_wp2_with fail
              have hcS := refSame_any A1 AE cp1 ce l1 (eachI u) lo1 0 y3 hL ho (by have := HS.out.sizes.1; omega) (by have := HE.out.2.sizes.1; rw [HE.out.1]; omega) (fun g hg => by have := HS.out.sizes.2 g hg; omega) (fun g hg => by rw [HE.out.1] at hg; have := HE.out.2.sizes.2 g hg; omega)
              rw [HM.out, v2] at hcS
              refine hcS.mono ?_
              rintro e y4 ⟨rfl, hy⟩
              have hL := hL.below hy (Nat.le_refl _)
              have hB := hB.trans (hy.mono hB.size)
              clear hcS hy ho
              go_wp2_with fail
              have hcR := right_any A1 cp1 l1 ((u : Int) + 1) lo1 y4 hL HS.out.sizes.1 HS.out.sizes.2 (by omega) (by omega)
              rw [HM.out, right_more HS.out] at hcR
              refine hcR.mono ?_
              rintro e y5 ⟨rfl, hy⟩
              have hL := hL.below hy (Nat.le_refl _)
              have hB := hB.trans (hy.mono hB.size)
              clear hcR hy
              go_wp2_with fail
              have hcR := right_any A1 cp1 l1 ((u : Int) - 1) lo1 y5 hL HS.out.sizes.1 HS.out.sizes.2 (by omega) (by omega)
              rw [HM.out, right_less HS.out] at hcR
              refine hcR.mono ?_
              rintro e y6 ⟨rfl, hy⟩
              have hB := hB.trans (hy.mono hB.size)
              clear hcR hy hL
              go_wp2
              go_ret
              exact ⟨rfl, hB⟩
            · have b2 : ((q : Int) == (u : Int)) = false := beq_eq_false_iff_ne.2 (by omega)
              have v2 : decide (l1 = eachI u) = false := decide_eq_false (fun e => hmn (by rw [HE.out.1] at e; rw [← HM.out]; exact HS.out.each_iff.2 e))
              clear hmn
              have hcO := each_any (u : Int) y2 (by omega) (by omega)
              refine hcO.mono ?_
              rintro e y3 ⟨AE, ce, rfl, _, ho, hy⟩
              have hL := hL.below hy (Nat.le_refl _)
              have hB := hB.trans (hy.mono hB.size)
              have ho := ho.lower (Nat.zero_le _)
              clear hcO hy
              go_wp2_with fail
              have hcS := refSame_any A1 AE cp1 ce l1 (eachI u) lo1 0 y3 hL ho (by have := HS.out.sizes.1; omega) (by have := HE.out.2.sizes.1; rw [HE.out.1]; omega) (fun g hg => by have := HS.out.sizes.2 g hg; omega) (fun g hg => by rw [HE.out.1] at hg; have := HE.out.2.sizes.2 g hg; omega)
              rw [HM.out, v2] at hcS
              refine hcS.mono ?_
              rintro e y4 ⟨rfl, hy⟩
              have hL := hL.below hy (Nat.le_refl _)
              have hB := hB.trans (hy.mono hB.size)
              clear hcS hy ho
              go_wp2_with fail
              have hcR := right_any A1 cp1 l1 ((u : Int) + 1) lo1 y4 hL HS.out.sizes.1 HS.out.sizes.2 (by omega) (by omega)
              rw [HM.out, right_more HS.out] at hcR
              refine hcR.mono ?_
              rintro e y5 ⟨rfl, hy⟩
              have hL := hL.below hy (Nat.le_refl _)
              have hB := hB.trans (hy.mono hB.size)
              clear hcR hy
              go_wp2_with fail
              have hcR := right_any A1 cp1 l1 ((u : Int) - 1) lo1 y5 hL HS.out.sizes.1 HS.out.sizes.2 (by omega) (by omega)
              rw [HM.out, right_less HS.out] at hcR
              refine hcR.mono ?_
              rintro e y6 ⟨rfl, hy⟩
              have hB := hB.trans (hy.mono hB.size)
              clear hcR hy hL
              go_wp2
              go_ret
              exact ⟨rfl, hB⟩
end Go.Proofs.Ytifcepjflkgbmaa.Sp
