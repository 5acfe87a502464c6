/- SplitJoins: whatever groups, walked. -/
import Derived.Test.YtifcepjflkgbmaaSpQ
namespace Go.Proofs.Ytifcepjflkgbmaa.Sp
open Go.RowKit Pac Lex

set_option maxRecDepth 20000 in
set_option maxHeartbeats 16000000 in
theorem joins_any (A1 : Option Addr) (cp1 : Nat) (l1 : List (List Int)) (cols : Int) (ta tb : Nat) (lo1 : Nat) (w : World) (hlow : lo1 ≤ w.heap.size) (h1 : HasLL w lo1 A1 l1) (hl1 : l1.length ≤ 9223372036854775807) (hg1 : ∀ g ∈ l1, g.length ≤ 9223372036854775807) (hc0 : -9223372036854775808 ≤ cols) (hc1 : cols ≤ 9223372036854775807) (hta : ta < 256) (htb : tb < 256) :
    Calls Try.prog 5 #[.slice A1 l1.length cp1, .int .i64 cols, .agg #[.int .u8 (ta : Int), .int .u8 (tb : Int)]] w fun e w' => e = .returned (.bool true) ∧ Below w.heap.size w w' := by
  have hnew := (Below.refl w.heap.size w).alloc (Nat.le_refl _) (.cells #[.int .u8 (ta : Int), .int .u8 (tb : Int)] 42)
  have hb := Box2.new w (.int .u8 (ta : Int)) (.int .u8 (tb : Int)) 42
  have hL := h1.below hnew (Nat.le_refl _)
  have hB := hnew
  generalize hw1 : w.alloc (.cells #[.int .u8 (ta : Int), .int .u8 (tb : Int)] 42) = w1 at hnew hb hL hB
  have hcs := small_any A1 cp1 l1 lo1 w1 hL hl1 hg1
  obtain ⟨m, hm⟩ : ∃ m, l1.length = m := ⟨_, rfl⟩
  have HM := Lib.hid hm
  rw [hm] at hcs hl1 ⊢
  clear h1 hm hg1 hnew
  obtain ⟨f, hf⟩ : ∃ f, fewB l1 = f := ⟨_, rfl⟩
  rw [hf] at hcs
  have HFW := Lib.hid hf
  clear hf
  go_enter Try.func5, Try.ntmps5
  go_wp2_with fail
  clear hw1
  refine hcs.mono ?_
  rintro e w2 ⟨rfl, hy⟩
  have hL := hL.below hy (Nat.le_refl _)
  have hb := hb.below hy hb.lt
  have hB := hB.trans (hy.mono hB.size)
  clear hcs hy
  cases f
  · clear hL hb
    go_wp2_with fail
    refine (awake_any _).mono ?_
    rintro e y9 ⟨rfl, hy⟩
    have hB := hB.trans (hy.mono hB.size)
    clear hy
    go_wp2
    go_ret
    exact ⟨rfl, hB⟩
  · have hfew := few_out HFW.out
    have hcr := right_any A1 cp1 l1 cols lo1 w2 hL (by omega) (fun g hg => by have := hfew.2 g hg; omega) hc0 hc1
    obtain ⟨r, hr⟩ : ∃ r, rightSp l1 cols = r := ⟨_, rfl⟩
    rw [hr, HM.out] at hcr
    have HR := Lib.hid hr
    clear hr hfew
    go_wp2_with fail
    refine hcr.mono ?_
    rintro e w3 ⟨rfl, hy⟩
    have hL := hL.below hy (Nat.le_refl _)
    have hb := hb.below hy hb.lt
    have hB := hB.trans (hy.mono hB.size)
    clear hy hcr
    cases r
    · clear hL hb
      go_wp2_with fail
      refine (awake_any _).mono ?_
      rintro e y9 ⟨rfl, hy⟩
      have hB := hB.trans (hy.mono hB.size)
      clear hy
      go_wp2
      go_ret
      exact ⟨rfl, hB⟩
    · by_cases hm2 : m < 2
      · clear hL hb
        go_wp2_with fail
        refine (awake_any _).mono ?_
        rintro e y9 ⟨rfl, hy⟩
        have hB := hB.trans (hy.mono hB.size)
        clear hy
        go_wp2
        go_ret
        exact ⟨rfl, hB⟩
      · obtain ⟨n, rfl, hs⟩ := right_out HR.out
        have HS := Lib.hid hs
        have hm8 : m ≤ 8 := by have := hs.few; have := hs.n8; have := HM.out; omega
        have hn8 := hs.n8
        have HLO := Lib.hid hlow
        clear hs hlow
        have m0 : ((m : Int) == 0) = false := beq_eq_false_iff_ne.2 (by omega)
        have b0 := hb.c0
        have b1 := hb.c1
        obtain ⟨a, ea, ha⟩ : ∃ a : Nat, Int.tmod (ta : Int) (m : Int) = (a : Int) ∧ a < m := ⟨ta % m, by rw [← Int.ofNat_tmod], Nat.mod_lt _ (by omega)⟩
        obtain ⟨b, eb, hb'⟩ : ∃ b : Nat, Int.tmod (tb : Int) (m : Int) = (b : Int) ∧ b < m := ⟨tb % m, by rw [← Int.ofNat_tmod], Nat.mod_lt _ (by omega)⟩
        go_wp2
        go_quiet (fail)
        have hB := hB.trans (below_drewN (Below.refl w.heap.size w3) nq)
        clear b0 b1 m0
        have hL := hL.below (below_drewN (Below.refl w3.heap.size w3) nq) (Nat.le_refl _)
        have hlo := Nat.le_trans HLO.out hB.size
        have hcj := join_any A1 cp1 l1 n (a : Int) (b : Int) lo1 (w3.drewN nq) hL HS.out hlo (by omega) (by omega) (by omega) (by omega)
        rw [HM.out] at hcj
        obtain ⟨lj, hlj⟩ : ∃ lj, joinI l1 (a : Int) (b : Int) = lj := ⟨_, rfl⟩
        rw [hlj] at hcj
        have HLJ := Lib.hid hlj
        obtain ⟨mj, hmj⟩ : ∃ m, lj.length = m := ⟨_, rfl⟩
        unfold JoinPost at hcj
        rw [hmj] at hcj
        have HMJ := Lib.hid hmj
        clear hlj hmj ea eb hlo hm2 hb
        by_cases hab : a = b
        · subst hab
          go_wp2_with fail
          refine hcj.mono ?_
          rintro e w5 ⟨AX, cx, rfl, hX, hy⟩
          have hL := hL.below hy (Nat.le_refl _)
          have hB := hB.trans (hy.mono hB.size)
          have hlj : lj = l1 := by rw [← HLJ.out, joinI_self]
          clear hy hcj
          go_wp2_with fail
          refine (awake_any _).mono ?_
          rintro e w6 ⟨rfl, hy⟩
          have hL := hL.below hy (Nat.le_refl _)
          have hX := hX.below hy (Nat.le_refl _)
          have hB := hB.trans (hy.mono hB.size)
          have hcS := refSame_any AX A1 cx cp1 lj l1 lo1 lo1 w6 hX hL (by rw [hlj]; have := HS.out.sizes.1; omega) (by have := HS.out.sizes.1; omega) (fun g hg => by rw [hlj] at hg; have := HS.out.sizes.2 g hg; omega) (fun g hg => by have := HS.out.sizes.2 g hg; omega)
          rw [HM.out, HMJ.out, decide_eq_true hlj] at hcS
          clear hy hlj
          go_wp2_with fail
          refine hcS.mono ?_
          rintro e w7 ⟨rfl, hy⟩
          have hB := hB.trans (hy.mono hB.size)
          clear hy hcS hL hX
          go_wp2
          go_ret
          exact ⟨rfl, hB⟩
        · have HJ : Hid (IsSplit lj n ∧ mj + 1 = m ∧ ∀ c i k, atG c l1 = some (i, k) → ∃ k', atG c lj = some (went (min a b) (max a b) i, k')) := Lib.hid (by
            rw [← HLJ.out, ← HMJ.out, ← HM.out, ← HLJ.out]
            exact joinI_split HS.out (by rw [HM.out]; exact ha) (by rw [HM.out]; exact hb') hab)
          have hmx : min a b < max a b := by omega
          have b1 : ((a : Int) == (b : Int)) = false := beq_eq_false_iff_ne.2 (by omega)
          have hmj := HJ.out.2.1
          go_wp2_with fail
          refine hcj.mono ?_
          rintro e w5 ⟨AX, cx, rfl, hX, hy⟩
          have hL := hL.below hy (Nat.le_refl _)
          have hB := hB.trans (hy.mono hB.size)
          have HA := Lib.hid (And.intro hL hX)
          clear hy hcj hL hX
          go_wp2
          go_loopw [10] (fun i wr => ∃ (c : Nat), c ≤ n ∧ i = .int .i64 c ∧ Below w5.heap.size w5 wr) (fun i _ => n - (intOf i).toNat)
          case atStart => exact ⟨0, Nat.zero_le _, rfl, Below.refl _ _⟩
          case round =>
            obtain ⟨c, hc, rfl, hBr⟩ := hrel
            by_cases hlt : c < n
            · have i1 : (c : Int) < (n : Int) := by omega
              go_wp2
              go_loopw [11] (fun i wq => ∃ (d : Nat), d ≤ n ∧ i = .int .i64 d ∧ Below w5.heap.size w5 wq) (fun i _ => n - (intOf i).toNat)
              case atStart => exact ⟨0, Nat.zero_le _, rfl, hBr⟩
              case round =>
                clear hBr
                obtain ⟨d, hd, rfl, hBr⟩ := hrel
                by_cases hld : d < n
                · have i2 : (d : Int) < (n : Int) := by omega
                  obtain ⟨i1, k1, _, ec, _, _⟩ := HS.out.found (c := (c : Int)) (by omega) i1
                  obtain ⟨i2, k2, _, ed, _, _⟩ := HS.out.found (c := (d : Int)) (by omega) i2
                  obtain ⟨k3, ec'⟩ := HJ.out.2.2 _ _ _ ec
                  obtain ⟨k4, ed'⟩ := HJ.out.2.2 _ _ _ ed
                  have hL := HA.out.1.below hBr (Nat.le_refl _)
                  have hX := HA.out.2.below hBr (Nat.le_refl _)
                  generalize hwm : went (min a b) (max a b) i1 = n1 at ec'
                  generalize hwd : went (min a b) (max a b) i2 = n2 at ed'
                  have HW := Lib.hid (And.intro hwm hwd)
                  clear hwm hwd
                  have hcf := find_any A1 cp1 l1 c _ wr hL HS.out.sizes.1 HS.out.sizes.2
                  rw [HM.out] at hcf
                  go_wp2_with fail
                  refine hcf.mono ?_
                  rintro e z1 ⟨i1, k1, b1, rfl, f1, f2, hy⟩
                  obtain ⟨rfl, rfl, rfl⟩ := find_yes f1 f2 ec
                  have hBr := hBr.trans (hy.mono hBr.size)
                  have hL := hL.below hy (Nat.le_refl _)
                  have hX := hX.below hy (Nat.le_refl _)
                  clear hcf f1 f2 hy
                  have hcf := find_any A1 cp1 l1 d _ z1 hL HS.out.sizes.1 HS.out.sizes.2
                  rw [HM.out] at hcf
                  go_wp2_with fail
                  refine hcf.mono ?_
                  rintro e z2 ⟨i2, k2, b2, rfl, f1, f2, hy⟩
                  obtain ⟨rfl, rfl, rfl⟩ := find_yes f1 f2 ed
                  have hBr := hBr.trans (hy.mono hBr.size)
                  have hL := hL.below hy (Nat.le_refl _)
                  have hX := hX.below hy (Nat.le_refl _)
                  clear hcf f1 f2 hy
                  have hcf := find_any AX cx lj c _ z2 hX HJ.out.1.sizes.1 HJ.out.1.sizes.2
                  rw [HMJ.out] at hcf
                  go_wp2_with fail
                  refine hcf.mono ?_
                  rintro e z3 ⟨i3, k3, b3, rfl, f1, f2, hy⟩
                  obtain ⟨rfl, rfl, rfl⟩ := find_yes f1 f2 ec'
                  have hBr := hBr.trans (hy.mono hBr.size)
                  have hL := hL.below hy (Nat.le_refl _)
                  have hX := hX.below hy (Nat.le_refl _)
                  clear hcf f1 f2 hy
                  have hcf := find_any AX cx lj d _ z3 hX HJ.out.1.sizes.1 HJ.out.1.sizes.2
                  rw [HMJ.out] at hcf
                  go_wp2_with fail
                  refine hcf.mono ?_
                  rintro e z4 ⟨i4, k4, b4, rfl, f1, f2, hy⟩
                  obtain ⟨rfl, rfl, rfl⟩ := find_yes f1 f2 ed'
                  have hBr := hBr.trans (hy.mono hBr.size)
                  have hL := hL.below hy (Nat.le_refl _)
                  have hX := hX.below hy (Nat.le_refl _)
                  clear hcf f1 f2 hy
                  clear hL hX ec ed ec' ed'
                  have hwm := HW.out.1
                  have hwd := HW.out.2
                  by_cases q1 : i1 = i2
                  · have e1 : ((i1 : Int) == (i2 : Int)) = true := beq_iff_eq.2 (by omega)
                    have es : ((i3 : Int) == (i4 : Int)) = true := beq_iff_eq.2 (by have := (went_same (i := i1) (k := i2) hmx).2 (by omega); omega)
                    clear hwm hwd
                    go_wp2
                    go_roundw
                    case rel => exact ⟨d + 1, by omega, by go_num, hBr⟩
                    case measure => simp [intOf]; omega
                  · by_cases q2 : i1 = a
                    · by_cases q3 : i2 = b
                      · have e1 : ((i1 : Int) == (i2 : Int)) = false := beq_eq_false_iff_ne.2 (by omega)
                        have e2 : ((i1 : Int) == (a : Int)) = true := beq_iff_eq.2 (by omega)
                        have e3 : ((i2 : Int) == (b : Int)) = true := beq_iff_eq.2 (by omega)
                        have es : ((i3 : Int) == (i4 : Int)) = true := beq_iff_eq.2 (by have := (went_same (i := i1) (k := i2) hmx).2 (by omega); omega)
                        clear hwm hwd
                        go_wp2
                        go_roundw
                        case rel => exact ⟨d + 1, by omega, by go_num, hBr⟩
                        case measure => simp [intOf]; omega
                      · have e1 : ((i1 : Int) == (i2 : Int)) = false := beq_eq_false_iff_ne.2 (by omega)
                        have e2 : ((i1 : Int) == (a : Int)) = true := beq_iff_eq.2 (by omega)
                        have e3 : ((i2 : Int) == (b : Int)) = false := beq_eq_false_iff_ne.2 (by omega)
                        have e4 : ((i1 : Int) == (b : Int)) = false := beq_eq_false_iff_ne.2 (by omega)
                        have es : ((i3 : Int) == (i4 : Int)) = false := beq_eq_false_iff_ne.2 (fun e => by have := (went_same (i := i1) (k := i2) hmx).1 (by omega); omega)
                        clear hwm hwd
                        go_wp2
                        go_roundw
                        case rel => exact ⟨d + 1, by omega, by go_num, hBr⟩
                        case measure => simp [intOf]; omega
                    · by_cases q3 : i1 = b
                      · by_cases q4 : i2 = a
                        · have e1 : ((i1 : Int) == (i2 : Int)) = false := beq_eq_false_iff_ne.2 (by omega)
                          have e2 : ((i1 : Int) == (a : Int)) = false := beq_eq_false_iff_ne.2 (by omega)
                          have e4 : ((i1 : Int) == (b : Int)) = true := beq_iff_eq.2 (by omega)
                          have e5 : ((i2 : Int) == (a : Int)) = true := beq_iff_eq.2 (by omega)
                          have es : ((i3 : Int) == (i4 : Int)) = true := beq_iff_eq.2 (by have := (went_same (i := i1) (k := i2) hmx).2 (by omega); omega)
                          clear hwm hwd
                          go_wp2
                          go_roundw
                          case rel => exact ⟨d + 1, by omega, by go_num, hBr⟩
                          case measure => simp [intOf]; omega
                        · have e1 : ((i1 : Int) == (i2 : Int)) = false := beq_eq_false_iff_ne.2 (by omega)
                          have e2 : ((i1 : Int) == (a : Int)) = false := beq_eq_false_iff_ne.2 (by omega)
                          have e4 : ((i1 : Int) == (b : Int)) = true := beq_iff_eq.2 (by omega)
                          have e5 : ((i2 : Int) == (a : Int)) = false := beq_eq_false_iff_ne.2 (by omega)
                          have es : ((i3 : Int) == (i4 : Int)) = false := beq_eq_false_iff_ne.2 (fun e => by have := (went_same (i := i1) (k := i2) hmx).1 (by omega); omega)
                          clear hwm hwd
                          go_wp2
                          go_roundw
                          case rel => exact ⟨d + 1, by omega, by go_num, hBr⟩
                          case measure => simp [intOf]; omega
                      · have e1 : ((i1 : Int) == (i2 : Int)) = false := beq_eq_false_iff_ne.2 (by omega)
                        have e2 : ((i1 : Int) == (a : Int)) = false := beq_eq_false_iff_ne.2 (by omega)
                        have e4 : ((i1 : Int) == (b : Int)) = false := beq_eq_false_iff_ne.2 (by omega)
                        have es : ((i3 : Int) == (i4 : Int)) = false := beq_eq_false_iff_ne.2 (fun e => by have := (went_same (i := i1) (k := i2) hmx).1 (by omega); omega)
                        clear hwm hwd
                        go_wp2
                        go_roundw
                        case rel => exact ⟨d + 1, by omega, by go_num, hBr⟩
                        case measure => simp [intOf]; omega
                · obtain rfl : d = n := by omega
                  go_wp2
                  go_roundw
                  case rel => exact ⟨c + 1, by omega, by go_num, hBr⟩
                  case measure => simp [intOf]; omega
            · obtain rfl : c = n := by omega
              have hL := HA.out.1.below hBr (Nat.le_refl _)
              have hX := HA.out.2.below hBr (Nat.le_refl _)
              have hB := hB.trans (hBr.mono hB.size)
              go_wp2_with fail
              refine (awake_any _).mono ?_
              rintro e w6 ⟨rfl, hy⟩
              have hX := hX.below hy (Nat.le_refl _)
              have hB := hB.trans (hy.mono hB.size)
              have hcR := right_any AX cx lj c lo1 w6 hX HJ.out.1.sizes.1 HJ.out.1.sizes.2 (by omega) (by omega)
              rw [HMJ.out, rightSp_nat.1 HJ.out.1] at hcR
              clear hy
              have em : ((mj : Int) == (m : Int) - 1) = true := beq_iff_eq.2 (by omega)
              go_wp2_with fail
              refine hcR.mono ?_
              rintro e w7 ⟨rfl, hy⟩
              have hB := hB.trans (hy.mono hB.size)
              clear hy hcR hX hL
              go_wp2
              go_ret
              exact ⟨rfl, hB⟩
end Go.Proofs.Ytifcepjflkgbmaa.Sp
