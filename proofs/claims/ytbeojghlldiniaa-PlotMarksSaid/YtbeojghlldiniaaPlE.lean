/- PlotPicks, walked. -/
import Derived.Test.YtbeojghlldiniaaPlD
namespace Go.Proofs.Ytbeojghlldiniaa.Pl
open Go.RowKit
section
variable {w : World}
theorem picks_no (s : ByteArray) (a0 a1 : Int) (hs : s.size ≠ 200) (hs2 : s.size ≤ 9223372036854775807) :
    Calls Try.prog 5 #[.string s, .agg #[.int .u16 a0, .int .u16 a1]] w fun e w' => e = .returned (.bool true) ∧ Below w.heap.size w w' := by
  have hbox := (Below.refl w.heap.size w).alloc (Nat.le_refl _) (.cells #[.int .u16 a0, .int .u16 a1] 37)
  have d1 : ((s.size : Int) != 200) = true := bne_iff_ne.2 (by omega)
  go_enter Try.func5, Try.ntmps5
  go_wp2_with fail
  refine (awake_any _).mono ?_
  rintro e w1 ⟨rfl, hb1⟩
  go_wp2
  go_ret
  exact ⟨rfl, hbox.trans (hb1.mono hbox.size)⟩
set_option maxRecDepth 20000 in
set_option maxHeartbeats 4000000 in
theorem picks_yes (s : ByteArray) (a0 a1 : Nat) (hs : s.size = 200) (h0 : a0 ≤ 65535) (h1 : a1 ≤ 65535) :
    Calls Try.prog 5 #[.string s, .agg #[.int .u16 a0, .int .u16 a1]] w fun e w' => e = .returned (.bool true) ∧ Below w.heap.size w w' := by
  have hbox := Lib.hid ((Below.refl w.heap.size w).alloc (Nat.le_refl _) (.cells #[.int .u16 a0, .int .u16 a1] 37))
  have c0 : (w.alloc (.cells #[.int .u16 a0, .int .u16 a1] 37)).cell? ⟨w.heap.size, 0, none⟩ = some (.int .u16 a0) := by simp
  have c1 : (w.alloc (.cells #[.int .u16 a0, .int .u16 a1] 37)).cell? ⟨w.heap.size, 1, none⟩ = some (.int .u16 a1) := by simp
  obtain ⟨p, hp⟩ : ∃ p, p = a0 % 513 := ⟨_, rfl⟩
  obtain ⟨k, hk⟩ : ∃ k, k = a1 % 513 := ⟨_, rfl⟩
  have HX := Lib.hid (show (a0 : Int) % 513 = (p : Int) ∧ (a1 : Int) % 513 = (k : Int) ∧ p ≤ 512 ∧ k ≤ 512 ∧ a0 ≤ 65535 ∧ a1 ≤ 65535 from ⟨by omega, by omega, by omega, by omega, h0, h1⟩)
  obtain ⟨l, hl⟩ : ∃ l, s.data.toList = l := ⟨_, rfl⟩
  have HPk : Hid (∀ W, Calls Try.prog 8 #[.string s, .int .i64 p, .int .i64 k] W (PickPost (pickL l p k) W)) := Lib.hid (fun W => by
    have := pick_any (s := s) (n := (p : Int)) (m := (k : Int)) W (by omega) (by omega) (by have := HX.out.2.2.1; omega) (by omega) (by have := HX.out.2.2.2.1; omega)
    rw [hl, Int.toNat_natCast, Int.toNat_natCast] at this
    exact this)
  obtain ⟨fn, hfn⟩ : ∃ fn, (freeL l p).length = fn := ⟨_, rfl⟩
  have HFr : Hid (∀ W, Calls Try.prog 14 #[.string s, .int .i64 p] W fun e w' => e = .returned (.int .i64 (fn : Nat)) ∧ Below W.heap.size W w') := Lib.hid (fun W => by
    have := free_any (s := s) (n := (p : Int)) W (by omega) (by omega) (by have := HX.out.2.2.1; omega)
    rw [hl, Int.toNat_natCast, hfn] at this
    exact this)
  have HTk : Hid (∀ (W : World) (i : Nat), i < 512 → Calls Try.prog 10 #[.string s, .int .i64 i] W fun e w' => e = .returned (.bool (tk l i)) ∧ Below W.heap.size W w') := Lib.hid (fun W i hi => by
    rw [← hl, ← tkI_nat]; exact taken_any W (by omega) (by omega) (by omega))
  have d1 : ((s.size : Int) != 200) = false := by rw [hs]; rfl
  have HF := Lib.hid hfn
  clear hs hp hk h0 h1 hl hfn
  go_enter Try.func5, Try.ntmps5
  go_wp2_with fail
  go_quiet (fail)
  have v0 : (wrap64 (a0 : Int)).tmod 513 = (p : Int) := by rw [w64 (by omega) (by have := HX.out.2.2.2.2.1; omega), Int.tmod_eq_emod_of_nonneg (by omega)]; exact HX.out.1
  have v1 : (wrap64 (a1 : Int)).tmod 513 = (k : Int) := by rw [w64 (by omega) (by have := HX.out.2.2.2.2.2; omega), Int.tmod_eq_emod_of_nonneg (by omega)]; exact HX.out.2.1
  simp only [v0, v1]
  clear v0 v1 d1 c0 c1
  rename_i nq
  have hB := below_drewN hbox.out nq
  clear hbox
  generalize (w.alloc (.cells #[.int .u16 a0, .int .u16 a1] 37)).drewN nq = w1 at hB ⊢
  go_wp2_with fail
  refine (HPk.out w1).mono ?_
  rintro e w2 ⟨A, n, cp, rfl, hn, hcp, hN, hb⟩
  have hB := hB.trans (hb.mono hB.size)
  clear hb
  cases ho : pickL l p k with
  | none =>
    rw [ho] at hn
    obtain rfl : n = 0 := hn.symm
    have hlt : Hid (fn < k) := Lib.hid (by
      rw [← HF.out]
      unfold pickL at ho
      split at ho
      · cases ho
      · omega)
    clear ho hN hcp
    go_wp2_with fail
    refine (awake_any w2).mono ?_
    rintro e y1 ⟨rfl, hb⟩
    have hB := hB.trans (hb.mono hB.size)
    clear hb
    go_wp2_with fail
    refine (HFr.out y1).mono ?_
    rintro e y2 ⟨rfl, hb⟩
    have hB := hB.trans (hb.mono hB.size)
    clear hb
    have e1 : decide (fn < k) = true := decide_eq_true hlt.out
    go_wp2_with fail
    go_ret
    exact ⟨rfl, hB⟩
  | some r =>
    rw [ho] at hn hN
    simp only [Option.getD_some] at hn hN
    have hrk := pick_len ho
    obtain rfl : n = k := by omega
    have HO : Hid ((∀ j a, j < n → (freeL l p)[j]? = some a → r[j]? = some a) ∧ n ≤ fn ∧ n ≤ 512 ∧ p ≤ 512) := Lib.hid (by
      refine ⟨fun j a hj ha => ?_, ?_, HX.out.2.2.2.1, HX.out.2.2.1⟩
      · unfold pickL at ho
        split at ho
        · injection ho with ho
          rw [← ho, List.getElem?_take, if_pos hj]
          exact ha
        · cases ho
      · rw [← HF.out]
        unfold pickL at ho
        split at ho
        · assumption
        · cases ho)
    have HN := Lib.hid hN
    clear ho hrk hn hN
    go_wp2_with fail
    go_loopw [9, 10] (fun a i wr => ∃ q c : Nat, q ≤ p ∧ c ≤ n ∧ a = .int .i64 c ∧ i = .int .i64 q ∧ Hid ((freeL l q).length = c) ∧ Hid (HasN wr 0 A r) ∧ Below w.heap.size w wr) (fun _ i _ => p - (intOf i).toNat)
    case atStart => exact ⟨0, 0, by omega, by omega, rfl, rfl, Lib.hid rfl, HN, hB⟩
    case round =>
      clear hB HN
      obtain ⟨q, c, hq, hc, rfl, rfl, HC, HN, hB⟩ := hrel
      by_cases hlt : q < p ∧ c < n
      · have HH := Lib.hid hlt
        have d1 : decide ((q : Int) < (p : Int)) = true := by have := HH.out; simp; omega
        have d2 : decide ((c : Int) < (n : Int)) = true := by have := HH.out; simp; omega
        have l1 : q < 512 := by have := HO.out.2.2.2; omega
        have l2 : n ≤ 512 := HO.out.2.2.1
        have l3 : p ≤ 512 := HO.out.2.2.2
        go_wp2_with fail
        refine (HTk.out wr q l1).mono ?_
        rintro e y1 ⟨rfl, hb⟩
        have hB := hB.trans (hb.mono hB.size)
        have HN := Lib.hid (Li.HasL.below HN.out hb (Nat.le_refl _))
        clear hb
        cases ht : tk l q
        · have hat := free_at (l := l) (p := p) (q := q) (by have := HH.out; omega) ht
          rw [HC.out] at hat
          obtain ⟨b, o, rfl, c0⟩ := HasN.at HN.out (HO.out.1 c q HH.out.2 hat)
          have HC2 : Hid ((freeL l (q + 1)).length = c + 1) := Lib.hid (by rw [free_succ l1, ht, if_neg (by simp), List.length_append, HC.out]; rfl)
          have i0 : (0 : Int) ≤ (c : Int) := by omega
          have i1 : (c : Int) < (n : Int) := by have := HH.out; omega
          have d3 : ((q : Int) != (q : Int)) = false := by simp
          clear hat ht
          go_wp2
          go_roundw
          case rel => exact ⟨q + 1, c + 1, by have := HH.out; omega, by have := HH.out; omega, by go_num, by go_num, HC2, HN, hB⟩
          case measure => have := HH.out; simp [intOf]; omega
        · have HC2 : Hid ((freeL l (q + 1)).length = c) := Lib.hid (by rw [free_succ l1, ht, if_pos rfl, HC.out])
          clear ht
          go_wp2
          go_roundw
          case rel => exact ⟨q + 1, c, by have := HH.out; omega, hc, rfl, by go_num, HC2, HN, hB⟩
          case measure => have := HH.out; simp [intOf]; omega
      · have hcn : c = n := by
          by_cases h : q = p
          · subst h
            have h1 := HF.out
            rw [HC.out] at h1
            have := HO.out.2.1
            omega
          · omega
        have hcase : Hid (decide (q < p) = false ∨ (decide (q < p) = true ∧ decide (c < n) = false)) := Lib.hid (by
          by_cases h : q < p
          · right; exact ⟨decide_eq_true h, decide_eq_false (by omega)⟩
          · left; exact decide_eq_false h)
        have e3 : decide (n ≤ fn) = true := decide_eq_true HO.out.2.1
        have e1 : ((n : Int) == (n : Int)) = true := by simp
        clear hlt
        subst hcn
        rcases hcase.out with d1 | ⟨d1, d2⟩
        all_goals
          go_wp2_with fail
          refine (awake_any wr).mono ?_
          rintro e y1 ⟨rfl, hb⟩
          have hB := hB.trans (hb.mono hB.size)
          clear hb
          go_wp2_with fail
          refine (HFr.out y1).mono ?_
          rintro e y2 ⟨rfl, hb⟩
          have hB := hB.trans (hb.mono hB.size)
          clear hb
          go_wp2_with fail
          go_ret
          exact ⟨rfl, hB⟩
end
end Go.Proofs.Ytbeojghlldiniaa.Pl
