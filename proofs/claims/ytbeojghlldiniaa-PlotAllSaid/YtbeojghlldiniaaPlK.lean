/- The first free pages: the document's function, walked (over Taken). -/
import Derived.Test.YtbeojghlldiniaaPlJ
namespace Go.Proofs.Ytbeojghlldiniaa.Pl
open Go.RowKit
section
variable {w : World} {s : ByteArray}
set_option maxRecDepth 20000 in
set_option maxHeartbeats 2000000 in
theorem refPick_walk (n mI : Int) (hs : s.size ≤ 300) (h0 : -9223372036854775808 ≤ n) (h1 : n ≤ 9223372036854775807) (h2 : -9223372036854775808 ≤ mI) (h3 : mI ≤ 1000) :
    Calls Try.prog 9 #[.string s, .int .i64 n, .int .i64 mI] w (PickPost (pickL s.data.toList n.toNat mI.toNat) w) := by
  obtain ⟨i0, hi, hz0, hz1, hz2⟩ := info_partsF infoI
  obtain ⟨m, hm⟩ : ∃ m, min n.toNat 512 = m := ⟨_, rfl⟩
  obtain ⟨k, hk⟩ : ∃ k, mI.toNat = k := ⟨_, rfl⟩
  have HM := Lib.hid (show m ≤ 512 ∧ (∀ q : Nat, q < m ↔ ((q : Int) < n ∧ q < 512)) ∧ (∀ c : Nat, (c : Int) < mI ↔ c < k) ∧ pickL s.data.toList n.toNat k = pickL s.data.toList m k from ⟨by omega, fun q => by omega, fun c => by omega, by unfold pickL freeL; rw [hm, show min m 512 = m by omega]⟩)
  rw [hk, HM.out.2.2.2]
  have HT : Hid (∀ (W : World) (i : Nat), i < 512 → Calls Try.prog 11 #[.string s, .int .i64 i] W fun e w' => e = .returned (.bool (tk s.data.toList i)) ∧ Below W.heap.size W w') := Lib.hid (fun W i hi => by
    rw [← tkI_nat]; exact refTaken_any W hs (by omega) (by omega))
  clear hm hs hk
  generalize s.data.toList = l at HM HT ⊢
  obtain ⟨P, hP⟩ : ∃ P, PickPost (pickL l m k) w = P := ⟨_, rfl⟩
  rw [hP]
  have HPP := Lib.hid hP
  clear hP
  go_enter Try.func9, Try.ntmps9
  go_wp2_with fail
  obtain ⟨base, hbase⟩ : ∃ b, w.heap.size = b := ⟨_, rfl⟩
  have HBs := Lib.hid hbase
  clear hbase
  go_loopw [8, 9] (fun a i wr => ∃ (q c : Nat) (sv : Value), q ≤ m ∧ c ≤ q ∧ c ≤ k ∧ a = sv ∧ i = .int .i64 q ∧ Hid ((freeL l q).length = c) ∧ wr.ownsRow base 3 1 sv c (Li.cellsL cellsN (freeL l q)) ∧ Below base w wr) (fun _ i _ => m - (intOf i).toNat)
  case atStart => exact ⟨0, 0, _, by omega, by omega, by omega, rfl, rfl, Lib.hid rfl, World.ownsRow_nil _ _ _ _, HBs.out ▸ Below.refl _ w⟩
  case round =>
    obtain ⟨q, c, sv, hq, hcq, hck, rfl, rfl, HC, hown, hB⟩ := hrel
    have hm5 := HM.out.1
    obtain ⟨A, cp, rfl, hcp⟩ : ∃ A cp, u8 = .slice A c cp ∧ c ≤ cp := by
      obtain ⟨A, c', e, h1, _⟩ := Li.list_of_own cellsN_len hown HC.out
      exact ⟨A, c', e, h1⟩
    by_cases hlt : q < m ∧ c < k
    · have hh := (HM.out.2.1 q).1 hlt.1
      have hc := (HM.out.2.2.1 c).2 hlt.2
      have d1 : decide ((q : Int) < n) = true := decide_eq_true hh.1
      have d2 : decide (q < 512) = true := decide_eq_true hh.2
      have d3 : decide ((c : Int) < mI) = true := decide_eq_true hc
      have l1 := hh.2
      clear hh hc
      go_wp2_with fail
      refine (HT.out wr q l1).mono ?_
      rintro e y1 ⟨rfl, hb⟩
      have hown := Li.own_below hown hb (Nat.le_refl _)
      have hB := hB.trans (hb.mono (HBs.out ▸ hB.size))
      clear hb d1 d2 d3
      have HB := Lib.hid (And.intro True.intro (And.intro hown hB))
      cases ht : tk l q
      · have HC2 : Hid (freeL l (q + 1) = freeL l q ++ [q] ∧ (freeL l (q + 1)).length = c + 1) := Lib.hid ⟨by rw [free_succ l1, ht, if_neg (by simp)], by rw [free_succ l1, ht, if_neg (by simp), List.length_append, HC.out]; rfl⟩
        have HW := Lib.hid (And.intro (hown.alloc (.cells #[.int .i64 q] 3)) (And.intro (hB.alloc (HBs.out ▸ hB.size) (.cells #[.int .i64 q] 3)) (heap_alloc_new y1 (.cells #[.int .i64 q] 3))))
        have hlt' := Lib.hid hlt
        clear ht hown hB hlt HB
        go_wp2_with (at_builtin; go_must (refine wpList_append_own _ rfl _ _ 24 rfl base 3 i0 (.int .i64 0) 1 8 Try.underlying24 hi hz0 hz1 hz2 rfl (by decide) (.slice A c cp) c (Li.cellsL cellsN (freeL l q)) rfl HW.out.1 ⟨y1.heap.size, 0, none⟩ 1 1 [.int .i64 q] rfl rfl (World.news_of_block HW.out.2.2) (by simp [Value.oneCell']) (by unfold maxLen; omega) (by omega) (HBs.out ▸ HW.out.2.1.size) ?_))
        intro v5 w5 hown5 hgrow5 _
        have hB5 := HW.out.2.1.grown hgrow5 (HBs.out ▸ HW.out.2.1.size) (fun k hk => (HW.out.1.lt k hk).1)
        clear hgrow5 HW
        go_wp2
        go_roundw
        case rel =>
          refine ⟨q + 1, c + 1, _, by have := hlt'.out; omega, by omega, by have := hlt'.out; omega, rfl, by go_num, Lib.hid HC2.out.2, ?_, hB5⟩
          rw [HC2.out.1, Li.cellsL_snoc]
          exact hown5
        case measure => have := hlt'.out; simp [intOf]; omega
      · have HC2 : Hid (freeL l (q + 1) = freeL l q) := Lib.hid (by rw [free_succ l1, ht, if_pos rfl])
        have hlt' := Lib.hid hlt
        clear ht hlt
        go_wp2
        go_roundw
        case rel => exact ⟨q + 1, c, _, by have := hlt'.out; omega, by omega, hck, rfl, by go_num, Lib.hid (by rw [HC2.out]; exact HC.out), by rw [HC2.out]; exact HB.out.2.1, HB.out.2.2⟩
        case measure => have := hlt'.out; simp [intOf]; omega
    · have hend : (c < k ∧ q = m) ∨ c = k := by omega
      have hres : Hid ((decide ((c : Int) < mI) = true ∧ pickL l m k = none) ∨ (decide ((c : Int) < mI) = false ∧ pickL l m k = some (freeL l q))) := Lib.hid (by
        have hmm : min m 512 = m := by omega
        have hsp := free_split (l := l) (p := m) (q := q) (by omega)
        by_cases h : c < k
        · left
          refine ⟨decide_eq_true ((HM.out.2.2.1 c).2 h), ?_⟩
          obtain rfl : q = m := by omega
          unfold pickL
          rw [HC.out, if_neg (by omega)]
        · right
          obtain rfl : c = k := by omega
          refine ⟨decide_eq_false (fun h2 => h ((HM.out.2.2.1 c).1 h2)), ?_⟩
          unfold pickL
          rw [hsp, if_pos (by rw [List.length_append, HC.out]; omega), List.take_left' HC.out])
      have hcase : Hid (decide ((q : Int) < n) = false ∨ (decide ((q : Int) < n) = true ∧ decide ((q : Int) < 512) = false) ∨ (decide ((q : Int) < n) = true ∧ decide ((q : Int) < 512) = true ∧ decide ((c : Int) < mI) = false)) := Lib.hid (by
        by_cases g1 : (q : Int) < n
        · by_cases g2 : q < 512
          · right; right
            have := (HM.out.2.1 q).2 ⟨g1, g2⟩
            exact ⟨decide_eq_true g1, decide_eq_true (by omega), decide_eq_false (fun h2 => hlt ⟨this, (HM.out.2.2.1 c).1 h2⟩)⟩
          · right; left; exact ⟨decide_eq_true g1, decide_eq_false (by omega)⟩
        · left; exact decide_eq_false g1)
      obtain ⟨A3, c3, e3, hc3, hl3⟩ := Li.list_of_own cellsN_len hown HC.out
      have HL3 := Lib.hid (And.intro (hl3.lower (Nat.zero_le _)) (HBs.out ▸ hB))
      injection e3 with e3 _ e4
      subst e3 e4
      clear hlt hend hl3 hown hB
      rcases hres.out with ⟨r1, r2⟩ | ⟨r1, r2⟩
      all_goals
        have R2 := Lib.hid r2
        clear r2
        rcases hcase.out with g1 | ⟨g1, g2⟩ | ⟨g1, g2, g3⟩
        all_goals
          first
          | (rw [r1] at g3; exact absurd g3 (by decide))
          | (try clear g3
             go_wp2_with fail
             rw [← HPP.out, R2.out]
             first
             | exact ⟨none, 0, 0, rfl, rfl, Nat.le_refl _, Li.HasL.nil _ _ _, HL3.out.2⟩
             | exact ⟨A, c, cp, rfl, HC.out, hcp, HL3.out.1, HL3.out.2⟩)
end
end Go.Proofs.Ytbeojghlldiniaa.Pl
