/- How many pages are free: the document's function, walked (over Taken). -/
import Derived.Test.YtbeojghlldiniaaPlJ
namespace Go.Proofs.Ytbeojghlldiniaa.Pl
open Go.RowKit
section
variable {w : World} {s : ByteArray}
set_option maxHeartbeats 1000000 in
theorem refFree_walk (n : Int) (hs : s.size ≤ 300) (h0 : -9223372036854775808 ≤ n) (h1 : n ≤ 9223372036854775807) :
    Calls Try.prog 15 #[.string s, .int .i64 n] w fun e w' => e = .returned (.int .i64 ((freeL s.data.toList n.toNat).length : Nat)) ∧ Below w.heap.size w w' := by
  obtain ⟨m, hm⟩ : ∃ m, min n.toNat 512 = m := ⟨_, rfl⟩
  have HM := Lib.hid (show m ≤ 512 ∧ (∀ q : Nat, q < m ↔ ((q : Int) < n ∧ q < 512)) ∧ freeL s.data.toList n.toNat = freeL s.data.toList m from ⟨by omega, fun q => by omega, by unfold freeL; rw [hm, show min m 512 = m by omega]⟩)
  rw [HM.out.2.2]
  have HT : Hid (∀ (W : World) (i : Nat), i < 512 → Calls Try.prog 11 #[.string s, .int .i64 i] W fun e w' => e = .returned (.bool (tk s.data.toList i)) ∧ Below W.heap.size W w') := Lib.hid (fun W i hi => by
    rw [← tkI_nat]; exact refTaken_any W hs (by omega) (by omega))
  clear hm hs
  generalize s.data.toList = l at HM HT ⊢
  go_enter Try.func15, Try.ntmps15
  go_wp2_with fail
  go_loopw [5, 6] (fun a i wr => ∃ q c : Nat, q ≤ m ∧ c ≤ q ∧ a = .int .i64 c ∧ i = .int .i64 q ∧ Hid ((freeL l q).length = c) ∧ Below w.heap.size w wr) (fun _ i _ => m - (intOf i).toNat)
  case atStart => exact ⟨0, 0, by omega, by omega, rfl, rfl, Lib.hid rfl, Below.refl _ _⟩
  case round =>
    obtain ⟨q, c, hq, hcq, rfl, rfl, HC, hB⟩ := hrel
    have hm5 := HM.out.1
    by_cases hlt : q < m
    · have hh := (HM.out.2.1 q).1 hlt
      have d1 : decide ((q : Int) < n) = true := decide_eq_true hh.1
      have d2 : decide ((q : Int) < 512) = true := decide_eq_true (by omega)
      have l1 := hh.2
      clear hh
      go_wp2_with fail
      refine (HT.out wr q l1).mono ?_
      rintro e y1 ⟨rfl, hb⟩
      have hB := hB.trans (hb.mono hB.size)
      clear hb d1 d2
      cases ht : tk l q
      · have HC2 : Hid ((freeL l (q + 1)).length = c + 1) := Lib.hid (by rw [free_succ l1, ht, if_neg (by simp), List.length_append, HC.out]; rfl)
        clear ht
        go_wp2
        go_roundw
        case rel => exact ⟨q + 1, c + 1, by omega, by omega, by go_num, by go_num, HC2, hB⟩
        case measure => simp [intOf]; omega
      · have HC2 : Hid ((freeL l (q + 1)).length = c) := Lib.hid (by rw [free_succ l1, ht, if_pos rfl, HC.out])
        clear ht
        go_wp2
        go_roundw
        case rel => exact ⟨q + 1, c, by omega, by omega, rfl, by go_num, HC2, hB⟩
        case measure => simp [intOf]; omega
    · obtain rfl : q = m := by omega
      have hno : ¬ ((q : Int) < n ∧ q < 512) := fun h => hlt ((HM.out.2.1 q).2 h)
      have hcase : decide ((q : Int) < n) = false ∨ (decide ((q : Int) < n) = true ∧ decide ((q : Int) < 512) = false) := by
        by_cases h : (q : Int) < n
        · right; exact ⟨decide_eq_true h, decide_eq_false (fun h2 => hno ⟨h, by omega⟩)⟩
        · left; exact decide_eq_false h
      clear hno hlt
      rcases hcase with d1 | ⟨d1, d2⟩
      all_goals
        go_wp2
        go_ret
        exact ⟨by rw [HC.out]; rfl, hB⟩
end
end Go.Proofs.Ytbeojghlldiniaa.Pl
