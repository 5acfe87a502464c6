/- PackOne: whatever the bytes and the number, walked. -/
import Derived.Test.YtkbmnheppjalgaaI
namespace Go.Proofs.Ytkbmnheppjalgaa
open Go.RowKit Pac

/-- What is read is written just so. -/
theorem one_form (s : ByteArray) (h : numBad s false = false) : ((encB (zig (numR s false))).toList == (s.extract 0 (s.size - (numS s false).size)).toList) = true := by
  unfold numBad numR numS at *
  simp only [Bool.false_eq_true, if_false] at *
  unfold rdB at *
  rcases hr : rdN s.data.toList with _ | ⟨u, r⟩
  · rw [hr] at h
    simp at h
  · rw [hr] at h
    simp only at h ⊢
    obtain ⟨e, hu⟩ := rdN_some hr
    have hl : s.data.toList.length = s.size := Array.length_toList
    have hl2 : s.size = (enc u).length + r.length := by rw [← hl, e, List.length_append]
    have e1 : s.size - (s.extract (s.size - r.length) s.size).size = (enc u).length := by rw [ByteArray.size_extract]; omega
    rw [e1, zig_unzig, Lib.extract_toList, ByteArray.toList_eq, e]
    unfold encB
    simp
theorem half_len (n : Int) : (encB (zig (n.tdiv 2))).size ≤ (encB (zig n)).size := by
  unfold encB
  show (enc _).toArray.size ≤ (enc _).toArray.size
  rw [List.size_toArray, List.size_toArray]
  exact encF_mono 10 _ _ (zig_half n)

theorem below_drewN {B : Nat} {a w : World} (h : Below B a w) (n : Nat) : Below B a (w.drewN n) := h.trans ⟨rfl, rfl, rfl, Nat.le_refl _, fun _ _ => rfl⟩
theorem tdiv_range (n : Int) (h0 : -9223372036854775808 ≤ n) (h1 : n ≤ 9223372036854775807) : -9223372036854775808 ≤ n.tdiv 2 ∧ n.tdiv 2 ≤ 9223372036854775807 := by
  by_cases h : 0 ≤ n
  · rw [Int.tdiv_eq_ediv_of_nonneg h]; omega
  · have := Int.neg_tdiv (-n) 2
    rw [Int.neg_neg] at this
    rw [this, Int.tdiv_eq_ediv_of_nonneg (by omega)]
    omega

set_option maxRecDepth 20000 in
set_option maxHeartbeats 800000 in
theorem one_any (s : ByteArray) (n : Int) (w : World) (h0 : -9223372036854775808 ≤ n) (h1 : n ≤ 9223372036854775807) :
    Calls Try.prog 6 #[.string s, .int .i64 n] w fun e w' => e = .returned (.bool true) ∧ Below w.heap.size w w' := by
  go_enter Try.func6, Try.ntmps6
  by_cases hs : 50 < s.size
  · go_wp2_with fail
    refine (awake_any _).mono ?_
    rintro e w1 ⟨rfl, hB1⟩
    go_wp2
    go_ret
    exact ⟨rfl, hB1⟩
  · go_wp2_with fail
    have hb0 := Box2.new w (.string s) (.bool false) 29
    have hB0 := (Below.refl w.heap.size w).alloc (Nat.le_refl _) (.cells #[.string s, .bool false] 29)
    have hc := boxNum_any _ s false _ hb0 (by omega)
    have hof := one_form s
    have hr := numR_range s false
    have hsz := numS_size s false
    generalize numR s false = m at hc hof hr
    generalize numS s false = s2 at hc hof hsz
    generalize numBad s false = d at hc hof
    refine hc.mono ?_
    rintro e w1 ⟨rfl, hb1, hw1⟩
    have hB1 := hB0.trans (hw1.below (Nat.le_refl _) hB0.size)
    clear hc hb0 hB0 hw1
    have q1 := half_len n
    have q2 := (encB_size (zig n)).1
    have q3 := (encB_size (zig n)).2
    have ht := tdiv_range n h0 h1
    have hc1 := fun W : World => num_any (n.tdiv 2) W ht.1 ht.2
    have hc2 := fun W : World => num_any n W h0 h1
    generalize encB (zig (n.tdiv 2)) = b1 at q1 hc1
    generalize encB (zig n) = b2 at q1 q2 q3 hc2
    cases d with
    | true =>
      have c1 := hb1.c1
      go_wp2
      go_quiet (fail)
      have hB2 := below_drewN hB1 nq
      clear hb1 hB1 c1
      go_wp2_with fail
      refine (awake_any _).mono ?_
      rintro e w2 ⟨rfl, hw2⟩
      have hB3 := hB2.trans (hw2.mono hB2.size)
      clear hB2 hw2
      go_wp2_with fail
      refine (hc1 _).mono ?_
      rintro e w3 ⟨rfl, hw3⟩
      have hB4 := hB3.trans (hw3.mono hB3.size)
      clear hB3 hw3
      go_wp2_with fail
      refine (hc2 _).mono ?_
      rintro e w4 ⟨rfl, hw4⟩
      have hB5 := hB4.trans (hw4.mono hB4.size)
      clear hB4 hw4
      go_wp2_with fail
      refine (hc2 _).mono ?_
      rintro e w5 ⟨rfl, hw5⟩
      have hB6 := hB5.trans (hw5.mono hB5.size)
      clear hB5 hw5
      go_wp2_with fail
      refine (hc2 _).mono ?_
      rintro e w6 ⟨rfl, hw6⟩
      have hB7 := hB6.trans (hw6.mono hB6.size)
      clear hB6 hw6
      have e9 : decide ((b2.size : Int) ≤ 10) = true := by simp; omega
      go_wp2
      go_ret
      exact ⟨rfl, hB7⟩
    | false =>
      have hE := hof rfl
      have i0 : IntKind.i64.wrap ((s.size : Int) - (s2.size : Int)) = (s.size : Int) - (s2.size : Int) := by rw [IntKind.wrap_i64]; omega
      have i4 : (s2.size : Int) ≤ (s.size : Int) := by omega
      have i1 : (s.size : Int) - (s2.size : Int) ≤ (s.size : Int) := by omega
      have i2 : (0 : Int) ≤ (s.size : Int) - (s2.size : Int) := by omega
      have i3 : ((s.size : Int) - (s2.size : Int)).toNat = s.size - s2.size := by omega
      clear hof
      have CD := Lib.hid (And.intro hb1.drew.c0 hb1.drew.c1)
      go_wp2
      go_region_held3 (fun w' => w'.cell? ⟨w.heap.size, 0, none⟩ = some (.string s2) ∧ w'.cell? ⟨w.heap.size, 1, none⟩ = some (.bool false)) (first | (with_reducible exact hk6) | (with_reducible exact CD.out)) (first | (go_at_call 9; refine (num_any m _ hr.1 hr.2).mono ?_; rintro e w6 ⟨rfl, hb6⟩; have hk6 := And.intro (hb1.drew.below hb6 hb1.drew.lt).c0 (hb1.drew.below hb6 hb1.drew.lt).c1))
      have hB2 := hB1.drew.trans (hb6.mono hB1.drew.size)
      clear hb6 hB1 hb1 CD hk6
      go_wp2_with fail
      refine (awake_any _).mono ?_
      rintro e w2 ⟨rfl, hw2⟩
      have hB3 := hB2.trans (hw2.mono hB2.size)
      clear hB2 hw2
      go_wp2_with fail
      refine (hc1 _).mono ?_
      rintro e w3 ⟨rfl, hw3⟩
      have hB4 := hB3.trans (hw3.mono hB3.size)
      clear hB3 hw3
      go_wp2_with fail
      refine (hc2 _).mono ?_
      rintro e w4 ⟨rfl, hw4⟩
      have hB5 := hB4.trans (hw4.mono hB4.size)
      clear hB4 hw4
      go_wp2_with fail
      refine (hc2 _).mono ?_
      rintro e w8 ⟨rfl, hw8⟩
      have hB6 := hB5.trans (hw8.mono hB5.size)
      clear hB5 hw8
      go_wp2_with fail
      refine (hc2 _).mono ?_
      rintro e w7 ⟨rfl, hw7⟩
      have hB7 := hB6.trans (hw7.mono hB6.size)
      clear hB6 hw7
      have e9 : decide ((b2.size : Int) ≤ 10) = true := by simp; omega
      go_wp2
      go_ret
      exact ⟨rfl, hB7⟩
end Go.Proofs.Ytkbmnheppjalgaa
