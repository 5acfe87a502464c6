/- PackApart: whatever two numbers and two texts, walked. -/
import Derived.Test.YtkbmnheppjalgaaL
import Derived.Lib.QuietBelow
namespace Go.Proofs.Ytkbmnheppjalgaa
open Go.RowKit Go.Sort Pac

theorem encB_data (u : Nat) : (encB u).data.toList = enc u := by simp [encB]
theorem prefix_iff (a b : ByteArray) (h : a.size ≤ b.size) : ((b.extract 0 a.size).toList == a.toList) = true ↔ ∃ r, b.data.toList = a.data.toList ++ r := by
  rw [Lib.extract_toList, ByteArray.toList_eq, List.drop_zero, Nat.sub_zero, beq_iff_eq]
  constructor
  · intro e
    exact ⟨b.data.toList.drop a.size, by rw [← e, List.take_append_drop]⟩
  · rintro ⟨r, e⟩
    rw [e]
    exact List.take_left' (Array.length_toList)
theorem num_prefix (n m : Int) (hn : zig n < 18446744073709551616) (hm : zig m < 18446744073709551616) (r : List UInt8) (h : enc (zig m) = enc (zig n) ++ r) : n = m := by
  have h1 : enc (zig m) ++ [] = enc (zig n) ++ r := by rw [List.append_nil, h]
  exact zig_inj (enc_apart 10 _ _ _ _ (lt_pow10 hm) (lt_pow10 hn) (by omega) h1).1.symm
theorem txtB_data (s : ByteArray) : (txtB s).data.toList = enc (zig s.size) ++ s.data.toList := by
  unfold txtB
  rw [ByteArray.data_append, Array.toList_append, encB_data]
theorem txt_prefix (s t : ByteArray) (hs : s.size ≤ 300) (ht : t.size ≤ 300) (r : List UInt8) (h : (txtB t).data.toList = (txtB s).data.toList ++ r) : s = t := by
  rw [txtB_data, txtB_data, List.append_assoc] at h
  have hz1 := zig_lt (s.size : Int) (by omega) (by omega)
  have hz2 := zig_lt (t.size : Int) (by omega) (by omega)
  obtain ⟨h1, h2⟩ := enc_apart 10 _ _ _ _ (lt_pow10 hz2) (lt_pow10 hz1) (by omega) h
  have h3 := zig_inj h1
  have h4 : t.data.toList.length = s.data.toList.length + r.length := by rw [h2, List.length_append]
  rw [Array.length_toList, Array.length_toList] at h4
  have h5 : t.data.size = t.size := rfl
  have h6 : s.data.size = s.size := rfl
  have h7 : r = [] := List.length_eq_zero_iff.1 (by omega)
  rw [h7, List.append_nil] at h2
  exact (bytesEq h2).symm
/-- Does one's form begin the other's? -/
theorem numOne (n m : Int) (hn0 : -9223372036854775808 ≤ n) (hn1 : n ≤ 9223372036854775807) (hm0 : -9223372036854775808 ≤ m) (hm1 : m ≤ 9223372036854775807) (h : (encB (zig n)).size ≤ (encB (zig m)).size) :
    (((encB (zig m)).extract 0 (encB (zig n)).size).toList == (encB (zig n)).toList) = (n == m) := by
  rw [Bool.eq_iff_iff, prefix_iff _ _ h, beq_iff_eq, encB_data, encB_data]
  constructor
  · rintro ⟨r, e⟩
    exact num_prefix n m (zig_lt n hn0 hn1) (zig_lt m hm0 hm1) r e
  · rintro rfl
    exact ⟨[], by simp⟩
theorem txtOne (s t : ByteArray) (hs : s.size ≤ 300) (ht : t.size ≤ 300) (h : (txtB s).size ≤ (txtB t).size) :
    (((txtB t).extract 0 (txtB s).size).toList == (txtB s).toList) = (s.toList == t.toList) := by
  rw [Bool.eq_iff_iff, prefix_iff _ _ h, beq_iff_eq, ByteArray.toList_eq, ByteArray.toList_eq]
  constructor
  · rintro ⟨r, e⟩
    rw [txt_prefix s t hs ht r e]
  · intro e
    rw [bytesEq e]
    exact ⟨[], by simp⟩

theorem threeN (n m : Int) (hn0 : -9223372036854775808 ≤ n) (hn1 : n ≤ 9223372036854775807) (hm0 : -9223372036854775808 ≤ m) (hm1 : m ≤ 9223372036854775807) :
    (decide (((encB (zig n)).size : Int) ≤ ((encB (zig m)).size : Int)) = true ∧ (((encB (zig m)).extract 0 (encB (zig n)).size).toList == (encB (zig n)).toList) = true ∧ (n == m) = true) ∨
    (decide (((encB (zig n)).size : Int) ≤ ((encB (zig m)).size : Int)) = true ∧ (((encB (zig m)).extract 0 (encB (zig n)).size).toList == (encB (zig n)).toList) = false ∧ (n == m) = false) ∨
    (decide (((encB (zig n)).size : Int) ≤ ((encB (zig m)).size : Int)) = false ∧ (((encB (zig m)).extract 0 (encB (zig n)).size).toList == (encB (zig n)).toList) = (((encB (zig m)).extract 0 (encB (zig n)).size).toList == (encB (zig n)).toList) ∧ (n == m) = false) := by
  by_cases h : (encB (zig n)).size ≤ (encB (zig m)).size
  · have e := numOne n m hn0 hn1 hm0 hm1 h
    have hd : decide (((encB (zig n)).size : Int) ≤ ((encB (zig m)).size : Int)) = true := decide_eq_true (by omega)
    cases hb : (n == m) with
    | true => exact Or.inl ⟨hd, by rw [e, hb], rfl⟩
    | false => exact Or.inr (Or.inl ⟨hd, by rw [e, hb], rfl⟩)
  · refine Or.inr (Or.inr ⟨decide_eq_false (by omega), rfl, beq_eq_false_iff_ne.2 (fun e => h ?_)⟩)
    rw [e]
    exact Nat.le_refl _
theorem threeT (s t : ByteArray) (hs : s.size ≤ 300) (ht : t.size ≤ 300) :
    (decide (((txtB s).size : Int) ≤ ((txtB t).size : Int)) = true ∧ (((txtB t).extract 0 (txtB s).size).toList == (txtB s).toList) = true ∧ (s.toList == t.toList) = true) ∨
    (decide (((txtB s).size : Int) ≤ ((txtB t).size : Int)) = true ∧ (((txtB t).extract 0 (txtB s).size).toList == (txtB s).toList) = false ∧ (s.toList == t.toList) = false) ∨
    (decide (((txtB s).size : Int) ≤ ((txtB t).size : Int)) = false ∧ (((txtB t).extract 0 (txtB s).size).toList == (txtB s).toList) = (((txtB t).extract 0 (txtB s).size).toList == (txtB s).toList) ∧ (s.toList == t.toList) = false) := by
  by_cases h : (txtB s).size ≤ (txtB t).size
  · have e := txtOne s t hs ht h
    have hd : decide (((txtB s).size : Int) ≤ ((txtB t).size : Int)) = true := decide_eq_true (by omega)
    cases hb : (s.toList == t.toList) with
    | true => exact Or.inl ⟨hd, by rw [e, hb], rfl⟩
    | false => exact Or.inr (Or.inl ⟨hd, by rw [e, hb], rfl⟩)
  · refine Or.inr (Or.inr ⟨decide_eq_false (by omega), rfl, beq_eq_false_iff_ne.2 (fun e => h ?_)⟩)
    rw [ByteArray.toList_eq, ByteArray.toList_eq] at e
    rw [bytesEq e]
    exact Nat.le_refl _
theorem txtB_size (s : ByteArray) : (txtB s).size ≤ s.size + 10 := by
  unfold txtB
  rw [ByteArray.size_append]
  have := (encB_size (zig s.size)).2
  omega

set_option maxRecDepth 20000 in
set_option maxHeartbeats 4000000 in
theorem apart_any (n m : Int) (s t : ByteArray) (w : World) (hn0 : -9223372036854775808 ≤ n) (hn1 : n ≤ 9223372036854775807) (hm0 : -9223372036854775808 ≤ m) (hm1 : m ≤ 9223372036854775807) :
    Calls Try.prog 7 #[.agg #[.int .i64 n, .int .i64 m], .string s, .string t] w fun e w' => e = .returned (.bool true) ∧ Below w.heap.size w w' := by
  have hb0 := Box2.new w (.int .i64 n) (.int .i64 m) 38
  have hB0 := (Below.refl w.heap.size w).alloc (Nat.le_refl _) (.cells #[.int .i64 n, .int .i64 m] 38)
  go_enter Try.func7, Try.ntmps7
  by_cases hst : 300 < s.size ∨ 300 < t.size
  · by_cases hs : 300 < s.size
    all_goals
      have ht : 300 < s.size ∨ (300 < t.size ∧ ¬ 300 < s.size) := by omega
      first
        | (have ht2 : 300 < t.size := by omega)
        | skip
      go_wp2_with fail
      refine (awake_any _).mono ?_
      rintro e w2 ⟨rfl, hw2⟩
      have hB3 := hB0.trans (hw2.mono hB0.size)
      clear hB0 hw2 hb0
      go_wp2
      go_ret
      exact ⟨rfl, hB3⟩
  · have hs : ¬ 300 < s.size := by omega
    have ht : ¬ 300 < t.size := by omega
    have hc1 := fun W : World => num_any n W hn0 hn1
    have hc2 := fun W : World => num_any m W hm0 hm1
    have hc3 := fun W : World => text_any s W (by omega)
    have hc4 := fun W : World => text_any t W (by omega)
    have hO := threeN n m hn0 hn1 hm0 hm1
    have hT := threeT s t (by omega) (by omega)
    have q1 := (encB_size (zig n)).2
    have q2 := (encB_size (zig m)).2
    have q3 := txtB_size s
    have q4 := txtB_size t
    generalize encB (zig n) = a at hc1 hO q1
    generalize encB (zig m) = b at hc2 hO q2
    generalize txtB s = x at hc3 hT q3
    generalize txtB t = y at hc4 hT q4
    have HO := Lib.hid hO
    have HT := Lib.hid hT
    clear hO hT hst
    go_wp2_with fail
    generalize w.alloc (.cells #[.int .i64 n, .int .i64 m] 38) = w1 at hb0 hB0 ⊢
    have r0 := cell_regrown hb0.c0
    have r1 := cell_regrown hb0.c1
    have cC1 : ∀ d os, Calls Try.prog 9 #[.int .i64 n] (grow (redrawn w1 d) os) fun e w'' => e = .returned (.string a) ∧ ∃ p : Regrown, w'' = grow (redrawn w1 p.d) p.os := fun d os => Calls.regrown_of (hc1 _)
    have C1 := Lib.hid cC1
    clear cC1
    have cC2 : ∀ d os, Calls Try.prog 9 #[.int .i64 m] (grow (redrawn w1 d) os) fun e w'' => e = .returned (.string b) ∧ ∃ p : Regrown, w'' = grow (redrawn w1 p.d) p.os := fun d os => Calls.regrown_of (hc2 _)
    have C2 := Lib.hid cC2
    clear cC2
    refine wp_region_quiet_below (by kernel_rfl) (by kernel_rfl) ?_
    repeat (quiet_step ((first | with_reducible exact C1.out _ _ | with_reducible exact C2.out _ _)))
    refine wpQuiet_nil ?_
    intro Wz hw'
    obtain ⟨⟨dq, osq⟩, hw''⟩ := hw'
    subst hw''
    have hw2 := below_regrown w1 dq osq
    have hb2 := hb0.below hw2 hb0.lt
    have hB2 := hB0.trans (hw2.mono hB0.size)
    generalize grow (redrawn w1 dq) osq = w2 at hb2 hB2 hw2 ⊢
    clear C1 C2 hw2 hB0 hb0 r0 r1
    go_wp2_with fail
    refine (hc3 _).mono ?_
    rintro e w3 ⟨rfl, hw3⟩
    have hb3 := hb2.below hw3 hb2.lt
    have hB3 := hB2.trans (hw3.mono hB2.size)
    clear hb2 hB2 hw3
    go_wp2_with fail
    refine (hc4 _).mono ?_
    rintro e w4 ⟨rfl, hw4⟩
    have hb4 := hb3.below hw4 hb3.lt
    have hB4 := hB3.trans (hw4.mono hB3.size)
    clear hb3 hB3 hw4 hc1 hc2 hc3 hc4
    rcases HO.out with ⟨o1, o2, o3⟩ | ⟨o1, o2, o3⟩ | ⟨o1, o2, o3⟩
    all_goals
      have O3 := Lib.hid o3
      clear o3
      first
        | (have io := of_decide_eq_true o1)
        | (have io := Int.not_le.1 (of_decide_eq_false o1))
      rcases HT.out with ⟨t1, t2, t3⟩ | ⟨t1, t2, t3⟩ | ⟨t1, t2, t3⟩
      all_goals
        have T3 := Lib.hid t3
        clear t3
        first
          | (have it := of_decide_eq_true t1)
          | (have it := Int.not_le.1 (of_decide_eq_false t1))
        go_wp2_with fail
        refine (awake_any _).mono ?_
        rintro e w5 ⟨rfl, hw5⟩
        have hb5 := hb4.below hw5 hb4.lt
        have hB5 := hB4.trans (hw5.mono hB4.size)
        clear hb4 hB4 hw5
        have c0 := hb5.c0
        have c1 := hb5.c1
        have o3 := O3.out
        have t3 := T3.out
        go_wp2
        go_ret
        exact ⟨rfl, hB5⟩
end Go.Proofs.Ytkbmnheppjalgaa
