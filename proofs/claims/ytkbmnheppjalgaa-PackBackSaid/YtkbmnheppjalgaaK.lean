/- PackBack: whatever the number and the texts, walked. -/
import Derived.Test.YtkbmnheppjalgaaI
namespace Go.Proofs.Ytkbmnheppjalgaa
open Go.RowKit Pac

theorem encB_list (u : Nat) : (encB u).data.toList = enc u := by simp [encB]
theorem app_list (a b : ByteArray) : (a ++ b).data.toList = a.data.toList ++ b.data.toList := by rw [ByteArray.data_append, Array.toList_append]
theorem len_list (a : ByteArray) : a.data.toList.length = a.size := Array.length_toList
theorem app_assoc (a b c : ByteArray) : a ++ b ++ c = a ++ (b ++ c) := bytesEq (by rw [app_list, app_list, app_list, app_list, List.append_assoc])
theorem drop_app (a b : ByteArray) : (a ++ b).extract a.size (a ++ b).size = b := by
  apply bytesEq
  rw [← ByteArray.toList_eq, Lib.extract_toList, app_list, List.drop_left' (len_list a), ByteArray.size_append]
  exact List.take_of_length_le (by rw [len_list]; omega)
theorem take_app (a b : ByteArray) : (a ++ b).extract 0 a.size = a := by
  apply bytesEq
  rw [← ByteArray.toList_eq, Lib.extract_toList, app_list, List.drop_zero, Nat.sub_zero, List.take_left' (len_list a)]
theorem rdB_enc (u : Nat) (r : ByteArray) (hu : u < 18446744073709551616) : rdB (encB u ++ r) = (unzig u, (encB u).size) := by
  unfold rdB
  rw [app_list, encB_list, rdN_enc u _ hu]
  simp only [len_list, ByteArray.size_append]
  rw [Nat.add_sub_cancel]
theorem num_enc (n : Int) (r : ByteArray) (h0 : -9223372036854775808 ≤ n) (h1 : n ≤ 9223372036854775807) :
    numR (encB (zig n) ++ r) false = n ∧ numS (encB (zig n) ++ r) false = r ∧ numBad (encB (zig n) ++ r) false = false := by
  have h := rdB_enc (zig n) r (zig_lt n h0 h1)
  have hz := (encB_size (zig n)).1
  unfold numR numS numBad
  simp only [Bool.false_eq_true, if_false]
  rw [h]
  refine ⟨unzig_zig n, drop_app _ _, ?_⟩
  exact beq_eq_false_iff_ne.2 (by simp only; omega)
theorem text_enc (s r : ByteArray) (hs : s.size ≤ 500) :
    txtR (txtB s ++ r) false (s.size : Int) = s ∧ txtS (txtB s ++ r) false (s.size : Int) = r ∧ txtBad (txtB s ++ r) false (s.size : Int) = false := by
  have e : txtB s ++ r = encB (zig (s.size : Int)) ++ (s ++ r) := app_assoc _ _ _
  obtain ⟨h1, h2, h3⟩ := num_enc (s.size : Int) (s ++ r) (by omega) (by omega)
  have hb : btwBad (txtB s ++ r) false 0 (s.size : Int) = false := by
    unfold btwBad
    rw [e, h1, h3]
    simp
  have hr : btwR (txtB s ++ r) false 0 (s.size : Int) = (s.size : Int) := by
    unfold btwR
    rw [hb, e, h1]
    rfl
  have ht : txtBad (txtB s ++ r) false (s.size : Int) = false := by
    unfold txtBad
    rw [hb, hr, e, h2, ByteArray.size_append]
    simp
    omega
  unfold txtR txtS
  rw [ht, hr, e, h2]
  exact ⟨by simpa using take_app s r, by simpa using drop_app s r, rfl⟩
theorem text_short (s : ByteArray) (hs : s.size ≤ 500) : txtR (txtB s) false ((s.size : Int) - 1) = ⟨#[]⟩ ∧ txtBad (txtB s) false ((s.size : Int) - 1) = true := by
  obtain ⟨h1, h2, h3⟩ := num_enc (s.size : Int) s (by omega) (by omega)
  have hb : btwBad (txtB s) false 0 ((s.size : Int) - 1) = true := by
    unfold btwBad txtB
    rw [h1, h3]
    simp
    omega
  have ht : txtBad (txtB s) false ((s.size : Int) - 1) = true := by
    unfold txtBad
    rw [hb]
    rfl
  unfold txtR
  rw [ht]
  exact ⟨rfl, rfl⟩

set_option maxRecDepth 20000 in
set_option maxHeartbeats 1600000 in
theorem back_any (n : Int) (s m : ByteArray) (w : World) (h0 : -9223372036854775808 ≤ n) (h1 : n ≤ 9223372036854775807) :
    Calls Try.prog 5 #[.int .i64 n, .string s, .string m] w fun e w' => e = .returned (.bool true) ∧ Below w.heap.size w w' := by
  go_enter Try.func5, Try.ntmps5
  by_cases hst : 500 < s.size ∨ 100 < m.size
  · by_cases hs : 500 < s.size
    · go_wp2_with fail
      refine (awake_any _).mono ?_
      rintro e w2 ⟨rfl, hw2⟩
      go_wp2
      go_ret
      exact ⟨rfl, hw2⟩
    · have hm : 100 < m.size := by omega
      go_wp2_with fail
      refine (awake_any _).mono ?_
      rintro e w2 ⟨rfl, hw2⟩
      go_wp2
      go_ret
      exact ⟨rfl, hw2⟩
  · have hs : ¬ 500 < s.size := by omega
    have hm : ¬ 100 < m.size := by omega
    clear hst
    have f1 := num_enc n (txtB s ++ m) h0 h1
    have f2 := text_enc s m (by omega)
    have f3 := text_short s (by omega)
    have q1 := (encB_size (zig n)).2
    have q3 : (txtB s).size ≤ 510 := by
      unfold txtB
      rw [ByteArray.size_append]
      have := (encB_size (zig s.size)).2
      omega
    have hc1 := fun W : World => num_any n W h0 h1
    have hc2 := fun W : World => text_any s W (by omega)
    have hc3 := fun (g : Nat) (W : World) (hb : IsBox W g (encB (zig n) ++ txtB s ++ m) false) => boxNum_any g _ false W hb (by rw [ByteArray.size_append, ByteArray.size_append]; omega)
    have hc4 := fun (g : Nat) (W : World) (hb : IsBox W g (txtB s ++ m) false) => boxText_any g _ false s.size W hb (by rw [ByteArray.size_append]; omega)
    have hc5 := fun (g : Nat) (W : World) (hb : IsBox W g (txtB s) false) => boxText_any g _ false ((s.size : Int) - 1) W hb (by omega)
    rw [app_assoc, f1.1, f1.2.1, f1.2.2] at hc3
    rw [f2.1, f2.2.1, f2.2.2] at hc4
    rw [f3.1, f3.2] at hc5
    rw [← app_assoc] at hc3
    generalize txtS (txtB s) false ((s.size : Int) - 1) = s9 at hc5
    generalize encB (zig n) = a at hc1 hc3 q1
    generalize txtB s = x at hc2 hc3 hc4 hc5 q3
    clear f1 f2 f3
    go_wp2_with fail
    refine (hc1 _).mono ?_
    rintro e w1 ⟨rfl, hw1⟩
    go_wp2_with fail
    refine (hc2 _).mono ?_
    rintro e w2 ⟨rfl, hw2⟩
    have hB2 := hw1.trans (hw2.mono hw1.size)
    clear hw1 hw2
    go_wp2_with fail
    have hb3 := Box2.new w2 (.string (a ++ x ++ m)) (.bool false) 29
    have hB3 := hB2.alloc hB2.size (.cells #[.string (a ++ x ++ m), .bool false] 29)
    have hg3 := hB2.size
    clear hB2
    refine (hc3 _ _ hb3).mono ?_
    rintro e w4 ⟨rfl, hb4, hw4⟩
    have hB4 := hB3.trans (hw4.below hg3 hB3.size)
    clear hb3 hB3 hw4
    go_wp2_with fail
    refine (hc4 _ _ hb4).mono ?_
    rintro e w5 ⟨rfl, hb5, hw5⟩
    have hB5 := hB4.trans (hw5.below hg3 hB4.size)
    clear hb4 hB4 hw5
    have c0 := hb5.c0
    have c1 := hb5.c1
    have hd := boxDone_any _ m false w5 hb5
    rw [show doneB m false = m.toList.isEmpty from rfl] at hd
    go_wp2_with fail
    refine hd.mono ?_
    rintro e w6 ⟨rfl, rfl⟩
    clear hd
    go_wp2_with fail
    refine (hc2 _).mono ?_
    rintro e w7 ⟨rfl, hw7⟩
    have hB7 := hB5.trans (hw7.mono hB5.size)
    clear hB5 hw7 hb5 c0 c1 hg3
    go_wp2_with fail
    have hb8 := Box2.new w7 (.string x) (.bool false) 29
    have hB8 := hB7.alloc hB7.size (.cells #[.string x, .bool false] 29)
    have hg8 := hB7.size
    clear hB7
    refine (hc5 _ _ hb8).mono ?_
    rintro e w9 ⟨rfl, hb9, hw9⟩
    have hB9 := hB8.trans (hw9.below hg8 hB8.size)
    clear hb8 hB8 hw9
    go_wp2_with fail
    refine (awake_any _).mono ?_
    rintro e w10 ⟨rfl, hw10⟩
    have hB10 := hB9.trans (hw10.mono hB9.size)
    have c1 := (hb9.below hw10 hb9.lt).c1
    go_wp2
    go_ret
    exact ⟨rfl, hB10⟩
end Go.Proofs.Ytkbmnheppjalgaa
