/- Numbers and texts, there and back, plainly. -/
import Derived.Test.YtmjlfhfadmndhaaPacG
namespace Go.Proofs.Ytmjlfhfadmndhaa.Pac
open Go.RowKit

theorem bytesEq' {a b : ByteArray} (h : a.data.toList = b.data.toList) : a = b := ByteArray.ext (Array.toList_inj.1 h)
theorem encB_list (u : Nat) : (encB u).data.toList = enc u := by simp [encB]
theorem app_list (a b : ByteArray) : (a ++ b).data.toList = a.data.toList ++ b.data.toList := by rw [ByteArray.data_append, Array.toList_append]
theorem len_list (a : ByteArray) : a.data.toList.length = a.size := Array.length_toList
theorem app_assoc (a b c : ByteArray) : a ++ b ++ c = a ++ (b ++ c) := bytesEq' (by rw [app_list, app_list, app_list, app_list, List.append_assoc])
theorem drop_app (a b : ByteArray) : (a ++ b).extract a.size (a ++ b).size = b := by
  apply bytesEq'
  rw [← ByteArray.toList_eq, Lib.extract_toList, app_list, List.drop_left' (len_list a), ByteArray.size_append]
  exact List.take_of_length_le (by rw [len_list]; omega)
theorem take_app (a b : ByteArray) : (a ++ b).extract 0 a.size = a := by
  apply bytesEq'
  rw [← ByteArray.toList_eq, Lib.extract_toList, app_list, List.drop_zero, Nat.sub_zero, List.take_left' (len_list a)]
theorem rdB_enc (u : Nat) (r : ByteArray) (hu : u < 18446744073709551616) : rdB (encB u ++ r) = (unzig u, (encB u).size) := by
  unfold rdB
  rw [app_list, encB_list, rdN_enc u _ hu]
  simp only [len_list, ByteArray.size_append]
  rw [Nat.add_sub_cancel]
theorem num_enc (n : Int) (r : ByteArray) (h0 : -9223372036854775808 ≤ n) (h1 : n ≤ 9223372036854775807) :
    numR (encB (zig n) ++ r) false = n ∧ numS (encB (zig n) ++ r) false = r ∧ numBad (encB (zig n) ++ r) false = false := by
  have h := rdB_enc (zig n) r (zig_lt n h0 h1)
  have hz := (encB_size (zig n)).1
  unfold numR numS numBad
  simp only [Bool.false_eq_true, if_false]
  rw [h]
  refine ⟨unzig_zig n, drop_app _ _, ?_⟩
  exact beq_eq_false_iff_ne.2 (by simp only; omega)
theorem text_enc (s r : ByteArray) (most : Int) (hs : s.size ≤ 2147483647) (hm : (s.size : Int) ≤ most) :
    txtR (txtB s ++ r) false most = s ∧ txtS (txtB s ++ r) false most = r ∧ txtBad (txtB s ++ r) false most = false := by
  have e : txtB s ++ r = encB (zig (s.size : Int)) ++ (s ++ r) := app_assoc _ _ _
  obtain ⟨h1, h2, h3⟩ := num_enc (s.size : Int) (s ++ r) (by omega) (by omega)
  have hb : btwBad (txtB s ++ r) false 0 most = false := by
    unfold btwBad
    rw [e, h1, h3]
    simp
    omega
  have hr : btwR (txtB s ++ r) false 0 most = (s.size : Int) := by
    unfold btwR
    rw [hb, e, h1]
    rfl
  have ht : txtBad (txtB s ++ r) false most = false := by
    unfold txtBad
    rw [hb, hr, e, h2, ByteArray.size_append]
    simp
    omega
  unfold txtR txtS
  rw [ht, hr, e, h2]
  exact ⟨by simpa using take_app s r, by simpa using drop_app s r, rfl⟩
/-- A number that lies in its bounds, read between them. -/
theorem btw_enc (n lo hi : Int) (r : ByteArray) (h0 : -9223372036854775808 ≤ n) (h1 : n ≤ 9223372036854775807) (hl : lo ≤ n) (hh : n ≤ hi) :
    btwR (encB (zig n) ++ r) false lo hi = n ∧ numS (encB (zig n) ++ r) false = r ∧ btwBad (encB (zig n) ++ r) false lo hi = false := by
  obtain ⟨e1, e2, e3⟩ := num_enc n r h0 h1
  have hb : btwBad (encB (zig n) ++ r) false lo hi = false := by
    unfold btwBad
    rw [e1, e3]
    simp
    omega
  unfold btwR
  rw [hb, e1, e2]
  exact ⟨rfl, rfl, rfl⟩
end Go.Proofs.Ytmjlfhfadmndhaa.Pac
