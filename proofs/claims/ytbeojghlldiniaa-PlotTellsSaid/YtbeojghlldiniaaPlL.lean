/- Where the catalog begins, a mark: the document's functions, walked. -/
import Derived.Test.YtbeojghlldiniaaPlK
import Derived.Test.YtbeojghlldiniaaByA
namespace Go.Proofs.Ytbeojghlldiniaa.Pl
open Go.RowKit By
section
variable {w : World} {s : ByteArray}
set_option maxHeartbeats 1000000 in
theorem refRoot_walk (hs : s.size ≤ 300) :
    Calls Try.prog 18 #[.string s] w fun e w' => e = .returned (.int .i64 (rootN s.data.toList : Nat)) ∧ Below w.heap.size w w' := by
  by_cases c1 : s.size < 66
  · have hv : rootN s.data.toList = 0 := by unfold rootN; rw [if_pos (by simpa using c1)]
    rw [hv]
    have d1 : (s.size : Int) < 66 := by omega
    go_enter Try.func18, Try.ntmps18
    go_wp2
    go_ret
    exact ⟨rfl, Below.refl _ _⟩
  · have hv : rootN s.data.toList = s[64].toNat * 256 + s[65].toNat := by unfold rootN; rw [if_neg (by simpa using c1), byte_at, byte_at]
    rw [hv]
    have h1 := s[64].toNat_lt
    have h2 := s[65].toNat_lt
    have d1 : ¬ (s.size : Int) < 66 := by omega
    have i1 : (64 : Int) < (s.size : Int) := by omega
    have i2 : (65 : Int) < (s.size : Int) := by omega
    go_enter Try.func18, Try.ntmps18
    go_wp2
    go_quiet (fail)
    have hd := below_drewN (Below.refl w.heap.size w) nq
    go_wp2
    go_ret
    exact ⟨rfl, hd⟩
end
section
variable {w : World} {s : ByteArray}
set_option maxHeartbeats 1000000 in
theorem refMark_walk (n : Int) (t : Bool) (hs : s.size ≤ 300) (h0 : -9223372036854775808 ≤ n) (h1 : n ≤ 9223372036854775807) :
    Calls Try.prog 13 #[.string s, .int .i64 n, .bool t] w fun e w' => e = .returned (.string (mkB s n t)) ∧ Below w.heap.size w w' := by
  by_cases c1 : 0 ≤ n ∧ n < 512 ∧ n / 8 < (s.size : Int)
  · obtain ⟨i, rfl⟩ : ∃ i : Nat, n = (i : Int) := ⟨n.toNat, by omega⟩
    obtain ⟨p, hp⟩ : ∃ p, i / 8 = p := ⟨_, rfl⟩
    obtain ⟨b, hb⟩ : ∃ b, i % 8 = b := ⟨_, rfl⟩
    have c3 : p < s.size := by omega
    have q1 : (i : Int).tdiv 8 = (p : Int) := by rw [Int.tdiv_eq_ediv_of_nonneg (by omega)]; omega
    have q2 : (i : Int).tmod 8 = (b : Int) := by rw [Int.tmod_eq_emod_of_nonneg (by omega)]; omega
    have q3 : (i : Int) / 8 = (p : Int) := by omega
    have q4 : (i : Int) % 8 = (b : Int) := by omega
    have d0 : ¬ (i : Int) < 0 := by omega
    have d1 : ¬ (512 : Int) ≤ (i : Int) := by omega
    have d2 : ¬ (s.size : Int) ≤ (p : Int) := by omega
    have hy := (s[p]).toNat_lt
    obtain ⟨cap, w2, hcv, hB2, hb2, hlt⟩ := bytes_new (P := Try.prog) w 9 39 5 s Try.underlying9 Try.underlying39 Try.underlying5
    obtain ⟨g, hg⟩ : ∃ g, w.heap.size = g := ⟨_, rfl⟩
    rw [hg] at hcv hB2 hlt
    have hat : s.data.toList[p]? = some s[p] := by
      rw [Array.getElem?_toList]
      exact Array.getElem?_eq_getElem c3
    obtain ⟨x0, xf⟩ := hB2 p _ hat
    have i1 : (p : Int) < (s.size : Int) := by omega
    have i0 : (0 : Int) ≤ (p : Int) := by omega
    have hmk : mkB s (i : Int) t = ⟨(s.data.toList.set p (setB s[p] b t)).toArray⟩ := by
      unfold mkB
      rw [if_pos (by omega), Int.toNat_natCast]
      unfold mk
      rw [if_pos ⟨by omega, by rw [hp]; simpa using c3⟩, hp, hb, byte_at c3]
    rw [hmk]
    have hlen : (s.data.toList.set p (setB s[p] b t)).length = s.size := by rw [List.length_set]; simp
    have hst := (hB2.set p (setB s[p] b t)).string (P := Try.prog) 39 9 5 cap hlen Try.underlying39 Try.underlying5 Try.underlying9
    have hb8 : b < 8 := by omega
    have hbn := hb2.setCell (p := ⟨g, p, none⟩) (Nat.le_of_eq hg) (.int .u8 ((setB s[p] b t).toNat : Int))
    clear hp hb hB2 hmk hlen hat
    go_enter Try.func13, Try.ntmps13
    cases t
    · rw [← bit_off _ hb8] at hst hbn
      have HBN := Lib.hid hbn
      clear hbn
      go_wp2
      go_ret
      exact ⟨rfl, hg ▸ HBN.out⟩
    · rw [← bit_on _ hb8] at hst hbn
      have HBN := Lib.hid hbn
      clear hbn
      go_wp2
      go_ret
      exact ⟨rfl, hg ▸ HBN.out⟩
  · rw [mkB_out c1]
    by_cases a1 : n < 0
    · go_enter Try.func13, Try.ntmps13
      go_wp2
      go_ret
      exact ⟨rfl, Below.refl _ _⟩
    by_cases a2 : 512 ≤ n
    · go_enter Try.func13, Try.ntmps13
      go_wp2
      go_ret
      exact ⟨rfl, Below.refl _ _⟩
    have q1 : n.tdiv 8 = n / 8 := Int.tdiv_eq_ediv_of_nonneg (by omega)
    have a3 : (s.size : Int) ≤ n / 8 := by omega
    go_enter Try.func13, Try.ntmps13
    clear c1
    go_wp2
    go_ret
    exact ⟨rfl, Below.refl _ _⟩
set_option maxRecDepth 20000 in
set_option maxHeartbeats 3200000 in
theorem refSetRoot_walk (n : Int) (hs : s.size ≤ 300) (h0 : -9223372036854775808 ≤ n) (h1 : n ≤ 9223372036854775807) :
    Calls Try.prog 20 #[.string s, .int .i64 n] w fun e w' => e = .returned (.string (setRB s n)) ∧ Below w.heap.size w w' := by
  by_cases c0 : (s.size : Int) < 66
  · rw [setRB_out (by omega)]
    go_enter Try.func20, Try.ntmps20
    go_wp2
    go_ret
    exact ⟨rfl, Below.refl _ _⟩
  by_cases c1 : n < 0
  · rw [setRB_out (by omega)]
    go_enter Try.func20, Try.ntmps20
    go_wp2
    go_ret
    exact ⟨rfl, Below.refl _ _⟩
  by_cases c2 : 512 ≤ n
  · rw [setRB_out (by omega)]
    go_enter Try.func20, Try.ntmps20
    go_wp2
    go_ret
    exact ⟨rfl, Below.refl _ _⟩
  obtain ⟨i, rfl⟩ : ∃ i : Nat, n = (i : Int) := ⟨n.toNat, by omega⟩
  have i1 : (64 : Int) ≤ (s.size : Int) := by omega
  have i2 : (66 : Int) ≤ (s.size : Int) := by omega
  have c2' : i < 512 := by omega
  rw [setRB_eq (by omega) c2']
  go_enter Try.func20, Try.ntmps20
  go_wp2
  have hcv := two_string (P := Try.prog) (w := w) i c2' Try.underlying39 Try.underlying5 Try.underlying9
  go_region
  have hB := (Below.refl w.heap.size w).alloc (Nat.le_refl _) (.cells #[.int .u8 ((i : Int) / 256), .int .u8 ((i : Int) % 256)] 5)
  have HB := Lib.hid hB.drew
  clear hB hcv
  go_wp2
  go_ret
  exact ⟨rfl, HB.out⟩
end
end Go.Proofs.Ytbeojghlldiniaa.Pl
