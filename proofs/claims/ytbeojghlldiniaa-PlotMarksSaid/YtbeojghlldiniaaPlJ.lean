/- Whether a page is taken: the document's function, walked. -/
import Derived.Test.YtbeojghlldiniaaPlF
import Derived.Test.YtbeojghlldiniaaPlN
namespace Go.Proofs.Ytbeojghlldiniaa.Pl
open Go.RowKit
section
variable {w : World} {s : ByteArray}
set_option maxHeartbeats 1000000 in
theorem refTaken_walk (n : Int) (hs : s.size ≤ 300) (h0 : -9223372036854775808 ≤ n) (h1 : n ≤ 9223372036854775807) :
    Calls Try.prog 11 #[.string s, .int .i64 n] w fun e w' => e = .returned (.bool (tkI s n)) ∧ Below w.heap.size w w' := by
  by_cases c1 : 0 ≤ n
  · obtain ⟨i, rfl⟩ : ∃ i : Nat, n = (i : Int) := ⟨n.toNat, by omega⟩
    rw [tkI_nat]
    by_cases c2 : i < 512
    · obtain ⟨p, hp⟩ : ∃ p, i / 8 = p := ⟨_, rfl⟩
      obtain ⟨b, hb⟩ : ∃ b, i % 8 = b := ⟨_, rfl⟩
      have q1 : (i : Int).tdiv 8 = (p : Int) := by rw [Int.tdiv_eq_ediv_of_nonneg (by omega)]; omega
      have q2 : (i : Int).tmod 8 = (b : Int) := by rw [Int.tmod_eq_emod_of_nonneg (by omega)]; omega
      have q3 : (i : Int) / 8 = (p : Int) := by omega
      have q4 : (i : Int) % 8 = (b : Int) := by omega
      have d1 : decide ((i : Int) < 512) = true := decide_eq_true (by omega)
      by_cases c3 : p < s.size
      · have d2 : decide ((p : Int) < (s.size : Int)) = true := decide_eq_true (by omega)
        have hres : tk s.data.toList i = (s[p]).toNat.testBit b := by
          unfold tk
          rw [hp, hb, decide_eq_true c2, decide_eq_true (show p < s.data.toList.length by simpa using c3)]
          have : s.data.toList.getD p 0 = s[p] := by
            have h3 : s.data[p]? = some s[p] := Array.getElem?_eq_getElem c3
            rw [List.getD_eq_getElem?_getD, Array.getElem?_toList, h3]; rfl
          rw [this]; rfl
        rw [hres]
        have hy := (s[p]).toNat_lt
        generalize hyy : (s[p]).toNat = y at hy
        have HY := Lib.hid hyy
        have HE := Lib.hid (bit_and y hy b (by omega))
        have hb8 : b < 8 := by omega
        have i1 : (p : Int) < (s.size : Int) := by omega
        have i0 : (0 : Int) ≤ (p : Int) := by omega
        clear hp hb hres
        go_enter Try.func11, Try.ntmps11
        go_wp2_with fail
        go_ret
        have hc : ((y / 2 ^ b : Nat) : Int) = (y : Int) / 2 ^ b := by rw [Int.natCast_ediv, Int.natCast_pow]; rfl
        refine ⟨?_, Below.refl _ _⟩
        have he := HE.out
        rw [hc] at he
        show Ending.returned (.bool (bits .and .u8 ((y : Int) / 2 ^ b) 1 == 1)) = _
        rw [he]
      · have d2 : decide ((p : Int) < (s.size : Int)) = false := decide_eq_false (by omega)
        rw [tk_out (l := s.data.toList) (i := i) (fun h => c3 (by have := h.2; rw [hp] at this; simpa using this))]
        clear hp hb
        go_enter Try.func11, Try.ntmps11
        go_wp2_with fail
        go_ret
        exact ⟨rfl, Below.refl _ _⟩
    · have d1 : decide ((i : Int) < 512) = false := decide_eq_false (by omega)
      rw [tk_out (l := s.data.toList) (i := i) (fun h => c2 h.1)]
      go_enter Try.func11, Try.ntmps11
      go_wp2_with fail
      go_ret
      exact ⟨rfl, Below.refl _ _⟩
  · have d0 : decide (0 ≤ n) = false := decide_eq_false c1
    rw [show tkI s n = false by unfold tkI; rw [d0]; rfl]
    go_enter Try.func11, Try.ntmps11
    go_wp2_with fail
    go_ret
    exact ⟨rfl, Below.refl _ _⟩
end
theorem refTaken_any {s : ByteArray} {n : Int} (w : World) (hs : s.size ≤ 300) (h0 : -9223372036854775808 ≤ n) (h1 : n ≤ 9223372036854775807) :
    Calls Try.prog 11 #[.string s, .int .i64 n] w fun e w' => e = .returned (.bool (tkI s n)) ∧ Below w.heap.size w w' := refTaken_walk n hs h0 h1
end Go.Proofs.Ytbeojghlldiniaa.Pl
