/- A Box's Text; a text's bytes; walked. -/
import Derived.Test.YtmjlfhfadmndhaaPacF
namespace Go.Proofs.Ytmjlfhfadmndhaa.Pac
open Go.RowKit

theorem encB_size (u : Nat) : 1 ≤ (encB u).size ∧ (encB u).size ≤ 10 := by
  unfold encB
  show 1 ≤ (enc u).toArray.size ∧ (enc u).toArray.size ≤ 10
  rw [List.size_toArray]
  exact ⟨encF_pos 9 u, encF_len 10 u⟩

def txtBad (s : ByteArray) (bad : Bool) (most : Int) : Bool := btwBad s bad 0 most || decide (((numS s bad).size : Int) < btwR s bad 0 most)
def txtR (s : ByteArray) (bad : Bool) (most : Int) : ByteArray := if txtBad s bad most then ⟨#[]⟩ else (numS s bad).extract 0 (btwR s bad 0 most).toNat
def txtS (s : ByteArray) (bad : Bool) (most : Int) : ByteArray := if txtBad s bad most then numS s bad else (numS s bad).extract (btwR s bad 0 most).toNat (numS s bad).size
theorem btwR_pos (s : ByteArray) (bad : Bool) (lo hi : Int) (h : 0 ≤ lo) : 0 ≤ btwR s bad lo hi := by
  unfold btwR
  split
  · exact Int.le_refl _
  · rename_i hb
    unfold btwBad at hb
    simp at hb
    omega
theorem txtS_size (s : ByteArray) (bad : Bool) (most : Int) : (txtS s bad most).size ≤ s.size := by
  have := numS_size s bad
  unfold txtS
  split
  · exact this
  · rw [ByteArray.size_extract]; omega

set_option maxHeartbeats 400000 in
theorem boxText_any (g : Nat) (s : ByteArray) (bad : Bool) (most : Int) (w : World) (hb : IsBox w g s bad) (hs : s.size ≤ 9223372036854775807) :
    Calls Try.prog 51 #[.pointer (some ⟨g, 0, none⟩), .int .i64 most] w fun e w' => e = .returned (.string (txtR s bad most)) ∧ IsBox w' g (txtS s bad most) (txtBad s bad most) ∧ Bar g w w' := by
  have hc := boxBetween_any g s bad 0 most w hb hs
  have hR : txtR s bad most = if txtBad s bad most then ⟨#[]⟩ else (numS s bad).extract 0 (btwR s bad 0 most).toNat := rfl
  have hS : txtS s bad most = if txtBad s bad most then numS s bad else (numS s bad).extract (btwR s bad 0 most).toNat (numS s bad).size := rfl
  have hB : txtBad s bad most = (btwBad s bad 0 most || decide (((numS s bad).size : Int) < btwR s bad 0 most)) := rfl
  have hp := btwR_pos s bad 0 most (Int.le_refl _)
  have hsz := numS_size s bad
  generalize btwR s bad 0 most = n at hR hB hS hc hp
  generalize numS s bad = s1 at hR hS hB hc hsz
  generalize btwBad s bad 0 most = d at hB hc
  generalize txtR s bad most = r at hR ⊢
  generalize txtS s bad most = s2 at hS ⊢
  generalize txtBad s bad most = z at hR hB hS ⊢
  have HR := Lib.hid hR
  have HB := Lib.hid hB
  have HS := Lib.hid hS
  clear hR hB hS
  obtain ⟨k, rfl⟩ := Int.eq_ofNat_of_zero_le hp
  go_enter Try.func51, Try.ntmps51
  go_wp2_with fail
  refine hc.mono ?_
  rintro e w1 ⟨rfl, hb1, hw1⟩
  go_wp2_with fail
  refine (spoilt_any g s1 d w1 hb1).mono ?_
  rintro e w2 ⟨rfl, rfl⟩
  have c0 := hb1.c0
  have c1 := hb1.c1
  have f := hb1.f
  cases d with
  | true =>
    have HZ : Hid (z = true ∧ r = ⟨#[]⟩ ∧ s2 = s1) := Lib.hid (by have h1 := HB.out; have h2 := HR.out; have h3 := HS.out; simp at h1; subst h1; exact ⟨rfl, h2, h3⟩)
    go_wp2
    go_ret
    rw [HZ.out.1, HZ.out.2.1, HZ.out.2.2]
    exact ⟨rfl, hb1, hw1⟩
  | false =>
    by_cases h1 : (s1.size : Int) < (k : Int)
    · have HZ : Hid (z = true ∧ r = ⟨#[]⟩ ∧ s2 = s1) := Lib.hid (by have h3 := HB.out; have h2 := HR.out; have h4 := HS.out; simp [h1] at h3; subst h3; exact ⟨rfl, h2, h4⟩)
      go_wp2
      go_ret
      rw [HZ.out.1, HZ.out.2.1, HZ.out.2.2]
      exact ⟨rfl, hb1.set1 _, hw1.setCell 1 _⟩
    · have HZ : Hid (z = false ∧ r = s1.extract 0 k ∧ s2 = s1.extract k s1.size) := Lib.hid (by
        have h3 := HB.out; have h2 := HR.out; have h4 := HS.out
        simp [h1] at h3
        subst h3
        exact ⟨rfl, h2, h4⟩)
      have i1 : (k : Int) ≤ (s1.size : Int) := by omega
      go_wp2
      go_ret
      rw [HZ.out.1, HZ.out.2.1, HZ.out.2.2]
      exact ⟨rfl, hb1.set0 _, hw1.setCell 0 _⟩

/-- A text's bytes. -/
def txtB (s : ByteArray) : ByteArray := encB (zig s.size) ++ s
set_option maxHeartbeats 400000 in
theorem text_any (s : ByteArray) (w : World) (hs : s.size ≤ 2147483647) :
    Calls Try.prog 38 #[.string s] w fun e w' => e = .returned (.string (txtB s)) ∧ Below w.heap.size w w' := by
  have hz := encB_size (zig s.size)
  have hc := num_any s.size w (by omega) (by omega)
  have hT : txtB s = encB (zig s.size) ++ s := rfl
  generalize encB (zig s.size) = q at hz hc hT
  have HT := Lib.hid hT
  clear hT
  go_enter Try.func38, Try.ntmps38
  go_wp2_with fail
  refine hc.mono ?_
  rintro e w1 ⟨rfl, hw1⟩
  go_wp2
  go_ret
  rw [HT.out]
  exact ⟨rfl, hw1⟩
end Go.Proofs.Ytmjlfhfadmndhaa.Pac
