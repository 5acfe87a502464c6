/- A Box's Text; a text's bytes; walked. -/
import Derived.Test.YtjjedadhkdpceaaPacF
namespace Go.Proofs.Ytjjedadhkdpceaa.Pac
open Go.RowKit

theorem encB_size (u : Nat) : 1 ≤ (encB u).size ∧ (encB u).size ≤ 10 := by
  unfold encB
  show 1 ≤ (enc u).toArray.size ∧ (enc u).toArray.size ≤ 10
  rw [List.size_toArray]
  exact ⟨encF_pos 9 u, encF_len 10 u⟩

def txtBad (s : ByteArray) (bad : Bool) (most : Int) : Bool := btwBad s bad 0 most || decide (((numS s bad).size : Int) < btwR s bad 0 most)
def txtR (s : ByteArray) (bad : Bool) (most : Int) : ByteArray := if txtBad s bad most then ⟨#[]⟩ else (numS s bad).extract 0 (btwR s bad 0 most).toNat
def txtS (s : ByteArray) (bad : Bool) (most : Int) : ByteArray := if txtBad s bad most then numS s bad else (numS s bad).extract (btwR s bad 0 most).toNat (numS s bad).size
theorem btwR_pos (s : ByteArray) (bad : Bool) (lo hi : Int) (h : 0 ≤ lo) : 0 ≤ btwR s bad lo hi := by
  unfold btwR
  split
  · exact Int.le_refl _
  · rename_i hb
    unfold btwBad at hb
    simp at hb
    omega
theorem txtS_size (s : ByteArray) (bad : Bool) (most : Int) : (txtS s bad most).size ≤ s.size := by
  have := numS_size s bad
  unfold txtS
  split
  · exact this
  · rw [ByteArray.size_extract]; omega

/-- A text's bytes. -/
def txtB (s : ByteArray) : ByteArray := encB (zig s.size) ++ s
end Go.Proofs.Ytjjedadhkdpceaa.Pac
