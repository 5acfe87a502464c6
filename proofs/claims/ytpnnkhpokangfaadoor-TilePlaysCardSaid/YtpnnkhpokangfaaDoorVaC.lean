/- A value's bytes, plainly; the document's, walked. -/
import Derived.Test.YtpnnkhpokangfaaDoorVaA
namespace Go.Proofs.YtpnnkhpokangfaaDoor.Va
open Go.RowKit Pac

def printV (a : V) : ByteArray :=
 if a.k = 1 ∨ a.k = 2 then ⟨#[UInt8.ofNat a.k.toNat]⟩ ++ encB (zig a.n) else if a.k = 3 then ⟨#[3]⟩ ++ txtB a.s else ⟨#[UInt8.ofNat a.k.toNat]⟩
theorem printV_0 (n : Int) (s : ByteArray) : printV ⟨0, n, s⟩ = ⟨#[0]⟩ := rfl
theorem printV_1 (n : Int) (s : ByteArray) : printV ⟨1, n, s⟩ = ⟨#[1]⟩ ++ encB (zig n) := rfl
theorem printV_2 (n : Int) (s : ByteArray) : printV ⟨2, n, s⟩ = ⟨#[2]⟩ ++ encB (zig n) := rfl
theorem printV_3 (n : Int) (s : ByteArray) : printV ⟨3, n, s⟩ = ⟨#[3]⟩ ++ txtB s := rfl
theorem right_kind {k n : Int} {s : ByteArray} (h : rightV ⟨k, n, s⟩ = true) : k = 0 ∨ k = 1 ∨ k = 2 ∨ k = 3 := by
 unfold rightV at h
 by_cases q0 : k = 0
 ·exact Or.inl q0
 ·by_cases q1 : k = 1
  ·exact Or.inr (Or.inl q1)
  ·by_cases q2 : k = 2
   ·exact Or.inr (Or.inr (Or.inl q2))
   ·by_cases q3 : k = 3
    ·exact Or.inr (Or.inr (Or.inr q3))
    ·simp [q0, q1, q2, q3] at h
theorem toList_empty {s : ByteArray} (h : s.toList.isEmpty = true) : s = ⟨#[]⟩ := by
 rw [ByteArray.toList_eq] at h
 exact bytesEq (by simpa using h)
theorem right_size {a : V} (h : rightV a = true) : a.s.size ≤ 60 := by
 obtain ⟨k, n, s⟩ := a
 rcases right_kind h with rfl | rfl | rfl | rfl
 ·unfold rightV at h
  simp only [if_true, Bool.and_eq_true] at h
  show s.size ≤ 60
  rw [toList_empty h.2]
  decide
 ·have h : s.toList.isEmpty = true := by simpa [rightV] using h
  show s.size ≤ 60
  rw [toList_empty h]
  decide
 ·have h : ((n == 0 || n == 1) && s.toList.isEmpty) = true := by simpa [rightV] using h
  rw [Bool.and_eq_true] at h
  show s.size ≤ 60
  rw [toList_empty h.2]
  decide
 ·have h : (n == 0 && decide ((s.size : Int) ≤ 60)) = true := by simpa [rightV] using h
  rw [Bool.and_eq_true] at h
  have := of_decide_eq_true h.2
  show s.size ≤ 60
  omega
end Go.Proofs.YtpnnkhpokangfaaDoor.Va
