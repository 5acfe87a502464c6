/- Values, there and back, plainly. -/
import Derived.Test.YtpnnkhpokangfaaDoorVaE
import Derived.Test.YtpnnkhpokangfaaDoorMgP
namespace Go.Proofs.YtpnnkhpokangfaaDoor.Va
open Go.RowKit Pac

theorem head_app (c : UInt8) (r : ByteArray) (h : 0 < (⟨#[c]⟩ ++ r : ByteArray).size) : (⟨#[c]⟩ ++ r : ByteArray)[0] = c := by
 have h1 : (⟨#[c]⟩ ++ r : ByteArray).data.toList = c :: r.data.toList := by rw [app_list]; rfl
 have h2 : (⟨#[c]⟩ ++ r : ByteArray).data.toList[0]? = some c := by rw [h1]; rfl
 rw [Array.getElem?_toList] at h2
 have h3 : (⟨#[c]⟩ ++ r : ByteArray).data[0]? = some ((⟨#[c]⟩ ++ r : ByteArray).data[0]'h) := Array.getElem?_eq_getElem h
 rw [h3] at h2
 exact Option.some.inj h2
theorem right_parts {k n : Int} {s : ByteArray} (h : rightV ⟨k, n, s⟩ = true) : (k = 0 ∧ n = 0 ∧ s = ⟨#[]⟩) ∨ (k = 1 ∧ s = ⟨#[]⟩) ∨ (k = 2 ∧ s = ⟨#[]⟩) ∨ (k = 3 ∧ n = 0 ∧ s.size ≤ 60) := by
 have hs := right_size h
 rcases right_kind h with rfl | rfl | rfl | rfl
 ·have h : (n == 0 && s.toList.isEmpty) = true := by simpa [rightV] using h
  rw [Bool.and_eq_true, beq_iff_eq] at h
  exact Or.inl ⟨rfl, h.1, toList_empty h.2⟩
 ·have h : s.toList.isEmpty = true := by simpa [rightV] using h
  exact Or.inr (Or.inl ⟨rfl, toList_empty h⟩)
 ·have h : ((n == 0 || n == 1) && s.toList.isEmpty) = true := by simpa [rightV] using h
  rw [Bool.and_eq_true] at h
  exact Or.inr (Or.inr (Or.inl ⟨rfl, toList_empty h.2⟩))
 ·have h : (n == 0 && decide ((s.size : Int) ≤ 60)) = true := by simpa [rightV] using h
  rw [Bool.and_eq_true, beq_iff_eq] at h
  exact Or.inr (Or.inr (Or.inr ⟨rfl, h.1, hs⟩))
theorem read_head (c : UInt8) (r : ByteArray) : readV (⟨#[c]⟩ ++ r) false = judged (seen c.toNat r) := by
 have h0 : 0 < (⟨#[c]⟩ ++ r : ByteArray).size := by
  rw [ByteArray.size_append]
  have : (⟨#[c]⟩ : ByteArray).size = 1 := rfl
  omega
 have hd := drop_app ⟨#[c]⟩ r
 unfold readV
 rw [if_neg (by simp), dif_pos h0, head_app c r h0]
 rw [show (⟨#[c]⟩ : ByteArray).size = 1 from rfl] at hd
 rw [hd]
theorem judged_good {a : V} {r : ByteArray} (h : rightV a = true) : judged (a, r, false) = (a, r, false) := by
 unfold judged
 rw [if_neg (by simp [h])]
theorem back (a : V) (m : ByteArray) (ho : a.Ok) (h : rightV a = true) : readV (printV a ++ m) false = (a, m, false) := by
 obtain ⟨k, n, s⟩ := a
 obtain ⟨_, _, h2, h3⟩ := ho
 simp only at h2 h3
 have hr := h
 rcases right_parts h with ⟨rfl, rfl, rfl⟩ | ⟨rfl, rfl⟩ | ⟨rfl, rfl⟩ | ⟨rfl, rfl, hs⟩
 ·rw [printV_0, read_head]
  exact judged_good hr
 ·obtain ⟨e1, e2, e3⟩ := num_enc n m h2 h3
  rw [printV_1, app_assoc, read_head]
  have : seen (1 : UInt8).toNat (encB (zig n) ++ m) = (⟨1, n, ⟨#[]⟩⟩, m, false) := by
   show (_, _, _) = _
   rw [e1, e2, e3]
   rfl
  rw [this]
  exact judged_good hr
 ·obtain ⟨e1, e2, e3⟩ := num_enc n m h2 h3
  rw [printV_2, app_assoc, read_head]
  have : seen (2 : UInt8).toNat (encB (zig n) ++ m) = (⟨2, n, ⟨#[]⟩⟩, m, false) := by
   show (_, _, _) = _
   rw [e1, e2, e3]
   rfl
  rw [this]
  exact judged_good hr
 ·obtain ⟨e1, e2, e3⟩ := text_enc s m 60 (by omega) (by omega)
  rw [printV_3, app_assoc, read_head]
  have : seen (3 : UInt8).toNat (txtB s ++ m) = (⟨3, 0, s⟩, m, false) := by
   show (_, _, _) = _
   rw [e1, e2, e3]
  rw [this]
  exact judged_good hr
theorem print_inj {a b : V} (ha : a.Ok) (hb : b.Ok) (h : rightV a = true) (h' : rightV b = true) (e : printV a = printV b) : a = b := by
 have h1 := back a ⟨#[]⟩ ha h
 have h2 := back b ⟨#[]⟩ hb h'
 rw [e, h2] at h1
 exact (congrArg (fun x : V × ByteArray × Bool => x.1) h1).symm
end Go.Proofs.YtpnnkhpokangfaaDoor.Va
