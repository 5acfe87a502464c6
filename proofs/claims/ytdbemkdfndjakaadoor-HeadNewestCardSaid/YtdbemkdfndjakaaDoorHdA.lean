/- A head's sector, plainly. -/
import Derived.Test.YtdbemkdfndjakaaDoorFrA
namespace Go.Proofs.YtdbemkdfndjakaaDoor.Hd
open Tal Lf Fr

structure H where
  p : Int
  l : Int
  e : Int
/-- May it be? -/
structure RightH (h : H) : Prop where
  p0 : 8 ≤ h.p
  p1 : h.p ≤ 512
  l0 : 4 ≤ h.l
  l1 : h.l ≤ 512
  e0 : 1 ≤ h.e
  e1 : h.e < 2147483648
def noH : H := ⟨0, 0, 0⟩
theorem H.eq {f g : H} (h1 : f.p = g.p) (h2 : f.l = g.l) (h3 : f.e = g.e) : f = g := by
  cases f; cases g; simp_all
/-- What it begins with. -/
def mkH : ByteArray := ⟨#[77, 79, 83, 65, 73, 67, 48, 49]⟩
def hdH (h : H) : ByteArray := mkH ++ prt h.p.toNat ++ prt h.l.toNat ++ prt h.e.toNat
def headB (h : H) : ByteArray := sealed (hdH h) 256
theorem mkH_len : mkH.data.toList.length = 8 := rfl
theorem hdH_list (h : H) : (hdH h).data.toList = mkH.data.toList ++ ((prt h.p.toNat).data.toList ++ ((prt h.l.toNat).data.toList ++ (prt h.e.toNat).data.toList)) := by
  unfold hdH
  simp only [ByteArray.data_append, Array.toList_append, List.append_assoc]
theorem hdH_size (h : H) : (hdH h).size = 20 := by
  unfold hdH
  rw [ByteArray.size_append, ByteArray.size_append, ByteArray.size_append, prt_size, prt_size, prt_size]
  rfl
theorem headB_size (h : H) : (headB h).size = 256 := sealed_size _ _ (by rw [hdH_size]; decide)
theorem headB_list (h : H) : ∃ r, (headB h).data.toList = mkH.data.toList ++ ((prt h.p.toNat).data.toList ++ ((prt h.l.toNat).data.toList ++ ((prt h.e.toNat).data.toList ++ r))) := by
  unfold headB
  rw [sealed_data, body_data, hdH_list]
  exact ⟨_, by simp only [List.append_assoc]; rfl⟩
/-- The number at that place; nought, where there is none. -/
def nmz (s : ByteArray) (k : Nat) : Nat := if k + 4 ≤ s.size then nm (s.data.toList.drop k) else 0
/-- The head that these bytes may be. -/
def candH (s : ByteArray) : H := ⟨nmz s 8, nmz s 12, nmz s 16⟩
open Classical in
noncomputable def parseH (s : ByteArray) : Option H := if RightH (candH s) ∧ headB (candH s) = s then some (candH s) else none
section
variable {f g h : H} {s : ByteArray}
theorem cand_own (h : RightH f) : candH (headB f) = f := by
  obtain ⟨r, e⟩ := headB_list f
  have d8 : (headB f).data.toList.drop 8 = (prt f.p.toNat).data.toList ++ ((prt f.l.toNat).data.toList ++ ((prt f.e.toNat).data.toList ++ r)) := by rw [e, List.drop_left' mkH_len]
  have d12 : (headB f).data.toList.drop 12 = (prt f.l.toNat).data.toList ++ ((prt f.e.toNat).data.toList ++ r) := by rw [show 12 = 8 + 4 from rfl, ← List.drop_drop, d8, List.drop_left' (prt_len _)]
  have d16 : (headB f).data.toList.drop 16 = (prt f.e.toNat).data.toList ++ r := by rw [show 16 = 12 + 4 from rfl, ← List.drop_drop, d12, List.drop_left' (prt_len _)]
  have hs := headB_size f
  have a0 := h.p0
  have a1 := h.p1
  have a2 := h.l0
  have a3 := h.l1
  have a4 := h.e0
  have a5 := h.e1
  apply H.eq
  · show ((nmz (headB f) 8 : Nat) : Int) = f.p
    unfold nmz
    rw [if_pos (by omega), d8, nm_prt (by omega)]
    omega
  · show ((nmz (headB f) 12 : Nat) : Int) = f.l
    unfold nmz
    rw [if_pos (by omega), d12, nm_prt (by omega)]
    omega
  · show ((nmz (headB f) 16 : Nat) : Int) = f.e
    unfold nmz
    rw [if_pos (by omega), d16, nm_prt (by omega)]
    omega
theorem parse_iff : parseH s = some f ↔ RightH f ∧ s = headB f := by
  unfold parseH
  constructor
  · intro h
    split at h
    · rename_i hc
      injection h with h
      rw [h] at hc
      exact ⟨hc.1, hc.2.symm⟩
    · cases h
  · rintro ⟨h, rfl⟩
    rw [cand_own h, if_pos ⟨h, rfl⟩]
theorem parse_own (h : RightH f) : parseH (headB f) = some f := parse_iff.2 ⟨h, rfl⟩
/-- The first byte of one that is a head's. -/
theorem head_first (f : H) : (headB f).data.toList.getD 0 0 = 77 := by
  obtain ⟨r, e⟩ := headB_list f
  rw [e]
  rfl
theorem parse_first (h : s.data.toList.getD 0 0 ≠ 77) : parseH s = none := by
  cases hp : parseH s with
  | none => rfl
  | some f =>
    obtain ⟨_, rfl⟩ := parse_iff.1 hp
    exact absurd (head_first f) h
theorem head_eight (f : H) : (headB f).data.toList.take 8 = [77, 79, 83, 65, 73, 67, 48, 49] := by
  obtain ⟨r, e⟩ := headB_list f
  rw [e, List.take_left' mkH_len]
  rfl
end
/-- What counts behind one more sector. -/
noncomputable def stepH (cur : H) (t : ByteArray) : H := match parseH t with
  | some h => if cur.e < h.e then h else cur
  | none => cur
/-- The head that counts of two sectors, and the error. -/
noncomputable def bestH (a b : ByteArray) : H := stepH (stepH noH a) b
end Go.Proofs.YtdbemkdfndjakaaDoor.Hd
