/- A frame's sector, plainly. -/
import Derived.Test.YtdbemkdfndjakaaDoorLfA
namespace Go.Proofs.YtdbemkdfndjakaaDoor.Fr
open Tal Lf

structure F where
  e : Int
  i : Int
  c : Bool
  p : Int
  d : ByteArray
/-- May it be written? -/
structure RightF (f : F) : Prop where
  e0 : 1 ≤ f.e
  e1 : f.e < 2147483648
  i0 : 0 ≤ f.i
  i1 : f.i < 512
  p0 : 0 ≤ f.p
  p1 : f.p < 512
  dc : f.c = true → f.d.size = 0
  dp : f.c = false → f.d.size = 200
theorem F.eq {f g : F} (h1 : f.e = g.e) (h2 : f.i = g.i) (h3 : f.c = g.c) (h4 : f.p = g.p) (h5 : f.d = g.d) : f = g := by
  cases f; cases g; simp_all
theorem none_size {d : ByteArray} (h : d.size = 0) : d = ⟨#[]⟩ := by
  apply ByteArray.ext
  apply Array.eq_empty_of_size_eq_zero
  exact h
/-- What it begins with. -/
def word (c : Bool) : List UInt8 := [76, 79, 71, if c then 67 else 80]
def hdF (f : F) : ByteArray := ⟨(word f.c).toArray⟩ ++ prt f.e.toNat ++ prt f.i.toNat ++ prt f.p.toNat
def frameB (f : F) : ByteArray := sealed (hdF f ++ f.d) 256
theorem word_len (c : Bool) : (word c).length = 4 := rfl
theorem hdF_list (f : F) : (hdF f).data.toList = word f.c ++ (prt f.e.toNat).data.toList ++ (prt f.i.toNat).data.toList ++ (prt f.p.toNat).data.toList := by
  unfold hdF
  simp only [ByteArray.data_append, Array.toList_append]
theorem prt_len (x : Nat) : (prt x).data.toList.length = 4 := rfl
theorem hdF_size (f : F) : (hdF f).size = 16 := by
  unfold hdF
  rw [ByteArray.size_append, ByteArray.size_append, ByteArray.size_append, prt_size, prt_size, prt_size]
  rfl
/-- All that the sum is of. -/
def bodyF (f : F) : List UInt8 := word f.c ++ ((prt f.e.toNat).data.toList ++ ((prt f.i.toNat).data.toList ++ ((prt f.p.toNat).data.toList ++ (f.d.data.toList ++ List.replicate (236 - f.d.size) 0))))
section
variable {f g : F} {s : ByteArray}
theorem RightF.small (h : RightF f) : f.d.size ≤ 200 := by
  cases hc : f.c with
  | true => have := h.dc hc; omega
  | false => have := h.dp hc; omega
theorem d_len (f : F) : f.d.data.toList.length = f.d.size := by simp
theorem frameB_data (h : f.d.size ≤ 200) : (frameB f).data.toList = bodyF f ++ (prt (crc (bodyF f))).data.toList := by
  have e : (body (hdF f ++ f.d) (256 - 4)).data.toList = bodyF f := by
    rw [body_data, ByteArray.size_append, hdF_size, ByteArray.data_append, Array.toList_append, hdF_list]
    unfold bodyF
    simp only [List.append_assoc]
    congr 6
    omega
  unfold frameB
  rw [sealed_data, e]
theorem frameB_size (h : f.d.size ≤ 200) : (frameB f).size = 256 := sealed_size _ _ (by rw [ByteArray.size_append, hdF_size]; omega)
/-- A number of four bytes. -/
def nm (l : List UInt8) : Nat := (l.getD 0 0).toNat * 16777216 + (l.getD 1 0).toNat * 65536 + (l.getD 2 0).toNat * 256 + (l.getD 3 0).toNat
theorem nm_prt {x : Nat} (h : x < 4294967296) (r : List UInt8) : nm ((prt x).data.toList ++ r) = x := by
  show nm ([UInt8.ofNat (x / 16777216), UInt8.ofNat (x / 65536), UInt8.ofNat (x / 256), UInt8.ofNat x] ++ r) = x
  show (UInt8.ofNat (x / 16777216)).toNat * 16777216 + (UInt8.ofNat (x / 65536)).toNat * 65536 + (UInt8.ofNat (x / 256)).toNat * 256 + (UInt8.ofNat x).toNat = x
  simp only [UInt8.toNat_ofNat']
  omega
/-- The frame that these bytes may be. -/
def cand (s : ByteArray) : F :=
  ⟨nm (s.data.toList.drop 4), nm (s.data.toList.drop 8), s.data.toList.take 4 == word true, nm (s.data.toList.drop 12), if s.data.toList.take 4 == word true then ⟨#[]⟩ else s.extract 16 216⟩
open Classical in
noncomputable def parseF (s : ByteArray) : Option F := if s.size = 256 ∧ RightF (cand s) ∧ frameB (cand s) = s then some (cand s) else none
theorem cand_own (h : RightF f) : cand (frameB f) = f := by
  have h2 := h.small
  obtain ⟨r, e⟩ : ∃ r, (frameB f).data.toList = word f.c ++ ((prt f.e.toNat).data.toList ++ ((prt f.i.toNat).data.toList ++ ((prt f.p.toNat).data.toList ++ (f.d.data.toList ++ r)))) := by
    refine ⟨List.replicate (236 - f.d.size) 0 ++ (prt (crc (bodyF f))).data.toList, ?_⟩
    rw [frameB_data h2]
    unfold bodyF
    simp only [List.append_assoc]
  have t4 : (frameB f).data.toList.take 4 = word f.c := by rw [e, List.take_left' (word_len _)]
  have d4 : (frameB f).data.toList.drop 4 = (prt f.e.toNat).data.toList ++ ((prt f.i.toNat).data.toList ++ ((prt f.p.toNat).data.toList ++ (f.d.data.toList ++ r))) := by rw [e, List.drop_left' (word_len _)]
  have d8 : (frameB f).data.toList.drop 8 = (prt f.i.toNat).data.toList ++ ((prt f.p.toNat).data.toList ++ (f.d.data.toList ++ r)) := by rw [show 8 = 4 + 4 from rfl, ← List.drop_drop, d4, List.drop_left' (prt_len _)]
  have d12 : (frameB f).data.toList.drop 12 = (prt f.p.toNat).data.toList ++ (f.d.data.toList ++ r) := by rw [show 12 = 8 + 4 from rfl, ← List.drop_drop, d8, List.drop_left' (prt_len _)]
  have d16 : (frameB f).data.toList.drop 16 = f.d.data.toList ++ r := by rw [show 16 = 12 + 4 from rfl, ← List.drop_drop, d12, List.drop_left' (prt_len _)]
  have hw : ((frameB f).data.toList.take 4 == word true) = f.c := by
    rw [t4]
    cases f.c <;> rfl
  have he := h.e0
  have he1 := h.e1
  have hi := h.i0
  have hi1 := h.i1
  have hp := h.p0
  have hp1 := h.p1
  apply F.eq
  · show ((nm ((frameB f).data.toList.drop 4) : Nat) : Int) = f.e
    rw [d4, nm_prt (by omega)]
    omega
  · show ((nm ((frameB f).data.toList.drop 8) : Nat) : Int) = f.i
    rw [d8, nm_prt (by omega)]
    omega
  · exact hw
  · show ((nm ((frameB f).data.toList.drop 12) : Nat) : Int) = f.p
    rw [d12, nm_prt (by omega)]
    omega
  · show (if (frameB f).data.toList.take 4 == word true then _ else _) = f.d
    rw [hw]
    cases hc : f.c with
    | true => exact (none_size (h.dc hc)).symm
    | false =>
      show (frameB f).extract 16 216 = f.d
      have h200 := h.dp hc
      apply ByteArray.ext
      apply Array.toList_inj.1
      have e2 : ((frameB f).data.toList.drop 16).take 200 = f.d.data.toList := by rw [d16, List.take_left' (by rw [d_len, h200])]
      simpa [ByteArray.data_extract, Array.toList_extract, List.extract] using e2
theorem parse_iff : parseF s = some f ↔ RightF f ∧ s = frameB f := by
  unfold parseF
  constructor
  · intro h
    split at h
    · rename_i hc
      injection h with h
      rw [h] at hc
      exact ⟨hc.2.1, hc.2.2.symm⟩
    · cases h
  · rintro ⟨h, rfl⟩
    rw [cand_own h, if_pos ⟨frameB_size h.small, h, rfl⟩]
theorem parse_own (h : RightF f) : parseF (frameB f) = some f := parse_iff.2 ⟨h, rfl⟩
end
end Go.Proofs.YtdbemkdfndjakaaDoor.Fr
