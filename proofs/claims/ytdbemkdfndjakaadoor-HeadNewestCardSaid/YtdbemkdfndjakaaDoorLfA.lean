/- A page's sector, plainly. -/
import Derived.Test.YtdbemkdfndjakaaDoorTalH
namespace Go.Proofs.YtdbemkdfndjakaaDoor.Lf
open Tal
/-- What a page's sector begins with. -/
def hd (no : Nat) : ByteArray := ⟨#[80, 65, 71, 69]⟩ ++ prt no
theorem hd_size (no : Nat) : (hd no).size = 8 := by
  unfold hd; rw [ByteArray.size_append, prt_size]; rfl
/-- A page's sector. -/
def leafB (no : Nat) (d : ByteArray) : ByteArray := sealed (hd no ++ d) 256
/-- The page of a sector. -/
def parseL (s : ByteArray) (no : Nat) : Option ByteArray := if s.size = 256 ∧ s = leafB no (s.extract 8 208) then some (s.extract 8 208) else none
/-- All that the sum is of. -/
def bodyL (no : Nat) (d : ByteArray) : List UInt8 := (hd no).data.toList ++ d.data.toList ++ List.replicate 44 0
section
variable {no n2 : Nat} {d d2 s : ByteArray}
theorem both_size (h : d.size = 200) : (hd no ++ d).size = 208 := by rw [ByteArray.size_append, hd_size, h]
theorem leafB_size (h : d.size = 200) : (leafB no d).size = 256 := sealed_size _ _ (by rw [both_size h]; decide)
theorem hdl (no : Nat) : (hd no).data.toList.length = 8 := by have := hd_size no; simpa using this
theorem dl (h : d.size = 200) : d.data.toList.length = 200 := by simpa using h
theorem bodyL_len (h : d.size = 200) : (bodyL no d).length = 252 := by
  unfold bodyL
  rw [List.length_append, List.length_append, hdl, dl h, List.length_replicate]
theorem leafB_data (h : d.size = 200) : (leafB no d).data.toList = bodyL no d ++ (prt (crc (bodyL no d))).data.toList := by
  have e : (body (hd no ++ d) (256 - 4)).data.toList = bodyL no d := by
    rw [body_data, both_size h, ByteArray.data_append]
    simp [bodyL]
  unfold leafB
  rw [sealed_data, e]
theorem page_at (h : d.size = 200) : ((leafB no d).data.toList.take 208).drop 8 = d.data.toList := by
  rw [leafB_data h, List.take_append_of_le_length (by rw [bodyL_len h]; decide)]
  unfold bodyL
  rw [List.take_append_of_le_length (by rw [List.length_append, hdl, dl h]; decide), List.take_of_length_le (by rw [List.length_append, hdl, dl h]; decide), List.drop_left' (hdl no)]
theorem leafB_page (h : d.size = 200) : (leafB no d).extract 8 208 = d := by
  apply ByteArray.ext
  apply Array.toList_inj.1
  have := page_at (no := no) h
  rw [List.drop_take] at this
  simpa [ByteArray.data_extract, Array.toList_extract, List.extract] using this
theorem parse_iff : parseL s no = some d ↔ d.size = 200 ∧ s = leafB no d := by
  unfold parseL
  constructor
  · intro h
    split at h
    · rename_i hc
      injection h with h
      subst h
      exact ⟨by rw [ByteArray.size_extract]; omega, hc.2⟩
    · cases h
  · rintro ⟨h, rfl⟩
    rw [leafB_page h, if_pos ⟨leafB_size h, rfl⟩]
theorem parse_own (h : d.size = 200) : parseL (leafB no d) no = some d := parse_iff.2 ⟨h, rfl⟩
end
end Go.Proofs.YtdbemkdfndjakaaDoor.Lf
