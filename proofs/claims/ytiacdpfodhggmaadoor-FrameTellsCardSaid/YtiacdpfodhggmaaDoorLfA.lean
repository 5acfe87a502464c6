/- A page's sector, plainly. -/
import Derived.Test.YtiacdpfodhggmaaDoorTalH
namespace Go.Proofs.YtiacdpfodhggmaaDoor.Lf
open Tal
theorem getD_get (l : List UInt8) (i : Nat) (h : i < l.length) : l.getD i 0 = l[i] := by simp [List.getD_eq_getElem?_getD, h]
/-- What a page's sector begins with. -/
def hd (no : Nat) : ByteArray := ⟨#[80, 65, 71, 69]⟩ ++ prt no
theorem hd_size (no : Nat) : (hd no).size = 8 := by
  unfold hd; rw [ByteArray.size_append, prt_size]; rfl
/-- A page's sector. -/
def leafB (no : Nat) (d : ByteArray) : ByteArray := sealed (hd no ++ d) 256
/-- The page of a sector. -/
def parseL (s : ByteArray) (no : Nat) : Option ByteArray := if s.size = 256 ∧ s = leafB no (s.extract 8 208) then some (s.extract 8 208) else none
/-- All that the sum is of. -/
def bodyL (no : Nat) (d : ByteArray) : List UInt8 := (hd no).data.toList ++ d.data.toList ++ List.replicate 44 0
section
variable {no n2 : Nat} {d d2 s : ByteArray}
theorem both_size (h : d.size = 200) : (hd no ++ d).size = 208 := by rw [ByteArray.size_append, hd_size, h]
theorem leafB_size (h : d.size = 200) : (leafB no d).size = 256 := sealed_size _ _ (by rw [both_size h]; decide)
theorem hdl (no : Nat) : (hd no).data.toList.length = 8 := by have := hd_size no; simpa using this
theorem dl (h : d.size = 200) : d.data.toList.length = 200 := by simpa using h
theorem bodyL_len (h : d.size = 200) : (bodyL no d).length = 252 := by
  unfold bodyL
  rw [List.length_append, List.length_append, hdl, dl h, List.length_replicate]
theorem leafB_data (h : d.size = 200) : (leafB no d).data.toList = bodyL no d ++ (prt (crc (bodyL no d))).data.toList := by
  have e : (body (hd no ++ d) (256 - 4)).data.toList = bodyL no d := by
    rw [body_data, both_size h, ByteArray.data_append]
    simp [bodyL]
  unfold leafB
  rw [sealed_data, e]
theorem len256 (h : d.size = 200) : (leafB no d).data.toList.length = 256 := by have := leafB_size (no := no) h; simpa using this
theorem page_at (h : d.size = 200) : ((leafB no d).data.toList.take 208).drop 8 = d.data.toList := by
  rw [leafB_data h, List.take_append_of_le_length (by rw [bodyL_len h]; decide)]
  unfold bodyL
  rw [List.take_append_of_le_length (by rw [List.length_append, hdl, dl h]; decide), List.take_of_length_le (by rw [List.length_append, hdl, dl h]; decide), List.drop_left' (hdl no)]
theorem leafB_page (h : d.size = 200) : (leafB no d).extract 8 208 = d := by
  apply ByteArray.ext
  apply Array.toList_inj.1
  have := page_at (no := no) h
  rw [List.drop_take] at this
  simpa [ByteArray.data_extract, Array.toList_extract, List.extract] using this
theorem parse_iff : parseL s no = some d ↔ d.size = 200 ∧ s = leafB no d := by
  unfold parseL
  constructor
  · intro h
    split at h
    · rename_i hc
      injection h with h
      subst h
      exact ⟨by rw [ByteArray.size_extract]; omega, hc.2⟩
    · cases h
  · rintro ⟨h, rfl⟩
    rw [leafB_page h, if_pos ⟨leafB_size h, rfl⟩]
theorem parse_own (h : d.size = 200) : parseL (leafB no d) no = some d := parse_iff.2 ⟨h, rfl⟩
theorem prt_inj {x y : Nat} (hx : x < 4294967296) (hy : y < 4294967296) (h : prt x = prt y) : x = y := by
  have h2 := congrArg (fun b : ByteArray => b.data.toList) h
  simp only [prt, List.cons.injEq, and_true] at h2
  obtain ⟨e0, e1, e2, e3⟩ := h2
  have f0 := congrArg UInt8.toNat e0
  have f1 := congrArg UInt8.toNat e1
  have f2 := congrArg UInt8.toNat e2
  have f3 := congrArg UInt8.toNat e3
  simp only [UInt8.toNat_ofNat'] at f0 f1 f2 f3
  omega
theorem leafB_inj (h : d.size = 200) (h2 : d2.size = 200) (hn : no < 4294967296) (hn2 : n2 < 4294967296) (e : leafB no d = leafB n2 d2) : no = n2 ∧ d = d2 := by
  refine ⟨?_, ?_⟩
  · have e2 := congrArg (fun b : ByteArray => b.data.toList.take 8) e
    simp only [leafB_data h, leafB_data h2] at e2
    rw [List.take_append_of_le_length (by rw [bodyL_len h]; decide), List.take_append_of_le_length (by rw [bodyL_len h2]; decide)] at e2
    unfold bodyL at e2
    rw [List.append_assoc, List.append_assoc, List.take_left' (hdl no), List.take_left' (hdl n2)] at e2
    apply prt_inj hn hn2
    apply ByteArray.ext
    apply Array.toList_inj.1
    unfold hd at e2
    rw [ByteArray.data_append, ByteArray.data_append, Array.toList_append, Array.toList_append] at e2
    exact List.append_cancel_left e2
  · rw [← leafB_page (no := no) h, ← leafB_page (no := n2) h2, e]
theorem parse_other (h : d.size = 200) (hn : no < 4294967296) (hn2 : n2 < 4294967296) : parseL (leafB no d) n2 = if n2 = no then some d else none := by
  by_cases e : n2 = no
  · subst e; rw [if_pos rfl, parse_own h]
  · rw [if_neg e]
    cases hp : parseL (leafB no d) n2 with
    | none => rfl
    | some d2 =>
      obtain ⟨h2, e2⟩ := parse_iff.1 hp
      exact absurd (leafB_inj h h2 hn hn2 e2).1.symm e
/-- Noughts are no page. -/
theorem parse_noughts (h : s.size = 256) (h0 : s.data.toList.take 1 = [0]) : parseL s no = none := by
  cases hp : parseL s no with
  | none => rfl
  | some d2 =>
    obtain ⟨h2, e2⟩ := parse_iff.1 hp
    rw [e2, leafB_data h2, List.take_append_of_le_length (by rw [bodyL_len h2]; decide)] at h0
    unfold bodyL at h0
    rw [List.append_assoc, List.take_append_of_le_length (by rw [hdl]; decide)] at h0
    unfold hd at h0
    rw [ByteArray.data_append, Array.toList_append, List.take_append_of_le_length (by decide)] at h0
    cases h0
theorem cur_none {S E : Nat → UInt8} {k q : Nat} (h : ∀ j, j < q → E j = 0) (j : Nat) : cur S E k q j = S j := by
  unfold cur
  split
  · rw [h (j - k) (by omega)]; simp
  · rfl
theorem xor_same {a b : UInt8} (h : a ^^^ b = a) : b = 0 := by
  have : a ^^^ (a ^^^ b) = a ^^^ a := by rw [h]
  rw [← UInt8.xor_assoc, UInt8.xor_self, UInt8.zero_xor] at this
  exact this
theorem curL_full (l : List UInt8) {E : Nat → UInt8} {k q : Nat} (h : ∀ j, j < q → E j = 0) : curL (fun j => l.getD j 0) E k q l.length = l := by
  apply List.ext_getElem
  · rw [curL_length]
  · intro i h1 h2
    rw [curL_get, cur_none h, getD_get _ _ h2]
theorem curL_take (l : List UInt8) (E : Nat → UInt8) (k q m n : Nat) (h : m ≤ n) : (curL (fun j => l.getD j 0) E k q n).take m = curL (fun j => (l.take m).getD j 0) E k q m := by
  apply List.ext_getElem
  · rw [List.length_take, curL_length, curL_length]; omega
  · intro i h1 h2
    rw [curL_length] at h2
    rw [List.getElem_take, curL_get, curL_get]
    have e : (l.take m).getD i 0 = l.getD i 0 := by simp [List.getD_eq_getElem?_getD, List.getElem?_take, h2]
    unfold cur
    simp only [e]
theorem curL_off (l : List UInt8) (E : Nat → UInt8) (k q i n : Nat) (hi : i < k ∨ k + q ≤ i) : cur (fun j => l.getD j 0) E k q i = l.getD i 0 := by
  unfold cur
  rw [if_neg (by omega)]
set_option maxRecDepth 10000 in
/-- Up to four bytes side by side that are others: no page. -/
theorem parse_turned (E : Nat → UInt8) (k q : Nat) (h : d.size = 200) (hk : k + q ≤ 256) (hq : q ≤ 4) :
    (parseL ⟨(curL (fun j => (leafB no d).data.toList.getD j 0) E k q 256).toArray⟩ no).isSome = !oth E q := by
  have hl := len256 (no := no) h
  cases ho : oth E q with
  | false =>
    have hz := (oth_iff E q).1 ho
    have e : curL (fun j => (leafB no d).data.toList.getD j 0) E k q 256 = (leafB no d).data.toList := by
      have := curL_full (leafB no d).data.toList (k := k) hz
      rwa [hl] at this
    rw [e]
    show (parseL (leafB no d) no).isSome = _
    rw [parse_own h]
    rfl
  | true =>
    cases hp : parseL ⟨(curL (fun j => (leafB no d).data.toList.getD j 0) E k q 256).toArray⟩ no with
    | none => rfl
    | some d2 =>
      exfalso
      obtain ⟨h2, e2⟩ := parse_iff.1 hp
      have e3 := congrArg (fun b : ByteArray => b.data.toList) e2
      have e4 : curL (fun j => (leafB no d).data.toList.getD j 0) E k q 256 = (leafB no d2).data.toList := by simpa using e3
      clear e3 e2 hp
      have hc : oth E q = false := by
        by_cases hcase : k + q ≤ 252
        · have t1 : (leafB no d).data.toList.take 252 = bodyL no d := by rw [leafB_data h, List.take_left' (bodyL_len h)]
          have t2 : (leafB no d2).data.toList.take 252 = bodyL no d2 := by rw [leafB_data h2, List.take_left' (bodyL_len h2)]
          have t3 : curL (fun j => (bodyL no d).getD j 0) E k q 252 = bodyL no d2 := by
            rw [← t1, ← t2, ← e4, curL_take _ _ _ _ _ _ (by decide)]
          have u1 : (leafB no d).data.toList.drop 252 = (prt (crc (bodyL no d))).data.toList := by rw [leafB_data h, List.drop_left' (bodyL_len h)]
          have u2 : (leafB no d2).data.toList.drop 252 = (prt (crc (bodyL no d2))).data.toList := by rw [leafB_data h2, List.drop_left' (bodyL_len h2)]
          have u3 : (leafB no d).data.toList.drop 252 = (leafB no d2).data.toList.drop 252 := by
            rw [← e4]
            apply List.ext_getElem
            · rw [List.length_drop, List.length_drop, curL_length, hl]
            · intro i h1 h3
              rw [List.length_drop, hl] at h1
              rw [List.getElem_drop, List.getElem_drop, curL_get, curL_off _ _ _ _ _ 256 (Or.inr (by omega)), getD_get _ _ (by omega)]
          have u4 : crc (bodyL no d2) = crc (bodyL no d) := by
            rw [u1, u2] at u3
            exact (prt_inj (crc_lt _) (crc_lt _) (ByteArray.ext (Array.toList_inj.1 u3))).symm
          have v := turns_sum (bodyL no d) E k q (by rw [bodyL_len h]; exact hcase) hq
          rw [bodyL_len h, t3] at v
          exact v.1 u4
        · have t1 : (leafB no d2).data.toList.take 208 = (leafB no d).data.toList.take 208 := by
            rw [← e4]
            apply List.ext_getElem
            · rw [List.length_take, List.length_take, curL_length, hl]
            · intro i h1 h3
              rw [List.length_take, hl] at h3
              rw [List.getElem_take, List.getElem_take, curL_get, curL_off _ _ _ _ _ 256 (Or.inl (by omega)), getD_get _ _ (by omega)]
          have t2 : d2 = d := by
            apply ByteArray.ext
            apply Array.toList_inj.1
            rw [← page_at (no := no) h, ← page_at (no := no) h2, t1]
          subst t2
          rw [oth_iff]
          intro j hj
          have g : (curL (fun j => (leafB no d2).data.toList.getD j 0) E k q 256)[k + j]? = (leafB no d2).data.toList[k + j]? := by rw [e4]
          rw [List.getElem?_eq_getElem (by rw [curL_length]; omega), List.getElem?_eq_getElem (by rw [hl]; omega), curL_get] at g
          injection g with g
          unfold cur at g
          rw [if_pos (by omega)] at g
          dsimp only at g
          rw [getD_get _ _ (by rw [hl]; omega), show k + j - k = j by omega] at g
          exact xor_same g
      rw [ho] at hc
      cases hc
end
end Go.Proofs.YtiacdpfodhggmaaDoor.Lf
