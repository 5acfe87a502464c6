/- Bytes in a block, bits of a byte, a list put together: what the walks of both sides take. -/
import Derived.Test.YtbeojghlldiniaaPlB
import Derived.Test.YtbeojghlldiniaaByA
namespace Go.Proofs.Ytbeojghlldiniaa.Pl
open Go.RowKit By
theorem bit_and : ∀ y < 256, ∀ b < 8, (bits .and .u8 ((y / 2 ^ b : Nat) : Int) 1 == 1) = Nat.testBit y b := by decide +kernel
theorem infoI : (Try.prog.info? 3).map (fun i => (i.zero, i.size, i.bytes)) = some (some (.int .i64 0), 1, 8) := by kernel_rfl
abbrev cellsN : Nat → List Value := fun i => [Value.int .i64 (i : Int)]
theorem cellsN_len (x : Nat) : (cellsN x).length = 1 := rfl
section
variable {s : ByteArray}
theorem byte_at {p : Nat} (h : p < s.size) : s.data.toList.getD p 0 = s[p] := by
  have h3 : s.data[p]? = some s[p] := Array.getElem?_eq_getElem h
  rw [List.getD_eq_getElem?_getD, Array.getElem?_toList, h3]
  rfl
end
/-- Bytes in a block, each of which may be written. -/
def Byt (w : World) (g : Nat) (l : List UInt8) : Prop := ∀ (j : Nat) (b : UInt8), l[j]? = some b → w.cell? ⟨g, j, none⟩ = some (.int .u8 (b.toNat : Int)) ∧ w.frozen? ⟨g, j, none⟩ = false
section
variable {P : Program} {w : World} {g : Nat} {l : List UInt8}
theorem Byt.below {w' : World} {B : Nat} (h : Byt w g l) (hb : Below B w w') (hg : g < B) : Byt w' g l := fun j b hj => ⟨(hb.cell (p := ⟨g, j, none⟩) hg).trans (h j b hj).1, (hb.frozen (p := ⟨g, j, none⟩) hg).trans (h j b hj).2⟩
theorem Byt.set (h : Byt w g l) (p : Nat) (b : UInt8) : Byt (w.setCell ⟨g, p, none⟩ (.int .u8 (b.toNat : Int))) g (l.set p b) := fun j c hj => by
  by_cases e : p = j
  · subst e
    have hp : p < l.length := by have := (List.getElem?_eq_some_iff.1 hj).1; rw [List.length_set] at this; exact this
    rw [List.getElem?_set_self hp] at hj
    injection hj with hj
    subst hj
    have h0 := h p _ (List.getElem?_eq_getElem hp)
    exact ⟨World.cell?_setCell_same _ _ _ h0.1, by simp [h0.2]⟩
  · rw [List.getElem?_set_ne e] at hj
    have h0 := h j c hj
    exact ⟨(World.cell?_setCell_other _ _ _ _ (fun q => e (by injection q))).trans h0.1, by simp [h0.2]⟩
theorem bytes_new (w : World) (src dst e : TypeId) (s : ByteArray) (hs : P.underlying src = some .string) (hd : P.underlying dst = some (.slice e)) (he : P.underlying e = some (.int .u8)) :
    ∃ cap w', (convert src dst (.string s)).run P w = .ok (.slice (some ⟨w.heap.size, 0, none⟩) s.size cap) w' ∧ Byt w' w.heap.size s.data.toList ∧ Below w.heap.size w w' ∧ w.heap.size < w'.heap.size := by
  refine ⟨_, _, run_bytes_of_string w src dst e s hs hd he, fun j b hj => ?_, (Below.refl w.heap.size w).drew.alloc (Nat.le_refl _) _, by simp⟩
  have hjs : j < s.size := by have := (List.getElem?_eq_some_iff.1 hj).1; simpa using this
  have hg : (w.drew.alloc (.cells (bytesRow s (grownCap w s.size 0 e)) e ((bytesRow s (grownCap w s.size 0 e)).size, (bytesRow s (grownCap w s.size 0 e)).size + 1))).heap[w.heap.size]? = some (.cells (bytesRow s (grownCap w s.size 0 e)) e ((bytesRow s (grownCap w s.size 0 e)).size, (bytesRow s (grownCap w s.size 0 e)).size + 1)) := heap_alloc_new w.drew _
  have hr : (bytesRow s (grownCap w s.size 0 e))[j]? = some (.int .u8 (b.toNat : Int)) := by
    unfold bytesRow
    rw [Array.getElem?_append_left (by simpa using hjs), Array.getElem?_map]
    rw [Array.getElem?_toList] at hj
    rw [hj]
    rfl
  have hlt := (Array.getElem?_eq_some_iff.1 hr).1
  refine ⟨by rw [cell_of_row _ _ j _ e _ hg]; exact hr, ?_⟩
  simp only [World.frozen?, hg, Bool.and_eq_false_iff, decide_eq_false_iff_not]
  exact Or.inl (by omega)
theorem Byt.string (h : Byt w g l) (src dst e : TypeId) (cap : Nat) {n : Nat} (hn : l.length = n) (hs : P.underlying src = some (.slice e)) (he : P.underlying e = some (.int .u8)) (hd : P.underlying dst = some .string) :
    (convert src dst (.slice (some ⟨g, 0, none⟩) n cap)).run P w = .ok (.string ⟨l.toArray⟩) w := by
  subst hn
  exact run_convert_bytes_back (P := P) w src dst e ⟨g, 0, none⟩ cap l hs he hd (fun j hj => by
    rw [Addr.add_lit, Nat.zero_add]
    exact (h j _ (List.getElem?_eq_getElem hj)).1)
end
section
variable {w : World} {s : ByteArray}
theorem mkB_out {n : Int} {t : Bool} (h : ¬ (0 ≤ n ∧ n < 512 ∧ n / 8 < (s.size : Int))) : mkB s n t = s := by
  unfold mkB
  by_cases h0 : 0 ≤ n
  · rw [if_pos h0]
    unfold mk
    rw [if_neg (by have : s.data.toList.length = s.size := by simp
                   omega)]
  · rw [if_neg h0]
set_option maxRecDepth 100000 in
theorem bit_onN : ∀ y < 256, ∀ b < 8, bits .or .u8 ((y : Nat) : Int) ((2 : Int) ^ b % 256) = (((if Nat.testBit y b then y else y + 2 ^ b) % 256 : Nat) : Int) := by decide +kernel
set_option maxRecDepth 100000 in
theorem bit_offN : ∀ y < 256, ∀ b < 8, bits .andNot .u8 ((y : Nat) : Int) ((2 : Int) ^ b % 256) = (((if Nat.testBit y b then y - 2 ^ b else y) % 256 : Nat) : Int) := by decide +kernel
theorem bit_on (x : UInt8) {b : Nat} (hb : b < 8) : bits .or .u8 (x.toNat : Int) ((2 : Int) ^ b % 256) = ((setB x b true).toNat : Int) := by
  rw [bit_onN _ x.toNat_lt _ hb]
  unfold setB
  rw [UInt8.toNat_ofNat', if_pos rfl]
theorem bit_off (x : UInt8) {b : Nat} (hb : b < 8) : bits .andNot .u8 (x.toNat : Int) ((2 : Int) ^ b % 256) = ((setB x b false).toNat : Int) := by
  rw [bit_offN _ x.toNat_lt _ hb]
  unfold setB
  rw [UInt8.toNat_ofNat', if_neg (show ¬ (false = true) by decide)]
theorem two_string {P : Program} {src dst e : TypeId} (i : Nat) (hi : i < 512) (hs : P.underlying src = some (.slice e)) (he : P.underlying e = some (.int .u8)) (hd : P.underlying dst = some .string) :
    (convert src dst (.slice (some ⟨w.heap.size, 0, none⟩) 2 2)).run P ((w.alloc (.cells #[.int .u8 ((i : Int) / 256), .int .u8 ((i : Int) % 256)] e)).drew) = .ok (.string ⟨#[UInt8.ofNat (i / 256), UInt8.ofNat i]⟩) ((w.alloc (.cells #[.int .u8 ((i : Int) / 256), .int .u8 ((i : Int) % 256)] e)).drew) := by
  have h := run_convert_bytes_back (P := P) ((w.alloc (.cells #[.int .u8 ((i : Int) / 256), .int .u8 ((i : Int) % 256)] e)).drew) src dst e ⟨w.heap.size, 0, none⟩ 2 [UInt8.ofNat (i / 256), UInt8.ofNat i] hs he hd (fun j hj => by
    have e1 : (UInt8.ofNat (i / 256)).toNat = i / 256 := by rw [UInt8.toNat_ofNat']; omega
    have e2 : (UInt8.ofNat i).toNat = i % 256 := by rw [UInt8.toNat_ofNat']
    match j, hj with
    | 0, _ =>
      show World.cell? _ _ = some (.int .u8 ((UInt8.ofNat (i / 256)).toNat : Int))
      rw [e1, Addr.add_lit]
      simp [go_sem]
    | 1, _ =>
      show World.cell? _ _ = some (.int .u8 ((UInt8.ofNat i).toNat : Int))
      rw [e2, Addr.add_lit]
      simp [go_sem])
  exact h
theorem set_two {α : Type} {l : List α} {a b : α} {p : Nat} (h : p + 2 ≤ l.length) : (l.set p a).set (p + 1) b = l.take p ++ [a, b] ++ l.drop (p + 2) := by
  apply List.ext_getElem?
  intro j
  rw [List.append_assoc]
  by_cases h1 : j < p
  · rw [List.getElem?_set_ne (by omega), List.getElem?_set_ne (by omega), List.getElem?_append_left (by rw [List.length_take]; omega), List.getElem?_take, if_pos h1]
  · rw [List.getElem?_append_right (by rw [List.length_take]; omega), List.length_take, Nat.min_eq_left (by omega)]
    by_cases h2 : j = p
    · subst h2
      rw [List.getElem?_set_ne (by omega), List.getElem?_set_self (by omega), Nat.sub_self]
      rfl
    · by_cases h3 : j = p + 1
      · subst h3
        rw [List.getElem?_set_self (by rw [List.length_set]; omega), show p + 1 - p = 1 by omega]
        rfl
      · rw [List.getElem?_set_ne (by omega), List.getElem?_set_ne (by omega), show j - p = (j - p - 2) + 2 by omega]
        show _ = (l.drop (p + 2))[j - p - 2]?
        rw [List.getElem?_drop]
        congr 1
        omega
theorem setRB_eq {i : Nat} (h : 66 ≤ s.size) (hi : i < 512) : setRB s (i : Int) = s.extract 0 64 ++ ⟨#[UInt8.ofNat (i / 256), UInt8.ofNat i]⟩ ++ s.extract 66 s.size := by
  apply ByteArray.ext
  apply Array.toList_inj.1
  have hl : s.data.toList.length = s.size := by simp
  have e1 : (setRB s (i : Int)).data.toList = (s.data.toList.set 64 (UInt8.ofNat (i / 256))).set 65 (UInt8.ofNat i) := by
    unfold setRB
    rw [if_pos (by omega), Int.toNat_natCast]
    unfold setR
    rw [if_neg (by omega)]
  rw [e1, set_two (p := 64) (by omega)]
  simp
  rw [← hl, List.take_of_length_le (by simp)]
theorem setRB_out {n : Int} (h : ¬ (66 ≤ s.size ∧ 0 ≤ n ∧ n < 512)) : setRB s n = s := by
  unfold setRB
  by_cases h0 : 0 ≤ n
  · rw [if_pos h0]
    unfold setR
    rw [if_pos (by have : s.data.toList.length = s.size := by simp
                   omega)]
  · rw [if_neg h0]
end
end Go.Proofs.Ytbeojghlldiniaa.Pl
