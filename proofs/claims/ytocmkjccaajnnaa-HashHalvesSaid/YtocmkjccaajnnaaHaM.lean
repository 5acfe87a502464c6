/- An index: the program's eight functions, in the form that the laws take. -/
import Derived.Test.YtocmkjccaajnnaaHpH
import Derived.Test.YtocmkjccaajnnaaHaL
namespace Go.Proofs.Ytocmkjccaajnnaa.Ha
open Go.RowKit Pac Bu Ls Lex Go.Proofs.Ytocmkjccaajnnaa.Or
theorem Idx.bounds {h : H} {i : Nat} (hh : Idx spread h i) (hi : i ≤ 200) : h.bs.length ≤ 201 ∧ (∀ r ∈ h.bs, r.length ≤ 200) ∧ ∀ r ∈ h.bs, ∀ e ∈ r, e.key.size ≤ 9223372036854775807 :=
  ⟨Nat.le_trans hh.len (by omega), fun r hr => Nat.le_trans (len_countH h hr) (Nat.le_trans hh.cnt hi), fun r hr e he => by have := (hh.ent e ⟨r, hr, he⟩).1; omega⟩
theorem IsH.shape {h : H} {n : Nat} (hh : IsH spread h) (hn : h.bs.length = n) : ShapeN (h.lv : Nat) (h.nx : Nat) n := by
  have h1 := hh.nx
  have h2 := hh.len
  have h3 := hh.l8
  exact ⟨by omega, by omega, by omega, by rw [Int.toNat_natCast]; omega, by rw [Int.toNat_natCast]; omega⟩
theorem IsH.nx9 {h : H} (hh : IsH spread h) : h.nx ≤ 1000 := Nat.le_of_lt (Nat.lt_of_lt_of_le hh.nx (Nat.le_trans (Nat.pow_le_pow_right (n := 2) (by omega) hh.l8) (by decide)))
section
variable {A : Option Addr} {n cp i : Nat} {w : World} {h : H}
theorem put_any (X : Nat → Prop) (hh : Idx spread h i) (hi : i ≤ 200) (hb : HasBsX w X A h.bs) (hn : h.bs.length = n) (hc : n ≤ cp) (k : ByteArray) (t s : Int) (he : FineP ⟨k, t, s⟩) :
    Calls Try.prog 12 #[.agg #[.int .i64 h.lv, .int .i64 h.nx, .slice A n cp], .string k, .agg #[.int .i64 t, .int .i64 s]] w (HashPost X (putH spread h ⟨k, t, s⟩) w) := by
  obtain ⟨h1, h2, h3⟩ := hh.bounds hi
  exact put_any0 X h k t s hh.is hb hn (by omega) (fun r hr => Nat.le_trans (h2 r hr) (by omega)) h3 (by have : k.size ≤ _ := he.1; omega)
theorem drop_any (X : Nat → Prop) (hh : Idx spread h i) (hi : i ≤ 200) (hb : HasBsX w X A h.bs) (hn : h.bs.length = n) (hc : n ≤ cp) (k : ByteArray) (hk : k.size ≤ 200) :
    Calls Try.prog 14 #[.agg #[.int .i64 h.lv, .int .i64 h.nx, .slice A n cp], .string k] w (HashPost X (dropH spread h k.data.toList) w) := by
  obtain ⟨h1, h2, h3⟩ := hh.bounds hi
  obtain ⟨bk, hbk⟩ := hh.is.here k.data.toList
  exact drop_any0 X h k bk hb hn (hh.is.shape hn) (by omega) hh.is.l8 hh.is.nx9 hbk (Nat.le_trans (h2 bk (List.mem_of_getElem? hbk)) (by omega)) (by omega)
theorem halve_any (X : Nat → Prop) (hh : Idx spread h i) (hi : i ≤ 200) (hb : HasBsX w X A h.bs) (hn : h.bs.length = n) (hc : n ≤ cp) :
    Calls Try.prog 16 #[.agg #[.int .i64 h.lv, .int .i64 h.nx, .slice A n cp]] w (HashPost X (halveH spread h) w) := by
  obtain ⟨h1, h2, h3⟩ := hh.bounds hi
  obtain ⟨bk, hbk⟩ := hh.is.next
  exact halve_any0 X h bk hb hn hc (by omega) hh.is hbk (Nat.le_trans (h2 bk (List.mem_of_getElem? hbk)) (by omega)) (h3 bk (List.mem_of_getElem? hbk))
theorem get_any (hh : Idx spread h i) (hi : i ≤ 200) (hb : HasBs w 0 A h.bs) (hn : h.bs.length = n) (hc : n ≤ cp) (k : ByteArray) (hk : k.size ≤ 200) :
    Calls Try.prog 18 #[.agg #[.int .i64 h.lv, .int .i64 h.nx, .slice A n cp], .string k] w (FindPost (getH spread h k.data.toList) w) := by
  obtain ⟨h1, h2, h3⟩ := hh.bounds hi
  obtain ⟨bk, hbk⟩ := hh.is.here k.data.toList
  exact get_any0 h k bk hb hn (hh.is.shape hn) (hh.is.ris bk (List.mem_of_getElem? hbk)) (by omega) hh.is.l8 hh.is.nx9 hbk (Nat.le_trans (h2 bk (List.mem_of_getElem? hbk)) (by omega)) (by omega)
theorem count_any (hh : Idx spread h i) (hi : i ≤ 200) (hb : HasBs w 0 A h.bs) (hn : h.bs.length = n) (hc : n ≤ cp) :
    Calls Try.prog 21 #[.agg #[.int .i64 h.lv, .int .i64 h.nx, .slice A n cp]] w fun e w' => e = .returned (.int .i64 (countH h : Nat)) ∧ Below w.heap.size w w' := by
  obtain ⟨h1, h2, h3⟩ := hh.bounds hi
  exact count_any0 _ _ 0 hb hn (by omega) (fun r hr => Nat.le_trans (h2 r hr) (by omega))
theorem right_any (lv nx : Int) (bs : List (List E)) (lo : Nat) (hb : HasBs w lo A bs) (hn : bs.length = n) (hc : n ≤ cp) (h9 : n ≤ 1000) (hr9 : ∀ r ∈ bs, r.length ≤ 1000) (hks : ∀ r ∈ bs, ∀ e ∈ r, e.Ok) (hl0 : -9223372036854775808 ≤ lv) (hl1 : lv ≤ 9223372036854775807) (hnx0 : -9223372036854775808 ≤ nx) (hnx1 : nx ≤ 9223372036854775807) :
    Calls Try.prog 23 #[.agg #[.int .i64 lv, .int .i64 nx, .slice A n cp]] w (SameHPost (MayH lv nx bs) w) :=
  right_any0 lv nx lo hb hn (by omega) (fun r hr => Nat.le_trans (hr9 r hr) (by omega)) (fun r hr e he => (hks r hr e he).k) hnx0 hnx1
theorem where_any (lv nx : Nat) (k : ByteArray) (hl : lv ≤ 8) (hx : nx < 2 ^ lv) (hk : k.size ≤ 200) :
    Calls Try.prog 25 #[.int .i64 lv, .int .i64 nx, .string k] w fun e w' => e = .returned (.int .i64 (atN lv nx (spread k.data.toList) : Nat)) ∧ Below w.heap.size w w' :=
  where_any0 lv nx k w hl (Nat.le_of_lt (Nat.lt_of_lt_of_le hx (Nat.le_trans (Nat.pow_le_pow_right (n := 2) (by omega) hl) (by decide)))) (by omega)
end
end Go.Proofs.Ytocmkjccaajnnaa.Ha
