/- Buckets: what calls leave behind, in the form that the laws take; whether entries are few: the law's, walked. -/
import Derived.Test.YtmjlfhfadmndhaaBuI
namespace Go.Proofs.Ytmjlfhfadmndhaa.Bu
open Go.RowKit Pac Ls Lex

/-- What Put and Drop return: a list, wherever it lies; nothing of before is altered. -/
def PutPost0 (l : List E) (w : World) (e : Ending) (w' : World) : Prop := ∃ (A : Option Addr) (n cp : Nat), e = .returned (.slice A n cp) ∧ l.length = n ∧ n ≤ cp ∧ HasE w' 0 A l ∧ Below w.heap.size w w'
theorem PutPost.weak {l : List E} {w : World} (e : Ending) (w' : World) (h : PutPost l w e w') : PutPost0 l w e w' := by
  obtain ⟨A, n, cp, h1, h2, h3, h4, h5⟩ := h
  exact ⟨A, n, cp, h1, h2, h3, h4.lower (Nat.zero_le _), h5⟩
def ParsePost0 (o : Option (List E)) (w : World) (e : Ending) (w' : World) : Prop :=
  ∃ A n cp, e = .returned (.tuple #[.slice A n cp, .bool o.isSome]) ∧ (o.getD []).length = n ∧ n ≤ cp ∧ HasE w' 0 A (o.getD []) ∧ Below w.heap.size w w'
theorem ParsePost.weak {o : Option (List E)} {w : World} (e : Ending) (w' : World) (h : ParsePost o w e w') : ParsePost0 o w e w' := by
  obtain ⟨A, n, cp, h1, h2, h3, h4, h5⟩ := h
  exact ⟨A, n, cp, h1, h2, h3, h4.lower (Nat.zero_le _), h5⟩
structure Small (l : List E) : Prop where
  len : l.length ≤ 60
  key : ∀ e ∈ l, e.key.size ≤ 200
def SmallPost (l : List E) (w : World) (e : Ending) (w' : World) : Prop := ∃ b : Bool, e = .returned (.bool b) ∧ (b = true ↔ Small l) ∧ Below w.heap.size w w'
section
variable {A : Option Addr} {n cp : Nat} {l : List E} {w : World}
set_option maxRecDepth 20000 in
set_option maxHeartbeats 1600000 in
theorem small_any (lo : Nat) (hl : HasE w lo A l) (hn : l.length = n) (h9 : n ≤ 9223372036854775807) :
    Calls Try.prog 8 #[.slice A n cp] w (SmallPost l w) := by
  have HL := Lib.hid (And.intro hl hn)
  clear hl hn
  go_enter Try.func8, Try.ntmps8
  go_wp2
  go_loopw [3] (fun i wr => ∃ q : Nat, q ≤ n ∧ i = .int .i64 q ∧ Hid (∀ x ∈ l.take q, x.key.size ≤ 200) ∧ Below w.heap.size w wr) (fun i _ => n - (intOf i).toNat)
  case atStart => exact ⟨0, Nat.zero_le _, rfl, Lib.hid (fun x hx => by simp at hx), Below.refl _ w⟩
  case round =>
    obtain ⟨q, hq, rfl, hI, hB⟩ := hrel
    by_cases hlt : q < n
    · have hgt := List.getElem?_eq_getElem (l := l) (i := q) (by rw [HL.out.2]; exact hlt)
      generalize (l[q]'(by rw [HL.out.2]; exact hlt)) = x at hgt
      obtain ⟨b, o, rfl, _, hlb, d0, d1, d2⟩ := HasE.at (HL.out.1.below hB (Nat.le_refl _)) hgt
      obtain ⟨ek, et, es⟩ := x
      simp only at d0 d1 d2
      have i1 : (q : Int) < (n : Int) := by omega
      have i0 : (0 : Int) ≤ (q : Int) := by omega
      by_cases kf : ek.size ≤ 200
      · have HI : Hid (∀ x ∈ l.take (q + 1), x.key.size ≤ 200) := Lib.hid (fun x hx => by
          rw [take_snoc hgt] at hx
          rcases List.mem_append.1 hx with h | h
          · exact hI.out x h
          · have : x = ⟨ek, et, es⟩ := by simpa using h
            rw [this]
            exact kf)
        clear hgt
        go_wp2
        go_roundw
        case rel => exact ⟨q + 1, by omega, by go_num, HI, hB⟩
        case measure => simp [intOf]; omega
      · have HQ : Hid (¬ Small l) := Lib.hid (fun h => kf (h.key _ (List.mem_of_getElem? hgt)))
        have kf' : (200 : Int) < (ek.size : Int) := by omega
        clear hgt
        go_wp2
        go_ret
        exact ⟨false, rfl, ⟨fun e => (by cases e), fun e => absurd e HQ.out⟩, hB⟩
    · obtain rfl : q = n := by omega
      have hfull : l.take q = l := List.take_of_length_le (by rw [HL.out.2]; exact Nat.le_refl _)
      by_cases h5 : q ≤ 60
      · have HY : Hid (Small l) := Lib.hid ⟨by rw [HL.out.2]; exact h5, by have h := hI.out; rw [hfull] at h; exact h⟩
        have i5 : (q : Int) ≤ 60 := by omega
        clear hfull
        go_wp2
        go_ret
        exact ⟨true, rfl, ⟨fun _ => HY.out, fun _ => rfl⟩, hB⟩
      · have HQ : Hid (¬ Small l) := Lib.hid (fun h => h5 (by rw [← HL.out.2]; exact h.len))
        have i5 : ¬ (q : Int) ≤ 60 := by omega
        clear hfull
        go_wp2
        go_ret
        exact ⟨false, rfl, ⟨fun e => (by cases e), fun e => absurd e HQ.out⟩, hB⟩
end
end Go.Proofs.Ytmjlfhfadmndhaa.Bu
