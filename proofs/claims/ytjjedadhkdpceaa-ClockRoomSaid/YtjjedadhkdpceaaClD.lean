/- Pages at hand, in memory; found, and how many hold: the document's, walked. -/
import Derived.Test.YtjjedadhkdpceaaClC
import Derived.Test.YtjjedadhkdpceaaLiC
import Derived.WalkKit
import Derived.WalkSpells
import Derived.WalkLawsBesides
import Derived.Lib.Hide
import Derived.IntWalk
import Derived.Deep.QuietTactic
import Derived.BigQuiet
import Derived.Deep.CutBlock
import Derived.Deep.DeepCutAuto
import Derived.Deep.DeepFit
import Derived.Outline
import Derived.WalkSmall
import Derived.OneCell
import Derived.OwnWalk
import Derived.Maps.AppendAt
namespace Go.Proofs.Ytjjedadhkdpceaa.Cl
open Go.RowKit Pac

def cellsP (p : P) : List Value := [.int .i64 p.no, .string p.data, .bool p.ref, .int .i64 p.pins]
theorem cellsP_len (p : P) : (cellsP p).length = 4 := rfl
/-- The slice at A holds these pages. -/
abbrev HasP (w : World) (lo : Nat) (A : Option Addr) (l : List P) : Prop := Li.HasL cellsP 4 w lo A l
theorem HasP.at {w : World} {lo : Nat} {A : Option Addr} {l : List P} (h : HasP w lo A l) {q : Nat} {e : P} (hq : l[q]? = some e) :
    ∃ b o, A = some ⟨b, o, none⟩ ∧ b < w.heap.size ∧ w.cell? ⟨b, o + q * 4, none⟩ = some (.int .i64 e.no) ∧ w.cell? ⟨b, o + q * 4 + 1, none⟩ = some (.string e.data) ∧ w.cell? ⟨b, o + q * 4 + 2, none⟩ = some (.bool e.ref) ∧ w.cell? ⟨b, o + q * 4 + 3, none⟩ = some (.int .i64 e.pins) := by
  obtain ⟨b, o, hA, _, hlt, hc⟩ := h (fun e => by rw [e] at hq; simp at hq)
  exact ⟨b, o, hA, hlt, hc q e hq 0 _ rfl, hc q e hq 1 _ rfl, hc q e hq 2 _ rfl, hc q e hq 3 _ rfl⟩
theorem cell_belowB {w w' : World} (h : Below w.heap.size w w') {b i : Nat} {v : Value} (hc : w.cell? ⟨b, i, none⟩ = some v) : w'.cell? ⟨b, i, none⟩ = some v :=
  (h.cell (p := ⟨b, i, none⟩) (World.block_lt_of_cell? w _ hc)).trans hc
theorem take_snoc {α : Type} {l : List α} {q : Nat} {x : α} (h : l[q]? = some x) : l.take (q + 1) = l.take q ++ [x] := by rw [List.take_add_one, h]; rfl
def BoolPost (p : Prop) (w : World) (e : Ending) (w' : World) : Prop := ∃ b : Bool, e = .returned (.bool b) ∧ (b = true ↔ p) ∧ Below w.heap.size w w'
section
variable {A B : Option Addr} {n n2 cp cp2 : Nat} {l l' : List P} {w : World}
set_option maxRecDepth 20000 in
set_option maxHeartbeats 1600000 in
theorem refFind_any (h no : Int) (lo : Nat) (hl : HasP w lo A l) (hn : l.length = n) (h9 : n ≤ 100000) :
    Calls Try.prog 17 #[.agg #[.slice A n cp, .int .i64 h], .int .i64 no] w fun e w' => e = .returned (.int .i64 (resI (findL l no))) ∧ Below w.heap.size w w' := by
  have hB := (Below.refl w.heap.size w).alloc (Nat.le_refl _) (.cells #[.slice A n cp, .int .i64 h] 24)
  have hx := Box2.new w (.slice A n cp) (.int .i64 h) 24
  obtain ⟨g, hg⟩ : ∃ g, w.heap.size = g := ⟨_, rfl⟩
  rw [hg] at hx
  have HL := Lib.hid (And.intro (hl.below hB (Nat.le_refl _)) hn)
  generalize hw0 : w.alloc (.cells #[.slice A n cp, .int .i64 h] 24) = wa at hB hx HL
  clear hl hn
  go_enter Try.func17, Try.ntmps17
  go_wp2
  clear hw0 hg
  go_loopw [5] (fun i wr => ∃ q : Nat, q ≤ n ∧ i = .int .i64 q ∧ Hid (∀ p ∈ l.take q, p.no ≠ no) ∧ Below wa.heap.size wa wr) (fun i _ => n - (intOf i).toNat)
  case atStart => exact ⟨0, Nat.zero_le _, rfl, Lib.hid (fun p hp => by simp at hp), Below.refl _ _⟩
  case round =>
    obtain ⟨q, hq, rfl, hI, hy⟩ := hrel
    have x0 := (hx.below hy hx.lt).c0
    by_cases hlt : q < n
    · have hgt := List.getElem?_eq_getElem (l := l) (i := q) (by rw [HL.out.2]; exact hlt)
      generalize (l[q]'(by rw [HL.out.2]; exact hlt)) = x at hgt
      obtain ⟨b, o, rfl, hlb, d0, _, _, _⟩ := HasP.at (HL.out.1.below hy (Nat.le_refl _)) hgt
      have i1 : (q : Int) < (n : Int) := by omega
      have i0 : (0 : Int) ≤ (q : Int) := by omega
      by_cases hno : x.no = no
      · have HR : Hid (resI (findL l no) = (q : Int)) := Lib.hid (by
          rw [(find_some (l := l) (n := no) (i := q)).2 ⟨⟨x, hgt, hno⟩, fun j hj p hp => hI.out p (List.mem_of_getElem? (i := j) (by rw [List.getElem?_take, if_pos hj]; exact hp))⟩]
          rfl)
        have e1 : (x.no == no) = true := by rw [beq_iff_eq]; exact hno
        have HB := Lib.hid (hB.trans (hy.mono hB.size))
        clear hgt hno
        go_wp2
        go_ret
        exact ⟨by rw [HR.out]; rfl, HB.out⟩
      · have HI : Hid (∀ p ∈ l.take (q + 1), p.no ≠ no) := Lib.hid (fun p hp => by
          rw [take_snoc hgt] at hp
          rcases List.mem_append.1 hp with h | h
          · exact hI.out p h
          · obtain rfl := List.mem_singleton.1 h
            exact hno)
        have e1 : (x.no == no) = false := by rw [beq_eq_false_iff_ne]; exact hno
        clear hgt hno
        go_wp2
        go_roundw
        case rel => exact ⟨q + 1, by omega, by go_num, HI, hy⟩
        case measure => simp [intOf]; omega
    · obtain rfl : n = q := by omega
      have HR : Hid (resI (findL l no) = -1) := Lib.hid (by
        have h := hI.out
        rw [List.take_of_length_le (by rw [HL.out.2]; exact Nat.le_refl _)] at h
        rw [find_none.2 h]
        rfl)
      have HB := Lib.hid (hB.trans (hy.mono hB.size))
      go_wp2
      go_ret
      exact ⟨by rw [HR.out]; rfl, HB.out⟩
end
end Go.Proofs.Ytjjedadhkdpceaa.Cl
