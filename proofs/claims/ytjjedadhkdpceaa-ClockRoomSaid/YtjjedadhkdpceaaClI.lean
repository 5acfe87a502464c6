/- Pages at hand: the program's Find (slices.IndexFunc with a closure), slices.Clone, points, Pins, walked. -/
import Derived.Test.YtjjedadhkdpceaaClH
import Derived.Lib.SliceRun
import Derived.Laws.Externs
namespace Go.Proofs.Ytjjedadhkdpceaa.Cl
open Go.RowKit Pac Lex

/-- The function value answers whether a page has that number, in every world in which all below B lies as it did. -/
def PredF (kb : Nat) (no : Int) (B : Nat) (w : World) : Prop :=
  ∀ (e : P) (W : World), Below B w W → B ≤ W.heap.size → Calls Try.prog 19 #[.agg #[.int .i64 e.no, .string e.data, .bool e.ref, .int .i64 e.pins], .pointer (some ⟨kb, 0, none⟩)] W (fun r W' => r = .returned (.bool (e.no == no)) ∧ Below W.heap.size W W')
section
variable {A : Option Addr} {n cp : Nat} {l : List P} {w : World}
set_option maxRecDepth 20000 in
set_option maxHeartbeats 1600000 in
theorem pred_find (kb : Nat) (no : Int) (h : w.cell? ⟨kb, 0, none⟩ = some (.int .i64 no)) (B : Nat) (hkB : kb < B) : PredF kb no B w := by
  rintro ⟨en, ed, er, ep⟩ W hW hBW
  simp only
  have h := (hW.cell (p := ⟨kb, 0, none⟩) hkB).trans h
  have hx := Box4.new W (.int .i64 en) (.string ed) (.bool er) (.int .i64 ep) 36
  have hb := (Below.refl W.heap.size W).alloc (Nat.le_refl _) (.cells #[.int .i64 en, .string ed, .bool er, .int .i64 ep] 36)
  have h := cell_belowB hb h
  obtain ⟨ge, hge⟩ : ∃ ge, W.heap.size = ge := ⟨_, rfl⟩
  rw [hge] at hx
  have e0 := hx.c0
  have HB := Lib.hid hb
  clear hx hW hb
  go_enter Try.func19, Try.ntmps19
  go_wp2
  go_ret
  exact ⟨rfl, HB.out⟩
set_option maxRecDepth 20000 in
set_option maxHeartbeats 1600000 in
theorem index_find (kb : Nat) (no : Int) (lo B : Nat) (hl : HasP w lo A l) (hn : l.length = n) (h9 : n ≤ 100000) (hB9 : B ≤ w.heap.size) (hp : PredF kb no B w) :
    Calls Try.prog 18 #[.slice A n cp, .func (.func 19) #[] #[.pointer (some ⟨kb, 0, none⟩)]] w fun e w' => e = .returned (.int .i64 (resI (findL l no))) ∧ Below w.heap.size w w' := by
  have HL := Lib.hid (And.intro hl (And.intro hn hp))
  clear hl hn hp
  go_enter Try.func18, Try.ntmps18
  go_wp2
  go_loopw [5, 8] (fun _ i wr => ∃ q : Nat, q ≤ n ∧ i = .int .i64 q ∧ Hid (∀ p ∈ l.take q, p.no ≠ no) ∧ Below w.heap.size w wr) (fun _ i _ => n - (intOf i).toNat)
  case atStart => exact ⟨0, Nat.zero_le _, rfl, Lib.hid (fun x hx => by simp at hx), Below.refl _ w⟩
  case round =>
    obtain ⟨q, hq, rfl, hI, hB⟩ := hrel
    by_cases hlt : q < n
    · have hgt := List.getElem?_eq_getElem (l := l) (i := q) (by rw [HL.out.2.1]; exact hlt)
      generalize (l[q]'(by rw [HL.out.2.1]; exact hlt)) = x at hgt
      obtain ⟨b, o, rfl, hlb, d0, d1, d2, d3⟩ := HasP.at (HL.out.1.below hB (Nat.le_refl _)) hgt
      have hcall := HL.out.2.2 x wr (hB.mono hB9) (Nat.le_trans hB9 hB.size)
      have HG := Lib.hid hgt
      have i1 : (q : Int) < (n : Int) := by omega
      have i0 : (0 : Int) ≤ (q : Int) := by omega
      clear hgt
      by_cases hno : x.no = no
      · have HR : Hid (resI (findL l no) = (q : Int)) := Lib.hid (by
          rw [(find_some (l := l) (n := no) (i := q)).2 ⟨⟨x, HG.out, hno⟩, fun j hj p hp => hI.out p (List.mem_of_getElem? (i := j) (by rw [List.getElem?_take, if_pos hj]; exact hp))⟩]
          rfl)
        have e1 : (x.no == no) = true := by rw [beq_iff_eq]; exact hno
        rw [e1] at hcall
        obtain ⟨en, ed, er, ep⟩ := x
        simp only at d0 d1 d2 d3 hcall
        clear hno e1
        go_wp2_with fail
        refine hcall.mono ?_
        rintro e w' ⟨rfl, hy⟩
        have HB := Lib.hid (hB.trans (hy.mono hB.size))
        clear hcall hy
        go_wp2
        go_ret
        exact ⟨by rw [HR.out]; rfl, HB.out⟩
      · have HI : Hid (∀ p ∈ l.take (q + 1), p.no ≠ no) := Lib.hid (fun p hp => by
          rw [take_snoc HG.out] at hp
          rcases List.mem_append.1 hp with h | h
          · exact hI.out p h
          · obtain rfl := List.mem_singleton.1 h
            exact hno)
        have e1 : (x.no == no) = false := by rw [beq_eq_false_iff_ne]; exact hno
        rw [e1] at hcall
        obtain ⟨en, ed, er, ep⟩ := x
        simp only at d0 d1 d2 d3 hcall
        clear hno e1
        go_wp2_with fail
        refine hcall.mono ?_
        rintro e w' ⟨rfl, hy⟩
        go_wp2
        go_roundw
        case rel => exact ⟨q + 1, by omega, by go_num, HI, hB.trans (hy.mono hB.size)⟩
        case measure => simp [intOf]; omega
    · obtain rfl : q = n := by omega
      have HR : Hid (resI (findL l no) = -1) := Lib.hid (by
        have h := hI.out
        rw [List.take_of_length_le (by rw [HL.out.2.1]; exact Nat.le_refl _)] at h
        rw [find_none.2 h]
        rfl)
      have HB := Lib.hid hB
      clear hB
      go_wp2
      go_ret
      exact ⟨by rw [HR.out]; rfl, HB.out⟩
set_option maxRecDepth 20000 in
set_option maxHeartbeats 1600000 in
theorem pfind_any (h no : Int) (lo : Nat) (hl : HasP w lo A l) (hn : l.length = n) (h9 : n ≤ 100000) :
    Calls Try.prog 11 #[.agg #[.slice A n cp, .int .i64 h], .int .i64 no] w fun e w' => e = .returned (.int .i64 (resI (findL l no))) ∧ Below w.heap.size w w' := by
  have hB := (Below.refl w.heap.size w).alloc (Nat.le_refl _) (.cells #[.slice A n cp, .int .i64 h] 24)
  have hx := Box2.new w (.slice A n cp) (.int .i64 h) 24
  obtain ⟨g, hg⟩ : ∃ g, w.heap.size = g := ⟨_, rfl⟩
  have hz : (w.alloc (.cells #[.slice A n cp, .int .i64 h] 24)).heap.size = g + 1 := by simp [hg]
  rw [hg] at hx
  generalize hw0 : w.alloc (.cells #[.slice A n cp, .int .i64 h] 24) = wa at hB hx hz
  have hBb := (Below.refl wa.heap.size wa).alloc (Nat.le_refl _) (.cells #[.int .i64 no] 3)
  have a0 : (wa.alloc (.cells #[.int .i64 no] 3)).cell? ⟨wa.heap.size, 0, none⟩ = some (.int .i64 no) := by simp [go_sem]
  have hz2 : (wa.alloc (.cells #[.int .i64 no] 3)).heap.size = g + 2 := by simp [hz]
  rw [hz] at a0
  have hx := hx.below hBb hx.lt
  have hB := hB.trans (hBb.mono hB.size)
  generalize hw1 : wa.alloc (.cells #[.int .i64 no] 3) = wb at hB hx a0 hz2
  have hp := pred_find (g + 1) no a0 (g + 2) (by omega)
  have hc := index_find (cp := cp) (g + 1) no lo (g + 2) (hl.below hB (Nat.le_refl _)) hn h9 (Nat.le_of_eq hz2.symm) hp
  have x0 := hx.c0
  clear hp hl hn hBb hx a0
  go_enter Try.func11, Try.ntmps11
  go_wp2_with fail
  clear hw0 hw1 hz hz2 hg
  refine hc.mono ?_
  rintro e w1 ⟨rfl, hb⟩
  have HB := Lib.hid (hB.trans (hb.mono hB.size))
  clear hc hB hb x0
  go_wp2
  go_ret
  exact ⟨rfl, HB.out⟩
set_option maxRecDepth 20000 in
set_option maxHeartbeats 1600000 in
theorem ppins_any (h : Int) (lo : Nat) (hl : HasP w lo A l) (hn : l.length = n) (h9 : n ≤ 8) (hp9 : ∀ p ∈ l, 0 ≤ p.pins ∧ p.pins ≤ 100000) :
    Calls Try.prog 15 #[.agg #[.slice A n cp, .int .i64 h]] w fun e w' => e = .returned (.int .i64 (sumP l)) ∧ Below w.heap.size w w' := by
  have hB := (Below.refl w.heap.size w).alloc (Nat.le_refl _) (.cells #[.slice A n cp, .int .i64 h] 24)
  have hx := Box2.new w (.slice A n cp) (.int .i64 h) 24
  obtain ⟨g, hg⟩ : ∃ g, w.heap.size = g := ⟨_, rfl⟩
  rw [hg] at hx
  have HL := Lib.hid (And.intro (hl.below hB (Nat.le_refl _)) (And.intro hn hp9))
  generalize hw0 : w.alloc (.cells #[.slice A n cp, .int .i64 h] 24) = wa at hB hx HL
  have x0 := hx.c0
  clear hl hn hp9
  go_enter Try.func15, Try.ntmps15
  go_wp2
  clear hw0 hg x0
  go_loopw [3, 5, 9] (fun v _ i wr => ∃ (q : Nat) (s : Int), q ≤ n ∧ i = .int .i64 q ∧ v = .int .i64 s ∧ 0 ≤ s ∧ s ≤ 100000 * q ∧ Hid (s = sumP (l.take q)) ∧ Below wa.heap.size wa wr) (fun _ _ i _ => n - (intOf i).toNat)
  case atStart => exact ⟨0, 0, Nat.zero_le _, rfl, rfl, by omega, by omega, Lib.hid rfl, Below.refl _ _⟩
  case round =>
    obtain ⟨q, s, hq, rfl, rfl, hs0, hs1, hS, hy⟩ := hrel
    by_cases hlt : q < n
    · have hgt := List.getElem?_eq_getElem (l := l) (i := q) (by rw [HL.out.2.1]; exact hlt)
      generalize (l[q]'(by rw [HL.out.2.1]; exact hlt)) = x at hgt
      obtain ⟨b, o, rfl, hlb, d0, d1, d2, d3⟩ := HasP.at (HL.out.1.below hy (Nat.le_refl _)) hgt
      have hpx := HL.out.2.2 x (List.mem_of_getElem? hgt)
      obtain ⟨xp, hxp⟩ : ∃ xp, x.pins = xp := ⟨_, rfl⟩
      rw [hxp] at d3 hpx
      have HS : Hid (s + xp = sumP (l.take (q + 1))) := Lib.hid (by rw [take_snoc hgt, sum_snoc, ← hS.out, hxp])
      have i1 : (q : Int) < (n : Int) := by omega
      have i0 : (0 : Int) ≤ (q : Int) := by omega
      have hnw := (Below.refl wr.heap.size wr).alloc (Nat.le_refl _) (.cells #[.int .i64 x.no, .string x.data, .bool x.ref, .int .i64 xp] 36)
      have HY := Lib.hid (hy.trans (hnw.mono hy.size))
      clear hgt hxp hy hnw
      go_wp2
      go_roundw
      case rel => exact ⟨q + 1, s + xp, by omega, by go_num, by go_num, by omega, by omega, HS, HY.out⟩
      case measure => simp [intOf]; omega
    · obtain rfl : n = q := by omega
      have HR : Hid (sumP l = s) := Lib.hid (by
        have h := hS.out
        rw [List.take_of_length_le (by rw [HL.out.2.1]; exact Nat.le_refl _)] at h
        exact h.symm)
      have HB := Lib.hid (hB.trans (hy.mono hB.size))
      go_wp2
      go_ret
      exact ⟨by rw [HR.out]; rfl, HB.out⟩
end
end Go.Proofs.Ytjjedadhkdpceaa.Cl
