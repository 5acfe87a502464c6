/- Whether a schema is small; whether two are the same; the example; walked. -/
import Derived.Test.YtajoklimdlalhaaScC
namespace Go.Proofs.Ytajoklimdlalhaa.Sc
open Go.RowKit Pac

def SmallPost (nm : ByteArray) (l : List C) (w : World) (e : Ending) (w' : World) : Prop :=
  ∃ r : Bool, e = .returned (.bool r) ∧ (r = true → nm.size ≤ 100 ∧ l.length ≤ 20 ∧ ∀ (j : Nat) (c : C), l[j]? = some c → c.n.size ≤ 100) ∧ Below w.heap.size w w'
set_option maxRecDepth 20000 in
set_option maxHeartbeats 2000000 in
theorem small_any (A : Option Addr) (cp : Nat) (nm : ByteArray) (l : List C) (lo : Nat) (w : World) (h : HasCols w lo A l) (hn : nm.size ≤ 9223372036854775807) (hl : l.length ≤ 9223372036854775807) (hok : ∀ (j : Nat) (c : C), l[j]? = some c → c.Ok) :
    Calls Try.prog 7 #[.agg #[.string nm, .slice A l.length cp]] w (SmallPost nm l w) := by
  obtain ⟨m, hm⟩ : ∃ m, l.length = m := ⟨_, rfl⟩
  rw [hm] at hl ⊢
  have HA := Lib.hid h
  have HM := Lib.hid hm
  have HK := Lib.hid hok
  clear h hm hok
  have hB0 := (Below.refl w.heap.size w).alloc (Nat.le_refl _) (.cells #[.string nm, .slice A m cp] 24)
  have hx0 := Box2.new w (.string nm) (.slice A m cp) 24
  go_enter Try.func7, Try.ntmps7
  go_wp2
  go_loopw [3] (fun i wr => ∃ q : Nat, q ≤ m ∧ i = .int .i64 q ∧ Hid (∀ j, j < q → ∀ c, l[j]? = some c → c.n.size ≤ 100) ∧ Below w.heap.size w wr ∧ Box2 wr w.heap.size (.string nm) (.slice A m cp)) (fun i _ => m - (intOf i).toNat)
  case atStart => exact ⟨0, Nat.zero_le _, rfl, Lib.hid (fun j hj => absurd hj (Nat.not_lt_zero j)), hB0, hx0⟩
  case round =>
    obtain ⟨q, hq, rfl, hH, hB, hx⟩ := hrel
    have c0 := hx.c0
    have c1 := hx.c1
    by_cases hlt : q < m
    · have hg : l[q]? = some (l[q]'(by rw [HM.out]; exact hlt)) := List.getElem?_eq_getElem _
      obtain ⟨b, o, rfl, hlo, hlb, hc⟩ := (HA.out.below hB (Nat.le_refl _)) (fun e => by have := HM.out; rw [e] at this; simp at this; omega)
      obtain ⟨d0, d1, d2⟩ := hc q _ hg
      have hnz := (HK.out q _ hg).nz
      generalize (l[q]'(by rw [HM.out]; exact hlt)) = c at hg d0 d1 d2 hnz
      obtain ⟨n, k, zz⟩ := c
      simp only at d0 d1 d2 hnz
      have HG := Lib.hid hg
      clear hc hg
      by_cases h1 : 100 < n.size
      · go_wp2
        go_ret
        exact ⟨false, rfl, fun e => (by cases e), hB⟩
      · go_wp2
        go_roundw
        case rel =>
          refine ⟨q + 1, by omega, by go_num, Lib.hid (fun j hj c hc => ?_), hB, hx⟩
          by_cases hjq : j < q
          · exact hH.out j hjq c hc
          · obtain rfl : j = q := by omega
            rw [HG.out] at hc
            injection hc with hc
            subst hc
            show n.size ≤ 100
            omega
        case measure => simp [intOf]; omega
    · obtain rfl : q = m := by omega
      by_cases h2 : q ≤ 20
      · by_cases h3 : nm.size ≤ 100
        · go_wp2
          go_ret
          refine ⟨true, ?_, fun _ => ⟨h3, by rw [HM.out]; exact h2, fun j c hc => hH.out j (by rw [← HM.out]; exact (List.getElem?_eq_some_iff.1 hc).1) c hc⟩, hB⟩
          show Ending.returned (.bool (decide ((nm.size : Int) ≤ 100))) = _
          rw [decide_eq_true (by omega)]
        · go_wp2
          go_ret
          refine ⟨false, ?_, fun e => (by cases e), hB⟩
          show Ending.returned (.bool (decide ((nm.size : Int) ≤ 100))) = _
          rw [decide_eq_false (by omega)]
      · go_wp2
        go_ret
        exact ⟨false, rfl, fun e => (by cases e), hB⟩

def SamePost (nm1 nm2 : ByteArray) (l1 l2 : List C) (w : World) (e : Ending) (w' : World) : Prop :=
  ∃ r : Bool, e = .returned (.bool r) ∧ (r = true ↔ nm1 = nm2 ∧ l1 = l2) ∧ Below w.heap.size w w'
theorem bytes_eq_iff {a b : ByteArray} : (a.toList == b.toList) = true ↔ a = b := by
  rw [beq_iff_eq, ByteArray.toList_eq, ByteArray.toList_eq]
  exact ⟨fun e => bytesEq e, fun e => by rw [e]⟩

set_option maxRecDepth 20000 in
set_option maxHeartbeats 2000000 in
theorem same_any (A1 A2 : Option Addr) (p1 p2 : Nat) (nm1 nm2 : ByteArray) (l1 l2 : List C) (lo1 lo2 : Nat) (w : World) (ha : HasCols w lo1 A1 l1) (hb : HasCols w lo2 A2 l2) (hl1 : l1.length ≤ 9223372036854775807) (hl2 : l2.length ≤ 9223372036854775807) :
    Calls Try.prog 13 #[.agg #[.string nm1, .slice A1 l1.length p1], .agg #[.string nm2, .slice A2 l2.length p2]] w (SamePost nm1 nm2 l1 l2 w) := by
  obtain ⟨m, hm⟩ : ∃ m, l1.length = m := ⟨_, rfl⟩
  obtain ⟨m2, hm2⟩ : ∃ m, l2.length = m := ⟨_, rfl⟩
  rw [hm] at hl1 ⊢
  rw [hm2] at hl2 ⊢
  have HA := Lib.hid ha
  have HB := Lib.hid hb
  have HM := Lib.hid hm
  have HM2 := Lib.hid hm2
  clear ha hb hm hm2
  have hB0 := ((Below.refl w.heap.size w).alloc (Nat.le_refl _) (.cells #[.string nm1, .slice A1 m p1] 24)).alloc (by simp) (.cells #[.string nm2, .slice A2 m2 p2] 24)
  have hx0 := (Box2.new w (.string nm1) (.slice A1 m p1) 24).alloc (.cells #[.string nm2, .slice A2 m2 p2] 24)
  have hy0 := Box2.new (w.alloc (.cells #[.string nm1, .slice A1 m p1] 24)) (.string nm2) (.slice A2 m2 p2) 24
  rw [show (w.alloc (.cells #[.string nm1, .slice A1 m p1] 24)).heap.size = w.heap.size + 1 by simp] at hy0
  have HB0 := Lib.hid hB0
  clear hB0
  go_enter Try.func13, Try.ntmps13
  by_cases hn : (nm1.toList == nm2.toList) = true
  · by_cases hmm : m = m2
    · subst hmm
      have HN := Lib.hid (bytes_eq_iff.1 hn)
      go_wp2
      go_loopw [5] (fun i wr => ∃ q : Nat, q ≤ m ∧ i = .int .i64 q ∧ Hid (l1.take q = l2.take q) ∧ Below w.heap.size w wr ∧ Box2 wr w.heap.size (.string nm1) (.slice A1 m p1) ∧ Box2 wr (w.heap.size + 1) (.string nm2) (.slice A2 m p2)) (fun i _ => m - (intOf i).toNat)
      case atStart => exact ⟨0, Nat.zero_le _, rfl, Lib.hid rfl, HB0.out, hx0, hy0⟩
      case round =>
        obtain ⟨q, hq, rfl, hH, hB, hx, hy⟩ := hrel
        have c1 := hx.c1
        have c2 := hy.c1
        by_cases hlt : q < m
        · have hg1 : l1[q]? = some (l1[q]'(by rw [HM.out]; exact hlt)) := List.getElem?_eq_getElem _
          have hg2 : l2[q]? = some (l2[q]'(by rw [HM2.out]; exact hlt)) := List.getElem?_eq_getElem _
          obtain ⟨b1, o1, rfl, hlo1, hlb1, hcc1⟩ := (HA.out.below hB (Nat.le_refl _)) (fun e => by have := HM.out; rw [e] at this; simp at this; omega)
          obtain ⟨b2, o2, rfl, hlo2, hlb2, hcc2⟩ := (HB.out.below hB (Nat.le_refl _)) (fun e => by have := HM2.out; rw [e] at this; simp at this; omega)
          obtain ⟨d0, d1, d2⟩ := hcc1 q _ hg1
          obtain ⟨e0, e1, e2⟩ := hcc2 q _ hg2
          generalize (l1[q]'(by rw [HM.out]; exact hlt)) = cA at hg1 d0 d1 d2
          generalize (l2[q]'(by rw [HM2.out]; exact hlt)) = cB at hg2 e0 e1 e2
          have HG1 := Lib.hid hg1
          have HG2 := Lib.hid hg2
          obtain ⟨n1, k1, z1⟩ := cA
          obtain ⟨n2, k2, z2⟩ := cB
          simp only at d0 d1 d2 e0 e1 e2
          have i1 : (q : Int) < (m : Int) := by omega
          have i0 : (0 : Int) ≤ (q : Int) := by omega
          clear hcc1 hcc2 hg1 hg2
          by_cases q1 : n1 = n2
          · subst q1
            by_cases q2 : k1 = k2
            · subst q2
              by_cases q3 : z1 = z2
              · subst q3
                go_wp2
                go_region
                go_wp2
                go_roundw
                case rel => exact ⟨q + 1, by omega, by go_num, Lib.hid (by rw [List.take_add_one, List.take_add_one, hH.out, HG1.out, HG2.out]), hB.drew, hx.drew, hy.drew⟩
                case measure => simp [intOf]; omega
              · have q3' := q3
                have HQ : Hid (¬ (nm1 = nm2 ∧ l1 = l2)) := Lib.hid (fun h => by
                  have e := HG1.out
                  rw [h.2, HG2.out] at e
                  injection e with e
                  injection e with e1 e2 e3
                  exact q3' e3.symm)
                go_wp2
                go_region
                go_wp2
                go_ret
                exact ⟨false, rfl, ⟨fun e => (by cases e), fun e => absurd e HQ.out⟩, hB.drew⟩
            · have q2' := q2
              have HQ : Hid (¬ (nm1 = nm2 ∧ l1 = l2)) := Lib.hid (fun h => by
                have e := HG1.out
                rw [h.2, HG2.out] at e
                injection e with e
                injection e with e1 e2 e3
                exact q2' e2.symm)
              go_wp2
              go_region
              go_wp2
              go_ret
              exact ⟨false, rfl, ⟨fun e => (by cases e), fun e => absurd e HQ.out⟩, hB.drew⟩
          · have q1' : ¬ n1.toList = n2.toList := fun e => q1 (bytes_eq_iff.1 (beq_iff_eq.2 e))
            have HQ : Hid (¬ (nm1 = nm2 ∧ l1 = l2)) := Lib.hid (fun h => by
              have e := HG1.out
              rw [h.2, HG2.out] at e
              injection e with e
              injection e with e1 e2 e3
              exact q1 e1.symm)
            go_wp2
            go_region
            go_wp2
            go_ret
            exact ⟨false, rfl, ⟨fun e => (by cases e), fun e => absurd e HQ.out⟩, hB.drew⟩
        · obtain rfl : q = m := by omega
          have HQ : Hid (nm1 = nm2 ∧ l1 = l2) := Lib.hid ⟨HN.out, by
            have e := hH.out
            rw [List.take_of_length_le (by rw [HM.out]; exact Nat.le_refl _), List.take_of_length_le (by rw [HM2.out]; exact Nat.le_refl _)] at e
            exact e⟩
          go_wp2
          go_ret
          exact ⟨true, rfl, ⟨fun _ => HQ.out, fun _ => rfl⟩, hB⟩
    · have HQ : Hid (¬ (nm1 = nm2 ∧ l1 = l2)) := Lib.hid (fun h => hmm (by rw [← HM.out, ← HM2.out, h.2]))
      have hmm' : ((m : Int) == (m2 : Int)) = false := beq_eq_false_iff_ne.2 (by omega)
      go_wp2
      go_ret
      exact ⟨false, rfl, ⟨fun e => (by cases e), fun e => absurd e HQ.out⟩, HB0.out⟩
  · have HQ : Hid (¬ (nm1 = nm2 ∧ l1 = l2)) := Lib.hid (fun h => hn (bytes_eq_iff.2 h.1))
    have hn' : (nm1.toList == nm2.toList) = false := by simpa using hn
    go_wp2
    go_ret
    exact ⟨false, rfl, ⟨fun e => (by cases e), fun e => absurd e HQ.out⟩, HB0.out⟩
end Go.Proofs.Ytajoklimdlalhaa.Sc
