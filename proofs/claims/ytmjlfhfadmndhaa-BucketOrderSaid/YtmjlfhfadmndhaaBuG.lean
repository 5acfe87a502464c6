/- Buckets: the document's Right, walked. -/
import Derived.Test.YtmjlfhfadmndhaaBuF
import Derived.Deep.QuietTactic
import Derived.BigQuiet
namespace Go.Proofs.Ytmjlfhfadmndhaa.Bu
open Go.RowKit Pac Ls

def FineE (e : E) : Prop := e.key.size ≤ 61 ∧ (0 ≤ e.t ∧ e.t < 64) ∧ (0 ≤ e.s ∧ e.s < 8)
def RightPost (l : List E) (w : World) (e : Ending) (w' : World) : Prop := ∃ b : Bool, e = .returned (.bool b) ∧ (b = true ↔ IsB l) ∧ Below w.heap.size w w'
theorem rises_at {l : List E} (h : Rises l) {i j : Nat} {a b : E} (hij : i < j) (ha : l[i]? = some a) (hb : l[j]? = some b) : lt a.k b.k := by
  have h1 := List.pairwise_iff_getElem.1 h i j (List.getElem?_eq_some_iff.1 ha).1 (List.getElem?_eq_some_iff.1 hb).1 hij
  rw [(List.getElem?_eq_some_iff.1 ha).2, (List.getElem?_eq_some_iff.1 hb).2] at h1
  exact h1
/-- One more that may be. -/
theorem inv_next {l : List E} {q : Nat} {x : E} (hx : l[q]? = some x) (hr : Rises (l.take q)) (hl : ∀ j p, q = j + 1 → l[j]? = some p → lt p.k x.k) (hf : ∀ y ∈ l.take q, FineE y) (h : FineE x) : Rises (l.take (q + 1)) ∧ ∀ y ∈ l.take (q + 1), FineE y := by
  rw [take_snoc hx]
  refine ⟨List.pairwise_append.2 ⟨hr, List.pairwise_singleton _ _, fun y hy z hz => ?_⟩, fun y hy => ?_⟩
  · have : z = x := by simpa using hz
    subst this
    obtain ⟨i, hi⟩ := List.mem_iff_getElem?.1 hy
    have hiq : i < q := by
      have := (List.getElem?_eq_some_iff.1 hi).1
      rw [List.length_take] at this
      omega
    obtain ⟨j, rfl⟩ : ∃ j, q = j + 1 := ⟨q - 1, by omega⟩
    have hql := (List.getElem?_eq_some_iff.1 hx).1
    have hp := List.getElem?_eq_getElem (l := l) (i := j) (by omega)
    have h1 := hl j _ rfl hp
    by_cases e : i = j
    · subst e
      rw [List.getElem?_take, if_pos hiq, hp] at hi
      injection hi with hi
      rw [← hi]
      exact h1
    · have hp2 : (l.take (j + 1))[j]? = some (l[j]'(by omega)) := by rw [List.getElem?_take, if_pos (by omega), hp]
      exact lt_trans (rises_at hr (by omega) hi hp2) h1
  · rcases List.mem_append.1 hy with hy | hy
    · exact hf y hy
    · have : y = x := by simpa using hy
      subst this
      exact h
section
variable {A : Option Addr} {n cp : Nat} {l : List E} {w : World}
set_option maxRecDepth 20000 in
set_option maxHeartbeats 6400000 in
theorem refRight_any (lo : Nat) (hl : HasE w lo A l) (hn : l.length = n) (h9 : n ≤ 100000) :
    Calls Try.prog 20 #[.slice A n cp] w (RightPost l w) := by
  have HL := Lib.hid (And.intro hl hn)
  clear hl hn
  go_enter Try.func20, Try.ntmps20
  go_wp2
  go_loopw [3] (fun i wr => ∃ q : Nat, q ≤ n ∧ i = .int .i64 q ∧ Hid (Rises (l.take q) ∧ ∀ x ∈ l.take q, FineE x) ∧ Below w.heap.size w wr) (fun i _ => n - (intOf i).toNat)
  case atStart => exact ⟨0, Nat.zero_le _, rfl, Lib.hid ⟨List.Pairwise.nil, fun x hx => by simp at hx⟩, Below.refl _ w⟩
  case round =>
    obtain ⟨q, hq, rfl, hI, hB⟩ := hrel
    by_cases hlt : q < n
    · have hgt := List.getElem?_eq_getElem (l := l) (i := q) (by rw [HL.out.2]; exact hlt)
      generalize (l[q]'(by rw [HL.out.2]; exact hlt)) = x at hgt
      obtain ⟨b, o, rfl, _, hlb, d0, d1, d2⟩ := HasE.at (HL.out.1.below hB (Nat.le_refl _)) hgt
      obtain ⟨ek, et, es⟩ := x
      simp only at d0 d1 d2
      have HM := Lib.hid (List.mem_of_getElem? hgt)
      have HGT := Lib.hid hgt
      have i1 : (q : Int) < (n : Int) := by omega
      have i0 : (0 : Int) ≤ (q : Int) := by omega
      clear hgt
      rcases Nat.eq_zero_or_pos q with hq0 | hq0
      · have HLT : Hid (∀ j p, q = j + 1 → l[j]? = some p → lt p.k (⟨ek, et, es⟩ : E).k) := Lib.hid (fun j p h => by omega)
        have hq0' : decide (0 < q) = false := decide_eq_false (by omega)
        have hq0'' : decide ((0 : Int) < (q : Int)) = false := decide_eq_false (by omega)
        clear hq0
        by_cases kf : 61 < (ek.size : Int)
        · have HQ : Hid (¬ IsB l) := Lib.hid (fun h => by have := h.key _ HM.out; simp only at this; omega)
          clear HGT HM
          go_wp2
          go_quiet (fail)
          have hB := hB.trans (below_drewN (Below.refl w.heap.size wr) nq)
          go_wp2
          go_ret
          exact ⟨false, rfl, ⟨fun e => (by cases e), fun e => absurd e HQ.out⟩, hB⟩
        have kf' : decide (61 < (ek.size : Int)) = false := decide_eq_false kf
        have kf'' : decide (61 < ek.size) = false := decide_eq_false (by omega)
        by_cases t0 : et < 0
        · have HQ : Hid (¬ IsB l) := Lib.hid (fun h => by have := h.t0 _ HM.out; simp only at this; omega)
          clear HGT HM
          go_wp2
          go_quiet (fail)
          have hB := hB.trans (below_drewN (Below.refl w.heap.size wr) nq)
          go_wp2
          go_ret
          exact ⟨false, rfl, ⟨fun e => (by cases e), fun e => absurd e HQ.out⟩, hB⟩
        have t0' : decide (et < 0) = false := decide_eq_false t0
        by_cases t1 : 64 ≤ et
        · have HQ : Hid (¬ IsB l) := Lib.hid (fun h => by have := h.t0 _ HM.out; simp only at this; omega)
          clear HGT HM
          go_wp2
          go_quiet (fail)
          have hB := hB.trans (below_drewN (Below.refl w.heap.size wr) nq)
          go_wp2
          go_ret
          exact ⟨false, rfl, ⟨fun e => (by cases e), fun e => absurd e HQ.out⟩, hB⟩
        have t1' : decide (64 ≤ et) = false := decide_eq_false t1
        by_cases s0 : es < 0
        · have HQ : Hid (¬ IsB l) := Lib.hid (fun h => by have := h.s0 _ HM.out; simp only at this; omega)
          clear HGT HM
          go_wp2
          go_quiet (fail)
          have hB := hB.trans (below_drewN (Below.refl w.heap.size wr) nq)
          go_wp2
          go_ret
          exact ⟨false, rfl, ⟨fun e => (by cases e), fun e => absurd e HQ.out⟩, hB⟩
        have s0' : decide (es < 0) = false := decide_eq_false s0
        by_cases s1 : 8 ≤ es
        · have HQ : Hid (¬ IsB l) := Lib.hid (fun h => by have := h.s0 _ HM.out; simp only at this; omega)
          clear HGT HM
          go_wp2
          go_quiet (fail)
          have hB := hB.trans (below_drewN (Below.refl w.heap.size wr) nq)
          go_wp2
          go_ret
          exact ⟨false, rfl, ⟨fun e => (by cases e), fun e => absurd e HQ.out⟩, hB⟩
        have s1' : decide (8 ≤ es) = false := decide_eq_false s1
        have HI : Hid (Rises (l.take (q + 1)) ∧ ∀ x ∈ l.take (q + 1), FineE x) := Lib.hid (inv_next HGT.out hI.out.1 HLT.out hI.out.2 ⟨by simp only; omega, ⟨by simp only; omega, by simp only; omega⟩, ⟨by simp only; omega, by simp only; omega⟩⟩)
        clear kf t0 t1 s0 s1 HLT HGT HM
        go_wp2
        go_quiet (fail)
        have hB := hB.trans (below_drewN (Below.refl w.heap.size wr) nq)
        go_wp2
        go_roundw
        case rel => exact ⟨q + 1, by omega, by go_num, HI, hB⟩
        case measure => simp [intOf]; omega
      · obtain ⟨j, m1, m3⟩ : ∃ j : Nat, (q : Int) - 1 = (j : Int) ∧ q = j + 1 := ⟨q - 1, by omega, by omega⟩
        have hgp := List.getElem?_eq_getElem (l := l) (i := j) (by rw [HL.out.2]; omega)
        generalize (l[j]'(by rw [HL.out.2]; omega)) = p at hgp
        obtain ⟨b', o', hA', _, hlb', e0, _, _⟩ := HasE.at (HL.out.1.below hB (Nat.le_refl _)) hgp
        injection hA' with hA'
        injection hA' with a1 a2
        subst a1 a2
        obtain ⟨pk, pt, ps⟩ := p
        simp only at e0
        have HGP := Lib.hid hgp
        have M3 := Lib.hid m3
        have j0 : (0 : Int) < (q : Int) := by omega
        have j0' : decide (0 < q) = true := decide_eq_true (by omega)
        have j2 : (j : Int) < (n : Int) := by omega
        have j3 : (0 : Int) ≤ (j : Int) := by omega
        clear hgp m3 hq0
        by_cases hls : lt (⟨pk, pt, ps⟩ : E).k (⟨ek, et, es⟩ : E).k
        · have HLT : Hid (∀ j' p, q = j' + 1 → l[j']? = some p → lt p.k (⟨ek, et, es⟩ : E).k) := Lib.hid (fun j' p h h2 => by
            have h3 := M3.out
            obtain rfl : j = j' := by omega
            rw [HGP.out] at h2
            injection h2 with h2
            rw [← h2]
            exact hls)
          have hbl : Op.bytesLess pk.toList ek.toList = true := by rw [key_list, key_list]; exact hls
          clear hls
          by_cases kf : 61 < (ek.size : Int)
          · have HQ : Hid (¬ IsB l) := Lib.hid (fun h => by have := h.key _ HM.out; simp only at this; omega)
            clear HGT HM
            go_wp2
            go_quiet (fail)
            have hB := hB.trans (below_drewN (Below.refl w.heap.size wr) nq)
            go_wp2
            go_ret
            exact ⟨false, rfl, ⟨fun e => (by cases e), fun e => absurd e HQ.out⟩, hB⟩
          have kf' : decide (61 < (ek.size : Int)) = false := decide_eq_false kf
          have kf'' : decide (61 < ek.size) = false := decide_eq_false (by omega)
          by_cases t0 : et < 0
          · have HQ : Hid (¬ IsB l) := Lib.hid (fun h => by have := h.t0 _ HM.out; simp only at this; omega)
            clear HGT HM
            go_wp2
            go_quiet (fail)
            have hB := hB.trans (below_drewN (Below.refl w.heap.size wr) nq)
            go_wp2
            go_ret
            exact ⟨false, rfl, ⟨fun e => (by cases e), fun e => absurd e HQ.out⟩, hB⟩
          have t0' : decide (et < 0) = false := decide_eq_false t0
          by_cases t1 : 64 ≤ et
          · have HQ : Hid (¬ IsB l) := Lib.hid (fun h => by have := h.t0 _ HM.out; simp only at this; omega)
            clear HGT HM
            go_wp2
            go_quiet (fail)
            have hB := hB.trans (below_drewN (Below.refl w.heap.size wr) nq)
            go_wp2
            go_ret
            exact ⟨false, rfl, ⟨fun e => (by cases e), fun e => absurd e HQ.out⟩, hB⟩
          have t1' : decide (64 ≤ et) = false := decide_eq_false t1
          by_cases s0 : es < 0
          · have HQ : Hid (¬ IsB l) := Lib.hid (fun h => by have := h.s0 _ HM.out; simp only at this; omega)
            clear HGT HM
            go_wp2
            go_quiet (fail)
            have hB := hB.trans (below_drewN (Below.refl w.heap.size wr) nq)
            go_wp2
            go_ret
            exact ⟨false, rfl, ⟨fun e => (by cases e), fun e => absurd e HQ.out⟩, hB⟩
          have s0' : decide (es < 0) = false := decide_eq_false s0
          by_cases s1 : 8 ≤ es
          · have HQ : Hid (¬ IsB l) := Lib.hid (fun h => by have := h.s0 _ HM.out; simp only at this; omega)
            clear HGT HM
            go_wp2
            go_quiet (fail)
            have hB := hB.trans (below_drewN (Below.refl w.heap.size wr) nq)
            go_wp2
            go_ret
            exact ⟨false, rfl, ⟨fun e => (by cases e), fun e => absurd e HQ.out⟩, hB⟩
          have s1' : decide (8 ≤ es) = false := decide_eq_false s1
          have HI : Hid (Rises (l.take (q + 1)) ∧ ∀ x ∈ l.take (q + 1), FineE x) := Lib.hid (inv_next HGT.out hI.out.1 HLT.out hI.out.2 ⟨by simp only; omega, ⟨by simp only; omega, by simp only; omega⟩, ⟨by simp only; omega, by simp only; omega⟩⟩)
          clear kf t0 t1 s0 s1 HLT HGT HM
          go_wp2
          go_quiet (fail)
          have hB := hB.trans (below_drewN (Below.refl w.heap.size wr) nq)
          go_wp2
          go_roundw
          case rel => exact ⟨q + 1, by omega, by go_num, HI, hB⟩
          case measure => simp [intOf]; omega
        · have hbl : Op.bytesLess pk.toList ek.toList = false := by
            rw [key_list, key_list]
            cases h : Op.bytesLess pk.data.toList ek.data.toList
            · rfl
            · exact absurd h hls
          have HQ : Hid (¬ IsB l) := Lib.hid (fun h => hls (rises_at h.ris (by have := M3.out; omega) HGP.out HGT.out))
          clear hls
          go_wp2
          go_quiet (fail)
          have hB := hB.trans (below_drewN (Below.refl w.heap.size wr) nq)
          go_wp2
          go_ret
          exact ⟨false, rfl, ⟨fun e => (by cases e), fun e => absurd e HQ.out⟩, hB⟩
    · obtain rfl : q = n := by omega
      have hfull : l.take q = l := List.take_of_length_le (by rw [HL.out.2]; exact Nat.le_refl _)
      by_cases h5 : q ≤ 512
      · have HY : Hid (IsB l) := Lib.hid (by
          have h := hI.out
          rw [hfull] at h
          exact ⟨h.1, by rw [HL.out.2]; exact h5, fun e he => (h.2 e he).1, fun e he => (h.2 e he).2.1, fun e he => (h.2 e he).2.2⟩)
        have i5 : (q : Int) ≤ 512 := by omega
        clear hfull
        go_wp2
        go_ret
        exact ⟨true, rfl, ⟨fun _ => HY.out, fun _ => rfl⟩, hB⟩
      · have HQ : Hid (¬ IsB l) := Lib.hid (fun h => h5 (by rw [← HL.out.2]; exact h.len))
        have i5 : ¬ (q : Int) ≤ 512 := by omega
        clear hfull
        go_wp2
        go_ret
        exact ⟨false, rfl, ⟨fun e => (by cases e), fun e => absurd e HQ.out⟩, hB⟩
end
end Go.Proofs.Ytmjlfhfadmndhaa.Bu
