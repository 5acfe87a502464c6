/- Groups in memory; whether two are the same, where a column is: the document's, walked. -/
import Derived.Test.YtifcepjflkgbmaaSpB
import Derived.Test.YtifcepjflkgbmaaLiA
import Derived.Test.YtifcepjflkgbmaaPacW
namespace Go.Proofs.Ytifcepjflkgbmaa.Sp
open Go.RowKit Pac Lex

def cellsI (i : Int) : List Value := [.int .i64 i]
theorem cellsI_len (i : Int) : (cellsI i).length = 1 := rfl
/-- The slice at A holds these numbers. -/
abbrev HasI (w : World) (lo : Nat) (A : Option Addr) (l : List Int) : Prop := Li.HasL cellsI 1 w lo A l
theorem HasI.at {w : World} {lo : Nat} {A : Option Addr} {l : List Int} (h : HasI w lo A l) {q : Nat} {a : Int} (hq : l[q]? = some a) : ∃ b o, A = some ⟨b, o, none⟩ ∧ lo ≤ b ∧ b < w.heap.size ∧ w.cell? ⟨b, o + q, none⟩ = some (.int .i64 a) := by
  obtain ⟨b, o, hA, hlo, hlt, hc⟩ := h (fun e => by rw [e] at hq; simp at hq)
  refine ⟨b, o, hA, hlo, hlt, ?_⟩
  have := hc q a hq 0 _ rfl
  rw [Nat.mul_one, Nat.add_zero] at this
  exact this
/-- A group, and where it lies. -/
structure G where
  A : Option Addr
  cp : Nat
  g : List Int
def cellsG (x : G) : List Value := [.slice x.A x.g.length x.cp]
theorem cellsG_len (x : G) : (cellsG x).length = 1 := rfl
/-- The slice at A holds these groups. -/
def HasLL (w : World) (lo : Nat) (A : Option Addr) (l : List (List Int)) : Prop :=
  ∃ hs : List G, hs.map G.g = l ∧ Li.HasL cellsG 1 w lo A hs ∧ ∀ x ∈ hs, HasI w lo x.A x.g ∧ x.g.length ≤ x.cp
theorem HasLL.at {w : World} {lo : Nat} {A : Option Addr} {l : List (List Int)} (h : HasLL w lo A l) {q : Nat} {g : List Int} (hq : l[q]? = some g) :
    ∃ b o A2 cp2, A = some ⟨b, o, none⟩ ∧ lo ≤ b ∧ b < w.heap.size ∧ w.cell? ⟨b, o + q, none⟩ = some (.slice A2 g.length cp2) ∧ HasI w lo A2 g ∧ g.length ≤ cp2 := by
  obtain ⟨hs, rfl, hA, hI⟩ := h
  rw [List.getElem?_map] at hq
  obtain ⟨x, hx, rfl⟩ := Option.map_eq_some_iff.1 hq
  obtain ⟨b, o, hA, hlo, hlt, hc⟩ := hA (fun e => by rw [e] at hx; simp at hx)
  have := hc q x hx 0 _ rfl
  rw [Nat.mul_one, Nat.add_zero] at this
  obtain ⟨h1, h2⟩ := hI x (List.mem_of_getElem? hx)
  exact ⟨b, o, x.A, x.cp, hA, hlo, hlt, this, h1, h2⟩
section
variable {w w' : World} {lo lo' B g : Nat} {A : Option Addr} {l : List (List Int)}
theorem HasLL.below (h : HasLL w lo A l) (hb : Below B w w') (hB : w.heap.size ≤ B) : HasLL w' lo A l := by
  obtain ⟨hs, e, hA, hI⟩ := h
  exact ⟨hs, e, hA.below hb hB, fun x hx => ⟨(hI x hx).1.below hb hB, (hI x hx).2⟩⟩
theorem HasLL.bar (h : HasLL w lo A l) (hb : Bar g w w') (hg : g < lo ∨ w.heap.size ≤ g) : HasLL w' lo A l := by
  obtain ⟨hs, e, hA, hI⟩ := h
  exact ⟨hs, e, hA.bar hb hg, fun x hx => ⟨(hI x hx).1.bar hb hg, (hI x hx).2⟩⟩
theorem HasLL.lower (h : HasLL w lo A l) (hl : lo' ≤ lo) : HasLL w lo' A l := by
  obtain ⟨hs, e, hA, hI⟩ := h
  exact ⟨hs, e, hA.lower hl, fun x hx => ⟨(hI x hx).1.lower hl, (hI x hx).2⟩⟩
theorem HasLL.nil (w : World) (lo : Nat) (A : Option Addr) : HasLL w lo A [] := ⟨[], rfl, Li.HasL.nil _ _ _, fun x hx => by simp at hx⟩
end
theorem ext_of {α : Type} {a b : List α} {m : Nat} (ha : a.length = m) (hb : b.length = m) (h : ∀ j < m, a[j]? = b[j]?) : a = b := by
  apply List.ext_getElem?
  intro j
  by_cases hj : j < m
  · exact h j hj
  · rw [List.getElem?_eq_none (by omega), List.getElem?_eq_none (by omega)]
theorem upto_succ {α : Type} {a b : List α} {q : Nat} {x : α} (h : ∀ j < q, a[j]? = b[j]?) (ha : a[q]? = some x) (hb : b[q]? = some x) : ∀ j < q + 1, a[j]? = b[j]? := fun j hj => by
  by_cases hq : j < q
  · exact h j hq
  · obtain rfl : j = q := by omega
    rw [ha, hb]

set_option maxRecDepth 20000 in
set_option maxHeartbeats 3200000 in
theorem refSame_any (A1 A2 : Option Addr) (cp1 cp2 : Nat) (l1 l2 : List (List Int)) (lo1 lo2 : Nat) (w : World) (h1 : HasLL w lo1 A1 l1) (h2 : HasLL w lo2 A2 l2) (hl1 : l1.length ≤ 9223372036854775807) (hl2 : l2.length ≤ 9223372036854775807) (hg1 : ∀ g ∈ l1, g.length ≤ 9223372036854775807) (hg2 : ∀ g ∈ l2, g.length ≤ 9223372036854775807) :
    Calls Try.prog 12 #[.slice A1 l1.length cp1, .slice A2 l2.length cp2] w fun e w' => e = .returned (.bool (decide (l1 = l2))) ∧ Below w.heap.size w w' := by
  have hR : (l1 ≠ l2 → decide (l1 = l2) = false) ∧ (l1 = l2 → decide (l1 = l2) = true) := ⟨fun h => decide_eq_false h, fun h => decide_eq_true h⟩
  generalize decide (l1 = l2) = r at hR ⊢
  have HR := Lib.hid hR
  clear hR
  obtain ⟨m, hm⟩ : ∃ m, l1.length = m := ⟨_, rfl⟩
  obtain ⟨m2, hm2⟩ : ∃ m, l2.length = m := ⟨_, rfl⟩
  rw [hm] at hl1 ⊢
  rw [hm2] at hl2 ⊢
  have HA := Lib.hid h1
  have HB := Lib.hid h2
  have HM := Lib.hid hm
  have HM2 := Lib.hid hm2
  have HG := Lib.hid (And.intro hg1 hg2)
  clear h1 h2 hm hm2 hg1 hg2
  go_enter Try.func12, Try.ntmps12
  by_cases hmm : m = m2
  · subst hmm
    go_wp2
    go_loopw [5] (fun i wr => ∃ q : Nat, q ≤ m ∧ i = .int .i64 q ∧ Hid (∀ j < q, l1[j]? = l2[j]?) ∧ Below w.heap.size w wr) (fun i _ => m - (intOf i).toNat)
    case atStart => exact ⟨0, Nat.zero_le _, rfl, Lib.hid (fun j hj => absurd hj (Nat.not_lt_zero j)), Below.refl _ w⟩
    case round =>
      obtain ⟨q, hq, rfl, hH, hB⟩ := hrel
      by_cases hlt : q < m
      · have hg1 : l1[q]? = some (l1[q]'(by rw [HM.out]; exact hlt)) := List.getElem?_eq_getElem _
        have hg2 : l2[q]? = some (l2[q]'(by rw [HM2.out]; exact hlt)) := List.getElem?_eq_getElem _
        generalize (l1[q]'(by rw [HM.out]; exact hlt)) = g at hg1
        generalize (l2[q]'(by rw [HM2.out]; exact hlt)) = k at hg2
        have sg := HG.out.1 g (List.mem_of_getElem? hg1)
        have sk := HG.out.2 k (List.mem_of_getElem? hg2)
        obtain ⟨b1, o1, A3, cp3, rfl, hlo1, hlb1, d1, hI1, _⟩ := (HA.out.below hB (Nat.le_refl _)).at hg1
        obtain ⟨b2, o2, A4, cp4, rfl, hlo2, hlb2, d2, hI2, _⟩ := (HB.out.below hB (Nat.le_refl _)).at hg2
        have HG1 := Lib.hid hg1
        have HG2 := Lib.hid hg2
        clear hg1 hg2
        obtain ⟨p, hp⟩ : ∃ p, g.length = p := ⟨_, rfl⟩
        obtain ⟨p2, hp2⟩ : ∃ p, k.length = p := ⟨_, rfl⟩
        rw [hp] at d1 sg
        rw [hp2] at d2 sk
        have HP := Lib.hid hp
        have HP2 := Lib.hid hp2
        clear hp hp2
        have HI1 := Lib.hid hI1
        have HI2 := Lib.hid hI2
        clear hI1 hI2
        have i1 : (q : Int) < (m : Int) := by omega
        have i0 : (0 : Int) ≤ (q : Int) := by omega
        by_cases hpp : p = p2
        · subst hpp
          go_wp2
          go_quiet (fail)
          have hB := hB.trans (below_drewN (Below.refl w.heap.size wr) nq)
          go_wp2
          clear d1 d2
          go_loopw [6] (fun i wq => ∃ t : Nat, t ≤ p ∧ i = .int .i64 t ∧ Hid (∀ j < t, g[j]? = k[j]?) ∧ Below w.heap.size w wq) (fun i _ => p - (intOf i).toNat)
          case atStart => exact ⟨0, Nat.zero_le _, rfl, Lib.hid (fun j hj => absurd hj (Nat.not_lt_zero j)), hB⟩
          case round =>
            clear hB HI1 HI2
            obtain ⟨t, ht, rfl, hT, hB⟩ := hrel
            obtain ⟨b1', o1', A5, cp5, e1, hlo1', hlb1', d1, hI1, _⟩ := (HA.out.below hB (Nat.le_refl _)).at HG1.out
            obtain ⟨b2', o2', A6, cp6, e2, hlo2', hlb2', d2, hI2, _⟩ := (HB.out.below hB (Nat.le_refl _)).at HG2.out
            injection e1 with e1
            injection e1 with e1 e1'
            subst e1 e1'
            injection e2 with e2
            injection e2 with e2 e2'
            subst e2 e2'
            rw [HP.out] at d1
            rw [HP2.out] at d2
            clear hlo1' hlb1' hlo2' hlb2'
            by_cases htp : t < p
            · have hx1 : g[t]? = some (g[t]'(by rw [HP.out]; exact htp)) := List.getElem?_eq_getElem _
              have hx2 : k[t]? = some (k[t]'(by rw [HP2.out]; exact htp)) := List.getElem?_eq_getElem _
              generalize (g[t]'(by rw [HP.out]; exact htp)) = x at hx1
              generalize (k[t]'(by rw [HP2.out]; exact htp)) = y at hx2
              obtain ⟨b5, o5, rfl, _, hlb5, f1⟩ := hI1.at hx1
              obtain ⟨b6, o6, rfl, _, hlb6, f2⟩ := hI2.at hx2
              have j1 : (t : Int) < (p : Int) := by omega
              have j0 : (0 : Int) ≤ (t : Int) := by omega
              have HX1 := Lib.hid hx1
              have HX2 := Lib.hid hx2
              clear hI1 hI2 hx1 hx2
              by_cases hxy : x = y
              · subst hxy
                have HS : Hid (∀ j < t + 1, g[j]? = k[j]?) := Lib.hid (upto_succ hT.out HX1.out HX2.out)
                go_wp2
                go_quiet (fail)
                have hB := hB.trans (below_drewN (Below.refl w.heap.size wr) nq)
                clear d1 d2 f1 f2
                go_wp2
                go_roundw
                case rel => exact ⟨t + 1, by omega, by go_num, HS, hB⟩
                case measure => simp [intOf]; omega
              · have HQ : Hid (r = false) := Lib.hid (HR.out.1 (fun e => by
                  have h1 := HG1.out
                  rw [e, HG2.out] at h1
                  injection h1 with h1
                  have h2 := HX1.out
                  rw [← h1, HX2.out] at h2
                  injection h2 with h2
                  exact hxy h2.symm))
                go_wp2
                go_quiet (fail)
                have hB := hB.trans (below_drewN (Below.refl w.heap.size wr) nq)
                clear d1 d2 f1 f2
                go_wp2
                go_ret
                exact ⟨by rw [HQ.out]; rfl, hB⟩
            · obtain rfl : t = p := by omega
              have HE : Hid (∀ j < q + 1, l1[j]? = l2[j]?) := Lib.hid (upto_succ hH.out HG1.out (by rw [HG2.out, ext_of HP.out HP2.out hT.out]))
              go_wp2
              clear d1 d2 hI1 hI2
              go_roundw
              case rel => exact ⟨q + 1, by omega, by go_num, HE, hB⟩
              case measure => simp [intOf]; omega
        · have HQ : Hid (r = false) := Lib.hid (HR.out.1 (fun e => by
            have h1 := HG1.out
            rw [e, HG2.out] at h1
            injection h1 with h1
            apply hpp
            rw [← HP.out, ← HP2.out, h1]))
          have hpp' : ((p : Int) != (p2 : Int)) = true := bne_iff_ne.2 (by omega)
          go_wp2
          go_quiet (fail)
          have hB := hB.trans (below_drewN (Below.refl w.heap.size wr) nq)
          go_wp2
          go_ret
          exact ⟨by rw [HQ.out]; rfl, hB⟩
      · obtain rfl : q = m := by omega
        have HQ : Hid (r = true) := Lib.hid (HR.out.2 (ext_of HM.out HM2.out hH.out))
        go_wp2
        go_ret
        exact ⟨by rw [HQ.out]; rfl, hB⟩
  · have HQ : Hid (r = false) := Lib.hid (HR.out.1 (fun e => hmm (by rw [← HM.out, ← HM2.out, e])))
    have hmm' : ((m : Int) != (m2 : Int)) = true := bne_iff_ne.2 (by omega)
    go_wp2
    go_ret
    exact ⟨by rw [HQ.out]; rfl, Below.refl _ w⟩
end Go.Proofs.Ytifcepjflkgbmaa.Sp
