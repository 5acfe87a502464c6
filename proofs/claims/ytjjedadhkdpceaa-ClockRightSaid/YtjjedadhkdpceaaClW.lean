/- Pages at hand: the program's Right, walked. -/
import Derived.Test.YtjjedadhkdpceaaClV
namespace Go.Proofs.Ytjjedadhkdpceaa.Cl
open Go.RowKit Pac Lex

theorem res_eq {o : Option Nat} {q : Nat} : resI o = (q : Int) ↔ o = some q := by
  cases o with
  | none => simp [resI]
  | some i => simp [resI]; omega
section
variable {A : Option Addr} {n cp : Nat} {l : List P} {w : World}
set_option maxRecDepth 20000 in
set_option maxHeartbeats 3200000 in
theorem pright_any (h : Int) (hl : HasP w 0 A l) (hn : l.length = n) (h9 : n ≤ 100000) :
    Calls Try.prog 7 #[.agg #[.slice A n cp, .int .i64 h]] w (BoolPost (MayC h l) w) := by
  have hB := (Below.refl w.heap.size w).alloc (Nat.le_refl _) (.cells #[.slice A n cp, .int .i64 h] 24)
  have hx := Box2.new w (.slice A n cp) (.int .i64 h) 24
  obtain ⟨g, hg⟩ : ∃ g, w.heap.size = g := ⟨_, rfl⟩
  rw [hg] at hx
  have hl := hl.below hB (Nat.le_refl _)
  generalize hw0 : w.alloc (.cells #[.slice A n cp, .int .i64 h] 24) = wa at hB hx hl
  generalize hP : MayC h l = MP
  have HP := Lib.hid hP
  clear hP
  have x0 := hx.c0
  have x1 := hx.c1
  have HN := Lib.hid hn
  clear hn
  by_cases h8 : n ≤ 8
  · have i8 : ¬ (8 : Int) < (n : Int) := by omega
    by_cases h0 : h = 0
    · have hh : 0 ≤ h ∧ (h = 0 ∨ h < (n : Int)) := ⟨by omega, Or.inl h0⟩
      have HH := Lib.hid hh
      have b0 : (h != 0) = false := by rw [bne_eq_false_iff_eq]; exact h0
      clear hh h0
      have HX := Lib.hid (And.intro hx (And.intro hB hl))
      clear hx hB hl
      go_enter Try.func7, Try.ntmps7
      go_wp2
      obtain ⟨hx, hB, hl⟩ := HX.out
      clear hw0 hg x0 x1 HX
      go_loopw [3, 4, 22] (fun _ _ i wr => ∃ q : Nat, q ≤ n ∧ i = .int .i64 q ∧ Hid (∀ (i : Nat) (p : P), i < q → l[i]? = some p → 0 ≤ p.pins ∧ findL l p.no = some i) ∧ Below wa.heap.size wa wr) (fun _ _ i _ => n - (intOf i).toNat)
      case atStart => exact ⟨0, Nat.zero_le _, rfl, Lib.hid (fun i p hi => absurd hi (Nat.not_lt_zero _)), Below.refl _ _⟩
      case round =>
        obtain ⟨q, hq, rfl, hI, hy⟩ := hrel
        by_cases hlt : q < n
        · have hgt := List.getElem?_eq_getElem (l := l) (i := q) (by rw [HN.out]; exact hlt)
          generalize (l[q]'(by rw [HN.out]; exact hlt)) = p at hgt
          have hlr := hl.below hy (Nat.le_refl _)
          obtain ⟨b, o, rfl, _, d0, d1, d2, d3⟩ := HasP.at hlr hgt
          obtain ⟨pn, pd, pr, pp⟩ := p
          simp only at d0 d1 d2 d3
          have hxr := hx.below hy hx.lt
          have HG := Lib.hid hgt
          have i1 : (q : Int) < (n : Int) := by omega
          have i0 : (0 : Int) ≤ (q : Int) := by omega
          have hnew := (Below.refl wr.heap.size wr).alloc (Nat.le_refl _) (.cells #[.int .i64 pn, .string pd, .bool pr, .int .i64 pp] 36)
          have hb4 := Box4.new wr (.int .i64 pn) (.string pd) (.bool pr) (.int .i64 pp) 36
          have hx4 := hxr.below hnew hxr.lt
          have z0 := hx4.c0
          have z1 := hx4.c1
          have a0 := hb4.c0
          have a3 := hb4.c3
          have hy4 := hy.trans (hnew.mono hy.size)
          by_cases hneg : pp < 0
          · have HQ : Hid (¬ MP) := Lib.hid (by
              rw [← HP.out]
              intro h
              have h1 : (0 : Int) ≤ pp := (h.own q _ HG.out).1
              omega)
            have e1 : decide (pp < 0) = true := decide_eq_true hneg
            have HB := Lib.hid (hB.trans (hy4.mono hB.size))
            clear hgt hlr hxr hnew hb4 hx4 hy4 hneg
            go_wp2
            go_ret
            exact ⟨false, rfl, ⟨fun e => (by cases e), fun e => absurd e HQ.out⟩, HB.out⟩
          · have e1 : decide (pp < 0) = false := decide_eq_false hneg
            have hcF := pfind_any (cp := cp) (w := wr.alloc (.cells #[.int .i64 pn, .string pd, .bool pr, .int .i64 pp] 36)) h pn 0 (hlr.below hnew (Nat.le_refl _)) HN.out h9
            have HNG := Lib.hid hneg
            have HY := Lib.hid hy4
            by_cases hfq : findL l pn = some q
            · rw [(res_eq (q := q)).2 hfq] at hcF
              have HI : Hid (∀ (i : Nat) (p : P), i < q + 1 → l[i]? = some p → 0 ≤ p.pins ∧ findL l p.no = some i) := Lib.hid (fun i p hi hp => by
                by_cases e : i = q
                · rw [e, HG.out] at hp
                  injection hp with hp
                  subst hp
                  exact e ▸ ⟨by have := HNG.out; show (0 : Int) ≤ pp; omega, hfq⟩
                · exact hI.out i p (by omega) hp)
              clear hgt hlr hxr hnew hb4 hx4 hy4 hneg hfq
              go_wp2_with fail
              refine hcF.mono ?_
              rintro e y1 ⟨rfl, hv⟩
              have HY2 := Lib.hid (HY.out.trans (hv.mono HY.out.size))
              clear hcF hv z0 z1 a0 a3
              go_wp2
              go_roundw
              case rel => exact ⟨q + 1, by omega, by go_num, HI, HY2.out⟩
              case measure => simp [intOf]; omega
            · obtain ⟨rf, hrf⟩ : ∃ rf, resI (findL l pn) = rf := ⟨_, rfl⟩
              have hne : ¬ rf = (q : Int) := fun e => hfq (res_eq.1 (hrf.trans e))
              rw [hrf] at hcF
              have HQ : Hid (¬ MP) := Lib.hid (by
                rw [← HP.out]
                intro h
                exact hfq (h.own q _ HG.out).2)
              have e2 : (rf != (q : Int)) = true := by rw [bne_iff_ne]; exact hne
              clear hgt hlr hxr hnew hb4 hx4 hy4 hneg hfq hrf
              go_wp2_with fail
              refine hcF.mono ?_
              rintro e y1 ⟨rfl, hv⟩
              have HB := Lib.hid (hB.trans ((HY.out.trans (hv.mono HY.out.size)).mono hB.size))
              clear hcF hv z0 z1 a0 a3
              go_wp2
              go_ret
              exact ⟨false, rfl, ⟨fun e => (by cases e), fun e => absurd e HQ.out⟩, HB.out⟩
        · obtain rfl : n = q := by omega
          have HY : Hid MP := Lib.hid (by
            rw [← HP.out]
            have hlen := HN.out
            exact ⟨fun i p hp => hI.out i p (by have := (List.getElem?_eq_some_iff.1 hp).1; omega) hp, by omega, HH.out.1, by rw [hlen]; exact HH.out.2⟩)
          have HB := Lib.hid (hB.trans (hy.mono hB.size))
          go_wp2
          go_ret
          exact ⟨true, rfl, ⟨fun _ => HY.out, fun _ => rfl⟩, HB.out⟩
    · have b0 : (h != 0) = true := by rw [bne_iff_ne]; exact h0
      have hcP := points_any (A := A) (n := n) (cp := cp) (w := wa) h
      have HX := Lib.hid (And.intro hx (And.intro hB hl))
      clear hx hB hl
      go_enter Try.func7, Try.ntmps7
      go_wp2_with fail
      refine hcP.mono ?_
      rintro e wb ⟨bb, rfl, hbb, hv⟩
      obtain ⟨hx, hB, hl⟩ := HX.out
      have hx := hx.below hv hx.lt
      have hB := hB.trans (hv.mono hB.size)
      have hl := hl.below hv (Nat.le_refl _)
      clear hcP hv hw0 hg x0 x1 HX
      have x0 := hx.c0
      cases bb with
      | false =>
        have HQ : Hid (¬ MP) := Lib.hid (by
          rw [← HP.out]
          intro h1
          have h3 : (false = true) := hbb.2 ⟨h1.h0, by
            have := h1.h1
            rw [HN.out] at this
            omega⟩
          cases h3)
        have HB := Lib.hid hB
        clear hx hl hB hbb
        go_wp2
        go_ret
        exact ⟨false, rfl, ⟨fun e => (by cases e), fun e => absurd e HQ.out⟩, HB.out⟩
      | true =>
        have hh : 0 ≤ h ∧ (h = 0 ∨ h < (n : Int)) := by
          have := hbb.1 rfl
          exact ⟨this.1, Or.inr this.2⟩
        have HH := Lib.hid hh
        have HX := Lib.hid (And.intro hx (And.intro hB hl))
        clear hh hbb hx hB hl
        go_wp2
        obtain ⟨hx, hB, hl⟩ := HX.out
        clear x0 HX
        go_loopw [3, 4, 22] (fun _ _ i wr => ∃ q : Nat, q ≤ n ∧ i = .int .i64 q ∧ Hid (∀ (i : Nat) (p : P), i < q → l[i]? = some p → 0 ≤ p.pins ∧ findL l p.no = some i) ∧ Below wb.heap.size wb wr) (fun _ _ i _ => n - (intOf i).toNat)
        case atStart => exact ⟨0, Nat.zero_le _, rfl, Lib.hid (fun i p hi => absurd hi (Nat.not_lt_zero _)), Below.refl _ _⟩
        case round =>
          obtain ⟨q, hq, rfl, hI, hy⟩ := hrel
          by_cases hlt : q < n
          · have hgt := List.getElem?_eq_getElem (l := l) (i := q) (by rw [HN.out]; exact hlt)
            generalize (l[q]'(by rw [HN.out]; exact hlt)) = p at hgt
            have hlr := hl.below hy (Nat.le_refl _)
            obtain ⟨b, o, rfl, _, d0, d1, d2, d3⟩ := HasP.at hlr hgt
            obtain ⟨pn, pd, pr, pp⟩ := p
            simp only at d0 d1 d2 d3
            have hxr := hx.below hy hx.lt
            have HG := Lib.hid hgt
            have i1 : (q : Int) < (n : Int) := by omega
            have i0 : (0 : Int) ≤ (q : Int) := by omega
            have hnew := (Below.refl wr.heap.size wr).alloc (Nat.le_refl _) (.cells #[.int .i64 pn, .string pd, .bool pr, .int .i64 pp] 36)
            have hb4 := Box4.new wr (.int .i64 pn) (.string pd) (.bool pr) (.int .i64 pp) 36
            have hx4 := hxr.below hnew hxr.lt
            have z0 := hx4.c0
            have z1 := hx4.c1
            have a0 := hb4.c0
            have a3 := hb4.c3
            have hy4 := hy.trans (hnew.mono hy.size)
            by_cases hneg : pp < 0
            · have HQ : Hid (¬ MP) := Lib.hid (by
                rw [← HP.out]
                intro h
                have h1 : (0 : Int) ≤ pp := (h.own q _ HG.out).1
                omega)
              have e1 : decide (pp < 0) = true := decide_eq_true hneg
              have HB := Lib.hid (hB.trans (hy4.mono hB.size))
              clear hgt hlr hxr hnew hb4 hx4 hy4 hneg
              go_wp2
              go_ret
              exact ⟨false, rfl, ⟨fun e => (by cases e), fun e => absurd e HQ.out⟩, HB.out⟩
            · have e1 : decide (pp < 0) = false := decide_eq_false hneg
              have hcF := pfind_any (cp := cp) (w := wr.alloc (.cells #[.int .i64 pn, .string pd, .bool pr, .int .i64 pp] 36)) h pn 0 (hlr.below hnew (Nat.le_refl _)) HN.out h9
              have HNG := Lib.hid hneg
              have HY := Lib.hid hy4
              by_cases hfq : findL l pn = some q
              · rw [(res_eq (q := q)).2 hfq] at hcF
                have HI : Hid (∀ (i : Nat) (p : P), i < q + 1 → l[i]? = some p → 0 ≤ p.pins ∧ findL l p.no = some i) := Lib.hid (fun i p hi hp => by
                  by_cases e : i = q
                  · rw [e, HG.out] at hp
                    injection hp with hp
                    subst hp
                    exact e ▸ ⟨by have := HNG.out; show (0 : Int) ≤ pp; omega, hfq⟩
                  · exact hI.out i p (by omega) hp)
                clear hgt hlr hxr hnew hb4 hx4 hy4 hneg hfq
                go_wp2_with fail
                refine hcF.mono ?_
                rintro e y1 ⟨rfl, hv⟩
                have HY2 := Lib.hid (HY.out.trans (hv.mono HY.out.size))
                clear hcF hv z0 z1 a0 a3
                go_wp2
                go_roundw
                case rel => exact ⟨q + 1, by omega, by go_num, HI, HY2.out⟩
                case measure => simp [intOf]; omega
              · obtain ⟨rf, hrf⟩ : ∃ rf, resI (findL l pn) = rf := ⟨_, rfl⟩
                have hne : ¬ rf = (q : Int) := fun e => hfq (res_eq.1 (hrf.trans e))
                rw [hrf] at hcF
                have HQ : Hid (¬ MP) := Lib.hid (by
                  rw [← HP.out]
                  intro h
                  exact hfq (h.own q _ HG.out).2)
                have e2 : (rf != (q : Int)) = true := by rw [bne_iff_ne]; exact hne
                clear hgt hlr hxr hnew hb4 hx4 hy4 hneg hfq hrf
                go_wp2_with fail
                refine hcF.mono ?_
                rintro e y1 ⟨rfl, hv⟩
                have HB := Lib.hid (hB.trans ((HY.out.trans (hv.mono HY.out.size)).mono hB.size))
                clear hcF hv z0 z1 a0 a3
                go_wp2
                go_ret
                exact ⟨false, rfl, ⟨fun e => (by cases e), fun e => absurd e HQ.out⟩, HB.out⟩
          · obtain rfl : n = q := by omega
            have HY : Hid MP := Lib.hid (by
              rw [← HP.out]
              have hlen := HN.out
              exact ⟨fun i p hp => hI.out i p (by have := (List.getElem?_eq_some_iff.1 hp).1; omega) hp, by omega, HH.out.1, by rw [hlen]; exact HH.out.2⟩)
            have HB := Lib.hid (hB.trans (hy.mono hB.size))
            go_wp2
            go_ret
            exact ⟨true, rfl, ⟨fun _ => HY.out, fun _ => rfl⟩, HB.out⟩
  · have i8 : (8 : Int) < (n : Int) := by omega
    have HQ : Hid (¬ MP) := Lib.hid (by
      rw [← HP.out]
      intro h1
      have := h1.len
      rw [HN.out] at this
      omega)
    have HB := Lib.hid hB
    clear hx hl hB
    go_enter Try.func7, Try.ntmps7
    go_wp2
    go_ret
    exact ⟨false, rfl, ⟨fun e => (by cases e), fun e => absurd e HQ.out⟩, HB.out⟩
end
end Go.Proofs.Ytjjedadhkdpceaa.Cl
