/- May cells be a group's? The law's own question, walked. -/
import Derived.Test.YtabgbhilbnchnaaMiE
import Derived.Test.YtabgbhilbnchnaaMgS
import Derived.Test.YtabgbhilbnchnaaLeB
namespace Go.Proofs.Ytabgbhilbnchnaa.Mi
open Go.RowKit Pac Va Sc Ro Lex

/-- May it not stand in its column (or be nothing there)? -/
def badC (x : C) (v : V) : Bool := if v.k = 0 then !rightV v else fitsE x v != 0
structure RowOk (cs : List C) (g : List Int) (r : List V) (n : Nat) : Prop where
  ok : ∀ (k : Nat) (c : Int) (x : C) (v : V), k < n → g[k]? = some c → cs[c.toNat]? = some x → r[k]? = some v → badC x v = false
structure RightG (nm : ByteArray) (cs : List C) (g : List Int) (cells : List (List V)) : Prop where
  s : rightS nm cs = true
  g1 : 1 ≤ g.length
  g8 : g.length ≤ 8
  len : cells.length = 8
  at' : ∀ c ∈ g, 0 ≤ c ∧ c < cs.length
  row : ∀ r ∈ cells, r.length = g.length
  ok : ∀ r ∈ cells, RowOk cs g r g.length
open Classical in
noncomputable def rightG (nm : ByteArray) (cs : List C) (g : List Int) (cells : List (List V)) : Bool := decide (RightG nm cs g cells)
open Classical in
theorem rightG_not {nm : ByteArray} {cs : List C} {g : List Int} {cells : List (List V)} : ¬ RightG nm cs g cells → rightG nm cs g cells = false := fun h => decide_eq_false h
open Classical in
theorem rightG_is {nm : ByteArray} {cs : List C} {g : List Int} {cells : List (List V)} : RightG nm cs g cells → rightG nm cs g cells = true := fun h => decide_eq_true h
open Classical in
theorem rightG_out {nm : ByteArray} {cs : List C} {g : List Int} {cells : List (List V)} : rightG nm cs g cells = true → RightG nm cs g cells := fun h => of_decide_eq_true h
theorem ok_next {cs : List C} {g : List Int} {r : List V} {t : Nat} {c : Int} {x : C} {v : V} (h : RowOk cs g r t) (hc : g[t]? = some c) (hx : cs[c.toNat]? = some x) (hv : r[t]? = some v) (hb : badC x v = false) : RowOk cs g r (t + 1) := ⟨fun k c' x' v' hk h1 h2 h3 => by
  by_cases e : k < t
  · exact h.ok k c' x' v' e h1 h2 h3
  · obtain rfl : k = t := by omega
    rw [hc] at h1
    injection h1 with h1
    subst h1
    rw [hx] at h2
    injection h2 with h2
    rw [hv] at h3
    injection h3 with h3
    rw [← h2, ← h3]
    exact hb⟩

set_option maxRecDepth 20000 in
set_option maxHeartbeats 16000000 in
theorem right_any (nm : ByteArray) (A1 A2 A3 : Option Addr) (cp cp2 cp3 : Nat) (cs : List C) (g : List Int) (cells : List (List V)) (lo1 lo2 lo3 : Nat) (w : World) (h1 : HasCols w lo1 A1 cs) (h2 : HasI w lo2 A2 g) (h3 : HasVV w lo3 A3 cells) (hcp : cs.length ≤ cp) (hn : nm.size ≤ 9223372036854775807) (hl1 : cs.length ≤ 9223372036854775807) (hok : ∀ (j : Nat) (c : C), cs[j]? = some c → c.Ok) (hl2 : g.length ≤ 9223372036854775807) (hl3 : cells.length ≤ 9223372036854775807) (hr3 : ∀ r ∈ cells, r.length ≤ 9223372036854775807) :
    Calls Try.prog 7 #[.agg #[.string nm, .slice A1 cs.length cp], .slice A2 g.length cp2, .slice A3 cells.length cp3] w fun e w' => e = .returned (.bool (rightG nm cs g cells)) ∧ Below w.heap.size w w' := by
  have hRF : ¬ RightG nm cs g cells → rightG nm cs g cells = false := rightG_not
  have hRT : RightG nm cs g cells → rightG nm cs g cells = true := rightG_is
  generalize rightG nm cs g cells = rr at hRF hRT ⊢
  have HRF := Lib.hid hRF
  have HRT := Lib.hid hRT
  clear hRF hRT
  obtain ⟨mc, hmc⟩ : ∃ m, cs.length = m := ⟨_, rfl⟩
  have hnew := (Below.refl w.heap.size w).alloc (Nat.le_refl _) (.cells #[.string nm, .slice A1 mc cp] 24)
  have hx0 := Box2.new w (.string nm) (.slice A1 mc cp) 24
  have h1 := h1.below hnew (Nat.le_refl _)
  have h2 := h2.below hnew (Nat.le_refl _)
  have h3 := h3.below hnew (Nat.le_refl _)
  generalize hw1 : w.alloc (.cells #[.string nm, .slice A1 mc cp] 24) = w1 at hx0 hnew h1 h2 h3
  have hcr := Sc.refRight_any A1 cp nm cs lo1 w1 h1 hcp hn hl1 hok
  obtain ⟨r, hr⟩ : ∃ r, rightS nm cs = r := ⟨_, rfl⟩
  rw [hr, hmc] at hcr
  obtain ⟨m, hm⟩ : ∃ m, g.length = m := ⟨_, rfl⟩
  obtain ⟨mr, hmr⟩ : ∃ m, cells.length = m := ⟨_, rfl⟩
  rw [hmc] at hl1 hcp
  rw [hmc, hm, hmr]
  rw [hm] at hl2
  rw [hmr] at hl3
  have HM := Lib.hid (And.intro hmc (And.intro hm (And.intro hmr (And.intro hr hr3))))
  have HA := Lib.hid (And.intro h1 (And.intro h2 h3))
  have HN := Lib.hid hnew
  have HX0 := Lib.hid hx0
  have c0 := hx0.c0
  have c1 := hx0.c1
  clear h1 h2 h3 hmc hm hmr hr hnew hok hr3
  go_enter Try.func7, Try.ntmps7
  go_wp2_with fail
  clear hw1 c0 c1 hx0
  refine hcr.mono ?_
  rintro e w2 ⟨rfl, hB⟩
  clear hcr
  cases r
  · have HQ : Hid (rr = false) := Lib.hid (HRF.out (fun h => by have := h.s; rw [HM.out.2.2.2.1] at this; cases this))
    go_wp2
    go_ret
    exact ⟨by rw [HQ.out]; rfl, HN.out.trans (hB.mono HN.out.size)⟩
  by_cases q1 : m < 1
  · have HQ : Hid (rr = false) := Lib.hid (HRF.out (fun h => by have := h.g1; rw [HM.out.2.1] at this; omega))
    go_wp2
    go_ret
    exact ⟨by rw [HQ.out]; rfl, HN.out.trans (hB.mono HN.out.size)⟩
  by_cases q2 : 8 < m
  · have HQ : Hid (rr = false) := Lib.hid (HRF.out (fun h => by have := h.g8; rw [HM.out.2.1] at this; omega))
    go_wp2
    go_ret
    exact ⟨by rw [HQ.out]; rfl, HN.out.trans (hB.mono HN.out.size)⟩
  by_cases q3 : ¬ mr = 8
  · have HQ : Hid (rr = false) := Lib.hid (HRF.out (fun h => by have := h.len; rw [HM.out.2.2.1] at this; omega))
    have hq3 : ((mr : Int) != 8) = true := bne_iff_ne.2 (by omega)
    go_wp2
    go_ret
    exact ⟨by rw [HQ.out]; rfl, HN.out.trans (hB.mono HN.out.size)⟩
  have q3 : mr = 8 := by omega
  subst q3
  have hq3 : (((8 : Nat) : Int) != 8) = false := rfl
  have q1' : 1 ≤ m := by omega
  have q2' : m ≤ 8 := by omega
  go_wp2
  go_loopw [7] (fun i wr => ∃ q : Nat, q ≤ m ∧ i = .int .i64 q ∧ Hid (∀ j < q, ∀ c, g[j]? = some c → 0 ≤ c ∧ c < (mc : Int)) ∧ Below w1.heap.size w1 wr) (fun i _ => m - (intOf i).toNat)
  case atStart => exact ⟨0, Nat.zero_le _, rfl, Lib.hid (fun j hj => absurd hj (Nat.not_lt_zero j)), hB⟩
  case round =>
    clear hB
    obtain ⟨q, hq, rfl, hH, hB⟩ := hrel
    by_cases hlt : q < m
    · have hg2 : g[q]? = some (g[q]'(by rw [HM.out.2.1]; exact hlt)) := List.getElem?_eq_getElem _
      generalize (g[q]'(by rw [HM.out.2.1]; exact hlt)) = c at hg2
      obtain ⟨b2, o2, rfl, _, _, e0⟩ := HasI.at (HA.out.2.1.below hB (Nat.le_refl _)) hg2
      have i1 : (q : Int) < (m : Int) := by omega
      have i0 : (0 : Int) ≤ (q : Int) := by omega
      have HG2 := Lib.hid hg2
      have c1 := (HX0.out.below hB HX0.out.lt).c1
      clear hg2
      by_cases hc0 : c < 0
      · have HQ : Hid (rr = false) := Lib.hid (HRF.out (fun h => by have := (h.at' c (List.mem_of_getElem? HG2.out)).1; omega))
        go_wp2
        go_quiet (fail)
        have hB := hB.trans (below_drewN (Below.refl w1.heap.size wr) nq)
        go_wp2
        go_ret
        exact ⟨by rw [HQ.out]; rfl, HN.out.trans (hB.mono HN.out.size)⟩
      by_cases hc1 : (mc : Int) ≤ c
      · have HQ : Hid (rr = false) := Lib.hid (HRF.out (fun h => by have := (h.at' c (List.mem_of_getElem? HG2.out)).2; rw [HM.out.1] at this; omega))
        go_wp2
        go_quiet (fail)
        have hB := hB.trans (below_drewN (Below.refl w1.heap.size wr) nq)
        go_wp2
        go_ret
        exact ⟨by rw [HQ.out]; rfl, HN.out.trans (hB.mono HN.out.size)⟩
      · have HS : Hid (∀ j < q + 1, ∀ c, g[j]? = some c → 0 ≤ c ∧ c < (mc : Int)) := Lib.hid (fun j hj c' hc' => by
          by_cases e : j < q
          · exact hH.out j e c' hc'
          · obtain rfl : j = q := by omega
            rw [HG2.out] at hc'
            injection hc' with hc'
            subst hc'
            omega)
        go_wp2
        go_quiet (fail)
        have hB := hB.trans (below_drewN (Below.refl w1.heap.size wr) nq)
        clear e0 c1
        go_wp2
        go_roundw
        case rel => exact ⟨q + 1, by omega, by go_num, HS, hB⟩
        case measure => simp [intOf]; omega
    · obtain rfl : q = m := by omega
      have HG : Hid (∀ c ∈ g, 0 ≤ c ∧ c < (mc : Int)) := Lib.hid (fun c hc => by
        obtain ⟨j, hj⟩ := List.mem_iff_getElem?.1 hc
        exact hH.out j (by rw [← HM.out.2.1]; exact (List.getElem?_eq_some_iff.1 hj).1) c hj)
      clear hH
      go_wp2
      go_loopw [8] (fun i wr => ∃ p : Nat, p ≤ 8 ∧ i = .int .i64 p ∧ Hid (∀ j < p, ∀ r, cells[j]? = some r → r.length = q ∧ RowOk cs g r q) ∧ Below w1.heap.size w1 wr) (fun i _ => 8 - (intOf i).toNat)
      case atStart => exact ⟨0, Nat.zero_le _, rfl, Lib.hid (fun j hj => absurd hj (Nat.not_lt_zero j)), hB⟩
      case round =>
        clear hB
        obtain ⟨p, hp, rfl, hH, hB⟩ := hrel
        by_cases hlp : p < 8
        · have hg3 : cells[p]? = some (cells[p]'(by rw [HM.out.2.2.1]; exact hlp)) := List.getElem?_eq_getElem _
          generalize (cells[p]'(by rw [HM.out.2.2.1]; exact hlp)) = r at hg3
          have hr9 := HM.out.2.2.2.2 r (List.mem_of_getElem? hg3)
          obtain ⟨b3, o3, A5, c5, rfl, _, hlb3, d1, hI1, _⟩ := HA.out.2.2.at hg3
          have HD1 := Lib.hid d1
          have HI1 := Lib.hid hI1
          have d1 := cell_below hB d1
          have HG3 := Lib.hid hg3
          obtain ⟨u, hu⟩ : ∃ u, r.length = u := ⟨_, rfl⟩
          rw [hu] at d1 hr9
          have HU := Lib.hid hu
          clear hg3 hI1 hu
          have i1 : (p : Int) < 8 := by omega
          have i0 : (0 : Int) ≤ (p : Int) := by omega
          by_cases hun : ¬ u = q
          · have HQ : Hid (rr = false) := Lib.hid (HRF.out (fun h => by have := h.row r (List.mem_of_getElem? HG3.out); rw [HU.out, HM.out.2.1] at this; omega))
            have hun' : ((u : Int) != (q : Int)) = true := bne_iff_ne.2 (by omega)
            go_wp2
            go_ret
            exact ⟨by rw [HQ.out]; rfl, HN.out.trans (hB.mono HN.out.size)⟩
          have hun : u = q := by omega
          subst hun
          go_wp2
          clear d1
          go_loopw [9] (fun i wr => ∃ t : Nat, t ≤ u ∧ i = .int .i64 t ∧ Hid (RowOk cs g r t) ∧ Below w1.heap.size w1 wr) (fun i _ => u - (intOf i).toNat)
          case atStart => exact ⟨0, Nat.zero_le _, rfl, Lib.hid ⟨fun k c x v hk => absurd hk (Nat.not_lt_zero k)⟩, hB⟩
          case round =>
            clear hB
            obtain ⟨t, ht, rfl, hT, hB⟩ := hrel
            by_cases htl : t < u
            · have hgv : r[t]? = some (r[t]'(by rw [HU.out]; exact htl)) := List.getElem?_eq_getElem _
              generalize (r[t]'(by rw [HU.out]; exact htl)) = v at hgv
              have hgc : g[t]? = some (g[t]'(by rw [HM.out.2.1]; exact htl)) := List.getElem?_eq_getElem _
              generalize (g[t]'(by rw [HM.out.2.1]; exact htl)) = c at hgc
              have hcr := HG.out c (List.mem_of_getElem? hgc)
              obtain ⟨cn, rfl⟩ : ∃ cn : Nat, c = (cn : Int) := ⟨c.toNat, by omega⟩
              have hcn : cn < mc := by omega
              have hgx : cs[cn]? = some (cs[cn]'(by rw [HM.out.1]; exact hcn)) := List.getElem?_eq_getElem _
              generalize (cs[cn]'(by rw [HM.out.1]; exact hcn)) = x at hgx
              have d1 := cell_below hB HD1.out
              rw [HU.out] at d1
              obtain ⟨b4, o4, rfl, _, _, e0, e1, e2⟩ := HasV.at (HI1.out.below hB (Nat.le_refl _)) hgv
              obtain ⟨b2, o2, rfl, _, _, f0⟩ := HasI.at HA.out.2.1 hgc
              obtain ⟨b1, o1, rfl, _, _, hcc⟩ := HA.out.1 (fun e => by rw [e] at hgx; simp at hgx)
              obtain ⟨x0, x1, x2⟩ := hcc cn x hgx
              have HOK : Hid (badC x v = false → RowOk cs g r (t + 1)) := Lib.hid (ok_next hT.out hgc (by rw [Int.toNat_natCast]; exact hgx) hgv)
              have HBAD : Hid (badC x v = true → rr = false) := Lib.hid (fun hb => HRF.out (fun h => by
                have := (h.ok r (List.mem_of_getElem? HG3.out)).ok t (cn : Int) x v (by rw [HM.out.2.1]; exact htl) hgc (by rw [Int.toNat_natCast]; exact hgx) hgv
                rw [hb] at this
                cases this))
              have hcF := fun W : World => refFits_any x v W
              have hcR := fun W : World => Va.refRight_any v W
              obtain ⟨xn, xk, xz⟩ := x
              obtain ⟨vk, vn, vs⟩ := v
              simp only at e0 e1 e2 x0 x1 x2
              have hcF : ∀ W : World, Calls Try.prog 16 #[.agg #[.string xn, .int .i64 xk, .bool xz], .agg #[.int .i64 vk, .int .i64 vn, .string vs]] W fun e w' => e = .returned (.int .i64 (fitsE ⟨xn, xk, xz⟩ ⟨vk, vn, vs⟩)) ∧ Below W.heap.size W w' := hcF
              have hcR : ∀ W : World, Calls Try.prog 17 #[.agg #[.int .i64 vk, .int .i64 vn, .string vs]] W fun e w' => e = .returned (.bool (rightV ⟨vk, vn, vs⟩)) ∧ Below W.heap.size W w' := hcR
              have hbd0 : vk = 0 → badC ⟨xn, xk, xz⟩ ⟨vk, vn, vs⟩ = !rightV ⟨vk, vn, vs⟩ := fun h => by unfold badC; rw [if_pos h]
              have hbd1 : vk ≠ 0 → badC ⟨xn, xk, xz⟩ ⟨vk, vn, vs⟩ = (fitsE ⟨xn, xk, xz⟩ ⟨vk, vn, vs⟩ != 0) := fun h => by unfold badC; rw [if_neg h]
              generalize fitsE ⟨xn, xk, xz⟩ ⟨vk, vn, vs⟩ = f at hcF hbd1
              generalize rightV ⟨vk, vn, vs⟩ = rv at hcR hbd0
              generalize badC ⟨xn, xk, xz⟩ ⟨vk, vn, vs⟩ = bd at hbd0 hbd1 HOK HBAD
              have HD : Hid (∀ (W : World), Below w1.heap.size w1 W → ∀ {v0 v1 v2 : Value}, Sc.Box3 W wr.heap.size v0 v1 v2 → W.cell? ⟨w.heap.size, 1, none⟩ = some (.slice (some ⟨b1, o1, none⟩) mc cp) ∧ W.cell? ⟨b2, o2 + t, none⟩ = some (.int .i64 (cn : Int)) ∧ W.cell? ⟨b1, o1 + cn * 3, none⟩ = some (.string xn) ∧ W.cell? ⟨b1, o1 + cn * 3 + 1, none⟩ = some (.int .i64 xk) ∧ W.cell? ⟨b1, o1 + cn * 3 + 2, none⟩ = some (.bool xz) ∧ W.cell? ⟨wr.heap.size, 0, none⟩ = some v0 ∧ W.cell? ⟨wr.heap.size, 1, none⟩ = some v1 ∧ W.cell? ⟨wr.heap.size, 2, none⟩ = some v2) :=
                Lib.hid (fun W hW {_ _ _} hv => ⟨(HX0.out.below hW HX0.out.lt).c1, cell_below hW f0, cell_below hW x0, cell_below hW x1, cell_below hW x2, hv.c0, hv.c1, hv.c2⟩)
              have HB1 := Lib.hid (hB.alloc hB.size (.cells #[.int .i64 vk, .int .i64 vn, .string vs] 36))
              have hv0 := Sc.Box3.new wr (.int .i64 vk) (.int .i64 vn) (.string vs) 36
              have j1 : (t : Int) < (u : Int) := by omega
              have j0 : (0 : Int) ≤ (t : Int) := by omega
              have k1 : (cn : Int) < (mc : Int) := by omega
              have k0 : (0 : Int) ≤ (cn : Int) := by omega
              clear hgv hgc hgx hcc x0 x1 x2 f0 hT hB hcr hcn
              by_cases hvk : vk = 0
              · subst hvk
                have hbd := hbd0 rfl
                clear hbd0 hbd1 hcF
                cases rv
                · have hbd2 : bd = true := hbd
                  clear hbd
                  subst hbd2
                  have HB2 := Lib.hid (HBAD.out rfl)
                  clear HBAD HOK
                  go_wp2_with fail
                  have hv := hv0.drew
                  have hB1 := HB1.out.drew
                  generalize hgv : wr.heap.size = gv at hv HD ⊢
                  refine Lex.region_lex (ops := mbops) (calls := mbcalls) mbord (fun W => W.cell? ⟨w.heap.size, 1, none⟩ = some (.slice (some ⟨b1, o1, none⟩) mc cp) ∧ W.cell? ⟨b2, o2 + t, none⟩ = some (.int .i64 (cn : Int)) ∧ W.cell? ⟨b1, o1 + cn * 3, none⟩ = some (.string xn) ∧ W.cell? ⟨b1, o1 + cn * 3 + 1, none⟩ = some (.int .i64 xk) ∧ W.cell? ⟨b1, o1 + cn * 3 + 2, none⟩ = some (.bool xz) ∧ W.cell? ⟨gv, 0, none⟩ = some (.int .i64 0) ∧ W.cell? ⟨gv, 1, none⟩ = some (.int .i64 vn) ∧ W.cell? ⟨gv, 2, none⟩ = some (.string vs)) (by kernel_rfl) (by kernel_rfl) mbsel (by kernel_rfl) (by kernel_rfl) mblex ((HD.out _ hB1 hv)) ?_
                  unfold mbord
                  refine Lex.step_take (.pointer (some ⟨gv, 0, none⟩)) mb0 rfl (Lex.want_none rfl) (by intro Wx hSw; (try dsimp only at hSw); go_simp; (try (first | (with_reducible rfl) | assumption | rfl))) ?_
                  simp only [Act.put, List.setIfInBounds_toArray, List.set_cons_zero, List.set_cons_succ]
                  refine Lex.step_take (.int .i64 0) mb1 rfl (Lex.want_none rfl) (by intro Wx hSw; (try dsimp only at hSw); go_simp; (try (first | (with_reducible rfl) | assumption | rfl))) ?_
                  simp only [Act.put, List.setIfInBounds_toArray, List.set_cons_zero, List.set_cons_succ]
                  refine Lex.step_take (.bool false) mb2 rfl (Lex.want_none rfl) (by intro Wx hSw; (try dsimp only at hSw); go_simp; (try (first | (with_reducible rfl) | assumption | rfl))) ?_
                  simp only [Act.put, List.setIfInBounds_toArray, List.set_cons_zero, List.set_cons_succ]
                  refine Lex.step_take (.bool false) mb3 rfl (Lex.want_none rfl) (by intro Wx hSw; (try dsimp only at hSw); go_simp; (try (first | (with_reducible rfl) | assumption | rfl))) ?_
                  simp only [Act.put, List.setIfInBounds_toArray, List.set_cons_zero, List.set_cons_succ]
                  refine Lex.step_skip mb4 (Lex.want_some rfl mb3 rfl (b' := false) rfl rfl) ?_
                  simp only [Act.put, List.setIfInBounds_toArray, List.set_cons_zero, List.set_cons_succ]
                  refine Lex.step_skip mb5 (Lex.want_some rfl mb3 rfl (b' := false) rfl rfl) ?_
                  simp only [Act.put, List.setIfInBounds_toArray, List.set_cons_zero, List.set_cons_succ]
                  refine Lex.step_skip mb6 (Lex.want_some rfl mb3 rfl (b' := false) rfl rfl) ?_
                  simp only [Act.put, List.setIfInBounds_toArray, List.set_cons_zero, List.set_cons_succ]
                  refine Lex.step_skip mb7 (Lex.want_some rfl mb3 rfl (b' := false) rfl rfl) ?_
                  simp only [Act.put, List.setIfInBounds_toArray, List.set_cons_zero, List.set_cons_succ]
                  refine Lex.step_skip mb8 (Lex.want_some rfl mb3 rfl (b' := false) rfl rfl) ?_
                  simp only [Act.put, List.setIfInBounds_toArray, List.set_cons_zero, List.set_cons_succ]
                  refine Lex.step_skip mb9 (Lex.want_some rfl mb3 rfl (b' := false) rfl rfl) ?_
                  simp only [Act.put, List.setIfInBounds_toArray, List.set_cons_zero, List.set_cons_succ]
                  refine Lex.step_skip mb10 (Lex.want_some rfl mb3 rfl (b' := false) rfl rfl) ?_
                  simp only [Act.put, List.setIfInBounds_toArray, List.set_cons_zero, List.set_cons_succ]
                  refine Lex.step_skip mb11 (Lex.want_some rfl mb3 rfl (b' := false) rfl rfl) ?_
                  simp only [Act.put, List.setIfInBounds_toArray, List.set_cons_zero, List.set_cons_succ]
                  refine Lex.step_skip mb12 (Lex.want_some rfl mb3 rfl (b' := false) rfl rfl) ?_
                  simp only [Act.put, List.setIfInBounds_toArray, List.set_cons_zero, List.set_cons_succ]
                  refine Lex.step_skip mb13 (Lex.want_some rfl mb3 rfl (b' := false) rfl rfl) ?_
                  simp only [Act.put, List.setIfInBounds_toArray, List.set_cons_zero, List.set_cons_succ]
                  refine Lex.step_skip mb14 (Lex.want_some rfl mb3 rfl (b' := false) rfl rfl) ?_
                  simp only [Act.put, List.setIfInBounds_toArray, List.set_cons_zero, List.set_cons_succ]
                  refine Lex.step_take (.bool false) mb15 rfl (Lex.want_none rfl) (by intro Wx hSw; (try dsimp only at hSw); go_simp; (try (first | (with_reducible rfl) | assumption | rfl))) ?_
                  simp only [Act.put, List.setIfInBounds_toArray, List.set_cons_zero, List.set_cons_succ]
                  refine Lex.step_take (.bool false) mb16 rfl (Lex.want_none rfl) (by intro Wx hSw; (try dsimp only at hSw); go_simp; (try (first | (with_reducible rfl) | assumption | rfl))) ?_
                  simp only [Act.put, List.setIfInBounds_toArray, List.set_cons_zero, List.set_cons_succ]
                  refine Lex.step_take (.pointer (some ⟨gv, 0, none⟩)) mb17 rfl (Lex.want_some rfl mb16 rfl (b' := false) rfl rfl) (by intro Wx hSw; (try dsimp only at hSw); go_simp; (try (first | (with_reducible rfl) | assumption | rfl))) ?_
                  simp only [Act.put, List.setIfInBounds_toArray, List.set_cons_zero, List.set_cons_succ]
                  refine Lex.step_take (.int .i64 0) mb18 rfl (Lex.want_some rfl mb16 rfl (b' := false) rfl rfl) (by intro Wx hSw; (try dsimp only at hSw); go_simp; (try (first | (with_reducible rfl) | assumption | rfl))) ?_
                  simp only [Act.put, List.setIfInBounds_toArray, List.set_cons_zero, List.set_cons_succ]
                  refine Lex.step_take (.bool true) mb19 rfl (Lex.want_some rfl mb16 rfl (b' := false) rfl rfl) (by intro Wx hSw; (try dsimp only at hSw); go_simp; (try (first | (with_reducible rfl) | assumption | rfl))) ?_
                  simp only [Act.put, List.setIfInBounds_toArray, List.set_cons_zero, List.set_cons_succ]
                  refine Lex.step_take (.bool true) mb20 rfl (Lex.want_some rfl mb16 rfl (b' := false) rfl rfl) (by intro Wx hSw; (try dsimp only at hSw); go_simp; (try (first | (with_reducible rfl) | assumption | rfl))) ?_
                  simp only [Act.put, List.setIfInBounds_toArray, List.set_cons_zero, List.set_cons_succ]
                  refine Lex.step_take (.agg #[.int .i64 0, .int .i64 vn, .string vs]) mb21 rfl (Lex.want_some rfl mb20 rfl (b' := true) rfl rfl) (by intro Wx hSw; (try dsimp only at hSw); go_simp; (try (first | (with_reducible rfl) | assumption | rfl))) ?_
                  simp only [Act.put, List.setIfInBounds_toArray, List.set_cons_zero, List.set_cons_succ]
                  refine Lex.step_call mb22 rfl (Lex.want_some rfl mb20 rfl (b' := true) rfl rfl) (fun K hK => ?_)
                  go_simp
                  refine (hcR _).mono ?_
                  rintro e y1 ⟨rfl, hy1⟩
                  have hv := hv.below hy1 hv.lt
                  have hB1 := hB1.trans (hy1.mono hB1.size)
                  clear hy1
                  refine hK.out _ _ _ (fun _ h => h) (HD.out _ hB1 hv) ?_
                  clear hK K
                  try simp only [Act.put, List.setIfInBounds_toArray, List.set_cons_zero, List.set_cons_succ]
                  refine Lex.step_take (.bool true) mb23 rfl (Lex.want_some rfl mb20 rfl (b' := true) rfl rfl) (by intro Wx hSw; (try dsimp only at hSw); go_simp; (try (first | (with_reducible rfl) | assumption | rfl))) ?_
                  simp only [Act.put, List.setIfInBounds_toArray, List.set_cons_zero, List.set_cons_succ]
                  refine Lex.step_take (.bool true) mb24 rfl (Lex.want_some rfl mb16 rfl (b' := false) rfl rfl) (by intro Wx hSw; (try dsimp only at hSw); go_simp; (try (first | (with_reducible rfl) | assumption | rfl))) ?_
                  simp only [Act.put, List.setIfInBounds_toArray, List.set_cons_zero, List.set_cons_succ]
                  refine Lex.step_take (.bool true) mb25 rfl (Lex.want_none rfl) (by intro Wx hSw; (try dsimp only at hSw); go_simp; (try (first | (with_reducible rfl) | assumption | rfl))) ?_
                  simp only [Act.put, List.setIfInBounds_toArray, List.set_cons_zero, List.set_cons_succ]
                  refine NoPanic.normal ?_
                  clear hv hgv
                  go_wp2
                  go_ret
                  exact ⟨by rw [HB2.out]; rfl, HN.out.trans (hB1.mono HN.out.size)⟩
                · have hbd2 : bd = false := hbd
                  clear hbd
                  subst hbd2
                  have HO2 := Lib.hid (HOK.out rfl)
                  clear HBAD HOK
                  go_wp2_with fail
                  have hv := hv0.drew
                  have hB1 := HB1.out.drew
                  generalize hgv : wr.heap.size = gv at hv HD ⊢
                  refine Lex.region_lex (ops := mbops) (calls := mbcalls) mbord (fun W => W.cell? ⟨w.heap.size, 1, none⟩ = some (.slice (some ⟨b1, o1, none⟩) mc cp) ∧ W.cell? ⟨b2, o2 + t, none⟩ = some (.int .i64 (cn : Int)) ∧ W.cell? ⟨b1, o1 + cn * 3, none⟩ = some (.string xn) ∧ W.cell? ⟨b1, o1 + cn * 3 + 1, none⟩ = some (.int .i64 xk) ∧ W.cell? ⟨b1, o1 + cn * 3 + 2, none⟩ = some (.bool xz) ∧ W.cell? ⟨gv, 0, none⟩ = some (.int .i64 0) ∧ W.cell? ⟨gv, 1, none⟩ = some (.int .i64 vn) ∧ W.cell? ⟨gv, 2, none⟩ = some (.string vs)) (by kernel_rfl) (by kernel_rfl) mbsel (by kernel_rfl) (by kernel_rfl) mblex ((HD.out _ hB1 hv)) ?_
                  unfold mbord
                  refine Lex.step_take (.pointer (some ⟨gv, 0, none⟩)) mb0 rfl (Lex.want_none rfl) (by intro Wx hSw; (try dsimp only at hSw); go_simp; (try (first | (with_reducible rfl) | assumption | rfl))) ?_
                  simp only [Act.put, List.setIfInBounds_toArray, List.set_cons_zero, List.set_cons_succ]
                  refine Lex.step_take (.int .i64 0) mb1 rfl (Lex.want_none rfl) (by intro Wx hSw; (try dsimp only at hSw); go_simp; (try (first | (with_reducible rfl) | assumption | rfl))) ?_
                  simp only [Act.put, List.setIfInBounds_toArray, List.set_cons_zero, List.set_cons_succ]
                  refine Lex.step_take (.bool false) mb2 rfl (Lex.want_none rfl) (by intro Wx hSw; (try dsimp only at hSw); go_simp; (try (first | (with_reducible rfl) | assumption | rfl))) ?_
                  simp only [Act.put, List.setIfInBounds_toArray, List.set_cons_zero, List.set_cons_succ]
                  refine Lex.step_take (.bool false) mb3 rfl (Lex.want_none rfl) (by intro Wx hSw; (try dsimp only at hSw); go_simp; (try (first | (with_reducible rfl) | assumption | rfl))) ?_
                  simp only [Act.put, List.setIfInBounds_toArray, List.set_cons_zero, List.set_cons_succ]
                  refine Lex.step_skip mb4 (Lex.want_some rfl mb3 rfl (b' := false) rfl rfl) ?_
                  simp only [Act.put, List.setIfInBounds_toArray, List.set_cons_zero, List.set_cons_succ]
                  refine Lex.step_skip mb5 (Lex.want_some rfl mb3 rfl (b' := false) rfl rfl) ?_
                  simp only [Act.put, List.setIfInBounds_toArray, List.set_cons_zero, List.set_cons_succ]
                  refine Lex.step_skip mb6 (Lex.want_some rfl mb3 rfl (b' := false) rfl rfl) ?_
                  simp only [Act.put, List.setIfInBounds_toArray, List.set_cons_zero, List.set_cons_succ]
                  refine Lex.step_skip mb7 (Lex.want_some rfl mb3 rfl (b' := false) rfl rfl) ?_
                  simp only [Act.put, List.setIfInBounds_toArray, List.set_cons_zero, List.set_cons_succ]
                  refine Lex.step_skip mb8 (Lex.want_some rfl mb3 rfl (b' := false) rfl rfl) ?_
                  simp only [Act.put, List.setIfInBounds_toArray, List.set_cons_zero, List.set_cons_succ]
                  refine Lex.step_skip mb9 (Lex.want_some rfl mb3 rfl (b' := false) rfl rfl) ?_
                  simp only [Act.put, List.setIfInBounds_toArray, List.set_cons_zero, List.set_cons_succ]
                  refine Lex.step_skip mb10 (Lex.want_some rfl mb3 rfl (b' := false) rfl rfl) ?_
                  simp only [Act.put, List.setIfInBounds_toArray, List.set_cons_zero, List.set_cons_succ]
                  refine Lex.step_skip mb11 (Lex.want_some rfl mb3 rfl (b' := false) rfl rfl) ?_
                  simp only [Act.put, List.setIfInBounds_toArray, List.set_cons_zero, List.set_cons_succ]
                  refine Lex.step_skip mb12 (Lex.want_some rfl mb3 rfl (b' := false) rfl rfl) ?_
                  simp only [Act.put, List.setIfInBounds_toArray, List.set_cons_zero, List.set_cons_succ]
                  refine Lex.step_skip mb13 (Lex.want_some rfl mb3 rfl (b' := false) rfl rfl) ?_
                  simp only [Act.put, List.setIfInBounds_toArray, List.set_cons_zero, List.set_cons_succ]
                  refine Lex.step_skip mb14 (Lex.want_some rfl mb3 rfl (b' := false) rfl rfl) ?_
                  simp only [Act.put, List.setIfInBounds_toArray, List.set_cons_zero, List.set_cons_succ]
                  refine Lex.step_take (.bool false) mb15 rfl (Lex.want_none rfl) (by intro Wx hSw; (try dsimp only at hSw); go_simp; (try (first | (with_reducible rfl) | assumption | rfl))) ?_
                  simp only [Act.put, List.setIfInBounds_toArray, List.set_cons_zero, List.set_cons_succ]
                  refine Lex.step_take (.bool false) mb16 rfl (Lex.want_none rfl) (by intro Wx hSw; (try dsimp only at hSw); go_simp; (try (first | (with_reducible rfl) | assumption | rfl))) ?_
                  simp only [Act.put, List.setIfInBounds_toArray, List.set_cons_zero, List.set_cons_succ]
                  refine Lex.step_take (.pointer (some ⟨gv, 0, none⟩)) mb17 rfl (Lex.want_some rfl mb16 rfl (b' := false) rfl rfl) (by intro Wx hSw; (try dsimp only at hSw); go_simp; (try (first | (with_reducible rfl) | assumption | rfl))) ?_
                  simp only [Act.put, List.setIfInBounds_toArray, List.set_cons_zero, List.set_cons_succ]
                  refine Lex.step_take (.int .i64 0) mb18 rfl (Lex.want_some rfl mb16 rfl (b' := false) rfl rfl) (by intro Wx hSw; (try dsimp only at hSw); go_simp; (try (first | (with_reducible rfl) | assumption | rfl))) ?_
                  simp only [Act.put, List.setIfInBounds_toArray, List.set_cons_zero, List.set_cons_succ]
                  refine Lex.step_take (.bool true) mb19 rfl (Lex.want_some rfl mb16 rfl (b' := false) rfl rfl) (by intro Wx hSw; (try dsimp only at hSw); go_simp; (try (first | (with_reducible rfl) | assumption | rfl))) ?_
                  simp only [Act.put, List.setIfInBounds_toArray, List.set_cons_zero, List.set_cons_succ]
                  refine Lex.step_take (.bool true) mb20 rfl (Lex.want_some rfl mb16 rfl (b' := false) rfl rfl) (by intro Wx hSw; (try dsimp only at hSw); go_simp; (try (first | (with_reducible rfl) | assumption | rfl))) ?_
                  simp only [Act.put, List.setIfInBounds_toArray, List.set_cons_zero, List.set_cons_succ]
                  refine Lex.step_take (.agg #[.int .i64 0, .int .i64 vn, .string vs]) mb21 rfl (Lex.want_some rfl mb20 rfl (b' := true) rfl rfl) (by intro Wx hSw; (try dsimp only at hSw); go_simp; (try (first | (with_reducible rfl) | assumption | rfl))) ?_
                  simp only [Act.put, List.setIfInBounds_toArray, List.set_cons_zero, List.set_cons_succ]
                  refine Lex.step_call mb22 rfl (Lex.want_some rfl mb20 rfl (b' := true) rfl rfl) (fun K hK => ?_)
                  go_simp
                  refine (hcR _).mono ?_
                  rintro e y1 ⟨rfl, hy1⟩
                  have hv := hv.below hy1 hv.lt
                  have hB1 := hB1.trans (hy1.mono hB1.size)
                  clear hy1
                  refine hK.out _ _ _ (fun _ h => h) (HD.out _ hB1 hv) ?_
                  clear hK K
                  try simp only [Act.put, List.setIfInBounds_toArray, List.set_cons_zero, List.set_cons_succ]
                  refine Lex.step_take (.bool false) mb23 rfl (Lex.want_some rfl mb20 rfl (b' := true) rfl rfl) (by intro Wx hSw; (try dsimp only at hSw); go_simp; (try (first | (with_reducible rfl) | assumption | rfl))) ?_
                  simp only [Act.put, List.setIfInBounds_toArray, List.set_cons_zero, List.set_cons_succ]
                  refine Lex.step_take (.bool false) mb24 rfl (Lex.want_some rfl mb16 rfl (b' := false) rfl rfl) (by intro Wx hSw; (try dsimp only at hSw); go_simp; (try (first | (with_reducible rfl) | assumption | rfl))) ?_
                  simp only [Act.put, List.setIfInBounds_toArray, List.set_cons_zero, List.set_cons_succ]
                  refine Lex.step_take (.bool false) mb25 rfl (Lex.want_none rfl) (by intro Wx hSw; (try dsimp only at hSw); go_simp; (try (first | (with_reducible rfl) | assumption | rfl))) ?_
                  simp only [Act.put, List.setIfInBounds_toArray, List.set_cons_zero, List.set_cons_succ]
                  refine NoPanic.normal ?_
                  clear hv hgv
                  go_wp2
                  go_roundw
                  case rel => exact ⟨t + 1, by omega, by go_num, HO2, hB1⟩
                  case measure => simp [intOf]; omega
              · have hbd := hbd1 hvk
                have hvk' : (vk != 0) = true := bne_iff_ne.2 hvk
                have hvk2 : (vk == 0) = false := beq_eq_false_iff_ne.2 hvk
                clear hbd0 hbd1 hcR
                by_cases hf : f = 0
                · subst hf
                  have hbd2 : bd = false := hbd
                  clear hbd
                  subst hbd2
                  have HO2 := Lib.hid (HOK.out rfl)
                  clear HBAD HOK
                  go_wp2_with fail
                  have hv := hv0.drew
                  have hB1 := HB1.out.drew
                  generalize hgv : wr.heap.size = gv at hv HD ⊢
                  refine Lex.region_lex (ops := mbops) (calls := mbcalls) mbord (fun W => W.cell? ⟨w.heap.size, 1, none⟩ = some (.slice (some ⟨b1, o1, none⟩) mc cp) ∧ W.cell? ⟨b2, o2 + t, none⟩ = some (.int .i64 (cn : Int)) ∧ W.cell? ⟨b1, o1 + cn * 3, none⟩ = some (.string xn) ∧ W.cell? ⟨b1, o1 + cn * 3 + 1, none⟩ = some (.int .i64 xk) ∧ W.cell? ⟨b1, o1 + cn * 3 + 2, none⟩ = some (.bool xz) ∧ W.cell? ⟨gv, 0, none⟩ = some (.int .i64 vk) ∧ W.cell? ⟨gv, 1, none⟩ = some (.int .i64 vn) ∧ W.cell? ⟨gv, 2, none⟩ = some (.string vs)) (by kernel_rfl) (by kernel_rfl) mbsel (by kernel_rfl) (by kernel_rfl) mblex ((HD.out _ hB1 hv)) ?_
                  unfold mbord
                  refine Lex.step_take (.pointer (some ⟨gv, 0, none⟩)) mb0 rfl (Lex.want_none rfl) (by intro Wx hSw; (try dsimp only at hSw); go_simp; (try (first | (with_reducible rfl) | assumption | rfl))) ?_
                  simp only [Act.put, List.setIfInBounds_toArray, List.set_cons_zero, List.set_cons_succ]
                  refine Lex.step_take (.int .i64 vk) mb1 rfl (Lex.want_none rfl) (by intro Wx hSw; (try dsimp only at hSw); go_simp; (try (first | (with_reducible rfl) | assumption | rfl))) ?_
                  simp only [Act.put, List.setIfInBounds_toArray, List.set_cons_zero, List.set_cons_succ]
                  refine Lex.step_take (.bool true) mb2 rfl (Lex.want_none rfl) (by intro Wx hSw; (try dsimp only at hSw); go_simp; (try (first | (with_reducible rfl) | assumption | rfl))) ?_
                  simp only [Act.put, List.setIfInBounds_toArray, List.set_cons_zero, List.set_cons_succ]
                  refine Lex.step_take (.bool true) mb3 rfl (Lex.want_none rfl) (by intro Wx hSw; (try dsimp only at hSw); go_simp; (try (first | (with_reducible rfl) | assumption | rfl))) ?_
                  simp only [Act.put, List.setIfInBounds_toArray, List.set_cons_zero, List.set_cons_succ]
                  refine Lex.step_take (.pointer (some ⟨w.heap.size, 1, none⟩)) mb4 rfl (Lex.want_some rfl mb3 rfl (b' := true) rfl rfl) (by intro Wx hSw; (try dsimp only at hSw); go_simp; (try (first | (with_reducible rfl) | assumption | rfl))) ?_
                  simp only [Act.put, List.setIfInBounds_toArray, List.set_cons_zero, List.set_cons_succ]
                  refine Lex.step_take (.slice (some ⟨b1, o1, none⟩) mc cp) mb5 rfl (Lex.want_some rfl mb3 rfl (b' := true) rfl rfl) (by intro Wx hSw; (try dsimp only at hSw); go_simp; (try (first | (with_reducible rfl) | assumption | rfl))) ?_
                  simp only [Act.put, List.setIfInBounds_toArray, List.set_cons_zero, List.set_cons_succ]
                  refine Lex.step_take (.slice (some ⟨b2, o2, none⟩) u cp2) mb6 rfl (Lex.want_some rfl mb3 rfl (b' := true) rfl rfl) (by intro Wx hSw; (try dsimp only at hSw); go_simp; (try (first | (with_reducible rfl) | assumption | rfl))) ?_
                  simp only [Act.put, List.setIfInBounds_toArray, List.set_cons_zero, List.set_cons_succ]
                  refine Lex.step_take (.int .i64 t) mb7 rfl (Lex.want_some rfl mb3 rfl (b' := true) rfl rfl) (by intro Wx hSw; (try dsimp only at hSw); go_simp; (try (first | (with_reducible rfl) | assumption | rfl))) ?_
                  simp only [Act.put, List.setIfInBounds_toArray, List.set_cons_zero, List.set_cons_succ]
                  refine Lex.step_take (.pointer (some ⟨b2, o2 + t, none⟩)) mb8 rfl (Lex.want_some rfl mb3 rfl (b' := true) rfl rfl) (by intro Wx hSw; (try dsimp only at hSw); go_simp; (try (first | (with_reducible rfl) | assumption | rfl))) ?_
                  simp only [Act.put, List.setIfInBounds_toArray, List.set_cons_zero, List.set_cons_succ]
                  refine Lex.step_take (.int .i64 (cn : Int)) mb9 rfl (Lex.want_some rfl mb3 rfl (b' := true) rfl rfl) (by intro Wx hSw; (try dsimp only at hSw); go_simp; (try (first | (with_reducible rfl) | assumption | rfl))) ?_
                  simp only [Act.put, List.setIfInBounds_toArray, List.set_cons_zero, List.set_cons_succ]
                  refine Lex.step_take (.pointer (some ⟨b1, o1 + cn * 3, none⟩)) mb10 rfl (Lex.want_some rfl mb3 rfl (b' := true) rfl rfl) (by intro Wx hSw; (try dsimp only at hSw); go_simp; (try (first | (with_reducible rfl) | assumption | rfl))) ?_
                  simp only [Act.put, List.setIfInBounds_toArray, List.set_cons_zero, List.set_cons_succ]
                  refine Lex.step_take (.agg #[.string xn, .int .i64 xk, .bool xz]) mb11 rfl (Lex.want_some rfl mb3 rfl (b' := true) rfl rfl) (by intro Wx hSw; (try dsimp only at hSw); go_simp; (try (first | (with_reducible rfl) | assumption | rfl))) ?_
                  simp only [Act.put, List.setIfInBounds_toArray, List.set_cons_zero, List.set_cons_succ]
                  refine Lex.step_take (.agg #[.int .i64 vk, .int .i64 vn, .string vs]) mb12 rfl (Lex.want_some rfl mb3 rfl (b' := true) rfl rfl) (by intro Wx hSw; (try dsimp only at hSw); go_simp; (try (first | (with_reducible rfl) | assumption | rfl))) ?_
                  simp only [Act.put, List.setIfInBounds_toArray, List.set_cons_zero, List.set_cons_succ]
                  refine Lex.step_call mb13 rfl (Lex.want_some rfl mb3 rfl (b' := true) rfl rfl) (fun K hK => ?_)
                  go_simp
                  refine (hcF _).mono ?_
                  rintro e y1 ⟨rfl, hy1⟩
                  have hv := hv.below hy1 hv.lt
                  have hB1 := hB1.trans (hy1.mono hB1.size)
                  clear hy1
                  refine hK.out _ _ _ (fun _ h => h) (HD.out _ hB1 hv) ?_
                  clear hK K
                  try simp only [Act.put, List.setIfInBounds_toArray, List.set_cons_zero, List.set_cons_succ]
                  refine Lex.step_take (.bool false) mb14 rfl (Lex.want_some rfl mb3 rfl (b' := true) rfl rfl) (by intro Wx hSw; (try dsimp only at hSw); go_simp; (try (first | (with_reducible rfl) | assumption | rfl))) ?_
                  simp only [Act.put, List.setIfInBounds_toArray, List.set_cons_zero, List.set_cons_succ]
                  refine Lex.step_take (.bool false) mb15 rfl (Lex.want_none rfl) (by intro Wx hSw; (try dsimp only at hSw); go_simp; (try (first | (with_reducible rfl) | assumption | rfl))) ?_
                  simp only [Act.put, List.setIfInBounds_toArray, List.set_cons_zero, List.set_cons_succ]
                  refine Lex.step_take (.bool false) mb16 rfl (Lex.want_none rfl) (by intro Wx hSw; (try dsimp only at hSw); go_simp; (try (first | (with_reducible rfl) | assumption | rfl))) ?_
                  simp only [Act.put, List.setIfInBounds_toArray, List.set_cons_zero, List.set_cons_succ]
                  refine Lex.step_take (.pointer (some ⟨gv, 0, none⟩)) mb17 rfl (Lex.want_some rfl mb16 rfl (b' := false) rfl rfl) (by intro Wx hSw; (try dsimp only at hSw); go_simp; (try (first | (with_reducible rfl) | assumption | rfl))) ?_
                  simp only [Act.put, List.setIfInBounds_toArray, List.set_cons_zero, List.set_cons_succ]
                  refine Lex.step_take (.int .i64 vk) mb18 rfl (Lex.want_some rfl mb16 rfl (b' := false) rfl rfl) (by intro Wx hSw; (try dsimp only at hSw); go_simp; (try (first | (with_reducible rfl) | assumption | rfl))) ?_
                  simp only [Act.put, List.setIfInBounds_toArray, List.set_cons_zero, List.set_cons_succ]
                  refine Lex.step_take (.bool false) mb19 rfl (Lex.want_some rfl mb16 rfl (b' := false) rfl rfl) (by intro Wx hSw; (try dsimp only at hSw); go_simp; (try (first | (with_reducible rfl) | assumption | rfl))) ?_
                  simp only [Act.put, List.setIfInBounds_toArray, List.set_cons_zero, List.set_cons_succ]
                  refine Lex.step_take (.bool false) mb20 rfl (Lex.want_some rfl mb16 rfl (b' := false) rfl rfl) (by intro Wx hSw; (try dsimp only at hSw); go_simp; (try (first | (with_reducible rfl) | assumption | rfl))) ?_
                  simp only [Act.put, List.setIfInBounds_toArray, List.set_cons_zero, List.set_cons_succ]
                  refine Lex.step_skip mb21 (Lex.want_some rfl mb20 rfl (b' := false) rfl rfl) ?_
                  simp only [Act.put, List.setIfInBounds_toArray, List.set_cons_zero, List.set_cons_succ]
                  refine Lex.step_skip mb22 (Lex.want_some rfl mb20 rfl (b' := false) rfl rfl) ?_
                  simp only [Act.put, List.setIfInBounds_toArray, List.set_cons_zero, List.set_cons_succ]
                  refine Lex.step_skip mb23 (Lex.want_some rfl mb20 rfl (b' := false) rfl rfl) ?_
                  simp only [Act.put, List.setIfInBounds_toArray, List.set_cons_zero, List.set_cons_succ]
                  refine Lex.step_take (.bool false) mb24 rfl (Lex.want_some rfl mb16 rfl (b' := false) rfl rfl) (by intro Wx hSw; (try dsimp only at hSw); go_simp; (try (first | (with_reducible rfl) | assumption | rfl))) ?_
                  simp only [Act.put, List.setIfInBounds_toArray, List.set_cons_zero, List.set_cons_succ]
                  refine Lex.step_take (.bool false) mb25 rfl (Lex.want_none rfl) (by intro Wx hSw; (try dsimp only at hSw); go_simp; (try (first | (with_reducible rfl) | assumption | rfl))) ?_
                  simp only [Act.put, List.setIfInBounds_toArray, List.set_cons_zero, List.set_cons_succ]
                  refine NoPanic.normal ?_
                  clear hv hgv
                  go_wp2
                  go_roundw
                  case rel => exact ⟨t + 1, by omega, by go_num, HO2, hB1⟩
                  case measure => simp [intOf]; omega
                · have hf' : (f != 0) = true := bne_iff_ne.2 hf
                  have hbd2 : bd = true := by rw [hbd, hf']
                  clear hbd
                  subst hbd2
                  have HB2 := Lib.hid (HBAD.out rfl)
                  clear HBAD HOK
                  go_wp2_with fail
                  have hv := hv0.drew
                  have hB1 := HB1.out.drew
                  generalize hgv : wr.heap.size = gv at hv HD ⊢
                  refine Lex.region_lex (ops := mbops) (calls := mbcalls) mbord (fun W => W.cell? ⟨w.heap.size, 1, none⟩ = some (.slice (some ⟨b1, o1, none⟩) mc cp) ∧ W.cell? ⟨b2, o2 + t, none⟩ = some (.int .i64 (cn : Int)) ∧ W.cell? ⟨b1, o1 + cn * 3, none⟩ = some (.string xn) ∧ W.cell? ⟨b1, o1 + cn * 3 + 1, none⟩ = some (.int .i64 xk) ∧ W.cell? ⟨b1, o1 + cn * 3 + 2, none⟩ = some (.bool xz) ∧ W.cell? ⟨gv, 0, none⟩ = some (.int .i64 vk) ∧ W.cell? ⟨gv, 1, none⟩ = some (.int .i64 vn) ∧ W.cell? ⟨gv, 2, none⟩ = some (.string vs)) (by kernel_rfl) (by kernel_rfl) mbsel (by kernel_rfl) (by kernel_rfl) mblex ((HD.out _ hB1 hv)) ?_
                  unfold mbord
                  refine Lex.step_take (.pointer (some ⟨gv, 0, none⟩)) mb0 rfl (Lex.want_none rfl) (by intro Wx hSw; (try dsimp only at hSw); go_simp; (try (first | (with_reducible rfl) | assumption | rfl))) ?_
                  simp only [Act.put, List.setIfInBounds_toArray, List.set_cons_zero, List.set_cons_succ]
                  refine Lex.step_take (.int .i64 vk) mb1 rfl (Lex.want_none rfl) (by intro Wx hSw; (try dsimp only at hSw); go_simp; (try (first | (with_reducible rfl) | assumption | rfl))) ?_
                  simp only [Act.put, List.setIfInBounds_toArray, List.set_cons_zero, List.set_cons_succ]
                  refine Lex.step_take (.bool true) mb2 rfl (Lex.want_none rfl) (by intro Wx hSw; (try dsimp only at hSw); go_simp; (try (first | (with_reducible rfl) | assumption | rfl))) ?_
                  simp only [Act.put, List.setIfInBounds_toArray, List.set_cons_zero, List.set_cons_succ]
                  refine Lex.step_take (.bool true) mb3 rfl (Lex.want_none rfl) (by intro Wx hSw; (try dsimp only at hSw); go_simp; (try (first | (with_reducible rfl) | assumption | rfl))) ?_
                  simp only [Act.put, List.setIfInBounds_toArray, List.set_cons_zero, List.set_cons_succ]
                  refine Lex.step_take (.pointer (some ⟨w.heap.size, 1, none⟩)) mb4 rfl (Lex.want_some rfl mb3 rfl (b' := true) rfl rfl) (by intro Wx hSw; (try dsimp only at hSw); go_simp; (try (first | (with_reducible rfl) | assumption | rfl))) ?_
                  simp only [Act.put, List.setIfInBounds_toArray, List.set_cons_zero, List.set_cons_succ]
                  refine Lex.step_take (.slice (some ⟨b1, o1, none⟩) mc cp) mb5 rfl (Lex.want_some rfl mb3 rfl (b' := true) rfl rfl) (by intro Wx hSw; (try dsimp only at hSw); go_simp; (try (first | (with_reducible rfl) | assumption | rfl))) ?_
                  simp only [Act.put, List.setIfInBounds_toArray, List.set_cons_zero, List.set_cons_succ]
                  refine Lex.step_take (.slice (some ⟨b2, o2, none⟩) u cp2) mb6 rfl (Lex.want_some rfl mb3 rfl (b' := true) rfl rfl) (by intro Wx hSw; (try dsimp only at hSw); go_simp; (try (first | (with_reducible rfl) | assumption | rfl))) ?_
                  simp only [Act.put, List.setIfInBounds_toArray, List.set_cons_zero, List.set_cons_succ]
                  refine Lex.step_take (.int .i64 t) mb7 rfl (Lex.want_some rfl mb3 rfl (b' := true) rfl rfl) (by intro Wx hSw; (try dsimp only at hSw); go_simp; (try (first | (with_reducible rfl) | assumption | rfl))) ?_
                  simp only [Act.put, List.setIfInBounds_toArray, List.set_cons_zero, List.set_cons_succ]
                  refine Lex.step_take (.pointer (some ⟨b2, o2 + t, none⟩)) mb8 rfl (Lex.want_some rfl mb3 rfl (b' := true) rfl rfl) (by intro Wx hSw; (try dsimp only at hSw); go_simp; (try (first | (with_reducible rfl) | assumption | rfl))) ?_
                  simp only [Act.put, List.setIfInBounds_toArray, List.set_cons_zero, List.set_cons_succ]
                  refine Lex.step_take (.int .i64 (cn : Int)) mb9 rfl (Lex.want_some rfl mb3 rfl (b' := true) rfl rfl) (by intro Wx hSw; (try dsimp only at hSw); go_simp; (try (first | (with_reducible rfl) | assumption | rfl))) ?_
                  simp only [Act.put, List.setIfInBounds_toArray, List.set_cons_zero, List.set_cons_succ]
                  refine Lex.step_take (.pointer (some ⟨b1, o1 + cn * 3, none⟩)) mb10 rfl (Lex.want_some rfl mb3 rfl (b' := true) rfl rfl) (by intro Wx hSw; (try dsimp only at hSw); go_simp; (try (first | (with_reducible rfl) | assumption | rfl))) ?_
                  simp only [Act.put, List.setIfInBounds_toArray, List.set_cons_zero, List.set_cons_succ]
                  refine Lex.step_take (.agg #[.string xn, .int .i64 xk, .bool xz]) mb11 rfl (Lex.want_some rfl mb3 rfl (b' := true) rfl rfl) (by intro Wx hSw; (try dsimp only at hSw); go_simp; (try (first | (with_reducible rfl) | assumption | rfl))) ?_
                  simp only [Act.put, List.setIfInBounds_toArray, List.set_cons_zero, List.set_cons_succ]
                  refine Lex.step_take (.agg #[.int .i64 vk, .int .i64 vn, .string vs]) mb12 rfl (Lex.want_some rfl mb3 rfl (b' := true) rfl rfl) (by intro Wx hSw; (try dsimp only at hSw); go_simp; (try (first | (with_reducible rfl) | assumption | rfl))) ?_
                  simp only [Act.put, List.setIfInBounds_toArray, List.set_cons_zero, List.set_cons_succ]
                  refine Lex.step_call mb13 rfl (Lex.want_some rfl mb3 rfl (b' := true) rfl rfl) (fun K hK => ?_)
                  go_simp
                  refine (hcF _).mono ?_
                  rintro e y1 ⟨rfl, hy1⟩
                  have hv := hv.below hy1 hv.lt
                  have hB1 := hB1.trans (hy1.mono hB1.size)
                  clear hy1
                  refine hK.out _ _ _ (fun _ h => h) (HD.out _ hB1 hv) ?_
                  clear hK K
                  try simp only [Act.put, List.setIfInBounds_toArray, List.set_cons_zero, List.set_cons_succ]
                  refine Lex.step_take (.bool true) mb14 rfl (Lex.want_some rfl mb3 rfl (b' := true) rfl rfl) (by intro Wx hSw; (try dsimp only at hSw); go_simp; (try (first | (with_reducible rfl) | assumption | rfl))) ?_
                  simp only [Act.put, List.setIfInBounds_toArray, List.set_cons_zero, List.set_cons_succ]
                  refine Lex.step_take (.bool true) mb15 rfl (Lex.want_none rfl) (by intro Wx hSw; (try dsimp only at hSw); go_simp; (try (first | (with_reducible rfl) | assumption | rfl))) ?_
                  simp only [Act.put, List.setIfInBounds_toArray, List.set_cons_zero, List.set_cons_succ]
                  refine Lex.step_take (.bool true) mb16 rfl (Lex.want_none rfl) (by intro Wx hSw; (try dsimp only at hSw); go_simp; (try (first | (with_reducible rfl) | assumption | rfl))) ?_
                  simp only [Act.put, List.setIfInBounds_toArray, List.set_cons_zero, List.set_cons_succ]
                  refine Lex.step_skip mb17 (Lex.want_some rfl mb16 rfl (b' := true) rfl rfl) ?_
                  simp only [Act.put, List.setIfInBounds_toArray, List.set_cons_zero, List.set_cons_succ]
                  refine Lex.step_skip mb18 (Lex.want_some rfl mb16 rfl (b' := true) rfl rfl) ?_
                  simp only [Act.put, List.setIfInBounds_toArray, List.set_cons_zero, List.set_cons_succ]
                  refine Lex.step_skip mb19 (Lex.want_some rfl mb16 rfl (b' := true) rfl rfl) ?_
                  simp only [Act.put, List.setIfInBounds_toArray, List.set_cons_zero, List.set_cons_succ]
                  refine Lex.step_skip mb20 (Lex.want_some rfl mb16 rfl (b' := true) rfl rfl) ?_
                  simp only [Act.put, List.setIfInBounds_toArray, List.set_cons_zero, List.set_cons_succ]
                  refine Lex.step_skip mb21 (Lex.want_undef rfl mb20 rfl rfl) ?_
                  simp only [Act.put, List.setIfInBounds_toArray, List.set_cons_zero, List.set_cons_succ]
                  refine Lex.step_skip mb22 (Lex.want_undef rfl mb20 rfl rfl) ?_
                  simp only [Act.put, List.setIfInBounds_toArray, List.set_cons_zero, List.set_cons_succ]
                  refine Lex.step_skip mb23 (Lex.want_undef rfl mb20 rfl rfl) ?_
                  simp only [Act.put, List.setIfInBounds_toArray, List.set_cons_zero, List.set_cons_succ]
                  refine Lex.step_skip mb24 (Lex.want_some rfl mb16 rfl (b' := true) rfl rfl) ?_
                  simp only [Act.put, List.setIfInBounds_toArray, List.set_cons_zero, List.set_cons_succ]
                  refine Lex.step_take (.bool true) mb25 rfl (Lex.want_none rfl) (by intro Wx hSw; (try dsimp only at hSw); go_simp; (try (first | (with_reducible rfl) | assumption | rfl))) ?_
                  simp only [Act.put, List.setIfInBounds_toArray, List.set_cons_zero, List.set_cons_succ]
                  refine NoPanic.normal ?_
                  clear hv hgv
                  go_wp2
                  go_ret
                  exact ⟨by rw [HB2.out]; rfl, HN.out.trans (hB1.mono HN.out.size)⟩
            · obtain rfl : t = u := by omega
              have HS : Hid (∀ j < p + 1, ∀ r', cells[j]? = some r' → r'.length = t ∧ RowOk cs g r' t) := Lib.hid (fun j hj r' hr' => by
                by_cases e : j < p
                · exact hH.out j e r' hr'
                · obtain rfl : j = p := by omega
                  rw [HG3.out] at hr'
                  injection hr' with hr'
                  rw [← hr']
                  exact ⟨HU.out, hT.out⟩)
              go_wp2
              go_roundw
              case rel => exact ⟨p + 1, by omega, by go_num, HS, hB⟩
              case measure => simp [intOf]; omega
        · obtain rfl : p = 8 := by omega
          have HQ : Hid (rr = true) := Lib.hid (by
            obtain ⟨m1, m2, m3, m4, _⟩ := HM.out
            have hall : ∀ r ∈ cells, r.length = q ∧ RowOk cs g r q := fun r hr => by
              obtain ⟨j, hj⟩ := List.mem_iff_getElem?.1 hr
              exact hH.out j (by rw [← m3]; exact (List.getElem?_eq_some_iff.1 hj).1) r hj
            exact HRT.out ⟨m4, by omega, by omega, m3, fun c hc => by rw [m1]; exact HG.out c hc, fun r hr => by rw [m2]; exact (hall r hr).1, fun r hr => by rw [m2]; exact (hall r hr).2⟩)
          go_wp2
          go_ret
          exact ⟨by rw [HQ.out]; rfl, HN.out.trans (hB.mono HN.out.size)⟩
end Go.Proofs.Ytabgbhilbnchnaa.Mi
