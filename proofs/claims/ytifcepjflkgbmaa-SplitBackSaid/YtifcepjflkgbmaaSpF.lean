/- Whether groups are a split: the document's, walked. -/
import Derived.Test.YtifcepjflkgbmaaSpE
namespace Go.Proofs.Ytifcepjflkgbmaa.Sp
open Go.RowKit Pac Lex

theorem infoB : (Try.prog.info? 4).map (fun i => (i.zero, i.size, i.bytes)) = some (some (.bool false), 1, 1) := by kernel_rfl
theorem made_flags (n : Nat) : (madeCells (Value.bool false).cells (n * 1)).toList = flags [] n := by
  unfold madeCells flags
  simp [Value.cells, Nat.mod_one]
theorem head_at {g : List Int} {x : Int} (h : g[0]? = some x) : g.headD 0 = x := by
  cases g with
  | nil => simp at h
  | cons y g => simpa using h
theorem in_upTo {F : List Int} {n : Nat} (h : ∀ x ∈ F, 0 ≤ x ∧ x < (n : Int)) (hn : F.Nodup) : F.length ≤ n := by
  have := len_le_of_sub F (upTo n) hn (fun x hx => mem_upTo.2 (h x hx))
  rwa [upTo_len] at this
theorem Good.len {l : List (List Int)} {n i : Nat} (h : Good l n i) : (l.take i).flatten.length ≤ n := in_upTo (fun x hx => by
  obtain ⟨g, hg, hxg⟩ := List.mem_flatten.1 hx
  obtain ⟨j, hj, e⟩ := List.mem_iff_getElem.1 hg
  have hji : j < i := by rw [List.length_take] at hj; omega
  have e2 : l[j]? = some g := by
    have := List.getElem?_eq_getElem hj
    rw [e, List.getElem?_take, if_pos hji] at this
    exact this
  exact (h.grp j hji g e2).2.2 x hxg) h.nd
theorem Part.len {l : List (List Int)} {n i t : Nat} {g : List Int} (h : Part l n i g t) : ((l.take i).flatten ++ g.take t).length ≤ n := in_upTo (fun x hx => by
  rcases List.mem_append.1 hx with hx | hx
  · obtain ⟨k, hk, hxk⟩ := List.mem_flatten.1 hx
    obtain ⟨j, hj, e⟩ := List.mem_iff_getElem.1 hk
    have hji : j < i := by rw [List.length_take] at hj; omega
    have e2 : l[j]? = some k := by
      have := List.getElem?_eq_getElem hj
      rw [e, List.getElem?_take, if_pos hji] at this
      exact this
    exact (h.good.grp j hji k e2).2.2 x hxk
  · exact h.rng x hx) h.nd

set_option maxRecDepth 20000 in
set_option maxHeartbeats 6400000 in
theorem refRight_any (A1 : Option Addr) (cp1 : Nat) (l1 : List (List Int)) (cols : Int) (lo1 : Nat) (w : World) (h1 : HasLL w lo1 A1 l1) (hl1 : l1.length ≤ 9223372036854775807) (hg1 : ∀ g ∈ l1, g.length ≤ 9223372036854775807) (hc0 : -9223372036854775808 ≤ cols) (hc1 : cols ≤ 9223372036854775807) :
    Calls Try.prog 11 #[.slice A1 l1.length cp1, .int .i64 cols] w fun e w' => e = .returned (.bool (rightSp l1 cols)) ∧ Below w.heap.size w w' := by
  obtain ⟨i0, hi, hz0, hz1, hz2⟩ := info_parts infoB
  obtain ⟨m, hm⟩ : ∃ m, l1.length = m := ⟨_, rfl⟩
  rw [hm] at hl1 ⊢
  have HA := Lib.hid h1
  have HM := Lib.hid hm
  have HG := Lib.hid hg1
  clear h1 hm hg1
  by_cases q1 : cols < 1
  · have hR := rightSp_out (l := l1) (Or.inl q1)
    generalize rightSp l1 cols = r at hR ⊢
    subst hR
    go_enter Try.func11, Try.ntmps11
    go_wp2
    go_ret
    exact ⟨rfl, Below.refl _ w⟩
  by_cases q2 : 8 < cols
  · have hR := rightSp_out (l := l1) (Or.inr q2)
    generalize rightSp l1 cols = r at hR ⊢
    subst hR
    go_enter Try.func11, Try.ntmps11
    go_wp2
    go_ret
    exact ⟨rfl, Below.refl _ w⟩
  obtain ⟨n, rfl⟩ : ∃ n : Nat, cols = (n : Int) := ⟨cols.toNat, by omega⟩
  have hR := rightSp_nat (l := l1) (n := n)
  generalize rightSp l1 (n : Int) = r at hR ⊢
  have HR := Lib.hid hR
  clear hR
  have n8 : n ≤ 8 := by omega
  have n1 : 1 ≤ n := by omega
  by_cases q3 : n < m
  · have HQ : Hid (r = false) := Lib.hid (HR.out.2 (fun h => by have := h.few; have := HM.out; omega))
    go_enter Try.func11, Try.ntmps11
    go_wp2
    go_ret
    exact ⟨by rw [HQ.out]; rfl, Below.refl _ w⟩
  have hmn : m ≤ n := by omega
  clear q1 q2 q3 hc0 hc1
  go_enter Try.func11, Try.ntmps11
  go_wp2_with (at_make; go_must (refine wpList_make_full _ rfl _ _ 46 rfl w.heap.size 4 i0 (.bool false) 1 Try.underlying46 hi hz0 hz1 _ _ _ _ n rfl rfl rfl rfl (by rw [hz2]; omega) (by unfold maxLen; omega) (Nat.le_refl _) ?_); intro w1 hown1 hgrow1)
  have hb1 : Below w.heap.size w w1 := (Below.refl _ _).grown hgrow1 (by simp) (fun k hk => by cases hk)
  rw [made_flags n] at hown1
  clear hgrow1
  go_wp2
  go_loopw [6, 7] (fun x i wr => ∃ (q u : Nat), q ≤ m ∧ i = .int .i64 q ∧ x = .int .i64 u ∧ u ≤ 8 ∧ wr.ownsRow w.heap.size 4 1 (.slice (some ⟨w.heap.size, 0, none⟩) n n) n (flags (l1.take q).flatten n) ∧ Hid (Good l1 n q ∧ u = (l1.take q).flatten.length) ∧ Below w.heap.size w wr) (fun _ i _ => m - (intOf i).toNat)
  case atStart => exact ⟨0, 0, Nat.zero_le _, rfl, rfl, by omega, by simpa using hown1, Lib.hid ⟨Good.zero _ _, by simp⟩, hb1⟩
  case round =>
    clear hown1 hb1
    obtain ⟨q, u, hq, rfl, rfl, hu8, hown, hH, hB⟩ := hrel
    by_cases hlt : q < m
    · have hg1 : l1[q]? = some (l1[q]'(by rw [HM.out]; exact hlt)) := List.getElem?_eq_getElem _
      generalize (l1[q]'(by rw [HM.out]; exact hlt)) = g at hg1
      have sg := HG.out g (List.mem_of_getElem? hg1)
      have HL := (HA.out.below hB (Nat.le_refl _))
      obtain ⟨b1, o1, A3, cp3, rfl, hlo1, hlb1, d1, hI1, _⟩ := HL.at hg1
      have HG1 := Lib.hid hg1
      obtain ⟨p, hp⟩ : ∃ p, g.length = p := ⟨_, rfl⟩
      rw [hp] at d1 sg
      have HP := Lib.hid hp
      clear hp hg1
      have i1 : (q : Int) < (m : Int) := by omega
      have i0' : (0 : Int) ≤ (q : Int) := by omega
      by_cases hp0 : p = 0
      · have HQ : Hid (r = false) := Lib.hid (HR.out.2 (fun h => (h.grp HG1.out).1 (List.eq_nil_of_length_eq_zero (by rw [HP.out]; exact hp0))))
        subst hp0
        go_wp2
        go_quiet (fail)
        have hB := hB.trans (below_drewN (Below.refl w.heap.size wr) nq)
        go_wp2
        go_ret
        exact ⟨by rw [HQ.out]; rfl, hB⟩
      have hp0' : ((p : Int) == 0) = false := beq_eq_false_iff_ne.2 (by omega)
      have hx0 : g[0]? = some (g[0]'(by rw [HP.out]; omega)) := List.getElem?_eq_getElem _
      generalize (g[0]'(by rw [HP.out]; omega)) = y0 at hx0
      obtain ⟨b5, o5, rfl, _, hlb5, f1⟩ := hI1.at hx0
      rw [Nat.add_zero] at f1
      have HX0 := Lib.hid hx0
      clear hx0
      have HZ : Hid (∀ (k0 : List Int), l1[q - 1]? = some k0 → 0 < q → k0.headD 0 < g.headD 0 → Part l1 n q g 0) := Lib.hid (fun k0 hk h0 h => Part.zero hH.out.1 (fun e => hp0 (by rw [← HP.out, e]; rfl)) (fun j k hj hk' => by
        obtain rfl : j = q - 1 := by omega
        rw [hk] at hk'
        injection hk' with hk'
        rw [← hk']
        exact h))
      by_cases hq0 : q = 0
      · have HPT : Hid (Part l1 n q g 0) := Lib.hid (Part.zero hH.out.1 (fun e => hp0 (by rw [← HP.out, e]; rfl)) (fun j k hj _ => by omega))
        have hq0' : decide (0 < q) = false := decide_eq_false (by omega)
        clear HZ hq0
        go_wp2
        go_quiet (fail)
        have hB := hB.trans (below_drewN (Below.refl w.heap.size wr) nq)
        have hown := Li.own_below hown (below_drewN (Below.refl wr.heap.size wr) nq) (Nat.le_refl _)
        generalize wr.drewN nq = wx at hB hown ⊢
        clear d1 f1 hI1 hlb5 hlb1
        go_wp2
        go_loopw [6, 8] (fun x i wr => ∃ (t u : Nat), t ≤ p ∧ i = .int .i64 t ∧ x = .int .i64 u ∧ u ≤ 8 ∧ wr.ownsRow w.heap.size 4 1 (.slice (some ⟨w.heap.size, 0, none⟩) n n) n (flags ((l1.take q).flatten ++ g.take t) n) ∧ Hid (Part l1 n q g t ∧ u = ((l1.take q).flatten ++ g.take t).length) ∧ Below w.heap.size w wr) (fun _ i _ => p - (intOf i).toNat)
        case atStart => exact ⟨0, u, Nat.zero_le _, rfl, rfl, hu8, by simpa using hown, Lib.hid ⟨HPT.out, by simpa using hH.out.2⟩, hB⟩
        case round =>
          clear hown HPT hB
          obtain ⟨t, u, ht, rfl, rfl, hu8, hown, hT, hB⟩ := hrel
          obtain ⟨b1', o1', A5, cp5', e1, hlo1', hlb1', d1, hI1, _⟩ := (HA.out.below hB (Nat.le_refl _)).at HG1.out
          injection e1 with e1
          injection e1 with e1 e1'
          subst e1 e1'
          rw [HP.out] at d1
          clear hlo1' hlb1'
          by_cases htp : t < p
          · have hx1 : g[t]? = some (g[t]'(by rw [HP.out]; exact htp)) := List.getElem?_eq_getElem _
            generalize (g[t]'(by rw [HP.out]; exact htp)) = c at hx1
            obtain ⟨b6, o6, rfl, _, hlb6, f1⟩ := hI1.at hx1
            have j1 : (t : Int) < (p : Int) := by omega
            have j0 : (0 : Int) ≤ (t : Int) := by omega
            have HX1 := Lib.hid hx1
            clear hx1
            by_cases hc0 : c < 0
            · have HQ : Hid (r = false) := Lib.hid (HR.out.2 (fun h => by
                have := (h.grp HG1.out).2.2 c (List.mem_of_getElem? HX1.out)
                omega))
              go_wp2
              go_ret
              exact ⟨by rw [HQ.out]; rfl, hB⟩
            by_cases hcn : (n : Int) ≤ c
            · have HQ : Hid (r = false) := Lib.hid (HR.out.2 (fun h => by
                have := (h.grp HG1.out).2.2 c (List.mem_of_getElem? HX1.out)
                omega))
              go_wp2
              go_ret
              exact ⟨by rw [HQ.out]; rfl, hB⟩
            obtain ⟨cn, rfl⟩ : ∃ cn : Nat, c = (cn : Int) := ⟨c.toNat, by omega⟩
            have hcn' : cn < n := by omega
            have c1 : (cn : Int) < (n : Int) := by omega
            have c0 : (0 : Int) ≤ (cn : Int) := by omega
            have s1 := hown.cellAt cn (by omega)
            have s2 := hown.frozenAt cn
            rw [flags_at hcn'] at s1
            by_cases hs : (cn : Int) ∈ (l1.take q).flatten ++ g.take t
            · have HQ : Hid (r = false) := Lib.hid (HR.out.2 (fun h => not_seen h.nd HG1.out HX1.out hs))
              rw [decide_eq_true hs] at s1
              clear hc0 hcn hs
              go_wp2
              go_ret
              exact ⟨by rw [HQ.out]; rfl, hB⟩
            rw [decide_eq_false hs] at s1
            have HS := Lib.hid hs
            clear hc0 hcn hs
            have hst := hown.stored cn (.bool true)
            rw [flags_set hcn', List.append_assoc, show g.take t ++ [(cn : Int)] = g.take (t + 1) by rw [List.take_add_one, HX1.out]; rfl] at hst
            have HST := Lib.hid (And.intro hst.1 (hB.grown hst.2 hB.size (fun k hk => (hown.lt k hk).1)))
            clear hst hown
            have HU : Hid (u + 1 = ((l1.take q).flatten ++ g.take (t + 1)).length) := Lib.hid (by rw [hT.out.2, List.length_append, List.length_append, List.length_take, List.length_take, HP.out]; omega)
            by_cases ht0 : t = 0
            · have HN : Hid (Part l1 n q g (t + 1)) := Lib.hid (hT.out.1.next HX1.out (by omega) (by omega) HS.out (fun b h => by omega))
              have ht0' : ¬ (0 : Int) < (t : Int) := by omega
              have hu9 : u + 1 ≤ 8 := by have := HN.out.len; have := HU.out; omega
              clear ht0
              go_wp2
              clear s1 s2 d1 f1 hI1
              go_roundw
              case rel => exact ⟨t + 1, u + 1, by omega, by go_num, by go_num, hu9, HST.out.1, Lib.hid ⟨HN.out, HU.out⟩, HST.out.2⟩
              case measure => simp [intOf]; omega
            · obtain ⟨t', k1, k3⟩ : ∃ t' : Nat, (t : Int) - 1 = (t' : Int) ∧ t' = t - 1 := ⟨t - 1, by omega, rfl⟩
              have hxb : g[t']? = some (g[t']'(by rw [HP.out]; omega)) := List.getElem?_eq_getElem _
              generalize (g[t']'(by rw [HP.out]; omega)) = b at hxb
              obtain ⟨b7, o7, e7, _, hlb7, f2⟩ := hI1.at hxb
              injection e7 with e7
              injection e7 with e7 e7'
              subst e7 e7'
              have HXB := Lib.hid hxb
              have HK3 := Lib.hid k3
              have k2 : (0 : Int) < (t : Int) := by omega
              have k4 : (t' : Int) < (p : Int) := by omega
              have k5 : (0 : Int) ≤ (t' : Int) := by omega
              clear hxb k3
              by_cases hbc : b < (cn : Int)
              · have HN : Hid (Part l1 n q g (t + 1)) := Lib.hid (hT.out.1.next HX1.out (by omega) (by omega) HS.out (fun b' h0 h' => by
                  rw [← HK3.out, HXB.out] at h'
                  injection h' with h'
                  omega))
                have hu9 : u + 1 ≤ 8 := by have := HN.out.len; have := HU.out; omega
                go_wp2
                clear s1 s2 d1 f1 f2 hI1
                go_roundw
                case rel => exact ⟨t + 1, u + 1, by omega, by go_num, by go_num, hu9, HST.out.1, Lib.hid ⟨HN.out, HU.out⟩, HST.out.2⟩
                case measure => simp [intOf]; omega
              · have HQ : Hid (r = false) := Lib.hid (HR.out.2 (fun h => hbc (step_of_ris (h.grp HG1.out).2.1 HXB.out (by rw [HK3.out, show t - 1 + 1 = t by omega]; exact HX1.out))))
                go_wp2
                go_ret
                exact ⟨by rw [HQ.out]; rfl, hB⟩
          · obtain rfl : t = p := by omega
            have HD : Hid (Good l1 n (q + 1) ∧ u = (l1.take (q + 1)).flatten.length) := Lib.hid (by
              have h1 := hT.out.1
              have h2 := hT.out.2
              have e : g.take t = g := by rw [← HP.out]; exact List.take_length
              refine ⟨Part.done (by rw [HP.out]; exact h1) HG1.out, ?_⟩
              rw [take_flat HG1.out, h2, e])
            have HO : Hid (flags ((l1.take q).flatten ++ g.take t) n = flags (l1.take (q + 1)).flatten n) := Lib.hid (by
              have e : g.take t = g := by rw [← HP.out]; exact List.take_length
              rw [take_flat HG1.out, e])
            rw [HO.out] at hown
            go_wp2
            clear d1 hI1
            go_roundw
            case rel => exact ⟨q + 1, u, by omega, by go_num, rfl, hu8, hown, HD, hB⟩
            case measure => simp [intOf]; omega
      · obtain ⟨q', m1, m3⟩ : ∃ q' : Nat, (q : Int) - 1 = (q' : Int) ∧ q' = q - 1 := ⟨q - 1, by omega, rfl⟩
        have hgp : l1[q']? = some (l1[q']'(by rw [HM.out]; omega)) := List.getElem?_eq_getElem _
        generalize (l1[q']'(by rw [HM.out]; omega)) = g0 at hgp
        obtain ⟨b8, o8, A8, cp8, e8, hlo8, hlb8, d2, hI8, _⟩ := HL.at hgp
        injection e8 with e8
        injection e8 with e8 e8'
        subst e8 e8'
        have hne := (hH.out.1.grp q' (by omega) g0 hgp).1
        obtain ⟨p0, hp1⟩ : ∃ p, g0.length = p := ⟨_, rfl⟩
        have hp00 : 0 < p0 := by
          rw [← hp1]
          exact List.length_pos_iff.2 hne
        rw [hp1] at d2
        have hx8 : g0[0]? = some (g0[0]'(by omega)) := List.getElem?_eq_getElem _
        generalize (g0[0]'(by omega)) = x0 at hx8
        obtain ⟨b9, o9, rfl, _, hlb9, f2⟩ := hI8.at hx8
        rw [Nat.add_zero] at f2
        have HX8 := Lib.hid hx8
        have HGP := Lib.hid hgp
        have HM3 := Lib.hid m3
        have m2 : decide (0 < q) = true := decide_eq_true (by omega)
        have m4 : (q' : Int) < (m : Int) := by omega
        have m5 : (0 : Int) ≤ (q' : Int) := by omega
        have m6 : (0 : Int) < (p0 : Int) := by omega
        have m7 : (0 : Int) < (p : Int) := by omega
        clear hx8 hgp m3 hne hp1 hI8 hlo8
        by_cases hxy : x0 < y0
        · have HPT : Hid (Part l1 n q g 0) := Lib.hid (HZ.out g0 (by rw [← HM3.out]; exact HGP.out) (by omega) (by rw [head_at HX8.out, head_at HX0.out]; exact hxy))
          have hxy' : decide (y0 ≤ x0) = false := decide_eq_false (by omega)
          clear HZ hq0 hxy
          go_wp2
          go_quiet (fail)
          have hB := hB.trans (below_drewN (Below.refl w.heap.size wr) nq)
          have hown := Li.own_below hown (below_drewN (Below.refl wr.heap.size wr) nq) (Nat.le_refl _)
          generalize wr.drewN nq = wx at hB hown ⊢
          clear d1 f1 hI1 hlb5 hlb1 hlb8 hlb9 d2 f2
          go_wp2
          go_loopw [6, 8] (fun x i wr => ∃ (t u : Nat), t ≤ p ∧ i = .int .i64 t ∧ x = .int .i64 u ∧ u ≤ 8 ∧ wr.ownsRow w.heap.size 4 1 (.slice (some ⟨w.heap.size, 0, none⟩) n n) n (flags ((l1.take q).flatten ++ g.take t) n) ∧ Hid (Part l1 n q g t ∧ u = ((l1.take q).flatten ++ g.take t).length) ∧ Below w.heap.size w wr) (fun _ i _ => p - (intOf i).toNat)
          case atStart => exact ⟨0, u, Nat.zero_le _, rfl, rfl, hu8, by simpa using hown, Lib.hid ⟨HPT.out, by simpa using hH.out.2⟩, hB⟩
          case round =>
            clear hown HPT hB
            obtain ⟨t, u, ht, rfl, rfl, hu8, hown, hT, hB⟩ := hrel
            obtain ⟨b1', o1', A5, cp5', e1, hlo1', hlb1', d1, hI1, _⟩ := (HA.out.below hB (Nat.le_refl _)).at HG1.out
            injection e1 with e1
            injection e1 with e1 e1'
            subst e1 e1'
            rw [HP.out] at d1
            clear hlo1' hlb1'
            by_cases htp : t < p
            · have hx1 : g[t]? = some (g[t]'(by rw [HP.out]; exact htp)) := List.getElem?_eq_getElem _
              generalize (g[t]'(by rw [HP.out]; exact htp)) = c at hx1
              obtain ⟨b6, o6, rfl, _, hlb6, f1⟩ := hI1.at hx1
              have j1 : (t : Int) < (p : Int) := by omega
              have j0 : (0 : Int) ≤ (t : Int) := by omega
              have HX1 := Lib.hid hx1
              clear hx1
              by_cases hc0 : c < 0
              · have HQ : Hid (r = false) := Lib.hid (HR.out.2 (fun h => by
                  have := (h.grp HG1.out).2.2 c (List.mem_of_getElem? HX1.out)
                  omega))
                go_wp2
                go_ret
                exact ⟨by rw [HQ.out]; rfl, hB⟩
              by_cases hcn : (n : Int) ≤ c
              · have HQ : Hid (r = false) := Lib.hid (HR.out.2 (fun h => by
                  have := (h.grp HG1.out).2.2 c (List.mem_of_getElem? HX1.out)
                  omega))
                go_wp2
                go_ret
                exact ⟨by rw [HQ.out]; rfl, hB⟩
              obtain ⟨cn, rfl⟩ : ∃ cn : Nat, c = (cn : Int) := ⟨c.toNat, by omega⟩
              have hcn' : cn < n := by omega
              have c1 : (cn : Int) < (n : Int) := by omega
              have c0 : (0 : Int) ≤ (cn : Int) := by omega
              have s1 := hown.cellAt cn (by omega)
              have s2 := hown.frozenAt cn
              rw [flags_at hcn'] at s1
              by_cases hs : (cn : Int) ∈ (l1.take q).flatten ++ g.take t
              · have HQ : Hid (r = false) := Lib.hid (HR.out.2 (fun h => not_seen h.nd HG1.out HX1.out hs))
                rw [decide_eq_true hs] at s1
                clear hc0 hcn hs
                go_wp2
                go_ret
                exact ⟨by rw [HQ.out]; rfl, hB⟩
              rw [decide_eq_false hs] at s1
              have HS := Lib.hid hs
              clear hc0 hcn hs
              have hst := hown.stored cn (.bool true)
              rw [flags_set hcn', List.append_assoc, show g.take t ++ [(cn : Int)] = g.take (t + 1) by rw [List.take_add_one, HX1.out]; rfl] at hst
              have HST := Lib.hid (And.intro hst.1 (hB.grown hst.2 hB.size (fun k hk => (hown.lt k hk).1)))
              clear hst hown
              have HU : Hid (u + 1 = ((l1.take q).flatten ++ g.take (t + 1)).length) := Lib.hid (by rw [hT.out.2, List.length_append, List.length_append, List.length_take, List.length_take, HP.out]; omega)
              by_cases ht0 : t = 0
              · have HN : Hid (Part l1 n q g (t + 1)) := Lib.hid (hT.out.1.next HX1.out (by omega) (by omega) HS.out (fun b h => by omega))
                have ht0' : ¬ (0 : Int) < (t : Int) := by omega
                have hu9 : u + 1 ≤ 8 := by have := HN.out.len; have := HU.out; omega
                clear ht0
                go_wp2
                clear s1 s2 d1 f1 hI1
                go_roundw
                case rel => exact ⟨t + 1, u + 1, by omega, by go_num, by go_num, hu9, HST.out.1, Lib.hid ⟨HN.out, HU.out⟩, HST.out.2⟩
                case measure => simp [intOf]; omega
              · obtain ⟨t', k1, k3⟩ : ∃ t' : Nat, (t : Int) - 1 = (t' : Int) ∧ t' = t - 1 := ⟨t - 1, by omega, rfl⟩
                have hxb : g[t']? = some (g[t']'(by rw [HP.out]; omega)) := List.getElem?_eq_getElem _
                generalize (g[t']'(by rw [HP.out]; omega)) = b at hxb
                obtain ⟨b7, o7, e7, _, hlb7, f2⟩ := hI1.at hxb
                injection e7 with e7
                injection e7 with e7 e7'
                subst e7 e7'
                have HXB := Lib.hid hxb
                have HK3 := Lib.hid k3
                have k2 : (0 : Int) < (t : Int) := by omega
                have k4 : (t' : Int) < (p : Int) := by omega
                have k5 : (0 : Int) ≤ (t' : Int) := by omega
                clear hxb k3
                by_cases hbc : b < (cn : Int)
                · have HN : Hid (Part l1 n q g (t + 1)) := Lib.hid (hT.out.1.next HX1.out (by omega) (by omega) HS.out (fun b' h0 h' => by
                    rw [← HK3.out, HXB.out] at h'
                    injection h' with h'
                    omega))
                  have hu9 : u + 1 ≤ 8 := by have := HN.out.len; have := HU.out; omega
                  go_wp2
                  clear s1 s2 d1 f1 f2 hI1
                  go_roundw
                  case rel => exact ⟨t + 1, u + 1, by omega, by go_num, by go_num, hu9, HST.out.1, Lib.hid ⟨HN.out, HU.out⟩, HST.out.2⟩
                  case measure => simp [intOf]; omega
                · have HQ : Hid (r = false) := Lib.hid (HR.out.2 (fun h => hbc (step_of_ris (h.grp HG1.out).2.1 HXB.out (by rw [HK3.out, show t - 1 + 1 = t by omega]; exact HX1.out))))
                  go_wp2
                  go_ret
                  exact ⟨by rw [HQ.out]; rfl, hB⟩
            · obtain rfl : t = p := by omega
              have HD : Hid (Good l1 n (q + 1) ∧ u = (l1.take (q + 1)).flatten.length) := Lib.hid (by
                have h1 := hT.out.1
                have h2 := hT.out.2
                have e : g.take t = g := by rw [← HP.out]; exact List.take_length
                refine ⟨Part.done (by rw [HP.out]; exact h1) HG1.out, ?_⟩
                rw [take_flat HG1.out, h2, e])
              have HO : Hid (flags ((l1.take q).flatten ++ g.take t) n = flags (l1.take (q + 1)).flatten n) := Lib.hid (by
                have e : g.take t = g := by rw [← HP.out]; exact List.take_length
                rw [take_flat HG1.out, e])
              rw [HO.out] at hown
              go_wp2
              clear d1 hI1
              go_roundw
              case rel => exact ⟨q + 1, u, by omega, by go_num, rfl, hu8, hown, HD, hB⟩
              case measure => simp [intOf]; omega
        · have HQ : Hid (r = false) := Lib.hid (HR.out.2 (fun h => hxy (by
            have := h.heads (j := q') HGP.out (by rw [HM3.out, show q - 1 + 1 = q by omega]; exact HG1.out)
            rwa [head_at HX8.out, head_at HX0.out] at this)))
          have hxy' : decide (y0 ≤ x0) = true := decide_eq_true (by omega)
          clear HZ hq0 hxy
          go_wp2
          go_quiet (fail)
          have hB := hB.trans (below_drewN (Below.refl w.heap.size wr) nq)
          go_wp2
          go_ret
          exact ⟨by rw [HQ.out]; rfl, hB⟩
    · obtain rfl : q = m := by omega
      have e : l1.take q = l1 := by rw [← HM.out]; exact List.take_length
      have hH1 := hH.out.1
      have hH2 := hH.out.2
      rw [e] at hH2
      have HU := Lib.hid hH2
      have HD : Hid (u = n → r = true) := Lib.hid (fun h => HR.out.1 (Good.split (by rw [HM.out]; exact hH1) n1 n8 (by rw [← hH2]; exact h)))
      have HE : Hid (u ≠ n → r = false) := Lib.hid (fun h => HR.out.2 (fun h' => h (by rw [hH2]; exact h'.len)))
      clear hH1 hH2 e hown
      by_cases hun : u = n
      · have HQ := Lib.hid (HD.out hun)
        subst hun
        go_wp2
        go_ret
        exact ⟨by rw [HQ.out]; rfl, hB⟩
      · have HQ := Lib.hid (HE.out hun)
        have hun' : ((u : Int) == (n : Int)) = false := beq_eq_false_iff_ne.2 (by omega)
        go_wp2
        go_ret
        exact ⟨by rw [HQ.out]; rfl, hB⟩
end Go.Proofs.Ytifcepjflkgbmaa.Sp
