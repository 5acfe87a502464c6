/- RowPicks: whatever row and places, walked. -/
import Derived.Test.YtodhhoegdfpakaaRoH
import Derived.Deep.QuietTactic
import Derived.BigQuiet
namespace Go.Proofs.Ytodhhoegdfpakaa.Ro
open Go.RowKit Pac Va Sc Lex

theorem infoI : (Try.prog.info? 3).map (fun i => (i.zero, i.size, i.bytes)) = some (some (.int .i64 0), 1, 8) := by kernel_rfl
/-- 0, 1, .. -/
def allI (q : Nat) : List Int := (List.range q).map (fun (k : Nat) => (k : Int))
theorem allI_succ (q : Nat) : allI (q + 1) = allI q ++ [(q : Int)] := by
  unfold allI
  rw [List.range_succ, List.map_append]
  rfl
theorem allI_len (q : Nat) : (allI q).length = q := by unfold allI; simp
def inB (m : Nat) (c : Int) : Bool := decide (0 ≤ c) && decide (c < (m : Int))
theorem inB_iff {m : Nat} {c : Int} : inB m c = true ↔ 0 ≤ c ∧ c < (m : Int) := by
  unfold inB
  rw [Bool.and_eq_true, decide_eq_true_iff, decide_eq_true_iff]
theorem pick_is {l : List V} {m : Nat} (hm : l.length = m) (cols : List Int) : (pickO l cols).isSome = cols.all (inB m) := by
  subst hm
  cases h : cols.all (inB l.length) with
  | true =>
    rw [List.all_eq_true] at h
    obtain ⟨p, hp, _⟩ := pick_some (l := l) (cols := cols) (fun c hc => inB_iff.1 (h c hc))
    rw [hp]
    rfl
  | false =>
    rw [List.all_eq_false] at h
    obtain ⟨c, hc, hn⟩ := h
    rw [pick_none ⟨c, hc, fun hb => hn (inB_iff.2 hb)⟩]
    rfl
theorem all_take {f : Int → Bool} {cols : List Int} {q : Nat} {c : Int} (hc : cols[q]? = some c) : (cols.take (q + 1)).all f = ((cols.take q).all f && f c) := by
  rw [List.take_add_one, hc, List.all_append]
  simp
/-- A row, places, and all that was there as it was. -/
structure Pk (w : World) (lo1 lo2 : Nat) (A1 A2 : Option Addr) (l : List V) (cols : List Int) (W : World) : Prop where
  r : HasV W lo1 A1 l
  i : HasI W lo2 A2 cols
  B : Below w.heap.size w W
theorem Pk.below {w : World} {lo1 lo2 : Nat} {A1 A2 : Option Addr} {l : List V} {cols : List Int} {W W' : World} (h : Pk w lo1 lo2 A1 A2 l cols W) (hb : Below W.heap.size W W') : Pk w lo1 lo2 A1 A2 l cols W' :=
  ⟨h.r.below hb (Nat.le_refl _), h.i.below hb (Nat.le_refl _), h.B.trans (hb.mono h.B.size)⟩
theorem Pk.of {w : World} {lo1 lo2 : Nat} {A1 A2 : Option Addr} {l : List V} {cols : List Int} {W : World} (h : HasV w lo1 A1 l ∧ HasI w lo2 A2 cols) (hB : Below w.heap.size w W) : Pk w lo1 lo2 A1 A2 l cols W :=
  ⟨h.1.below hB (Nat.le_refl _), h.2.below hB (Nat.le_refl _), hB⟩
structure Pq (w : World) (lo1 lo2 : Nat) (A1 A2 A4 A5 : Option Addr) (l : List V) (cols : List Int) (p : List V) (W : World) : Prop extends Pk w lo1 lo2 A1 A2 l cols W where
  p : HasV W 0 A4 p
  a : HasV W 0 A5 l
theorem Pq.below {w : World} {lo1 lo2 : Nat} {A1 A2 A4 A5 : Option Addr} {l : List V} {cols : List Int} {p : List V} {W W' : World} (h : Pq w lo1 lo2 A1 A2 A4 A5 l cols p W) (hb : Below W.heap.size W W') : Pq w lo1 lo2 A1 A2 A4 A5 l cols p W' :=
  ⟨h.toPk.below hb, h.p.below hb (Nat.le_refl _), h.a.below hb (Nat.le_refl _)⟩
theorem pick_of {l : List V} {cols : List Int} {m m2 : Nat} (hm : l.length = m) (hm2 : cols.length = m2) (h9 : m ≤ 9223372036854775807) (h6 : m2 ≤ 1000000) (A1 A2 : Option Addr) (cp cp2 lo1 lo2 : Nat) (W : World) (h1 : HasV W lo1 A1 l) (h2 : HasI W lo2 A2 cols) :
    Calls Try.prog 11 #[.slice A1 m cp, .slice A2 m2 cp2] W (PickPost l cols W) := by
  subst hm hm2
  exact pick_any A1 A2 cp cp2 l cols lo1 lo2 W h1 h2 h9 h6
theorem same_of {l : List V} {m : Nat} (hm : l.length = m) (h9 : m ≤ 9223372036854775807) (A1 A2 : Option Addr) (cp cp2 lo1 lo2 : Nat) (W : World) (h1 : HasV W lo1 A1 l) (h2 : HasV W lo2 A2 l) :
    Calls Try.prog 15 #[.slice A1 m cp, .slice A2 m cp2] W fun e w' => e = .returned (.bool true) ∧ Below W.heap.size W w' := by
  subst hm
  refine (refSame_any A1 A2 cp cp2 l l lo1 lo2 W h1 h2 h9 h9).mono ?_
  rintro e w' ⟨r, rfl, hr, hB⟩
  exact ⟨by rw [hr.2 rfl], hB⟩

set_option maxRecDepth 100000 in
set_option maxHeartbeats 8000000 in
theorem picks_any (A1 A2 : Option Addr) (cp cp2 m m2 : Nat) (l : List V) (cols : List Int) (lo1 lo2 : Nat) (w : World) (h1 : HasV w lo1 A1 l) (h2 : HasI w lo2 A2 cols) (hm : l.length = m) (hm2 : cols.length = m2) (h9 : m ≤ 9223372036854775807) (h9' : m2 ≤ 9223372036854775807) (hok : ∀ (j : Nat) (a : V), l[j]? = some a → a.s.size ≤ 9223372036854775807) :
    Calls Try.prog 5 #[.slice A1 m cp, .slice A2 m2 cp2] w fun e w' => e = .returned (.bool true) ∧ Below w.heap.size w w' := by
  obtain ⟨i0, hi, hz0, hz1, hz2⟩ := info_parts infoI
  have hF : Pk w lo1 lo2 A1 A2 l cols w := ⟨h1, h2, Below.refl _ w⟩
  have hSm := fun (W : World) (hc : HasV W lo1 A1 l) => small_of hm h9 hok A1 cp lo1 W hc
  have hP := fun (h6 : m2 ≤ 1000000) (W : World) (h1 : HasV W lo1 A1 l) (h2 : HasI W lo2 A2 cols) => pick_of hm hm2 h9 h6 A1 A2 cp cp2 lo1 lo2 W h1 h2
  have hP2 := fun (h6 : m ≤ 1000000) (W : World) (A3 : Option Addr) (cp3 lo3 : Nat) (h1 : HasV W lo1 A1 l) (h2 : HasI W lo3 A3 (allI m)) => pick_of hm (allI_len m) h9 h6 A1 A3 cp cp3 lo1 lo3 W h1 h2
  have hS := fun (A5 : Option Addr) (cp5 : Nat) (W : World) (h1 : HasV W 0 A5 l) (h2 : HasV W lo1 A1 l) => same_of hm h9 A5 A1 cp5 cp 0 lo1 W h1 h2
  have H12 := Lib.hid (And.intro h1 h2)
  have HM := Lib.hid hm
  have HM2 := Lib.hid hm2
  have HIS := Lib.hid (pick_is hm cols)
  have HALL : Hid (pickO l (allI m) = some l) := Lib.hid (by have := pick_all l; rw [hm] at this; exact this)
  have HPK : Hid (cols.all (inB m) = true → ∀ p, p = (pickO l cols).getD [] → p.length = m2 ∧ ∀ (j : Nat) (c : Int), cols[j]? = some c → 0 ≤ c ∧ c < (m : Int) ∧ p[j]? = l[c.toNat]?) := Lib.hid (fun h p hp => by
    rw [List.all_eq_true] at h
    obtain ⟨p', hp', hlen, hat⟩ := pick_some (l := l) (cols := cols) (fun c hc => by rw [hm]; exact inB_iff.1 (h c hc))
    rw [hp'] at hp
    have hp : p = p' := hp
    subst hp
    exact ⟨hlen.trans hm2, fun j c hc => ⟨(inB_iff.1 (h c (List.mem_of_getElem? hc))).1, (inB_iff.1 (h c (List.mem_of_getElem? hc))).2, hat j c hc⟩⟩)
  clear hok h1 h2 hm hm2
  go_enter Try.func5, Try.ntmps5
  go_wp2_with fail
  refine (hSm _ hF.r).mono ?_
  rintro e w2 ⟨sm, rfl, hsm, hy⟩
  have hF := hF.below hy
  clear hy hSm
  cases sm
  · clear hsm
    go_wp2_with fail
    refine (awake_any _).mono ?_
    rintro e y9 ⟨rfl, hy⟩
    have hF := hF.below hy
    clear hy
    go_wp2
    go_ret
    exact ⟨rfl, hF.B⟩
  · have hm30 : m ≤ 30 := by rw [← HM.out]; exact (hsm rfl).1
    clear hsm
    by_cases h30 : 30 < m2
    · go_wp2_with fail
      refine (awake_any _).mono ?_
      rintro e y9 ⟨rfl, hy⟩
      have hF := hF.below hy
      clear hy
      go_wp2
      go_ret
      exact ⟨rfl, hF.B⟩
    · go_wp2
      have HPa := Lib.hid (hP (by omega))
      have HPb := Lib.hid (hP2 (by omega))
      have HSa := Lib.hid hS
      clear hP hP2 hS
      go_loopw [5, 6] (fun x i wr => ∃ (q : Nat), q ≤ m ∧ i = .int .i64 q ∧ wr.ownsRow w.heap.size 3 1 x q (Li.cellsL cellsI (allI q)) ∧ Pk w lo1 lo2 A1 A2 l cols wr) (fun _ i _ => m - (intOf i).toNat)
      case atStart => exact ⟨0, Nat.zero_le _, rfl, World.ownsRow_nil _ _ _ _, hF⟩
      case round =>
        clear hF
        obtain ⟨q, hq, rfl, hown, hF⟩ := hrel
        by_cases hlt : q < m
        · have hownW := hown.alloc (.cells #[.int .i64 q] 3)
          have hnW := heap_alloc_new wr (.cells #[.int .i64 q] 3)
          have hsW : w.heap.size ≤ (wr.alloc (.cells #[.int .i64 q] 3)).heap.size := by have := hF.B.size; simp; omega
          have hFW := hF.below ((Below.refl wr.heap.size wr).alloc (Nat.le_refl _) (.cells #[.int .i64 q] 3))
          have HW := Lib.hid (And.intro hownW (And.intro hFW (And.intro hnW hsW)))
          clear hownW hFW hnW hsW hown hF
          go_wp2_with (at_builtin; refine wpList_append_own _ rfl _ _ 26 rfl w.heap.size 3 i0 (.int .i64 0) 1 8 Try.underlying26 hi hz0 hz1 hz2 rfl (by decide) u5 q (Li.cellsL cellsI (allI q)) rfl HW.out.1 ⟨wr.heap.size, 0, none⟩ 1 1 [.int .i64 q] rfl rfl (World.news_of_block HW.out.2.2.1) (by simp [Value.oneCell']) (by unfold maxLen; omega) (by omega) HW.out.2.2.2 ?_)
          intro v5 y5 hown5 hgrow5 _
          obtain ⟨hownW, hFW, hnW, hsW⟩ := HW.out
          have hF := Pk.of H12.out (hFW.B.grown hgrow5 hsW (fun k hk => (hownW.lt k hk).1))
          clear hownW hFW hnW hsW hgrow5 HW
          go_wp2
          go_roundw
          case rel =>
            refine ⟨q + 1, by omega, by go_num, ?_, hF⟩
            rw [allI_succ, Li.cellsL_snoc]
            exact hown5
          case measure => simp [intOf]; omega
        · obtain rfl : q = m := by omega
          obtain ⟨A3, cp3, rfl, _, h3⟩ := Li.list_of_own (R := cellsI) (fun _ => rfl) hown (allI_len q)
          clear hown
          go_wp2_with fail
          refine (HPa.out _ hF.r hF.i).mono ?_
          rintro e w3 ⟨A4, cp4, p, ok, rfl, hok, hp, _, hv, hy⟩
          have hF := hF.below hy
          have h3 := h3.below hy (Nat.le_refl _)
          have hv := hv.lower (Nat.zero_le _)
          clear hy
          rw [HIS.out] at hok
          have HP := Lib.hid (fun h => HPK.out h p hp)
          clear hp
          obtain ⟨pl, hpl⟩ : ∃ n, p.length = n := ⟨_, rfl⟩
          rw [hpl]
          have HPL := Lib.hid hpl
          clear hpl
          go_wp2_with fail
          refine (HPb.out _ A3 cp3 _ hF.r h3).mono ?_
          rintro e w4 ⟨A5, cp5, p5, ok5, rfl, hok5, hp5, _, hv5, hy⟩
          obtain ⟨n5, hn5⟩ : ∃ n, p5.length = n := ⟨_, rfl⟩
          rw [hn5]
          have H5 := Lib.hid (And.intro hok5 (And.intro hp5 hn5))
          have HOK := Lib.hid hok
          clear hok5 hp5 hn5 hok
          go_wp2_with fail
          obtain ⟨hokX, hpX, hn5⟩ := H5.out
          clear H5
          have hF := hF.below hy
          have hv := hv.below hy (Nat.le_refl _)
          rw [HALL.out] at hokX hpX
          have hok5 : ok5 = true := hokX
          have hp5 : p5 = l := hpX
          clear hokX hpX
          subst hok5 hp5
          obtain rfl : n5 = q := hn5.symm.trans HM.out
          clear hn5
          have hF : Pq w lo1 lo2 A1 A2 A4 A5 p5 cols p w4 := ⟨hF, hv, hv5.lower (Nat.zero_le _)⟩
          clear hy h3 hv hv5
          go_loopw [11, 12] (fun x i wr => ∃ (q' : Nat), q' ≤ m2 ∧ i = .int .i64 q' ∧ x = .bool ((cols.take q').all (inB n5)) ∧ Pq w lo1 lo2 A1 A2 A4 A5 p5 cols p wr) (fun _ i _ => m2 - (intOf i).toNat)
          case atStart => exact ⟨0, Nat.zero_le _, rfl, rfl, hF⟩
          case round =>
            clear hF
            obtain ⟨j, hj, rfl, rfl, hF⟩ := hrel
            by_cases hlj : j < m2
            · have hg2 : cols[j]? = some (cols[j]'(by rw [HM2.out]; exact hlj)) := List.getElem?_eq_getElem _
              have hat := all_take (f := inB n5) hg2
              obtain ⟨b2, o2, rfl, hlo2, hlb2, d0⟩ := HasI.at hF.i hg2
              generalize (cols[j]'(by rw [HM2.out]; exact hlj)) = c at hg2 d0 hat
              generalize hbb : (cols.take j).all (inB n5) = bb at hat ⊢
              generalize hcc : (cols.take (j + 1)).all (inB n5) = cc at hat
              have HCC := Lib.hid hcc
              have HAT := Lib.hid hat
              have i1 : (j : Int) < (m2 : Int) := by omega
              have i0' : (0 : Int) ≤ (j : Int) := by omega
              clear hg2 hcc hat hbb
              cases bb
              · have HZ : Hid (cc = false) := Lib.hid HAT.out
                go_wp2
                go_roundw
                case rel => exact ⟨j + 1, by omega, by go_num, by rw [HCC.out, HZ.out], hF⟩
                case measure => simp [intOf]; omega
              · by_cases hc0 : 0 ≤ c
                · by_cases hc1 : c < (n5 : Int)
                  · have HZ : Hid (cc = true) := Lib.hid (by rw [HAT.out, inB_iff.2 ⟨hc0, hc1⟩]; rfl)
                    go_wp2
                    go_roundw
                    case rel => exact ⟨j + 1, by omega, by go_num, by rw [HCC.out, HZ.out], hF⟩
                    case measure => simp [intOf]; omega
                  · have HZ : Hid (cc = false) := Lib.hid (by rw [HAT.out]; cases h : inB n5 c; rfl; exact absurd (inB_iff.1 h).2 hc1)
                    go_wp2
                    go_roundw
                    case rel => exact ⟨j + 1, by omega, by go_num, by rw [HCC.out, HZ.out], hF⟩
                    case measure => simp [intOf]; omega
                · have HZ : Hid (cc = false) := Lib.hid (by rw [HAT.out]; cases h : inB n5 c; rfl; exact absurd (inB_iff.1 h).1 hc0)
                  go_wp2
                  go_roundw
                  case rel => exact ⟨j + 1, by omega, by go_num, by rw [HCC.out, HZ.out], hF⟩
                  case measure => simp [intOf]; omega
            · obtain rfl : j = m2 := by omega
              have hall : cols.take j = cols := List.take_of_length_le (by rw [HM2.out]; exact Nat.le_refl _)
              rw [hall]
              clear hall
              generalize cols.all (inB n5) = gd at HOK HP HIS ⊢
              obtain rfl : ok = gd := HOK.out
              clear HOK HIS HPK HALL H12 HPa HPb
              go_wp2
              go_loopw [13] (fun i wr => ∃ (q' : Nat), q' ≤ j ∧ i = .int .i64 q' ∧ Pq w lo1 lo2 A1 A2 A4 A5 p5 cols p wr) (fun i _ => j - (intOf i).toNat)
              case atStart => exact ⟨0, Nat.zero_le _, rfl, hF⟩
              case round =>
                clear hF
                obtain ⟨q, hq, rfl, hF⟩ := hrel
                by_cases hgo : q < j ∧ ok = true
                · obtain ⟨hlq, rfl⟩ := hgo
                  obtain ⟨hpl, hp⟩ := HP.out rfl
                  obtain rfl : pl = j := HPL.out.symm.trans hpl
                  have hg2 : cols[q]? = some (cols[q]'(by rw [HM2.out]; exact hlq)) := List.getElem?_eq_getElem _
                  obtain ⟨b2, o2, rfl, hlo2, hlb2, d0⟩ := HasI.at hF.i hg2
                  obtain ⟨hc0, hc1, hpq⟩ := hp q _ hg2
                  generalize (cols[q]'(by rw [HM2.out]; exact hlq)) = c at hg2 d0 hc0 hc1 hpq
                  have hcn : c.toNat < n5 := by omega
                  have hg1 : p5[c.toNat]? = some (p5[c.toNat]'(by rw [HM.out]; exact hcn)) := List.getElem?_eq_getElem _
                  rw [hg1] at hpq
                  obtain ⟨b1, o1, rfl, hlo1, hlb1, e0, e1, e2⟩ := HasV.at hF.r hg1
                  obtain ⟨b4, o4, rfl, hlo4, hlb4, f0, f1, f2⟩ := HasV.at hF.p hpq
                  generalize (p5[c.toNat]'(by rw [HM.out]; exact hcn)) = a at e0 e1 e2 f0 f1 f2
                  obtain ⟨k, n, s⟩ := a
                  obtain ⟨cn, rfl⟩ : ∃ cn : Nat, c = (cn : Int) := ⟨c.toNat, by omega⟩
                  simp only [Int.toNat_natCast] at e0 e1 e2 f0 f1 f2
                  have i1 : (q : Int) < (pl : Int) := by omega
                  have i0' : (0 : Int) ≤ (q : Int) := by omega
                  clear hg1 hg2 hp hpq hpl
                  go_wp2
                  go_quiet (fail)
                  have hF := hF.below (below_drewN (Below.refl _ wr) nq)
                  clear d0 e0 e1 e2 f0 f1 f2
                  go_wp2
                  go_roundw
                  case rel => exact ⟨q + 1, by omega, by go_num, hF⟩
                  case measure => simp [intOf]; omega
                · by_cases hlq : q < j
                  · obtain rfl : ok = false := by
                      cases ok
                      · rfl
                      · exact absurd ⟨hlq, rfl⟩ hgo
                    go_wp2_with fail
                    refine (awake_any _).mono ?_
                    rintro e y1 ⟨rfl, hy⟩
                    have hF := hF.below hy
                    clear hy
                    go_wp2_with fail
                    refine (HSa.out A5 cp5 _ hF.a hF.r).mono ?_
                    rintro e y2 ⟨rfl, hy⟩
                    have hF := hF.below hy
                    clear hy
                    go_wp2
                    go_ret
                    exact ⟨rfl, hF.B⟩
                  · clear hgo
                    go_wp2_with fail
                    refine (awake_any _).mono ?_
                    rintro e y1 ⟨rfl, hy⟩
                    have hF := hF.below hy
                    clear hy
                    go_wp2_with fail
                    refine (HSa.out A5 cp5 _ hF.a hF.r).mono ?_
                    rintro e y2 ⟨rfl, hy⟩
                    have hF := hF.below hy
                    clear hy
                    go_wp2
                    go_ret
                    exact ⟨rfl, hF.B⟩
end Go.Proofs.Ytodhhoegdfpakaa.Ro
