/- RowTurns: whatever schema, row and value, walked. -/
import Derived.Test.YtodhhoegdfpakaaRoH
import Derived.Test.YtodhhoegdfpakaaXse
import Derived.Test.YtodhhoegdfpakaaScE
import Derived.Test.YtodhhoegdfpakaaLeB
namespace Go.Proofs.Ytodhhoegdfpakaa.Ro
open Go.RowKit Pac Va Sc Lex

/-- One value of a row that is one's own is set. -/
theorem hasV_set {w : World} {base g cap m q : Nat} {l : List V} {v : V} (h : w.ownsRow base 34 3 (.slice (some ⟨g, 0, none⟩) m cap) m (Li.cellsL cellsV l)) (hm : l.length = m) (hq : q < m) :
    HasV (((w.setCell ⟨g, q * 3, none⟩ (.int .i64 v.k)).setCell ⟨g, q * 3 + 1, none⟩ (.int .i64 v.n)).setCell ⟨g, q * 3 + 2, none⟩ (.string v.s)) 0 (some ⟨g, 0, none⟩) (l.set q v) := by
  have h3 := ((((h.stored (q * 3) (.int .i64 v.k)).1.stored (q * 3 + 1) (.int .i64 v.n)).1.stored (q * 3 + 2) (.string v.s))).1
  intro _
  have hg := (h3.lt g rfl).2
  refine ⟨g, 0, rfl, Nat.zero_le _, hg, fun j x hj i u hu => ?_⟩
  have hjm : j < m := by have := (List.getElem?_eq_some_iff.1 hj).1; rw [List.length_set] at this; omega
  have hi : i < 3 := (List.getElem?_eq_some_iff.1 hu).1
  rw [Nat.zero_add, h3.cellAt (j * 3 + i) (by omega)]
  have hlen : (Li.cellsL cellsV l).length = m * 3 := by rw [Li.cellsL_len cellsV_len, hm]
  by_cases hjq : j = q
  · subst hjq
    rw [List.getElem?_set_self (by omega)] at hj
    injection hj with hj
    subst hj
    match i, hi, hu with
    | 0, _, hu =>
      show ((((Li.cellsL cellsV l).set (j * 3) (.int .i64 v.k)).set (j * 3 + 1) (.int .i64 v.n)).set (j * 3 + 2) (.string v.s))[j * 3]? = _
      rw [List.getElem?_set_ne (by omega), List.getElem?_set_ne (by omega), List.getElem?_set_self (by omega)]
      exact hu
    | 1, _, hu =>
      rw [List.getElem?_set_ne (by omega), List.getElem?_set_self (by rw [List.length_set]; omega)]
      exact hu
    | 2, _, hu =>
      rw [List.getElem?_set_self (by rw [List.length_set, List.length_set]; omega)]
      exact hu
  · rw [List.getElem?_set_ne (Ne.symm hjq)] at hj
    rw [List.getElem?_set_ne (by omega), List.getElem?_set_ne (by omega), List.getElem?_set_ne (by omega)]
    exact Li.cellsL_at cellsV_len l j x hj i u hu
theorem news_of_list {W : World} {lo b o : Nat} {l : List V} (h : HasV W lo (some ⟨b, o, none⟩) l) : ∀ (t : Nat) (u : Value), (Li.cellsL cellsV l)[t]? = some u → W.cell? ((⟨b, o, none⟩ : Addr).add t) = some u := fun t u hu => by
  have ht := (List.getElem?_eq_some_iff.1 hu).1
  rw [Li.cellsL_len cellsV_len] at ht
  have hx : l[t / 3]? = some (l[t / 3]'(by omega)) := List.getElem?_eq_getElem _
  generalize (l[t / 3]'(by omega)) = x at hx
  have hi : (cellsV x)[t % 3]? = some ((cellsV x)[t % 3]'(by rw [cellsV_len]; omega)) := List.getElem?_eq_getElem _
  generalize ((cellsV x)[t % 3]'(by rw [cellsV_len]; omega)) = y at hi
  have h1 := Li.cellsL_at cellsV_len l _ x hx _ y hi
  rw [show t / 3 * 3 + t % 3 = t by omega, hu] at h1
  injection h1 with h1
  subst h1
  obtain ⟨b', o', hA, _, _, hc⟩ := h (fun e => by rw [e] at hx; simp at hx)
  injection hA with hA
  injection hA with e1 e2
  subst e1 e2
  have h2 := hc _ x hx _ u hi
  rw [Nat.add_assoc, show t / 3 * 3 + t % 3 = t by omega] at h2
  have hadd : (⟨b, o, none⟩ : Addr).add t = ⟨b, o + t, none⟩ := by unfold Addr.add; split <;> simp_all
  rw [hadd]
  exact h2
theorem cellsV_one (l : List V) : ∀ u ∈ Li.cellsL cellsV l, u.oneCell' = true := fun u hu => by
  obtain ⟨x, _, hx⟩ := List.mem_flatMap.1 hu
  unfold cellsV at hx
  simp only [List.mem_cons, List.not_mem_nil, or_false] at hx
  rcases hx with rfl | rfl | rfl <;> rfl
theorem col_kind {nm : ByteArray} {cs : List C} {j : Nat} {c : C} (hr : rightS nm cs = true) (hj : cs[j]? = some c) : c.k ≠ 0 := fun h0 => by
  have hb : colB j c = false := by
    obtain ⟨n, k, z⟩ := c
    have h0 : k = 0 := h0
    subst h0
    rw [colB_def]
    cases wordB n <;> rfl
  have h := rightS_one (nm := nm) hj (not_col hb)
  rw [hr] at h
  cases h
/-- A column in memory. -/
def AtC (w : World) (b i : Nat) (c : C) : Prop :=
  w.cell? ⟨b, i, none⟩ = some (.string c.n) ∧ w.cell? ⟨b, i + 1, none⟩ = some (.int .i64 c.k) ∧ w.cell? ⟨b, i + 2, none⟩ = some (.bool c.z)
theorem AtC.below {w w' : World} {b i : Nat} {c : C} (h : AtC w b i c) (hb : Below w.heap.size w w') : AtC w' b i c :=
  ⟨cell_below hb h.1, cell_below hb h.2.1, cell_below hb h.2.2⟩
structure Tt (w : World) (g y lo1 lo2 : Nat) (nm : ByteArray) (A1 A2 : Option Addr) (m cp : Nat) (cs : List C) (l : List V) (vk vN : Int) (vs : ByteArray) (W : World) : Prop extends Tel w g lo1 lo2 nm A1 A2 m cp cs l W where
  y : Box3 W y (.int .i64 vk) (.int .i64 vN) (.string vs)
theorem Tt.below {w : World} {g y lo1 lo2 : Nat} {nm : ByteArray} {A1 A2 : Option Addr} {m cp : Nat} {cs : List C} {l : List V} {vk vN : Int} {vs : ByteArray} {W W' : World} (h : Tt w g y lo1 lo2 nm A1 A2 m cp cs l vk vN vs W) (hb : Below W.heap.size W W') : Tt w g y lo1 lo2 nm A1 A2 m cp cs l vk vN vs W' :=
  ⟨h.toTel.below hb, h.y.below hb h.y.lt⟩

set_option maxRecDepth 100000 in
set_option maxHeartbeats 8000000 in
theorem turns_any (A1 A2 : Option Addr) (cp cp2 m m2 : Nat) (nm : ByteArray) (cs : List C) (l : List V) (vk vN : Int) (vs : ByteArray) (lo1 lo2 : Nat) (w : World) (h1 : HasCols w lo1 A1 cs) (h2 : HasV w lo2 A2 l) (hm : cs.length = m) (hm2 : l.length = m2) (hcp : m ≤ cp) (hn : nm.size ≤ 9223372036854775807) (h9 : m ≤ 9223372036854775807) (h9' : m2 ≤ 9223372036854775807) (hvs : vs.size ≤ 9223372036854775807) (hok : ∀ (j : Nat) (c : C), cs[j]? = some c → c.Ok) (hok2 : ∀ (j : Nat) (a : V), l[j]? = some a → a.s.size ≤ 9223372036854775807) :
    Calls Try.prog 6 #[.agg #[.string nm, .slice A1 m cp], .slice A2 m2 cp2, .agg #[.int .i64 vk, .int .i64 vN, .string vs]] w fun e w' => e = .returned (.bool true) ∧ Below w.heap.size w w' := by
  have hF : Tt w w.heap.size (w.heap.size + 1) lo1 lo2 nm A1 A2 m cp cs l vk vN vs ((w.alloc (.cells #[.string nm, .slice A1 m cp] 24)).alloc (.cells #[.int .i64 vk, .int .i64 vN, .string vs] 34)) := by
    have hT : Tel w w.heap.size lo1 lo2 nm A1 A2 m cp cs l _ := Tel.new h1 h2
    have hy := Box3.new (w.alloc (.cells #[.string nm, .slice A1 m cp] 24)) (.int .i64 vk) (.int .i64 vN) (.string vs) 34
    rw [show (w.alloc (.cells #[.string nm, .slice A1 m cp] 24)).heap.size = w.heap.size + 1 by simp] at hy
    exact ⟨hT.below ((Below.refl _ _).alloc (Nat.le_refl _) _), hy⟩
  have HSm := Lib.hid (fun (W : World) (hc : HasV W lo2 A2 l) => small_of hm2 h9' hok2 A2 cp2 lo2 W hc)
  obtain ⟨r, hr⟩ : ∃ r, rightS nm cs = r := ⟨_, rfl⟩
  have HR := Lib.hid (fun (W : World) (hc : HasCols W lo1 A1 cs) => right_of hr hm hn h9 hok A1 cp lo1 W hcp hc)
  obtain ⟨z, hz⟩ : ∃ z, checkE cs l = z := ⟨_, rfl⟩
  have HC := Lib.hid (fun (W : World) (h1 : HasCols W lo1 A1 cs) (h2 : HasV W lo2 A2 l) => check_of hz hm hm2 h9 h9' nm A1 A2 cp cp2 lo1 lo2 W h1 h2)
  have HCx := Lib.hid (fun (q cap gx : Nat) (W : World) (h1 : HasCols W lo1 A1 cs) (h2 : HasV W 0 (some ⟨gx, 0, none⟩) (l.set q ⟨vk, vN, vs⟩)) => check_of (z := checkE cs (l.set q ⟨vk, vN, vs⟩)) rfl hm ((List.length_set ..).trans hm2) h9 h9' nm A1 (some ⟨gx, 0, none⟩) cp cap lo1 0 W h1 h2)
  have HM := Lib.hid hm
  have HM2 := Lib.hid hm2
  have HZ := Lib.hid hz
  have HRR := Lib.hid hr
  have HF := Lib.hid hF
  clear hF hr hz hok hok2 h1 h2 hm hm2
  go_enter Try.func6, Try.ntmps6
  go_wp2_with fail
  have hF := HF.out
  clear HF
  generalize (w.alloc (.cells #[.string nm, .slice A1 m cp] 24)).alloc (.cells #[.int .i64 vk, .int .i64 vN, .string vs] 34) = w1 at hF ⊢
  generalize w.heap.size + 1 = y at hF ⊢
  generalize hgw : w.heap.size = g at hF ⊢
  refine (HSm.out _ hF.r).mono ?_
  rintro e w2 ⟨sm, rfl, hsm, hy⟩
  have hF := hF.below hy
  have c0 := hF.v.c0
  have c1 := hF.v.c1
  have e0 := hF.y.c0
  have e1 := hF.y.c1
  have e2 := hF.y.c2
  clear hy HSm
  cases sm
  · clear hsm
    go_wp2_with fail
    refine (awake_any _).mono ?_
    rintro e y9 ⟨rfl, hy⟩
    have hF := hF.below hy
    clear hy c0 c1 e0 e1 e2
    go_wp2
    go_ret
    subst hgw
    exact ⟨rfl, hF.B⟩
  · have h30 : m2 ≤ 30 := by rw [← HM2.out]; exact (hsm rfl).1
    clear hsm
    by_cases hs : 200 < vs.size
    · go_wp2_with fail
      refine (awake_any _).mono ?_
      rintro e y9 ⟨rfl, hy⟩
      have hF := hF.below hy
      clear hy c0 c1 e0 e1 e2
      go_wp2
      go_ret
      subst hgw
      exact ⟨rfl, hF.B⟩
    · by_cases hm30 : 30 < m
      · go_wp2_with fail
        refine (awake_any _).mono ?_
        rintro e y9 ⟨rfl, hy⟩
        have hF := hF.below hy
        clear hy c0 c1 e0 e1 e2
        go_wp2
        go_ret
        subst hgw
        exact ⟨rfl, hF.B⟩
      · go_wp2_with fail
        refine (HR.out _ hF.c).mono ?_
        rintro e w3 ⟨rfl, hy⟩
        have hF := hF.below hy
        clear hy c0 c1 e0 e1 e2
        have c0 := hF.v.c0
        have c1 := hF.v.c1
        have e0 := hF.y.c0
        have e1 := hF.y.c1
        have e2 := hF.y.c2
        cases r
        · go_wp2_with fail
          refine (awake_any _).mono ?_
          rintro e y9 ⟨rfl, hy⟩
          have hF := hF.below hy
          clear hy c0 c1 e0 e1 e2
          go_wp2
          go_ret
          subst hgw
          exact ⟨rfl, hF.B⟩
        · go_wp2_with fail
          refine (HC.out _ hF.c hF.r).mono ?_
          rintro e w4 ⟨rfl, hy⟩
          have hF := hF.below hy
          clear hy c0 c1 e0 e1 e2 HC HR
          have c0 := hF.v.c0
          have c1 := hF.v.c1
          have e0 := hF.y.c0
          have e1 := hF.y.c1
          have e2 := hF.y.c2
          by_cases hz0 : z = 0
          · subst hz0
            have hmm : m2 = m := by
              have h := (check_ok.1 HZ.out).1
              rw [HM.out, HM2.out] at h
              exact h
            subst hmm
            clear c0 c1 e0 e1 e2
            go_wp2
            go_loopw [7] (fun i wr => ∃ (q : Nat), q ≤ m2 ∧ i = .int .i64 q ∧ Tt w g y lo1 lo2 nm A1 A2 m2 cp cs l vk vN vs wr) (fun i _ => m2 - (intOf i).toNat)
            case atStart => exact ⟨0, Nat.zero_le _, rfl, hF⟩
            case round =>
              clear hF
              obtain ⟨q, hq, rfl, hF⟩ := hrel
              by_cases hlt : q < m2
              · obtain ⟨b1, o1, hA2, hlo1, hlb1, _⟩ := hF.r (fun e => by have := HM2.out; rw [e] at this; simp at this; omega)
                subst hA2
                obtain ⟨i0, hi, hz0, hz1, hz2⟩ := info_parts infoV
                have hownW := World.ownsRow_lit (e := 34) (size := 3) (base := wr.heap.size) wr #[] 0 (Nat.le_refl _) (by unfold maxLen; omega) rfl
                have hFW := hF.below ((Below.refl wr.heap.size wr).alloc (Nat.le_refl _) (.cells #[] 34))
                have hsW : wr.heap.size ≤ (wr.alloc (.cells #[] 34)).heap.size := by simp
                have HW := Lib.hid (And.intro hownW (And.intro hFW hsW))
                have HLN : Hid ((Li.cellsL cellsV l).length = m2 * 3) := Lib.hid (by rw [Li.cellsL_len cellsV_len, HM2.out])
                have HNW := Lib.hid (news_of_list hFW.r)
                have HON := Lib.hid (cellsV_one l)
                clear hownW hFW hsW
                go_wp2_with (at_builtin; refine wpList_append_own _ rfl _ _ 25 rfl wr.heap.size 34 i0 (.agg #[.int .i64 0, .int .i64 0, .string ⟨#[]⟩]) 3 32 Try.underlying25 hi hz0 hz1 hz2 rfl (by decide) (.slice (some ⟨wr.heap.size, 0, none⟩) 0 0) 0 [] rfl HW.out.1 ⟨b1, o1, none⟩ m2 cp2 (Li.cellsL cellsV l) rfl HLN.out HNW.out HON.out (by unfold maxLen; omega) (by omega) HW.out.2.2 ?_)
                intro v5 y5 hown5 hgrow5 _
                obtain ⟨hownW, hFW, hsW⟩ := HW.out
                have hB5 := ((Below.refl wr.heap.size wr).alloc (Nat.le_refl _) (.cells #[] 34)).grown hgrow5 hsW (fun k hk => (hownW.lt k hk).1)
                clear hownW hFW hsW hgrow5 HW HNW HON HLN
                obtain ⟨g5, cap5, rfl, hb5, hlt5⟩ := hown5.form (by omega)
                have hg2 : l[q]? = some (l[q]'(by rw [HM2.out]; exact hlt)) := List.getElem?_eq_getElem _
                generalize (l[q]'(by rw [HM2.out]; exact hlt)) = a at hg2
                have x0 := (hown5.cellAt (q * 3) (by omega)).trans (Li.cellsL_at cellsV_len l q a hg2 0 _ rfl)
                have x1 := (hown5.cellAt (q * 3 + 1) (by omega)).trans (Li.cellsL_at cellsV_len l q a hg2 1 _ rfl)
                have x2 := (hown5.cellAt (q * 3 + 2) (by omega)).trans (Li.cellsL_at cellsV_len l q a hg2 2 _ rfl)
                have xf := fun i => hown5.frozenAt i
                have hX := hasV_set (v := ⟨vk, vN, vs⟩) hown5 HM2.out hlt
                have hF5 := hF.below hB5
                have hF7 := hF.below (((hB5.setCell (p := ⟨g5, q * 3, none⟩) hb5 (.int .i64 vk)).setCell (p := ⟨g5, q * 3 + 1, none⟩) hb5 (.int .i64 vN)).setCell (p := ⟨g5, q * 3 + 2, none⟩) hb5 (.string vs))
                have e0 := hF5.y.c0
                have e1 := hF5.y.c1
                have e2 := hF5.y.c2
                have i1 : (q : Int) < (m2 : Int) := by omega
                have i0' : (0 : Int) ≤ (q : Int) := by omega
                have HX := Lib.hid (And.intro hX hF7)
                clear hX hF7 hF5 hF hown5 hB5
                go_wp2
                obtain ⟨hX, hF⟩ := HX.out
                clear x0 x1 x2 xf e0 e1 e2 HX
                generalize ((y5.setCell ⟨g5, q * 3, none⟩ (.int .i64 vk)).setCell ⟨g5, q * 3 + 1, none⟩ (.int .i64 vN)).setCell ⟨g5, q * 3 + 2, none⟩ (.string vs) = w7 at hX hF ⊢
                have hg1 : cs[q]? = some (cs[q]'(by rw [HM.out]; exact hlt)) := List.getElem?_eq_getElem _
                obtain ⟨b3, o3, rfl, _, _, hcc1⟩ := hF.c (fun e => by have := HM.out; rw [e] at this; simp at this; omega)
                have hD : AtC w7 b3 (o3 + q * 3) _ := hcc1 q _ hg1
                have HT := check_turn (v := ⟨vk, vN, vs⟩) HZ.out (by rw [HM2.out]; exact hlt) hg1
                have HG := fits_good _ ⟨vk, vN, vs⟩ (col_kind HRR.out hg1)
                have HFT := fun W : World => fits_any (cs[q]'(by rw [HM.out]; exact hlt)) ⟨vk, vN, vs⟩ W
                have HRV := fun W : World => Va.refRight_any ⟨vk, vN, vs⟩ W
                have HCX := fun W : World => HCx.out q cap5 g5 W
                have hck0 := col_kind HRR.out hg1
                generalize (cs[q]'(by rw [HM.out]; exact hlt)) = c at hg1 hD HT HG HFT hck0
                generalize checkE cs (l.set q ⟨vk, vN, vs⟩) = zx at HT HCX
                generalize fitsE c ⟨vk, vN, vs⟩ = rf at HT HG HFT
                generalize rightV ⟨vk, vN, vs⟩ = rv at HG HRV
                obtain ⟨nn, ck, cz⟩ := c
                simp only at HG hck0
                have HFT : Hid (∀ W : World, Calls Try.prog 9 #[.agg #[.string nn, .int .i64 ck, .bool cz], .agg #[.int .i64 vk, .int .i64 vN, .string vs]] W fun e w' => e = .returned (.int .i64 rf) ∧ Below W.heap.size W w') := Lib.hid HFT
                have HRV : Hid (∀ W : World, Calls Try.prog 17 #[.agg #[.int .i64 vk, .int .i64 vN, .string vs]] W fun e w' => e = .returned (.bool rv) ∧ Below W.heap.size W w') := Lib.hid HRV
                have HCX := Lib.hid HCX
                have HB : (zx == 0) = (rf == 0) := by
                  rw [Bool.eq_iff_iff, beq_iff_eq, beq_iff_eq]
                  exact HT
                clear hcc1 hg1 HT HCx hg2
                go_wp2_with fail
                cases rv
                · have hrf : (rf == 0) = false := beq_eq_false_iff_ne.2 (fun h => by have := (HG.1 h).1; cases this)
                  have hzx : (zx == 0) = false := HB.trans hrf
                  clear HG HB
                  refine Lex.region_lex (ops := xmops) (calls := xmcalls) xmord (fun W => W.cell? ⟨g, 0, none⟩ = some (.string nm) ∧ W.cell? ⟨g, 1, none⟩ = some (.slice (some ⟨b3, o3, none⟩) m2 cp) ∧ W.cell? ⟨y, 0, none⟩ = some (.int .i64 vk) ∧ W.cell? ⟨y, 1, none⟩ = some (.int .i64 vN) ∧ W.cell? ⟨y, 2, none⟩ = some (.string vs) ∧ W.cell? ⟨b3, o3 + q * 3, none⟩ = some (.string nn) ∧ W.cell? ⟨b3, o3 + q * 3 + 1, none⟩ = some (.int .i64 ck) ∧ W.cell? ⟨b3, o3 + q * 3 + 2, none⟩ = some (.bool cz)) (by kernel_rfl) (by kernel_rfl) xmsel (by kernel_rfl) (by kernel_rfl) xmlex (⟨(hF.below (Below.refl _ _).drew).v.c0, (hF.below (Below.refl _ _).drew).v.c1, (hF.below (Below.refl _ _).drew).y.c0, (hF.below (Below.refl _ _).drew).y.c1, (hF.below (Below.refl _ _).drew).y.c2, (hD.below (Below.refl _ _).drew).1, (hD.below (Below.refl _ _).drew).2.1, (hD.below (Below.refl _ _).drew).2.2⟩) ?_
                  unfold xmord
                  have hX := hX.below (Below.refl _ _).drew (Nat.le_refl _)
                  have hD := hD.below (Below.refl _ _).drew
                  have hF := hF.below (Below.refl _ _).drew
                  refine Lex.step_take (.agg #[.int .i64 vk, .int .i64 vN, .string vs]) xm0 rfl (Lex.want_none rfl) (by intro Wx hSw; (try dsimp only at hSw); go_simp; (try (first | (with_reducible rfl) | assumption | rfl))) ?_
                  simp only [Act.put, List.setIfInBounds_toArray, List.set_cons_zero, List.set_cons_succ]
                  refine Lex.step_call xm1 rfl (Lex.want_none rfl) (fun K hK => ?_)
                  go_simp
                  refine (HRV.out _).mono ?_
                  rintro e y1 ⟨rfl, hy1⟩
                  have hX := hX.below hy1 (Nat.le_refl _)
                  have hD := hD.below hy1
                  have hF := hF.below hy1
                  clear hy1
                  refine hK.out _ _ _ (fun _ h => h) ⟨hF.v.c0, hF.v.c1, hF.y.c0, hF.y.c1, hF.y.c2, hD.1, hD.2.1, hD.2.2⟩ ?_
                  clear hK K
                  try simp only [Act.put, List.setIfInBounds_toArray, List.set_cons_zero, List.set_cons_succ]
                  refine Lex.step_take (.bool false) xm2 rfl (Lex.want_none rfl) (by intro Wx hSw; (try dsimp only at hSw); go_simp; (try (first | (with_reducible rfl) | assumption | rfl))) ?_
                  simp only [Act.put, List.setIfInBounds_toArray, List.set_cons_zero, List.set_cons_succ]
                  refine Lex.step_skip xm3 (Lex.want_some rfl xm2 rfl (b' := false) rfl rfl) ?_
                  simp only [Act.put, List.setIfInBounds_toArray, List.set_cons_zero, List.set_cons_succ]
                  refine Lex.step_skip xm4 (Lex.want_some rfl xm2 rfl (b' := false) rfl rfl) ?_
                  simp only [Act.put, List.setIfInBounds_toArray, List.set_cons_zero, List.set_cons_succ]
                  refine Lex.step_skip xm5 (Lex.want_some rfl xm2 rfl (b' := false) rfl rfl) ?_
                  simp only [Act.put, List.setIfInBounds_toArray, List.set_cons_zero, List.set_cons_succ]
                  refine Lex.step_skip xm6 (Lex.want_some rfl xm2 rfl (b' := false) rfl rfl) ?_
                  simp only [Act.put, List.setIfInBounds_toArray, List.set_cons_zero, List.set_cons_succ]
                  refine Lex.step_skip xm7 (Lex.want_some rfl xm2 rfl (b' := false) rfl rfl) ?_
                  simp only [Act.put, List.setIfInBounds_toArray, List.set_cons_zero, List.set_cons_succ]
                  refine Lex.step_skip xm8 (Lex.want_some rfl xm2 rfl (b' := false) rfl rfl) ?_
                  simp only [Act.put, List.setIfInBounds_toArray, List.set_cons_zero, List.set_cons_succ]
                  refine Lex.step_skip xm9 (Lex.want_some rfl xm2 rfl (b' := false) rfl rfl) ?_
                  simp only [Act.put, List.setIfInBounds_toArray, List.set_cons_zero, List.set_cons_succ]
                  refine Lex.step_skip xm10 (Lex.want_some rfl xm2 rfl (b' := false) rfl rfl) ?_
                  simp only [Act.put, List.setIfInBounds_toArray, List.set_cons_zero, List.set_cons_succ]
                  refine Lex.step_skip xm11 (Lex.want_some rfl xm2 rfl (b' := false) rfl rfl) ?_
                  simp only [Act.put, List.setIfInBounds_toArray, List.set_cons_zero, List.set_cons_succ]
                  refine Lex.step_skip xm12 (Lex.want_some rfl xm2 rfl (b' := false) rfl rfl) ?_
                  simp only [Act.put, List.setIfInBounds_toArray, List.set_cons_zero, List.set_cons_succ]
                  refine Lex.step_skip xm13 (Lex.want_undef rfl xm12 rfl rfl) ?_
                  simp only [Act.put, List.setIfInBounds_toArray, List.set_cons_zero, List.set_cons_succ]
                  refine Lex.step_skip xm14 (Lex.want_undef rfl xm12 rfl rfl) ?_
                  simp only [Act.put, List.setIfInBounds_toArray, List.set_cons_zero, List.set_cons_succ]
                  refine Lex.step_skip xm15 (Lex.want_undef rfl xm12 rfl rfl) ?_
                  simp only [Act.put, List.setIfInBounds_toArray, List.set_cons_zero, List.set_cons_succ]
                  refine Lex.step_skip xm16 (Lex.want_undef rfl xm12 rfl rfl) ?_
                  simp only [Act.put, List.setIfInBounds_toArray, List.set_cons_zero, List.set_cons_succ]
                  refine Lex.step_skip xm17 (Lex.want_undef rfl xm16 rfl rfl) ?_
                  simp only [Act.put, List.setIfInBounds_toArray, List.set_cons_zero, List.set_cons_succ]
                  refine Lex.step_skip xm18 (Lex.want_undef rfl xm16 rfl rfl) ?_
                  simp only [Act.put, List.setIfInBounds_toArray, List.set_cons_zero, List.set_cons_succ]
                  refine Lex.step_skip xm19 (Lex.want_undef rfl xm16 rfl rfl) ?_
                  simp only [Act.put, List.setIfInBounds_toArray, List.set_cons_zero, List.set_cons_succ]
                  refine Lex.step_skip xm20 (Lex.want_undef rfl xm16 rfl rfl) ?_
                  simp only [Act.put, List.setIfInBounds_toArray, List.set_cons_zero, List.set_cons_succ]
                  refine Lex.step_skip xm21 (Lex.want_undef rfl xm16 rfl rfl) ?_
                  simp only [Act.put, List.setIfInBounds_toArray, List.set_cons_zero, List.set_cons_succ]
                  refine Lex.step_skip xm22 (Lex.want_undef rfl xm16 rfl rfl) ?_
                  simp only [Act.put, List.setIfInBounds_toArray, List.set_cons_zero, List.set_cons_succ]
                  refine Lex.step_skip xm23 (Lex.want_undef rfl xm12 rfl rfl) ?_
                  simp only [Act.put, List.setIfInBounds_toArray, List.set_cons_zero, List.set_cons_succ]
                  refine Lex.step_skip xm24 (Lex.want_some rfl xm2 rfl (b' := false) rfl rfl) ?_
                  simp only [Act.put, List.setIfInBounds_toArray, List.set_cons_zero, List.set_cons_succ]
                  refine Lex.step_take (.bool false) xm25 rfl (Lex.want_none rfl) (by intro Wx hSw; (try dsimp only at hSw); go_simp; (try (first | (with_reducible rfl) | assumption | rfl))) ?_
                  simp only [Act.put, List.setIfInBounds_toArray, List.set_cons_zero, List.set_cons_succ]
                  refine Lex.step_take (.bool false) xm26 rfl (Lex.want_none rfl) (by intro Wx hSw; (try dsimp only at hSw); go_simp; (try (first | (with_reducible rfl) | assumption | rfl))) ?_
                  simp only [Act.put, List.setIfInBounds_toArray, List.set_cons_zero, List.set_cons_succ]
                  refine NoPanic.normal ?_
                  clear HRV
                  go_wp2_with fail
                  refine Lex.region_lex (ops := xnops) (calls := xncalls) xnord (fun W => W.cell? ⟨g, 0, none⟩ = some (.string nm) ∧ W.cell? ⟨g, 1, none⟩ = some (.slice (some ⟨b3, o3, none⟩) m2 cp) ∧ W.cell? ⟨y, 0, none⟩ = some (.int .i64 vk) ∧ W.cell? ⟨y, 1, none⟩ = some (.int .i64 vN) ∧ W.cell? ⟨y, 2, none⟩ = some (.string vs) ∧ W.cell? ⟨b3, o3 + q * 3, none⟩ = some (.string nn) ∧ W.cell? ⟨b3, o3 + q * 3 + 1, none⟩ = some (.int .i64 ck) ∧ W.cell? ⟨b3, o3 + q * 3 + 2, none⟩ = some (.bool cz)) (by kernel_rfl) (by kernel_rfl) xnsel (by kernel_rfl) (by kernel_rfl) xnlex (⟨(hF.below (Below.refl _ _).drew).v.c0, (hF.below (Below.refl _ _).drew).v.c1, (hF.below (Below.refl _ _).drew).y.c0, (hF.below (Below.refl _ _).drew).y.c1, (hF.below (Below.refl _ _).drew).y.c2, (hD.below (Below.refl _ _).drew).1, (hD.below (Below.refl _ _).drew).2.1, (hD.below (Below.refl _ _).drew).2.2⟩) ?_
                  unfold xnord
                  have hX := hX.below (Below.refl _ _).drew (Nat.le_refl _)
                  have hD := hD.below (Below.refl _ _).drew
                  have hF := hF.below (Below.refl _ _).drew
                  refine Lex.step_take (.agg #[.string nm, .slice (some ⟨b3, o3, none⟩) m2 cp]) xn0 rfl (Lex.want_none rfl) (by intro Wx hSw; (try dsimp only at hSw); go_simp; (try (first | (with_reducible rfl) | assumption | rfl))) ?_
                  simp only [Act.put, List.setIfInBounds_toArray, List.set_cons_zero, List.set_cons_succ]
                  refine Lex.step_take (.slice (some ⟨g5, 0, none⟩) m2 cap5) xn1 rfl (Lex.want_none rfl) (by intro Wx hSw; (try dsimp only at hSw); go_simp; (try (first | (with_reducible rfl) | assumption | rfl))) ?_
                  simp only [Act.put, List.setIfInBounds_toArray, List.set_cons_zero, List.set_cons_succ]
                  refine Lex.step_take (.bool false) xn4 rfl (Lex.want_none rfl) (by intro Wx hSw; (try dsimp only at hSw); go_simp; (try (first | (with_reducible rfl) | assumption | rfl))) ?_
                  simp only [Act.put, List.setIfInBounds_toArray, List.set_cons_zero, List.set_cons_succ]
                  refine Lex.step_call xn2 rfl (Lex.want_none rfl) (fun K hK => ?_)
                  go_simp
                  refine (HCX.out _ hF.c hX).mono ?_
                  rintro e y1 ⟨rfl, hy1⟩
                  have hX := hX.below hy1 (Nat.le_refl _)
                  have hD := hD.below hy1
                  have hF := hF.below hy1
                  clear hy1
                  refine hK.out _ _ _ (fun _ h => h) ⟨hF.v.c0, hF.v.c1, hF.y.c0, hF.y.c1, hF.y.c2, hD.1, hD.2.1, hD.2.2⟩ ?_
                  clear hK K
                  try simp only [Act.put, List.setIfInBounds_toArray, List.set_cons_zero, List.set_cons_succ]
                  refine Lex.step_take (.bool false) xn3 rfl (Lex.want_none rfl) (by intro Wx hSw; (try dsimp only at hSw); go_simp; (try (first | (with_reducible rfl) | assumption | rfl))) ?_
                  simp only [Act.put, List.setIfInBounds_toArray, List.set_cons_zero, List.set_cons_succ]
                  refine Lex.step_take (.bool false) xn5 rfl (Lex.want_none rfl) (by intro Wx hSw; (try dsimp only at hSw); go_simp; (try (first | (with_reducible rfl) | assumption | rfl))) ?_
                  simp only [Act.put, List.setIfInBounds_toArray, List.set_cons_zero, List.set_cons_succ]
                  refine Lex.step_take (.bool false) xn6 rfl (Lex.want_none rfl) (by intro Wx hSw; (try dsimp only at hSw); go_simp; (try (first | (with_reducible rfl) | assumption | rfl))) ?_
                  simp only [Act.put, List.setIfInBounds_toArray, List.set_cons_zero, List.set_cons_succ]
                  refine Lex.step_take (.pointer (some ⟨g, 1, none⟩)) xn7 rfl (Lex.want_some rfl xn6 rfl (b' := false) rfl rfl) (by intro Wx hSw; (try dsimp only at hSw); go_simp; (try (first | (with_reducible rfl) | assumption | rfl))) ?_
                  simp only [Act.put, List.setIfInBounds_toArray, List.set_cons_zero, List.set_cons_succ]
                  refine Lex.step_take (.slice (some ⟨b3, o3, none⟩) m2 cp) xn8 rfl (Lex.want_some rfl xn6 rfl (b' := false) rfl rfl) (by intro Wx hSw; (try dsimp only at hSw); go_simp; (try (first | (with_reducible rfl) | assumption | rfl))) ?_
                  simp only [Act.put, List.setIfInBounds_toArray, List.set_cons_zero, List.set_cons_succ]
                  refine Lex.step_take (.int .i64 q) xn9 rfl (Lex.want_some rfl xn6 rfl (b' := false) rfl rfl) (by intro Wx hSw; (try dsimp only at hSw); go_simp; (try (first | (with_reducible rfl) | assumption | rfl))) ?_
                  simp only [Act.put, List.setIfInBounds_toArray, List.set_cons_zero, List.set_cons_succ]
                  refine Lex.step_take (.pointer (some ⟨b3, o3 + q * 3, none⟩)) xn10 rfl (Lex.want_some rfl xn6 rfl (b' := false) rfl rfl) (by intro Wx hSw; (try dsimp only at hSw); go_simp; (try (first | (with_reducible rfl) | assumption | rfl))) ?_
                  simp only [Act.put, List.setIfInBounds_toArray, List.set_cons_zero, List.set_cons_succ]
                  refine Lex.step_take (.agg #[.string nn, .int .i64 ck, .bool cz]) xn11 rfl (Lex.want_some rfl xn6 rfl (b' := false) rfl rfl) (by intro Wx hSw; (try dsimp only at hSw); go_simp; (try (first | (with_reducible rfl) | assumption | rfl))) ?_
                  simp only [Act.put, List.setIfInBounds_toArray, List.set_cons_zero, List.set_cons_succ]
                  refine Lex.step_take (.agg #[.int .i64 vk, .int .i64 vN, .string vs]) xn12 rfl (Lex.want_some rfl xn6 rfl (b' := false) rfl rfl) (by intro Wx hSw; (try dsimp only at hSw); go_simp; (try (first | (with_reducible rfl) | assumption | rfl))) ?_
                  simp only [Act.put, List.setIfInBounds_toArray, List.set_cons_zero, List.set_cons_succ]
                  refine Lex.step_take (.bool false) xn15 rfl (Lex.want_some rfl xn6 rfl (b' := false) rfl rfl) (by intro Wx hSw; (try dsimp only at hSw); go_simp; (try (first | (with_reducible rfl) | assumption | rfl))) ?_
                  simp only [Act.put, List.setIfInBounds_toArray, List.set_cons_zero, List.set_cons_succ]
                  refine Lex.step_call xn13 rfl (Lex.want_some rfl xn6 rfl (b' := false) rfl rfl) (fun K hK => ?_)
                  go_simp
                  refine (HFT.out _).mono ?_
                  rintro e y1 ⟨rfl, hy1⟩
                  have hX := hX.below hy1 (Nat.le_refl _)
                  have hD := hD.below hy1
                  have hF := hF.below hy1
                  clear hy1
                  refine hK.out _ _ _ (fun _ h => h) ⟨hF.v.c0, hF.v.c1, hF.y.c0, hF.y.c1, hF.y.c2, hD.1, hD.2.1, hD.2.2⟩ ?_
                  clear hK K
                  try simp only [Act.put, List.setIfInBounds_toArray, List.set_cons_zero, List.set_cons_succ]
                  refine Lex.step_take (.bool false) xn14 rfl (Lex.want_some rfl xn6 rfl (b' := false) rfl rfl) (by intro Wx hSw; (try dsimp only at hSw); go_simp; (try (first | (with_reducible rfl) | assumption | rfl))) ?_
                  simp only [Act.put, List.setIfInBounds_toArray, List.set_cons_zero, List.set_cons_succ]
                  refine Lex.step_take (.bool false) xn16 rfl (Lex.want_some rfl xn6 rfl (b' := false) rfl rfl) (by intro Wx hSw; (try dsimp only at hSw); go_simp; (try (first | (with_reducible rfl) | assumption | rfl))) ?_
                  simp only [Act.put, List.setIfInBounds_toArray, List.set_cons_zero, List.set_cons_succ]
                  refine Lex.step_take (.bool false) xn17 rfl (Lex.want_none rfl) (by intro Wx hSw; (try dsimp only at hSw); go_simp; (try (first | (with_reducible rfl) | assumption | rfl))) ?_
                  simp only [Act.put, List.setIfInBounds_toArray, List.set_cons_zero, List.set_cons_succ]
                  refine NoPanic.normal ?_
                  go_wp2
                  go_roundw
                  case rel => exact ⟨q + 1, by omega, by go_num, hF⟩
                  case measure => simp [intOf]; omega
                · by_cases hk : vk = ck
                  · subst hk
                    have hrf : (rf == 0) = true := beq_iff_eq.2 (HG.2 ⟨rfl, Or.inl rfl⟩)
                    have hzx : (zx == 0) = true := HB.trans hrf
                    clear HG HB
                    refine Lex.region_lex (ops := xmops) (calls := xmcalls) xmord (fun W => W.cell? ⟨g, 0, none⟩ = some (.string nm) ∧ W.cell? ⟨g, 1, none⟩ = some (.slice (some ⟨b3, o3, none⟩) m2 cp) ∧ W.cell? ⟨y, 0, none⟩ = some (.int .i64 vk) ∧ W.cell? ⟨y, 1, none⟩ = some (.int .i64 vN) ∧ W.cell? ⟨y, 2, none⟩ = some (.string vs) ∧ W.cell? ⟨b3, o3 + q * 3, none⟩ = some (.string nn) ∧ W.cell? ⟨b3, o3 + q * 3 + 1, none⟩ = some (.int .i64 vk) ∧ W.cell? ⟨b3, o3 + q * 3 + 2, none⟩ = some (.bool cz)) (by kernel_rfl) (by kernel_rfl) xmsel (by kernel_rfl) (by kernel_rfl) xmlex (⟨(hF.below (Below.refl _ _).drew).v.c0, (hF.below (Below.refl _ _).drew).v.c1, (hF.below (Below.refl _ _).drew).y.c0, (hF.below (Below.refl _ _).drew).y.c1, (hF.below (Below.refl _ _).drew).y.c2, (hD.below (Below.refl _ _).drew).1, (hD.below (Below.refl _ _).drew).2.1, (hD.below (Below.refl _ _).drew).2.2⟩) ?_
                    unfold xmord
                    have hX := hX.below (Below.refl _ _).drew (Nat.le_refl _)
                    have hD := hD.below (Below.refl _ _).drew
                    have hF := hF.below (Below.refl _ _).drew
                    refine Lex.step_take (.agg #[.int .i64 vk, .int .i64 vN, .string vs]) xm0 rfl (Lex.want_none rfl) (by intro Wx hSw; (try dsimp only at hSw); go_simp; (try (first | (with_reducible rfl) | assumption | rfl))) ?_
                    simp only [Act.put, List.setIfInBounds_toArray, List.set_cons_zero, List.set_cons_succ]
                    refine Lex.step_call xm1 rfl (Lex.want_none rfl) (fun K hK => ?_)
                    go_simp
                    refine (HRV.out _).mono ?_
                    rintro e y1 ⟨rfl, hy1⟩
                    have hX := hX.below hy1 (Nat.le_refl _)
                    have hD := hD.below hy1
                    have hF := hF.below hy1
                    clear hy1
                    refine hK.out _ _ _ (fun _ h => h) ⟨hF.v.c0, hF.v.c1, hF.y.c0, hF.y.c1, hF.y.c2, hD.1, hD.2.1, hD.2.2⟩ ?_
                    clear hK K
                    try simp only [Act.put, List.setIfInBounds_toArray, List.set_cons_zero, List.set_cons_succ]
                    refine Lex.step_take (.bool true) xm2 rfl (Lex.want_none rfl) (by intro Wx hSw; (try dsimp only at hSw); go_simp; (try (first | (with_reducible rfl) | assumption | rfl))) ?_
                    simp only [Act.put, List.setIfInBounds_toArray, List.set_cons_zero, List.set_cons_succ]
                    refine Lex.step_take (.pointer (some ⟨y, 0, none⟩)) xm3 rfl (Lex.want_some rfl xm2 rfl (b' := true) rfl rfl) (by intro Wx hSw; (try dsimp only at hSw); go_simp; (try (first | (with_reducible rfl) | assumption | rfl))) ?_
                    simp only [Act.put, List.setIfInBounds_toArray, List.set_cons_zero, List.set_cons_succ]
                    refine Lex.step_take (.int .i64 vk) xm4 rfl (Lex.want_some rfl xm2 rfl (b' := true) rfl rfl) (by intro Wx hSw; (try dsimp only at hSw); go_simp; (try (first | (with_reducible rfl) | assumption | rfl))) ?_
                    simp only [Act.put, List.setIfInBounds_toArray, List.set_cons_zero, List.set_cons_succ]
                    refine Lex.step_take (.pointer (some ⟨g, 1, none⟩)) xm5 rfl (Lex.want_some rfl xm2 rfl (b' := true) rfl rfl) (by intro Wx hSw; (try dsimp only at hSw); go_simp; (try (first | (with_reducible rfl) | assumption | rfl))) ?_
                    simp only [Act.put, List.setIfInBounds_toArray, List.set_cons_zero, List.set_cons_succ]
                    refine Lex.step_take (.slice (some ⟨b3, o3, none⟩) m2 cp) xm6 rfl (Lex.want_some rfl xm2 rfl (b' := true) rfl rfl) (by intro Wx hSw; (try dsimp only at hSw); go_simp; (try (first | (with_reducible rfl) | assumption | rfl))) ?_
                    simp only [Act.put, List.setIfInBounds_toArray, List.set_cons_zero, List.set_cons_succ]
                    refine Lex.step_take (.int .i64 q) xm7 rfl (Lex.want_some rfl xm2 rfl (b' := true) rfl rfl) (by intro Wx hSw; (try dsimp only at hSw); go_simp; (try (first | (with_reducible rfl) | assumption | rfl))) ?_
                    simp only [Act.put, List.setIfInBounds_toArray, List.set_cons_zero, List.set_cons_succ]
                    refine Lex.step_take (.pointer (some ⟨b3, o3 + q * 3, none⟩)) xm8 rfl (Lex.want_some rfl xm2 rfl (b' := true) rfl rfl) (by intro Wx hSw; (try dsimp only at hSw); go_simp; (try (first | (with_reducible rfl) | assumption | rfl))) ?_
                    simp only [Act.put, List.setIfInBounds_toArray, List.set_cons_zero, List.set_cons_succ]
                    refine Lex.step_take (.pointer (some ⟨b3, o3 + q * 3 + 1, none⟩)) xm9 rfl (Lex.want_some rfl xm2 rfl (b' := true) rfl rfl) (by intro Wx hSw; (try dsimp only at hSw); go_simp; (try (first | (with_reducible rfl) | assumption | rfl))) ?_
                    simp only [Act.put, List.setIfInBounds_toArray, List.set_cons_zero, List.set_cons_succ]
                    refine Lex.step_take (.int .i64 vk) xm10 rfl (Lex.want_some rfl xm2 rfl (b' := true) rfl rfl) (by intro Wx hSw; (try dsimp only at hSw); go_simp; (try (first | (with_reducible rfl) | assumption | rfl))) ?_
                    simp only [Act.put, List.setIfInBounds_toArray, List.set_cons_zero, List.set_cons_succ]
                    refine Lex.step_take (.bool true) xm11 rfl (Lex.want_some rfl xm2 rfl (b' := true) rfl rfl) (by intro Wx hSw; (try dsimp only at hSw); go_simp; (try (first | (with_reducible rfl) | assumption | rfl))) ?_
                    simp only [Act.put, List.setIfInBounds_toArray, List.set_cons_zero, List.set_cons_succ]
                    refine Lex.step_take (.bool true) xm12 rfl (Lex.want_some rfl xm2 rfl (b' := true) rfl rfl) (by intro Wx hSw; (try dsimp only at hSw); go_simp; (try (first | (with_reducible rfl) | assumption | rfl))) ?_
                    simp only [Act.put, List.setIfInBounds_toArray, List.set_cons_zero, List.set_cons_succ]
                    refine Lex.step_skip xm13 (Lex.want_some rfl xm12 rfl (b' := true) rfl rfl) ?_
                    simp only [Act.put, List.setIfInBounds_toArray, List.set_cons_zero, List.set_cons_succ]
                    refine Lex.step_skip xm14 (Lex.want_some rfl xm12 rfl (b' := true) rfl rfl) ?_
                    simp only [Act.put, List.setIfInBounds_toArray, List.set_cons_zero, List.set_cons_succ]
                    refine Lex.step_skip xm15 (Lex.want_some rfl xm12 rfl (b' := true) rfl rfl) ?_
                    simp only [Act.put, List.setIfInBounds_toArray, List.set_cons_zero, List.set_cons_succ]
                    refine Lex.step_skip xm16 (Lex.want_some rfl xm12 rfl (b' := true) rfl rfl) ?_
                    simp only [Act.put, List.setIfInBounds_toArray, List.set_cons_zero, List.set_cons_succ]
                    refine Lex.step_skip xm17 (Lex.want_undef rfl xm16 rfl rfl) ?_
                    simp only [Act.put, List.setIfInBounds_toArray, List.set_cons_zero, List.set_cons_succ]
                    refine Lex.step_skip xm18 (Lex.want_undef rfl xm16 rfl rfl) ?_
                    simp only [Act.put, List.setIfInBounds_toArray, List.set_cons_zero, List.set_cons_succ]
                    refine Lex.step_skip xm19 (Lex.want_undef rfl xm16 rfl rfl) ?_
                    simp only [Act.put, List.setIfInBounds_toArray, List.set_cons_zero, List.set_cons_succ]
                    refine Lex.step_skip xm20 (Lex.want_undef rfl xm16 rfl rfl) ?_
                    simp only [Act.put, List.setIfInBounds_toArray, List.set_cons_zero, List.set_cons_succ]
                    refine Lex.step_skip xm21 (Lex.want_undef rfl xm16 rfl rfl) ?_
                    simp only [Act.put, List.setIfInBounds_toArray, List.set_cons_zero, List.set_cons_succ]
                    refine Lex.step_skip xm22 (Lex.want_undef rfl xm16 rfl rfl) ?_
                    simp only [Act.put, List.setIfInBounds_toArray, List.set_cons_zero, List.set_cons_succ]
                    refine Lex.step_skip xm23 (Lex.want_some rfl xm12 rfl (b' := true) rfl rfl) ?_
                    simp only [Act.put, List.setIfInBounds_toArray, List.set_cons_zero, List.set_cons_succ]
                    refine Lex.step_take (.bool true) xm24 rfl (Lex.want_some rfl xm2 rfl (b' := true) rfl rfl) (by intro Wx hSw; (try dsimp only at hSw); go_simp; (try (first | (with_reducible rfl) | assumption | rfl))) ?_
                    simp only [Act.put, List.setIfInBounds_toArray, List.set_cons_zero, List.set_cons_succ]
                    refine Lex.step_take (.bool true) xm25 rfl (Lex.want_none rfl) (by intro Wx hSw; (try dsimp only at hSw); go_simp; (try (first | (with_reducible rfl) | assumption | rfl))) ?_
                    simp only [Act.put, List.setIfInBounds_toArray, List.set_cons_zero, List.set_cons_succ]
                    refine Lex.step_take (.bool true) xm26 rfl (Lex.want_none rfl) (by intro Wx hSw; (try dsimp only at hSw); go_simp; (try (first | (with_reducible rfl) | assumption | rfl))) ?_
                    simp only [Act.put, List.setIfInBounds_toArray, List.set_cons_zero, List.set_cons_succ]
                    refine NoPanic.normal ?_
                    clear HRV
                    go_wp2_with fail
                    refine Lex.region_lex (ops := xnops) (calls := xncalls) xnord (fun W => W.cell? ⟨g, 0, none⟩ = some (.string nm) ∧ W.cell? ⟨g, 1, none⟩ = some (.slice (some ⟨b3, o3, none⟩) m2 cp) ∧ W.cell? ⟨y, 0, none⟩ = some (.int .i64 vk) ∧ W.cell? ⟨y, 1, none⟩ = some (.int .i64 vN) ∧ W.cell? ⟨y, 2, none⟩ = some (.string vs) ∧ W.cell? ⟨b3, o3 + q * 3, none⟩ = some (.string nn) ∧ W.cell? ⟨b3, o3 + q * 3 + 1, none⟩ = some (.int .i64 vk) ∧ W.cell? ⟨b3, o3 + q * 3 + 2, none⟩ = some (.bool cz)) (by kernel_rfl) (by kernel_rfl) xnsel (by kernel_rfl) (by kernel_rfl) xnlex (⟨(hF.below (Below.refl _ _).drew).v.c0, (hF.below (Below.refl _ _).drew).v.c1, (hF.below (Below.refl _ _).drew).y.c0, (hF.below (Below.refl _ _).drew).y.c1, (hF.below (Below.refl _ _).drew).y.c2, (hD.below (Below.refl _ _).drew).1, (hD.below (Below.refl _ _).drew).2.1, (hD.below (Below.refl _ _).drew).2.2⟩) ?_
                    unfold xnord
                    have hX := hX.below (Below.refl _ _).drew (Nat.le_refl _)
                    have hD := hD.below (Below.refl _ _).drew
                    have hF := hF.below (Below.refl _ _).drew
                    refine Lex.step_take (.agg #[.string nm, .slice (some ⟨b3, o3, none⟩) m2 cp]) xn0 rfl (Lex.want_none rfl) (by intro Wx hSw; (try dsimp only at hSw); go_simp; (try (first | (with_reducible rfl) | assumption | rfl))) ?_
                    simp only [Act.put, List.setIfInBounds_toArray, List.set_cons_zero, List.set_cons_succ]
                    refine Lex.step_take (.slice (some ⟨g5, 0, none⟩) m2 cap5) xn1 rfl (Lex.want_none rfl) (by intro Wx hSw; (try dsimp only at hSw); go_simp; (try (first | (with_reducible rfl) | assumption | rfl))) ?_
                    simp only [Act.put, List.setIfInBounds_toArray, List.set_cons_zero, List.set_cons_succ]
                    refine Lex.step_take (.bool true) xn4 rfl (Lex.want_none rfl) (by intro Wx hSw; (try dsimp only at hSw); go_simp; (try (first | (with_reducible rfl) | assumption | rfl))) ?_
                    simp only [Act.put, List.setIfInBounds_toArray, List.set_cons_zero, List.set_cons_succ]
                    refine Lex.step_call xn2 rfl (Lex.want_none rfl) (fun K hK => ?_)
                    go_simp
                    refine (HCX.out _ hF.c hX).mono ?_
                    rintro e y1 ⟨rfl, hy1⟩
                    have hX := hX.below hy1 (Nat.le_refl _)
                    have hD := hD.below hy1
                    have hF := hF.below hy1
                    clear hy1
                    refine hK.out _ _ _ (fun _ h => h) ⟨hF.v.c0, hF.v.c1, hF.y.c0, hF.y.c1, hF.y.c2, hD.1, hD.2.1, hD.2.2⟩ ?_
                    clear hK K
                    try simp only [Act.put, List.setIfInBounds_toArray, List.set_cons_zero, List.set_cons_succ]
                    refine Lex.step_take (.bool true) xn3 rfl (Lex.want_none rfl) (by intro Wx hSw; (try dsimp only at hSw); go_simp; (try (first | (with_reducible rfl) | assumption | rfl))) ?_
                    simp only [Act.put, List.setIfInBounds_toArray, List.set_cons_zero, List.set_cons_succ]
                    refine Lex.step_take (.bool false) xn5 rfl (Lex.want_none rfl) (by intro Wx hSw; (try dsimp only at hSw); go_simp; (try (first | (with_reducible rfl) | assumption | rfl))) ?_
                    simp only [Act.put, List.setIfInBounds_toArray, List.set_cons_zero, List.set_cons_succ]
                    refine Lex.step_take (.bool false) xn6 rfl (Lex.want_none rfl) (by intro Wx hSw; (try dsimp only at hSw); go_simp; (try (first | (with_reducible rfl) | assumption | rfl))) ?_
                    simp only [Act.put, List.setIfInBounds_toArray, List.set_cons_zero, List.set_cons_succ]
                    refine Lex.step_take (.pointer (some ⟨g, 1, none⟩)) xn7 rfl (Lex.want_some rfl xn6 rfl (b' := false) rfl rfl) (by intro Wx hSw; (try dsimp only at hSw); go_simp; (try (first | (with_reducible rfl) | assumption | rfl))) ?_
                    simp only [Act.put, List.setIfInBounds_toArray, List.set_cons_zero, List.set_cons_succ]
                    refine Lex.step_take (.slice (some ⟨b3, o3, none⟩) m2 cp) xn8 rfl (Lex.want_some rfl xn6 rfl (b' := false) rfl rfl) (by intro Wx hSw; (try dsimp only at hSw); go_simp; (try (first | (with_reducible rfl) | assumption | rfl))) ?_
                    simp only [Act.put, List.setIfInBounds_toArray, List.set_cons_zero, List.set_cons_succ]
                    refine Lex.step_take (.int .i64 q) xn9 rfl (Lex.want_some rfl xn6 rfl (b' := false) rfl rfl) (by intro Wx hSw; (try dsimp only at hSw); go_simp; (try (first | (with_reducible rfl) | assumption | rfl))) ?_
                    simp only [Act.put, List.setIfInBounds_toArray, List.set_cons_zero, List.set_cons_succ]
                    refine Lex.step_take (.pointer (some ⟨b3, o3 + q * 3, none⟩)) xn10 rfl (Lex.want_some rfl xn6 rfl (b' := false) rfl rfl) (by intro Wx hSw; (try dsimp only at hSw); go_simp; (try (first | (with_reducible rfl) | assumption | rfl))) ?_
                    simp only [Act.put, List.setIfInBounds_toArray, List.set_cons_zero, List.set_cons_succ]
                    refine Lex.step_take (.agg #[.string nn, .int .i64 vk, .bool cz]) xn11 rfl (Lex.want_some rfl xn6 rfl (b' := false) rfl rfl) (by intro Wx hSw; (try dsimp only at hSw); go_simp; (try (first | (with_reducible rfl) | assumption | rfl))) ?_
                    simp only [Act.put, List.setIfInBounds_toArray, List.set_cons_zero, List.set_cons_succ]
                    refine Lex.step_take (.agg #[.int .i64 vk, .int .i64 vN, .string vs]) xn12 rfl (Lex.want_some rfl xn6 rfl (b' := false) rfl rfl) (by intro Wx hSw; (try dsimp only at hSw); go_simp; (try (first | (with_reducible rfl) | assumption | rfl))) ?_
                    simp only [Act.put, List.setIfInBounds_toArray, List.set_cons_zero, List.set_cons_succ]
                    refine Lex.step_take (.bool true) xn15 rfl (Lex.want_some rfl xn6 rfl (b' := false) rfl rfl) (by intro Wx hSw; (try dsimp only at hSw); go_simp; (try (first | (with_reducible rfl) | assumption | rfl))) ?_
                    simp only [Act.put, List.setIfInBounds_toArray, List.set_cons_zero, List.set_cons_succ]
                    refine Lex.step_call xn13 rfl (Lex.want_some rfl xn6 rfl (b' := false) rfl rfl) (fun K hK => ?_)
                    go_simp
                    refine (HFT.out _).mono ?_
                    rintro e y1 ⟨rfl, hy1⟩
                    have hX := hX.below hy1 (Nat.le_refl _)
                    have hD := hD.below hy1
                    have hF := hF.below hy1
                    clear hy1
                    refine hK.out _ _ _ (fun _ h => h) ⟨hF.v.c0, hF.v.c1, hF.y.c0, hF.y.c1, hF.y.c2, hD.1, hD.2.1, hD.2.2⟩ ?_
                    clear hK K
                    try simp only [Act.put, List.setIfInBounds_toArray, List.set_cons_zero, List.set_cons_succ]
                    refine Lex.step_take (.bool true) xn14 rfl (Lex.want_some rfl xn6 rfl (b' := false) rfl rfl) (by intro Wx hSw; (try dsimp only at hSw); go_simp; (try (first | (with_reducible rfl) | assumption | rfl))) ?_
                    simp only [Act.put, List.setIfInBounds_toArray, List.set_cons_zero, List.set_cons_succ]
                    refine Lex.step_take (.bool false) xn16 rfl (Lex.want_some rfl xn6 rfl (b' := false) rfl rfl) (by intro Wx hSw; (try dsimp only at hSw); go_simp; (try (first | (with_reducible rfl) | assumption | rfl))) ?_
                    simp only [Act.put, List.setIfInBounds_toArray, List.set_cons_zero, List.set_cons_succ]
                    refine Lex.step_take (.bool false) xn17 rfl (Lex.want_none rfl) (by intro Wx hSw; (try dsimp only at hSw); go_simp; (try (first | (with_reducible rfl) | assumption | rfl))) ?_
                    simp only [Act.put, List.setIfInBounds_toArray, List.set_cons_zero, List.set_cons_succ]
                    refine NoPanic.normal ?_
                    go_wp2
                    go_roundw
                    case rel => exact ⟨q + 1, by omega, by go_num, hF⟩
                    case measure => simp [intOf]; omega
                  · have hkb : (vk == ck) = false := beq_eq_false_iff_ne.2 hk
                    by_cases hk0 : vk = 0
                    · subst hk0
                      cases cz
                      · have hrf : (rf == 0) = false := beq_eq_false_iff_ne.2 (fun h => by
                          rcases (HG.1 h).2 with h | h
                          · exact hk h
                          · cases h.2)
                        have hzx : (zx == 0) = false := HB.trans hrf
                        clear HG HB
                        refine Lex.region_lex (ops := xmops) (calls := xmcalls) xmord (fun W => W.cell? ⟨g, 0, none⟩ = some (.string nm) ∧ W.cell? ⟨g, 1, none⟩ = some (.slice (some ⟨b3, o3, none⟩) m2 cp) ∧ W.cell? ⟨y, 0, none⟩ = some (.int .i64 0) ∧ W.cell? ⟨y, 1, none⟩ = some (.int .i64 vN) ∧ W.cell? ⟨y, 2, none⟩ = some (.string vs) ∧ W.cell? ⟨b3, o3 + q * 3, none⟩ = some (.string nn) ∧ W.cell? ⟨b3, o3 + q * 3 + 1, none⟩ = some (.int .i64 ck) ∧ W.cell? ⟨b3, o3 + q * 3 + 2, none⟩ = some (.bool false)) (by kernel_rfl) (by kernel_rfl) xmsel (by kernel_rfl) (by kernel_rfl) xmlex (⟨(hF.below (Below.refl _ _).drew).v.c0, (hF.below (Below.refl _ _).drew).v.c1, (hF.below (Below.refl _ _).drew).y.c0, (hF.below (Below.refl _ _).drew).y.c1, (hF.below (Below.refl _ _).drew).y.c2, (hD.below (Below.refl _ _).drew).1, (hD.below (Below.refl _ _).drew).2.1, (hD.below (Below.refl _ _).drew).2.2⟩) ?_
                        unfold xmord
                        have hX := hX.below (Below.refl _ _).drew (Nat.le_refl _)
                        have hD := hD.below (Below.refl _ _).drew
                        have hF := hF.below (Below.refl _ _).drew
                        refine Lex.step_take (.agg #[.int .i64 0, .int .i64 vN, .string vs]) xm0 rfl (Lex.want_none rfl) (by intro Wx hSw; (try dsimp only at hSw); go_simp; (try (first | (with_reducible rfl) | assumption | rfl))) ?_
                        simp only [Act.put, List.setIfInBounds_toArray, List.set_cons_zero, List.set_cons_succ]
                        refine Lex.step_call xm1 rfl (Lex.want_none rfl) (fun K hK => ?_)
                        go_simp
                        refine (HRV.out _).mono ?_
                        rintro e y1 ⟨rfl, hy1⟩
                        have hX := hX.below hy1 (Nat.le_refl _)
                        have hD := hD.below hy1
                        have hF := hF.below hy1
                        clear hy1
                        refine hK.out _ _ _ (fun _ h => h) ⟨hF.v.c0, hF.v.c1, hF.y.c0, hF.y.c1, hF.y.c2, hD.1, hD.2.1, hD.2.2⟩ ?_
                        clear hK K
                        try simp only [Act.put, List.setIfInBounds_toArray, List.set_cons_zero, List.set_cons_succ]
                        refine Lex.step_take (.bool true) xm2 rfl (Lex.want_none rfl) (by intro Wx hSw; (try dsimp only at hSw); go_simp; (try (first | (with_reducible rfl) | assumption | rfl))) ?_
                        simp only [Act.put, List.setIfInBounds_toArray, List.set_cons_zero, List.set_cons_succ]
                        refine Lex.step_take (.pointer (some ⟨y, 0, none⟩)) xm3 rfl (Lex.want_some rfl xm2 rfl (b' := true) rfl rfl) (by intro Wx hSw; (try dsimp only at hSw); go_simp; (try (first | (with_reducible rfl) | assumption | rfl))) ?_
                        simp only [Act.put, List.setIfInBounds_toArray, List.set_cons_zero, List.set_cons_succ]
                        refine Lex.step_take (.int .i64 0) xm4 rfl (Lex.want_some rfl xm2 rfl (b' := true) rfl rfl) (by intro Wx hSw; (try dsimp only at hSw); go_simp; (try (first | (with_reducible rfl) | assumption | rfl))) ?_
                        simp only [Act.put, List.setIfInBounds_toArray, List.set_cons_zero, List.set_cons_succ]
                        refine Lex.step_take (.pointer (some ⟨g, 1, none⟩)) xm5 rfl (Lex.want_some rfl xm2 rfl (b' := true) rfl rfl) (by intro Wx hSw; (try dsimp only at hSw); go_simp; (try (first | (with_reducible rfl) | assumption | rfl))) ?_
                        simp only [Act.put, List.setIfInBounds_toArray, List.set_cons_zero, List.set_cons_succ]
                        refine Lex.step_take (.slice (some ⟨b3, o3, none⟩) m2 cp) xm6 rfl (Lex.want_some rfl xm2 rfl (b' := true) rfl rfl) (by intro Wx hSw; (try dsimp only at hSw); go_simp; (try (first | (with_reducible rfl) | assumption | rfl))) ?_
                        simp only [Act.put, List.setIfInBounds_toArray, List.set_cons_zero, List.set_cons_succ]
                        refine Lex.step_take (.int .i64 q) xm7 rfl (Lex.want_some rfl xm2 rfl (b' := true) rfl rfl) (by intro Wx hSw; (try dsimp only at hSw); go_simp; (try (first | (with_reducible rfl) | assumption | rfl))) ?_
                        simp only [Act.put, List.setIfInBounds_toArray, List.set_cons_zero, List.set_cons_succ]
                        refine Lex.step_take (.pointer (some ⟨b3, o3 + q * 3, none⟩)) xm8 rfl (Lex.want_some rfl xm2 rfl (b' := true) rfl rfl) (by intro Wx hSw; (try dsimp only at hSw); go_simp; (try (first | (with_reducible rfl) | assumption | rfl))) ?_
                        simp only [Act.put, List.setIfInBounds_toArray, List.set_cons_zero, List.set_cons_succ]
                        refine Lex.step_take (.pointer (some ⟨b3, o3 + q * 3 + 1, none⟩)) xm9 rfl (Lex.want_some rfl xm2 rfl (b' := true) rfl rfl) (by intro Wx hSw; (try dsimp only at hSw); go_simp; (try (first | (with_reducible rfl) | assumption | rfl))) ?_
                        simp only [Act.put, List.setIfInBounds_toArray, List.set_cons_zero, List.set_cons_succ]
                        refine Lex.step_take (.int .i64 ck) xm10 rfl (Lex.want_some rfl xm2 rfl (b' := true) rfl rfl) (by intro Wx hSw; (try dsimp only at hSw); go_simp; (try (first | (with_reducible rfl) | assumption | rfl))) ?_
                        simp only [Act.put, List.setIfInBounds_toArray, List.set_cons_zero, List.set_cons_succ]
                        refine Lex.step_take (.bool false) xm11 rfl (Lex.want_some rfl xm2 rfl (b' := true) rfl rfl) (by intro Wx hSw; (try dsimp only at hSw); go_simp; (try (first | (with_reducible rfl) | assumption | rfl))) ?_
                        simp only [Act.put, List.setIfInBounds_toArray, List.set_cons_zero, List.set_cons_succ]
                        refine Lex.step_take (.bool false) xm12 rfl (Lex.want_some rfl xm2 rfl (b' := true) rfl rfl) (by intro Wx hSw; (try dsimp only at hSw); go_simp; (try (first | (with_reducible rfl) | assumption | rfl))) ?_
                        simp only [Act.put, List.setIfInBounds_toArray, List.set_cons_zero, List.set_cons_succ]
                        refine Lex.step_take (.pointer (some ⟨y, 0, none⟩)) xm13 rfl (Lex.want_some rfl xm12 rfl (b' := false) rfl rfl) (by intro Wx hSw; (try dsimp only at hSw); go_simp; (try (first | (with_reducible rfl) | assumption | rfl))) ?_
                        simp only [Act.put, List.setIfInBounds_toArray, List.set_cons_zero, List.set_cons_succ]
                        refine Lex.step_take (.int .i64 0) xm14 rfl (Lex.want_some rfl xm12 rfl (b' := false) rfl rfl) (by intro Wx hSw; (try dsimp only at hSw); go_simp; (try (first | (with_reducible rfl) | assumption | rfl))) ?_
                        simp only [Act.put, List.setIfInBounds_toArray, List.set_cons_zero, List.set_cons_succ]
                        refine Lex.step_take (.bool true) xm15 rfl (Lex.want_some rfl xm12 rfl (b' := false) rfl rfl) (by intro Wx hSw; (try dsimp only at hSw); go_simp; (try (first | (with_reducible rfl) | assumption | rfl))) ?_
                        simp only [Act.put, List.setIfInBounds_toArray, List.set_cons_zero, List.set_cons_succ]
                        refine Lex.step_take (.bool true) xm16 rfl (Lex.want_some rfl xm12 rfl (b' := false) rfl rfl) (by intro Wx hSw; (try dsimp only at hSw); go_simp; (try (first | (with_reducible rfl) | assumption | rfl))) ?_
                        simp only [Act.put, List.setIfInBounds_toArray, List.set_cons_zero, List.set_cons_succ]
                        refine Lex.step_take (.pointer (some ⟨g, 1, none⟩)) xm17 rfl (Lex.want_some rfl xm16 rfl (b' := true) rfl rfl) (by intro Wx hSw; (try dsimp only at hSw); go_simp; (try (first | (with_reducible rfl) | assumption | rfl))) ?_
                        simp only [Act.put, List.setIfInBounds_toArray, List.set_cons_zero, List.set_cons_succ]
                        refine Lex.step_take (.slice (some ⟨b3, o3, none⟩) m2 cp) xm18 rfl (Lex.want_some rfl xm16 rfl (b' := true) rfl rfl) (by intro Wx hSw; (try dsimp only at hSw); go_simp; (try (first | (with_reducible rfl) | assumption | rfl))) ?_
                        simp only [Act.put, List.setIfInBounds_toArray, List.set_cons_zero, List.set_cons_succ]
                        refine Lex.step_take (.int .i64 q) xm19 rfl (Lex.want_some rfl xm16 rfl (b' := true) rfl rfl) (by intro Wx hSw; (try dsimp only at hSw); go_simp; (try (first | (with_reducible rfl) | assumption | rfl))) ?_
                        simp only [Act.put, List.setIfInBounds_toArray, List.set_cons_zero, List.set_cons_succ]
                        refine Lex.step_take (.pointer (some ⟨b3, o3 + q * 3, none⟩)) xm20 rfl (Lex.want_some rfl xm16 rfl (b' := true) rfl rfl) (by intro Wx hSw; (try dsimp only at hSw); go_simp; (try (first | (with_reducible rfl) | assumption | rfl))) ?_
                        simp only [Act.put, List.setIfInBounds_toArray, List.set_cons_zero, List.set_cons_succ]
                        refine Lex.step_take (.pointer (some ⟨b3, o3 + q * 3 + 2, none⟩)) xm21 rfl (Lex.want_some rfl xm16 rfl (b' := true) rfl rfl) (by intro Wx hSw; (try dsimp only at hSw); go_simp; (try (first | (with_reducible rfl) | assumption | rfl))) ?_
                        simp only [Act.put, List.setIfInBounds_toArray, List.set_cons_zero, List.set_cons_succ]
                        refine Lex.step_take (.bool false) xm22 rfl (Lex.want_some rfl xm16 rfl (b' := true) rfl rfl) (by intro Wx hSw; (try dsimp only at hSw); go_simp; (try (first | (with_reducible rfl) | assumption | rfl))) ?_
                        simp only [Act.put, List.setIfInBounds_toArray, List.set_cons_zero, List.set_cons_succ]
                        refine Lex.step_take (.bool false) xm23 rfl (Lex.want_some rfl xm12 rfl (b' := false) rfl rfl) (by intro Wx hSw; (try dsimp only at hSw); go_simp; (try (first | (with_reducible rfl) | assumption | rfl))) ?_
                        simp only [Act.put, List.setIfInBounds_toArray, List.set_cons_zero, List.set_cons_succ]
                        refine Lex.step_take (.bool false) xm24 rfl (Lex.want_some rfl xm2 rfl (b' := true) rfl rfl) (by intro Wx hSw; (try dsimp only at hSw); go_simp; (try (first | (with_reducible rfl) | assumption | rfl))) ?_
                        simp only [Act.put, List.setIfInBounds_toArray, List.set_cons_zero, List.set_cons_succ]
                        refine Lex.step_take (.bool false) xm25 rfl (Lex.want_none rfl) (by intro Wx hSw; (try dsimp only at hSw); go_simp; (try (first | (with_reducible rfl) | assumption | rfl))) ?_
                        simp only [Act.put, List.setIfInBounds_toArray, List.set_cons_zero, List.set_cons_succ]
                        refine Lex.step_take (.bool false) xm26 rfl (Lex.want_none rfl) (by intro Wx hSw; (try dsimp only at hSw); go_simp; (try (first | (with_reducible rfl) | assumption | rfl))) ?_
                        simp only [Act.put, List.setIfInBounds_toArray, List.set_cons_zero, List.set_cons_succ]
                        refine NoPanic.normal ?_
                        clear HRV
                        go_wp2_with fail
                        refine Lex.region_lex (ops := xnops) (calls := xncalls) xnord (fun W => W.cell? ⟨g, 0, none⟩ = some (.string nm) ∧ W.cell? ⟨g, 1, none⟩ = some (.slice (some ⟨b3, o3, none⟩) m2 cp) ∧ W.cell? ⟨y, 0, none⟩ = some (.int .i64 0) ∧ W.cell? ⟨y, 1, none⟩ = some (.int .i64 vN) ∧ W.cell? ⟨y, 2, none⟩ = some (.string vs) ∧ W.cell? ⟨b3, o3 + q * 3, none⟩ = some (.string nn) ∧ W.cell? ⟨b3, o3 + q * 3 + 1, none⟩ = some (.int .i64 ck) ∧ W.cell? ⟨b3, o3 + q * 3 + 2, none⟩ = some (.bool false)) (by kernel_rfl) (by kernel_rfl) xnsel (by kernel_rfl) (by kernel_rfl) xnlex (⟨(hF.below (Below.refl _ _).drew).v.c0, (hF.below (Below.refl _ _).drew).v.c1, (hF.below (Below.refl _ _).drew).y.c0, (hF.below (Below.refl _ _).drew).y.c1, (hF.below (Below.refl _ _).drew).y.c2, (hD.below (Below.refl _ _).drew).1, (hD.below (Below.refl _ _).drew).2.1, (hD.below (Below.refl _ _).drew).2.2⟩) ?_
                        unfold xnord
                        have hX := hX.below (Below.refl _ _).drew (Nat.le_refl _)
                        have hD := hD.below (Below.refl _ _).drew
                        have hF := hF.below (Below.refl _ _).drew
                        refine Lex.step_take (.agg #[.string nm, .slice (some ⟨b3, o3, none⟩) m2 cp]) xn0 rfl (Lex.want_none rfl) (by intro Wx hSw; (try dsimp only at hSw); go_simp; (try (first | (with_reducible rfl) | assumption | rfl))) ?_
                        simp only [Act.put, List.setIfInBounds_toArray, List.set_cons_zero, List.set_cons_succ]
                        refine Lex.step_take (.slice (some ⟨g5, 0, none⟩) m2 cap5) xn1 rfl (Lex.want_none rfl) (by intro Wx hSw; (try dsimp only at hSw); go_simp; (try (first | (with_reducible rfl) | assumption | rfl))) ?_
                        simp only [Act.put, List.setIfInBounds_toArray, List.set_cons_zero, List.set_cons_succ]
                        refine Lex.step_take (.bool false) xn4 rfl (Lex.want_none rfl) (by intro Wx hSw; (try dsimp only at hSw); go_simp; (try (first | (with_reducible rfl) | assumption | rfl))) ?_
                        simp only [Act.put, List.setIfInBounds_toArray, List.set_cons_zero, List.set_cons_succ]
                        refine Lex.step_call xn2 rfl (Lex.want_none rfl) (fun K hK => ?_)
                        go_simp
                        refine (HCX.out _ hF.c hX).mono ?_
                        rintro e y1 ⟨rfl, hy1⟩
                        have hX := hX.below hy1 (Nat.le_refl _)
                        have hD := hD.below hy1
                        have hF := hF.below hy1
                        clear hy1
                        refine hK.out _ _ _ (fun _ h => h) ⟨hF.v.c0, hF.v.c1, hF.y.c0, hF.y.c1, hF.y.c2, hD.1, hD.2.1, hD.2.2⟩ ?_
                        clear hK K
                        try simp only [Act.put, List.setIfInBounds_toArray, List.set_cons_zero, List.set_cons_succ]
                        refine Lex.step_take (.bool false) xn3 rfl (Lex.want_none rfl) (by intro Wx hSw; (try dsimp only at hSw); go_simp; (try (first | (with_reducible rfl) | assumption | rfl))) ?_
                        simp only [Act.put, List.setIfInBounds_toArray, List.set_cons_zero, List.set_cons_succ]
                        refine Lex.step_take (.bool false) xn5 rfl (Lex.want_none rfl) (by intro Wx hSw; (try dsimp only at hSw); go_simp; (try (first | (with_reducible rfl) | assumption | rfl))) ?_
                        simp only [Act.put, List.setIfInBounds_toArray, List.set_cons_zero, List.set_cons_succ]
                        refine Lex.step_take (.bool false) xn6 rfl (Lex.want_none rfl) (by intro Wx hSw; (try dsimp only at hSw); go_simp; (try (first | (with_reducible rfl) | assumption | rfl))) ?_
                        simp only [Act.put, List.setIfInBounds_toArray, List.set_cons_zero, List.set_cons_succ]
                        refine Lex.step_take (.pointer (some ⟨g, 1, none⟩)) xn7 rfl (Lex.want_some rfl xn6 rfl (b' := false) rfl rfl) (by intro Wx hSw; (try dsimp only at hSw); go_simp; (try (first | (with_reducible rfl) | assumption | rfl))) ?_
                        simp only [Act.put, List.setIfInBounds_toArray, List.set_cons_zero, List.set_cons_succ]
                        refine Lex.step_take (.slice (some ⟨b3, o3, none⟩) m2 cp) xn8 rfl (Lex.want_some rfl xn6 rfl (b' := false) rfl rfl) (by intro Wx hSw; (try dsimp only at hSw); go_simp; (try (first | (with_reducible rfl) | assumption | rfl))) ?_
                        simp only [Act.put, List.setIfInBounds_toArray, List.set_cons_zero, List.set_cons_succ]
                        refine Lex.step_take (.int .i64 q) xn9 rfl (Lex.want_some rfl xn6 rfl (b' := false) rfl rfl) (by intro Wx hSw; (try dsimp only at hSw); go_simp; (try (first | (with_reducible rfl) | assumption | rfl))) ?_
                        simp only [Act.put, List.setIfInBounds_toArray, List.set_cons_zero, List.set_cons_succ]
                        refine Lex.step_take (.pointer (some ⟨b3, o3 + q * 3, none⟩)) xn10 rfl (Lex.want_some rfl xn6 rfl (b' := false) rfl rfl) (by intro Wx hSw; (try dsimp only at hSw); go_simp; (try (first | (with_reducible rfl) | assumption | rfl))) ?_
                        simp only [Act.put, List.setIfInBounds_toArray, List.set_cons_zero, List.set_cons_succ]
                        refine Lex.step_take (.agg #[.string nn, .int .i64 ck, .bool false]) xn11 rfl (Lex.want_some rfl xn6 rfl (b' := false) rfl rfl) (by intro Wx hSw; (try dsimp only at hSw); go_simp; (try (first | (with_reducible rfl) | assumption | rfl))) ?_
                        simp only [Act.put, List.setIfInBounds_toArray, List.set_cons_zero, List.set_cons_succ]
                        refine Lex.step_take (.agg #[.int .i64 0, .int .i64 vN, .string vs]) xn12 rfl (Lex.want_some rfl xn6 rfl (b' := false) rfl rfl) (by intro Wx hSw; (try dsimp only at hSw); go_simp; (try (first | (with_reducible rfl) | assumption | rfl))) ?_
                        simp only [Act.put, List.setIfInBounds_toArray, List.set_cons_zero, List.set_cons_succ]
                        refine Lex.step_take (.bool false) xn15 rfl (Lex.want_some rfl xn6 rfl (b' := false) rfl rfl) (by intro Wx hSw; (try dsimp only at hSw); go_simp; (try (first | (with_reducible rfl) | assumption | rfl))) ?_
                        simp only [Act.put, List.setIfInBounds_toArray, List.set_cons_zero, List.set_cons_succ]
                        refine Lex.step_call xn13 rfl (Lex.want_some rfl xn6 rfl (b' := false) rfl rfl) (fun K hK => ?_)
                        go_simp
                        refine (HFT.out _).mono ?_
                        rintro e y1 ⟨rfl, hy1⟩
                        have hX := hX.below hy1 (Nat.le_refl _)
                        have hD := hD.below hy1
                        have hF := hF.below hy1
                        clear hy1
                        refine hK.out _ _ _ (fun _ h => h) ⟨hF.v.c0, hF.v.c1, hF.y.c0, hF.y.c1, hF.y.c2, hD.1, hD.2.1, hD.2.2⟩ ?_
                        clear hK K
                        try simp only [Act.put, List.setIfInBounds_toArray, List.set_cons_zero, List.set_cons_succ]
                        refine Lex.step_take (.bool false) xn14 rfl (Lex.want_some rfl xn6 rfl (b' := false) rfl rfl) (by intro Wx hSw; (try dsimp only at hSw); go_simp; (try (first | (with_reducible rfl) | assumption | rfl))) ?_
                        simp only [Act.put, List.setIfInBounds_toArray, List.set_cons_zero, List.set_cons_succ]
                        refine Lex.step_take (.bool false) xn16 rfl (Lex.want_some rfl xn6 rfl (b' := false) rfl rfl) (by intro Wx hSw; (try dsimp only at hSw); go_simp; (try (first | (with_reducible rfl) | assumption | rfl))) ?_
                        simp only [Act.put, List.setIfInBounds_toArray, List.set_cons_zero, List.set_cons_succ]
                        refine Lex.step_take (.bool false) xn17 rfl (Lex.want_none rfl) (by intro Wx hSw; (try dsimp only at hSw); go_simp; (try (first | (with_reducible rfl) | assumption | rfl))) ?_
                        simp only [Act.put, List.setIfInBounds_toArray, List.set_cons_zero, List.set_cons_succ]
                        refine NoPanic.normal ?_
                        go_wp2
                        go_roundw
                        case rel => exact ⟨q + 1, by omega, by go_num, hF⟩
                        case measure => simp [intOf]; omega
                      · have hrf : (rf == 0) = true := beq_iff_eq.2 (HG.2 ⟨rfl, Or.inr ⟨rfl, rfl⟩⟩)
                        have hzx : (zx == 0) = true := HB.trans hrf
                        clear HG HB
                        refine Lex.region_lex (ops := xmops) (calls := xmcalls) xmord (fun W => W.cell? ⟨g, 0, none⟩ = some (.string nm) ∧ W.cell? ⟨g, 1, none⟩ = some (.slice (some ⟨b3, o3, none⟩) m2 cp) ∧ W.cell? ⟨y, 0, none⟩ = some (.int .i64 0) ∧ W.cell? ⟨y, 1, none⟩ = some (.int .i64 vN) ∧ W.cell? ⟨y, 2, none⟩ = some (.string vs) ∧ W.cell? ⟨b3, o3 + q * 3, none⟩ = some (.string nn) ∧ W.cell? ⟨b3, o3 + q * 3 + 1, none⟩ = some (.int .i64 ck) ∧ W.cell? ⟨b3, o3 + q * 3 + 2, none⟩ = some (.bool true)) (by kernel_rfl) (by kernel_rfl) xmsel (by kernel_rfl) (by kernel_rfl) xmlex (⟨(hF.below (Below.refl _ _).drew).v.c0, (hF.below (Below.refl _ _).drew).v.c1, (hF.below (Below.refl _ _).drew).y.c0, (hF.below (Below.refl _ _).drew).y.c1, (hF.below (Below.refl _ _).drew).y.c2, (hD.below (Below.refl _ _).drew).1, (hD.below (Below.refl _ _).drew).2.1, (hD.below (Below.refl _ _).drew).2.2⟩) ?_
                        unfold xmord
                        have hX := hX.below (Below.refl _ _).drew (Nat.le_refl _)
                        have hD := hD.below (Below.refl _ _).drew
                        have hF := hF.below (Below.refl _ _).drew
                        refine Lex.step_take (.agg #[.int .i64 0, .int .i64 vN, .string vs]) xm0 rfl (Lex.want_none rfl) (by intro Wx hSw; (try dsimp only at hSw); go_simp; (try (first | (with_reducible rfl) | assumption | rfl))) ?_
                        simp only [Act.put, List.setIfInBounds_toArray, List.set_cons_zero, List.set_cons_succ]
                        refine Lex.step_call xm1 rfl (Lex.want_none rfl) (fun K hK => ?_)
                        go_simp
                        refine (HRV.out _).mono ?_
                        rintro e y1 ⟨rfl, hy1⟩
                        have hX := hX.below hy1 (Nat.le_refl _)
                        have hD := hD.below hy1
                        have hF := hF.below hy1
                        clear hy1
                        refine hK.out _ _ _ (fun _ h => h) ⟨hF.v.c0, hF.v.c1, hF.y.c0, hF.y.c1, hF.y.c2, hD.1, hD.2.1, hD.2.2⟩ ?_
                        clear hK K
                        try simp only [Act.put, List.setIfInBounds_toArray, List.set_cons_zero, List.set_cons_succ]
                        refine Lex.step_take (.bool true) xm2 rfl (Lex.want_none rfl) (by intro Wx hSw; (try dsimp only at hSw); go_simp; (try (first | (with_reducible rfl) | assumption | rfl))) ?_
                        simp only [Act.put, List.setIfInBounds_toArray, List.set_cons_zero, List.set_cons_succ]
                        refine Lex.step_take (.pointer (some ⟨y, 0, none⟩)) xm3 rfl (Lex.want_some rfl xm2 rfl (b' := true) rfl rfl) (by intro Wx hSw; (try dsimp only at hSw); go_simp; (try (first | (with_reducible rfl) | assumption | rfl))) ?_
                        simp only [Act.put, List.setIfInBounds_toArray, List.set_cons_zero, List.set_cons_succ]
                        refine Lex.step_take (.int .i64 0) xm4 rfl (Lex.want_some rfl xm2 rfl (b' := true) rfl rfl) (by intro Wx hSw; (try dsimp only at hSw); go_simp; (try (first | (with_reducible rfl) | assumption | rfl))) ?_
                        simp only [Act.put, List.setIfInBounds_toArray, List.set_cons_zero, List.set_cons_succ]
                        refine Lex.step_take (.pointer (some ⟨g, 1, none⟩)) xm5 rfl (Lex.want_some rfl xm2 rfl (b' := true) rfl rfl) (by intro Wx hSw; (try dsimp only at hSw); go_simp; (try (first | (with_reducible rfl) | assumption | rfl))) ?_
                        simp only [Act.put, List.setIfInBounds_toArray, List.set_cons_zero, List.set_cons_succ]
                        refine Lex.step_take (.slice (some ⟨b3, o3, none⟩) m2 cp) xm6 rfl (Lex.want_some rfl xm2 rfl (b' := true) rfl rfl) (by intro Wx hSw; (try dsimp only at hSw); go_simp; (try (first | (with_reducible rfl) | assumption | rfl))) ?_
                        simp only [Act.put, List.setIfInBounds_toArray, List.set_cons_zero, List.set_cons_succ]
                        refine Lex.step_take (.int .i64 q) xm7 rfl (Lex.want_some rfl xm2 rfl (b' := true) rfl rfl) (by intro Wx hSw; (try dsimp only at hSw); go_simp; (try (first | (with_reducible rfl) | assumption | rfl))) ?_
                        simp only [Act.put, List.setIfInBounds_toArray, List.set_cons_zero, List.set_cons_succ]
                        refine Lex.step_take (.pointer (some ⟨b3, o3 + q * 3, none⟩)) xm8 rfl (Lex.want_some rfl xm2 rfl (b' := true) rfl rfl) (by intro Wx hSw; (try dsimp only at hSw); go_simp; (try (first | (with_reducible rfl) | assumption | rfl))) ?_
                        simp only [Act.put, List.setIfInBounds_toArray, List.set_cons_zero, List.set_cons_succ]
                        refine Lex.step_take (.pointer (some ⟨b3, o3 + q * 3 + 1, none⟩)) xm9 rfl (Lex.want_some rfl xm2 rfl (b' := true) rfl rfl) (by intro Wx hSw; (try dsimp only at hSw); go_simp; (try (first | (with_reducible rfl) | assumption | rfl))) ?_
                        simp only [Act.put, List.setIfInBounds_toArray, List.set_cons_zero, List.set_cons_succ]
                        refine Lex.step_take (.int .i64 ck) xm10 rfl (Lex.want_some rfl xm2 rfl (b' := true) rfl rfl) (by intro Wx hSw; (try dsimp only at hSw); go_simp; (try (first | (with_reducible rfl) | assumption | rfl))) ?_
                        simp only [Act.put, List.setIfInBounds_toArray, List.set_cons_zero, List.set_cons_succ]
                        refine Lex.step_take (.bool false) xm11 rfl (Lex.want_some rfl xm2 rfl (b' := true) rfl rfl) (by intro Wx hSw; (try dsimp only at hSw); go_simp; (try (first | (with_reducible rfl) | assumption | rfl))) ?_
                        simp only [Act.put, List.setIfInBounds_toArray, List.set_cons_zero, List.set_cons_succ]
                        refine Lex.step_take (.bool false) xm12 rfl (Lex.want_some rfl xm2 rfl (b' := true) rfl rfl) (by intro Wx hSw; (try dsimp only at hSw); go_simp; (try (first | (with_reducible rfl) | assumption | rfl))) ?_
                        simp only [Act.put, List.setIfInBounds_toArray, List.set_cons_zero, List.set_cons_succ]
                        refine Lex.step_take (.pointer (some ⟨y, 0, none⟩)) xm13 rfl (Lex.want_some rfl xm12 rfl (b' := false) rfl rfl) (by intro Wx hSw; (try dsimp only at hSw); go_simp; (try (first | (with_reducible rfl) | assumption | rfl))) ?_
                        simp only [Act.put, List.setIfInBounds_toArray, List.set_cons_zero, List.set_cons_succ]
                        refine Lex.step_take (.int .i64 0) xm14 rfl (Lex.want_some rfl xm12 rfl (b' := false) rfl rfl) (by intro Wx hSw; (try dsimp only at hSw); go_simp; (try (first | (with_reducible rfl) | assumption | rfl))) ?_
                        simp only [Act.put, List.setIfInBounds_toArray, List.set_cons_zero, List.set_cons_succ]
                        refine Lex.step_take (.bool true) xm15 rfl (Lex.want_some rfl xm12 rfl (b' := false) rfl rfl) (by intro Wx hSw; (try dsimp only at hSw); go_simp; (try (first | (with_reducible rfl) | assumption | rfl))) ?_
                        simp only [Act.put, List.setIfInBounds_toArray, List.set_cons_zero, List.set_cons_succ]
                        refine Lex.step_take (.bool true) xm16 rfl (Lex.want_some rfl xm12 rfl (b' := false) rfl rfl) (by intro Wx hSw; (try dsimp only at hSw); go_simp; (try (first | (with_reducible rfl) | assumption | rfl))) ?_
                        simp only [Act.put, List.setIfInBounds_toArray, List.set_cons_zero, List.set_cons_succ]
                        refine Lex.step_take (.pointer (some ⟨g, 1, none⟩)) xm17 rfl (Lex.want_some rfl xm16 rfl (b' := true) rfl rfl) (by intro Wx hSw; (try dsimp only at hSw); go_simp; (try (first | (with_reducible rfl) | assumption | rfl))) ?_
                        simp only [Act.put, List.setIfInBounds_toArray, List.set_cons_zero, List.set_cons_succ]
                        refine Lex.step_take (.slice (some ⟨b3, o3, none⟩) m2 cp) xm18 rfl (Lex.want_some rfl xm16 rfl (b' := true) rfl rfl) (by intro Wx hSw; (try dsimp only at hSw); go_simp; (try (first | (with_reducible rfl) | assumption | rfl))) ?_
                        simp only [Act.put, List.setIfInBounds_toArray, List.set_cons_zero, List.set_cons_succ]
                        refine Lex.step_take (.int .i64 q) xm19 rfl (Lex.want_some rfl xm16 rfl (b' := true) rfl rfl) (by intro Wx hSw; (try dsimp only at hSw); go_simp; (try (first | (with_reducible rfl) | assumption | rfl))) ?_
                        simp only [Act.put, List.setIfInBounds_toArray, List.set_cons_zero, List.set_cons_succ]
                        refine Lex.step_take (.pointer (some ⟨b3, o3 + q * 3, none⟩)) xm20 rfl (Lex.want_some rfl xm16 rfl (b' := true) rfl rfl) (by intro Wx hSw; (try dsimp only at hSw); go_simp; (try (first | (with_reducible rfl) | assumption | rfl))) ?_
                        simp only [Act.put, List.setIfInBounds_toArray, List.set_cons_zero, List.set_cons_succ]
                        refine Lex.step_take (.pointer (some ⟨b3, o3 + q * 3 + 2, none⟩)) xm21 rfl (Lex.want_some rfl xm16 rfl (b' := true) rfl rfl) (by intro Wx hSw; (try dsimp only at hSw); go_simp; (try (first | (with_reducible rfl) | assumption | rfl))) ?_
                        simp only [Act.put, List.setIfInBounds_toArray, List.set_cons_zero, List.set_cons_succ]
                        refine Lex.step_take (.bool true) xm22 rfl (Lex.want_some rfl xm16 rfl (b' := true) rfl rfl) (by intro Wx hSw; (try dsimp only at hSw); go_simp; (try (first | (with_reducible rfl) | assumption | rfl))) ?_
                        simp only [Act.put, List.setIfInBounds_toArray, List.set_cons_zero, List.set_cons_succ]
                        refine Lex.step_take (.bool true) xm23 rfl (Lex.want_some rfl xm12 rfl (b' := false) rfl rfl) (by intro Wx hSw; (try dsimp only at hSw); go_simp; (try (first | (with_reducible rfl) | assumption | rfl))) ?_
                        simp only [Act.put, List.setIfInBounds_toArray, List.set_cons_zero, List.set_cons_succ]
                        refine Lex.step_take (.bool true) xm24 rfl (Lex.want_some rfl xm2 rfl (b' := true) rfl rfl) (by intro Wx hSw; (try dsimp only at hSw); go_simp; (try (first | (with_reducible rfl) | assumption | rfl))) ?_
                        simp only [Act.put, List.setIfInBounds_toArray, List.set_cons_zero, List.set_cons_succ]
                        refine Lex.step_take (.bool true) xm25 rfl (Lex.want_none rfl) (by intro Wx hSw; (try dsimp only at hSw); go_simp; (try (first | (with_reducible rfl) | assumption | rfl))) ?_
                        simp only [Act.put, List.setIfInBounds_toArray, List.set_cons_zero, List.set_cons_succ]
                        refine Lex.step_take (.bool true) xm26 rfl (Lex.want_none rfl) (by intro Wx hSw; (try dsimp only at hSw); go_simp; (try (first | (with_reducible rfl) | assumption | rfl))) ?_
                        simp only [Act.put, List.setIfInBounds_toArray, List.set_cons_zero, List.set_cons_succ]
                        refine NoPanic.normal ?_
                        clear HRV
                        go_wp2_with fail
                        refine Lex.region_lex (ops := xnops) (calls := xncalls) xnord (fun W => W.cell? ⟨g, 0, none⟩ = some (.string nm) ∧ W.cell? ⟨g, 1, none⟩ = some (.slice (some ⟨b3, o3, none⟩) m2 cp) ∧ W.cell? ⟨y, 0, none⟩ = some (.int .i64 0) ∧ W.cell? ⟨y, 1, none⟩ = some (.int .i64 vN) ∧ W.cell? ⟨y, 2, none⟩ = some (.string vs) ∧ W.cell? ⟨b3, o3 + q * 3, none⟩ = some (.string nn) ∧ W.cell? ⟨b3, o3 + q * 3 + 1, none⟩ = some (.int .i64 ck) ∧ W.cell? ⟨b3, o3 + q * 3 + 2, none⟩ = some (.bool true)) (by kernel_rfl) (by kernel_rfl) xnsel (by kernel_rfl) (by kernel_rfl) xnlex (⟨(hF.below (Below.refl _ _).drew).v.c0, (hF.below (Below.refl _ _).drew).v.c1, (hF.below (Below.refl _ _).drew).y.c0, (hF.below (Below.refl _ _).drew).y.c1, (hF.below (Below.refl _ _).drew).y.c2, (hD.below (Below.refl _ _).drew).1, (hD.below (Below.refl _ _).drew).2.1, (hD.below (Below.refl _ _).drew).2.2⟩) ?_
                        unfold xnord
                        have hX := hX.below (Below.refl _ _).drew (Nat.le_refl _)
                        have hD := hD.below (Below.refl _ _).drew
                        have hF := hF.below (Below.refl _ _).drew
                        refine Lex.step_take (.agg #[.string nm, .slice (some ⟨b3, o3, none⟩) m2 cp]) xn0 rfl (Lex.want_none rfl) (by intro Wx hSw; (try dsimp only at hSw); go_simp; (try (first | (with_reducible rfl) | assumption | rfl))) ?_
                        simp only [Act.put, List.setIfInBounds_toArray, List.set_cons_zero, List.set_cons_succ]
                        refine Lex.step_take (.slice (some ⟨g5, 0, none⟩) m2 cap5) xn1 rfl (Lex.want_none rfl) (by intro Wx hSw; (try dsimp only at hSw); go_simp; (try (first | (with_reducible rfl) | assumption | rfl))) ?_
                        simp only [Act.put, List.setIfInBounds_toArray, List.set_cons_zero, List.set_cons_succ]
                        refine Lex.step_take (.bool true) xn4 rfl (Lex.want_none rfl) (by intro Wx hSw; (try dsimp only at hSw); go_simp; (try (first | (with_reducible rfl) | assumption | rfl))) ?_
                        simp only [Act.put, List.setIfInBounds_toArray, List.set_cons_zero, List.set_cons_succ]
                        refine Lex.step_call xn2 rfl (Lex.want_none rfl) (fun K hK => ?_)
                        go_simp
                        refine (HCX.out _ hF.c hX).mono ?_
                        rintro e y1 ⟨rfl, hy1⟩
                        have hX := hX.below hy1 (Nat.le_refl _)
                        have hD := hD.below hy1
                        have hF := hF.below hy1
                        clear hy1
                        refine hK.out _ _ _ (fun _ h => h) ⟨hF.v.c0, hF.v.c1, hF.y.c0, hF.y.c1, hF.y.c2, hD.1, hD.2.1, hD.2.2⟩ ?_
                        clear hK K
                        try simp only [Act.put, List.setIfInBounds_toArray, List.set_cons_zero, List.set_cons_succ]
                        refine Lex.step_take (.bool true) xn3 rfl (Lex.want_none rfl) (by intro Wx hSw; (try dsimp only at hSw); go_simp; (try (first | (with_reducible rfl) | assumption | rfl))) ?_
                        simp only [Act.put, List.setIfInBounds_toArray, List.set_cons_zero, List.set_cons_succ]
                        refine Lex.step_take (.bool false) xn5 rfl (Lex.want_none rfl) (by intro Wx hSw; (try dsimp only at hSw); go_simp; (try (first | (with_reducible rfl) | assumption | rfl))) ?_
                        simp only [Act.put, List.setIfInBounds_toArray, List.set_cons_zero, List.set_cons_succ]
                        refine Lex.step_take (.bool false) xn6 rfl (Lex.want_none rfl) (by intro Wx hSw; (try dsimp only at hSw); go_simp; (try (first | (with_reducible rfl) | assumption | rfl))) ?_
                        simp only [Act.put, List.setIfInBounds_toArray, List.set_cons_zero, List.set_cons_succ]
                        refine Lex.step_take (.pointer (some ⟨g, 1, none⟩)) xn7 rfl (Lex.want_some rfl xn6 rfl (b' := false) rfl rfl) (by intro Wx hSw; (try dsimp only at hSw); go_simp; (try (first | (with_reducible rfl) | assumption | rfl))) ?_
                        simp only [Act.put, List.setIfInBounds_toArray, List.set_cons_zero, List.set_cons_succ]
                        refine Lex.step_take (.slice (some ⟨b3, o3, none⟩) m2 cp) xn8 rfl (Lex.want_some rfl xn6 rfl (b' := false) rfl rfl) (by intro Wx hSw; (try dsimp only at hSw); go_simp; (try (first | (with_reducible rfl) | assumption | rfl))) ?_
                        simp only [Act.put, List.setIfInBounds_toArray, List.set_cons_zero, List.set_cons_succ]
                        refine Lex.step_take (.int .i64 q) xn9 rfl (Lex.want_some rfl xn6 rfl (b' := false) rfl rfl) (by intro Wx hSw; (try dsimp only at hSw); go_simp; (try (first | (with_reducible rfl) | assumption | rfl))) ?_
                        simp only [Act.put, List.setIfInBounds_toArray, List.set_cons_zero, List.set_cons_succ]
                        refine Lex.step_take (.pointer (some ⟨b3, o3 + q * 3, none⟩)) xn10 rfl (Lex.want_some rfl xn6 rfl (b' := false) rfl rfl) (by intro Wx hSw; (try dsimp only at hSw); go_simp; (try (first | (with_reducible rfl) | assumption | rfl))) ?_
                        simp only [Act.put, List.setIfInBounds_toArray, List.set_cons_zero, List.set_cons_succ]
                        refine Lex.step_take (.agg #[.string nn, .int .i64 ck, .bool true]) xn11 rfl (Lex.want_some rfl xn6 rfl (b' := false) rfl rfl) (by intro Wx hSw; (try dsimp only at hSw); go_simp; (try (first | (with_reducible rfl) | assumption | rfl))) ?_
                        simp only [Act.put, List.setIfInBounds_toArray, List.set_cons_zero, List.set_cons_succ]
                        refine Lex.step_take (.agg #[.int .i64 0, .int .i64 vN, .string vs]) xn12 rfl (Lex.want_some rfl xn6 rfl (b' := false) rfl rfl) (by intro Wx hSw; (try dsimp only at hSw); go_simp; (try (first | (with_reducible rfl) | assumption | rfl))) ?_
                        simp only [Act.put, List.setIfInBounds_toArray, List.set_cons_zero, List.set_cons_succ]
                        refine Lex.step_take (.bool true) xn15 rfl (Lex.want_some rfl xn6 rfl (b' := false) rfl rfl) (by intro Wx hSw; (try dsimp only at hSw); go_simp; (try (first | (with_reducible rfl) | assumption | rfl))) ?_
                        simp only [Act.put, List.setIfInBounds_toArray, List.set_cons_zero, List.set_cons_succ]
                        refine Lex.step_call xn13 rfl (Lex.want_some rfl xn6 rfl (b' := false) rfl rfl) (fun K hK => ?_)
                        go_simp
                        refine (HFT.out _).mono ?_
                        rintro e y1 ⟨rfl, hy1⟩
                        have hX := hX.below hy1 (Nat.le_refl _)
                        have hD := hD.below hy1
                        have hF := hF.below hy1
                        clear hy1
                        refine hK.out _ _ _ (fun _ h => h) ⟨hF.v.c0, hF.v.c1, hF.y.c0, hF.y.c1, hF.y.c2, hD.1, hD.2.1, hD.2.2⟩ ?_
                        clear hK K
                        try simp only [Act.put, List.setIfInBounds_toArray, List.set_cons_zero, List.set_cons_succ]
                        refine Lex.step_take (.bool true) xn14 rfl (Lex.want_some rfl xn6 rfl (b' := false) rfl rfl) (by intro Wx hSw; (try dsimp only at hSw); go_simp; (try (first | (with_reducible rfl) | assumption | rfl))) ?_
                        simp only [Act.put, List.setIfInBounds_toArray, List.set_cons_zero, List.set_cons_succ]
                        refine Lex.step_take (.bool false) xn16 rfl (Lex.want_some rfl xn6 rfl (b' := false) rfl rfl) (by intro Wx hSw; (try dsimp only at hSw); go_simp; (try (first | (with_reducible rfl) | assumption | rfl))) ?_
                        simp only [Act.put, List.setIfInBounds_toArray, List.set_cons_zero, List.set_cons_succ]
                        refine Lex.step_take (.bool false) xn17 rfl (Lex.want_none rfl) (by intro Wx hSw; (try dsimp only at hSw); go_simp; (try (first | (with_reducible rfl) | assumption | rfl))) ?_
                        simp only [Act.put, List.setIfInBounds_toArray, List.set_cons_zero, List.set_cons_succ]
                        refine NoPanic.normal ?_
                        go_wp2
                        go_roundw
                        case rel => exact ⟨q + 1, by omega, by go_num, hF⟩
                        case measure => simp [intOf]; omega
                    · have hkc : (vk == 0) = false := beq_eq_false_iff_ne.2 hk0
                      have hrf : (rf == 0) = false := beq_eq_false_iff_ne.2 (fun h => by
                        rcases (HG.1 h).2 with h | h
                        · exact hk h
                        · exact hk0 h.1)
                      have hzx : (zx == 0) = false := HB.trans hrf
                      clear HG HB
                      refine Lex.region_lex (ops := xmops) (calls := xmcalls) xmord (fun W => W.cell? ⟨g, 0, none⟩ = some (.string nm) ∧ W.cell? ⟨g, 1, none⟩ = some (.slice (some ⟨b3, o3, none⟩) m2 cp) ∧ W.cell? ⟨y, 0, none⟩ = some (.int .i64 vk) ∧ W.cell? ⟨y, 1, none⟩ = some (.int .i64 vN) ∧ W.cell? ⟨y, 2, none⟩ = some (.string vs) ∧ W.cell? ⟨b3, o3 + q * 3, none⟩ = some (.string nn) ∧ W.cell? ⟨b3, o3 + q * 3 + 1, none⟩ = some (.int .i64 ck) ∧ W.cell? ⟨b3, o3 + q * 3 + 2, none⟩ = some (.bool cz)) (by kernel_rfl) (by kernel_rfl) xmsel (by kernel_rfl) (by kernel_rfl) xmlex (⟨(hF.below (Below.refl _ _).drew).v.c0, (hF.below (Below.refl _ _).drew).v.c1, (hF.below (Below.refl _ _).drew).y.c0, (hF.below (Below.refl _ _).drew).y.c1, (hF.below (Below.refl _ _).drew).y.c2, (hD.below (Below.refl _ _).drew).1, (hD.below (Below.refl _ _).drew).2.1, (hD.below (Below.refl _ _).drew).2.2⟩) ?_
                      unfold xmord
                      have hX := hX.below (Below.refl _ _).drew (Nat.le_refl _)
                      have hD := hD.below (Below.refl _ _).drew
                      have hF := hF.below (Below.refl _ _).drew
                      refine Lex.step_take (.agg #[.int .i64 vk, .int .i64 vN, .string vs]) xm0 rfl (Lex.want_none rfl) (by intro Wx hSw; (try dsimp only at hSw); go_simp; (try (first | (with_reducible rfl) | assumption | rfl))) ?_
                      simp only [Act.put, List.setIfInBounds_toArray, List.set_cons_zero, List.set_cons_succ]
                      refine Lex.step_call xm1 rfl (Lex.want_none rfl) (fun K hK => ?_)
                      go_simp
                      refine (HRV.out _).mono ?_
                      rintro e y1 ⟨rfl, hy1⟩
                      have hX := hX.below hy1 (Nat.le_refl _)
                      have hD := hD.below hy1
                      have hF := hF.below hy1
                      clear hy1
                      refine hK.out _ _ _ (fun _ h => h) ⟨hF.v.c0, hF.v.c1, hF.y.c0, hF.y.c1, hF.y.c2, hD.1, hD.2.1, hD.2.2⟩ ?_
                      clear hK K
                      try simp only [Act.put, List.setIfInBounds_toArray, List.set_cons_zero, List.set_cons_succ]
                      refine Lex.step_take (.bool true) xm2 rfl (Lex.want_none rfl) (by intro Wx hSw; (try dsimp only at hSw); go_simp; (try (first | (with_reducible rfl) | assumption | rfl))) ?_
                      simp only [Act.put, List.setIfInBounds_toArray, List.set_cons_zero, List.set_cons_succ]
                      refine Lex.step_take (.pointer (some ⟨y, 0, none⟩)) xm3 rfl (Lex.want_some rfl xm2 rfl (b' := true) rfl rfl) (by intro Wx hSw; (try dsimp only at hSw); go_simp; (try (first | (with_reducible rfl) | assumption | rfl))) ?_
                      simp only [Act.put, List.setIfInBounds_toArray, List.set_cons_zero, List.set_cons_succ]
                      refine Lex.step_take (.int .i64 vk) xm4 rfl (Lex.want_some rfl xm2 rfl (b' := true) rfl rfl) (by intro Wx hSw; (try dsimp only at hSw); go_simp; (try (first | (with_reducible rfl) | assumption | rfl))) ?_
                      simp only [Act.put, List.setIfInBounds_toArray, List.set_cons_zero, List.set_cons_succ]
                      refine Lex.step_take (.pointer (some ⟨g, 1, none⟩)) xm5 rfl (Lex.want_some rfl xm2 rfl (b' := true) rfl rfl) (by intro Wx hSw; (try dsimp only at hSw); go_simp; (try (first | (with_reducible rfl) | assumption | rfl))) ?_
                      simp only [Act.put, List.setIfInBounds_toArray, List.set_cons_zero, List.set_cons_succ]
                      refine Lex.step_take (.slice (some ⟨b3, o3, none⟩) m2 cp) xm6 rfl (Lex.want_some rfl xm2 rfl (b' := true) rfl rfl) (by intro Wx hSw; (try dsimp only at hSw); go_simp; (try (first | (with_reducible rfl) | assumption | rfl))) ?_
                      simp only [Act.put, List.setIfInBounds_toArray, List.set_cons_zero, List.set_cons_succ]
                      refine Lex.step_take (.int .i64 q) xm7 rfl (Lex.want_some rfl xm2 rfl (b' := true) rfl rfl) (by intro Wx hSw; (try dsimp only at hSw); go_simp; (try (first | (with_reducible rfl) | assumption | rfl))) ?_
                      simp only [Act.put, List.setIfInBounds_toArray, List.set_cons_zero, List.set_cons_succ]
                      refine Lex.step_take (.pointer (some ⟨b3, o3 + q * 3, none⟩)) xm8 rfl (Lex.want_some rfl xm2 rfl (b' := true) rfl rfl) (by intro Wx hSw; (try dsimp only at hSw); go_simp; (try (first | (with_reducible rfl) | assumption | rfl))) ?_
                      simp only [Act.put, List.setIfInBounds_toArray, List.set_cons_zero, List.set_cons_succ]
                      refine Lex.step_take (.pointer (some ⟨b3, o3 + q * 3 + 1, none⟩)) xm9 rfl (Lex.want_some rfl xm2 rfl (b' := true) rfl rfl) (by intro Wx hSw; (try dsimp only at hSw); go_simp; (try (first | (with_reducible rfl) | assumption | rfl))) ?_
                      simp only [Act.put, List.setIfInBounds_toArray, List.set_cons_zero, List.set_cons_succ]
                      refine Lex.step_take (.int .i64 ck) xm10 rfl (Lex.want_some rfl xm2 rfl (b' := true) rfl rfl) (by intro Wx hSw; (try dsimp only at hSw); go_simp; (try (first | (with_reducible rfl) | assumption | rfl))) ?_
                      simp only [Act.put, List.setIfInBounds_toArray, List.set_cons_zero, List.set_cons_succ]
                      refine Lex.step_take (.bool false) xm11 rfl (Lex.want_some rfl xm2 rfl (b' := true) rfl rfl) (by intro Wx hSw; (try dsimp only at hSw); go_simp; (try (first | (with_reducible rfl) | assumption | rfl))) ?_
                      simp only [Act.put, List.setIfInBounds_toArray, List.set_cons_zero, List.set_cons_succ]
                      refine Lex.step_take (.bool false) xm12 rfl (Lex.want_some rfl xm2 rfl (b' := true) rfl rfl) (by intro Wx hSw; (try dsimp only at hSw); go_simp; (try (first | (with_reducible rfl) | assumption | rfl))) ?_
                      simp only [Act.put, List.setIfInBounds_toArray, List.set_cons_zero, List.set_cons_succ]
                      refine Lex.step_take (.pointer (some ⟨y, 0, none⟩)) xm13 rfl (Lex.want_some rfl xm12 rfl (b' := false) rfl rfl) (by intro Wx hSw; (try dsimp only at hSw); go_simp; (try (first | (with_reducible rfl) | assumption | rfl))) ?_
                      simp only [Act.put, List.setIfInBounds_toArray, List.set_cons_zero, List.set_cons_succ]
                      refine Lex.step_take (.int .i64 vk) xm14 rfl (Lex.want_some rfl xm12 rfl (b' := false) rfl rfl) (by intro Wx hSw; (try dsimp only at hSw); go_simp; (try (first | (with_reducible rfl) | assumption | rfl))) ?_
                      simp only [Act.put, List.setIfInBounds_toArray, List.set_cons_zero, List.set_cons_succ]
                      refine Lex.step_take (.bool false) xm15 rfl (Lex.want_some rfl xm12 rfl (b' := false) rfl rfl) (by intro Wx hSw; (try dsimp only at hSw); go_simp; (try (first | (with_reducible rfl) | assumption | rfl))) ?_
                      simp only [Act.put, List.setIfInBounds_toArray, List.set_cons_zero, List.set_cons_succ]
                      refine Lex.step_take (.bool false) xm16 rfl (Lex.want_some rfl xm12 rfl (b' := false) rfl rfl) (by intro Wx hSw; (try dsimp only at hSw); go_simp; (try (first | (with_reducible rfl) | assumption | rfl))) ?_
                      simp only [Act.put, List.setIfInBounds_toArray, List.set_cons_zero, List.set_cons_succ]
                      refine Lex.step_skip xm17 (Lex.want_some rfl xm16 rfl (b' := false) rfl rfl) ?_
                      simp only [Act.put, List.setIfInBounds_toArray, List.set_cons_zero, List.set_cons_succ]
                      refine Lex.step_skip xm18 (Lex.want_some rfl xm16 rfl (b' := false) rfl rfl) ?_
                      simp only [Act.put, List.setIfInBounds_toArray, List.set_cons_zero, List.set_cons_succ]
                      refine Lex.step_skip xm19 (Lex.want_some rfl xm16 rfl (b' := false) rfl rfl) ?_
                      simp only [Act.put, List.setIfInBounds_toArray, List.set_cons_zero, List.set_cons_succ]
                      refine Lex.step_skip xm20 (Lex.want_some rfl xm16 rfl (b' := false) rfl rfl) ?_
                      simp only [Act.put, List.setIfInBounds_toArray, List.set_cons_zero, List.set_cons_succ]
                      refine Lex.step_skip xm21 (Lex.want_some rfl xm16 rfl (b' := false) rfl rfl) ?_
                      simp only [Act.put, List.setIfInBounds_toArray, List.set_cons_zero, List.set_cons_succ]
                      refine Lex.step_skip xm22 (Lex.want_some rfl xm16 rfl (b' := false) rfl rfl) ?_
                      simp only [Act.put, List.setIfInBounds_toArray, List.set_cons_zero, List.set_cons_succ]
                      refine Lex.step_take (.bool false) xm23 rfl (Lex.want_some rfl xm12 rfl (b' := false) rfl rfl) (by intro Wx hSw; (try dsimp only at hSw); go_simp; (try (first | (with_reducible rfl) | assumption | rfl))) ?_
                      simp only [Act.put, List.setIfInBounds_toArray, List.set_cons_zero, List.set_cons_succ]
                      refine Lex.step_take (.bool false) xm24 rfl (Lex.want_some rfl xm2 rfl (b' := true) rfl rfl) (by intro Wx hSw; (try dsimp only at hSw); go_simp; (try (first | (with_reducible rfl) | assumption | rfl))) ?_
                      simp only [Act.put, List.setIfInBounds_toArray, List.set_cons_zero, List.set_cons_succ]
                      refine Lex.step_take (.bool false) xm25 rfl (Lex.want_none rfl) (by intro Wx hSw; (try dsimp only at hSw); go_simp; (try (first | (with_reducible rfl) | assumption | rfl))) ?_
                      simp only [Act.put, List.setIfInBounds_toArray, List.set_cons_zero, List.set_cons_succ]
                      refine Lex.step_take (.bool false) xm26 rfl (Lex.want_none rfl) (by intro Wx hSw; (try dsimp only at hSw); go_simp; (try (first | (with_reducible rfl) | assumption | rfl))) ?_
                      simp only [Act.put, List.setIfInBounds_toArray, List.set_cons_zero, List.set_cons_succ]
                      refine NoPanic.normal ?_
                      clear HRV
                      go_wp2_with fail
                      refine Lex.region_lex (ops := xnops) (calls := xncalls) xnord (fun W => W.cell? ⟨g, 0, none⟩ = some (.string nm) ∧ W.cell? ⟨g, 1, none⟩ = some (.slice (some ⟨b3, o3, none⟩) m2 cp) ∧ W.cell? ⟨y, 0, none⟩ = some (.int .i64 vk) ∧ W.cell? ⟨y, 1, none⟩ = some (.int .i64 vN) ∧ W.cell? ⟨y, 2, none⟩ = some (.string vs) ∧ W.cell? ⟨b3, o3 + q * 3, none⟩ = some (.string nn) ∧ W.cell? ⟨b3, o3 + q * 3 + 1, none⟩ = some (.int .i64 ck) ∧ W.cell? ⟨b3, o3 + q * 3 + 2, none⟩ = some (.bool cz)) (by kernel_rfl) (by kernel_rfl) xnsel (by kernel_rfl) (by kernel_rfl) xnlex (⟨(hF.below (Below.refl _ _).drew).v.c0, (hF.below (Below.refl _ _).drew).v.c1, (hF.below (Below.refl _ _).drew).y.c0, (hF.below (Below.refl _ _).drew).y.c1, (hF.below (Below.refl _ _).drew).y.c2, (hD.below (Below.refl _ _).drew).1, (hD.below (Below.refl _ _).drew).2.1, (hD.below (Below.refl _ _).drew).2.2⟩) ?_
                      unfold xnord
                      have hX := hX.below (Below.refl _ _).drew (Nat.le_refl _)
                      have hD := hD.below (Below.refl _ _).drew
                      have hF := hF.below (Below.refl _ _).drew
                      refine Lex.step_take (.agg #[.string nm, .slice (some ⟨b3, o3, none⟩) m2 cp]) xn0 rfl (Lex.want_none rfl) (by intro Wx hSw; (try dsimp only at hSw); go_simp; (try (first | (with_reducible rfl) | assumption | rfl))) ?_
                      simp only [Act.put, List.setIfInBounds_toArray, List.set_cons_zero, List.set_cons_succ]
                      refine Lex.step_take (.slice (some ⟨g5, 0, none⟩) m2 cap5) xn1 rfl (Lex.want_none rfl) (by intro Wx hSw; (try dsimp only at hSw); go_simp; (try (first | (with_reducible rfl) | assumption | rfl))) ?_
                      simp only [Act.put, List.setIfInBounds_toArray, List.set_cons_zero, List.set_cons_succ]
                      refine Lex.step_take (.bool false) xn4 rfl (Lex.want_none rfl) (by intro Wx hSw; (try dsimp only at hSw); go_simp; (try (first | (with_reducible rfl) | assumption | rfl))) ?_
                      simp only [Act.put, List.setIfInBounds_toArray, List.set_cons_zero, List.set_cons_succ]
                      refine Lex.step_call xn2 rfl (Lex.want_none rfl) (fun K hK => ?_)
                      go_simp
                      refine (HCX.out _ hF.c hX).mono ?_
                      rintro e y1 ⟨rfl, hy1⟩
                      have hX := hX.below hy1 (Nat.le_refl _)
                      have hD := hD.below hy1
                      have hF := hF.below hy1
                      clear hy1
                      refine hK.out _ _ _ (fun _ h => h) ⟨hF.v.c0, hF.v.c1, hF.y.c0, hF.y.c1, hF.y.c2, hD.1, hD.2.1, hD.2.2⟩ ?_
                      clear hK K
                      try simp only [Act.put, List.setIfInBounds_toArray, List.set_cons_zero, List.set_cons_succ]
                      refine Lex.step_take (.bool false) xn3 rfl (Lex.want_none rfl) (by intro Wx hSw; (try dsimp only at hSw); go_simp; (try (first | (with_reducible rfl) | assumption | rfl))) ?_
                      simp only [Act.put, List.setIfInBounds_toArray, List.set_cons_zero, List.set_cons_succ]
                      refine Lex.step_take (.bool false) xn5 rfl (Lex.want_none rfl) (by intro Wx hSw; (try dsimp only at hSw); go_simp; (try (first | (with_reducible rfl) | assumption | rfl))) ?_
                      simp only [Act.put, List.setIfInBounds_toArray, List.set_cons_zero, List.set_cons_succ]
                      refine Lex.step_take (.bool false) xn6 rfl (Lex.want_none rfl) (by intro Wx hSw; (try dsimp only at hSw); go_simp; (try (first | (with_reducible rfl) | assumption | rfl))) ?_
                      simp only [Act.put, List.setIfInBounds_toArray, List.set_cons_zero, List.set_cons_succ]
                      refine Lex.step_take (.pointer (some ⟨g, 1, none⟩)) xn7 rfl (Lex.want_some rfl xn6 rfl (b' := false) rfl rfl) (by intro Wx hSw; (try dsimp only at hSw); go_simp; (try (first | (with_reducible rfl) | assumption | rfl))) ?_
                      simp only [Act.put, List.setIfInBounds_toArray, List.set_cons_zero, List.set_cons_succ]
                      refine Lex.step_take (.slice (some ⟨b3, o3, none⟩) m2 cp) xn8 rfl (Lex.want_some rfl xn6 rfl (b' := false) rfl rfl) (by intro Wx hSw; (try dsimp only at hSw); go_simp; (try (first | (with_reducible rfl) | assumption | rfl))) ?_
                      simp only [Act.put, List.setIfInBounds_toArray, List.set_cons_zero, List.set_cons_succ]
                      refine Lex.step_take (.int .i64 q) xn9 rfl (Lex.want_some rfl xn6 rfl (b' := false) rfl rfl) (by intro Wx hSw; (try dsimp only at hSw); go_simp; (try (first | (with_reducible rfl) | assumption | rfl))) ?_
                      simp only [Act.put, List.setIfInBounds_toArray, List.set_cons_zero, List.set_cons_succ]
                      refine Lex.step_take (.pointer (some ⟨b3, o3 + q * 3, none⟩)) xn10 rfl (Lex.want_some rfl xn6 rfl (b' := false) rfl rfl) (by intro Wx hSw; (try dsimp only at hSw); go_simp; (try (first | (with_reducible rfl) | assumption | rfl))) ?_
                      simp only [Act.put, List.setIfInBounds_toArray, List.set_cons_zero, List.set_cons_succ]
                      refine Lex.step_take (.agg #[.string nn, .int .i64 ck, .bool cz]) xn11 rfl (Lex.want_some rfl xn6 rfl (b' := false) rfl rfl) (by intro Wx hSw; (try dsimp only at hSw); go_simp; (try (first | (with_reducible rfl) | assumption | rfl))) ?_
                      simp only [Act.put, List.setIfInBounds_toArray, List.set_cons_zero, List.set_cons_succ]
                      refine Lex.step_take (.agg #[.int .i64 vk, .int .i64 vN, .string vs]) xn12 rfl (Lex.want_some rfl xn6 rfl (b' := false) rfl rfl) (by intro Wx hSw; (try dsimp only at hSw); go_simp; (try (first | (with_reducible rfl) | assumption | rfl))) ?_
                      simp only [Act.put, List.setIfInBounds_toArray, List.set_cons_zero, List.set_cons_succ]
                      refine Lex.step_take (.bool false) xn15 rfl (Lex.want_some rfl xn6 rfl (b' := false) rfl rfl) (by intro Wx hSw; (try dsimp only at hSw); go_simp; (try (first | (with_reducible rfl) | assumption | rfl))) ?_
                      simp only [Act.put, List.setIfInBounds_toArray, List.set_cons_zero, List.set_cons_succ]
                      refine Lex.step_call xn13 rfl (Lex.want_some rfl xn6 rfl (b' := false) rfl rfl) (fun K hK => ?_)
                      go_simp
                      refine (HFT.out _).mono ?_
                      rintro e y1 ⟨rfl, hy1⟩
                      have hX := hX.below hy1 (Nat.le_refl _)
                      have hD := hD.below hy1
                      have hF := hF.below hy1
                      clear hy1
                      refine hK.out _ _ _ (fun _ h => h) ⟨hF.v.c0, hF.v.c1, hF.y.c0, hF.y.c1, hF.y.c2, hD.1, hD.2.1, hD.2.2⟩ ?_
                      clear hK K
                      try simp only [Act.put, List.setIfInBounds_toArray, List.set_cons_zero, List.set_cons_succ]
                      refine Lex.step_take (.bool false) xn14 rfl (Lex.want_some rfl xn6 rfl (b' := false) rfl rfl) (by intro Wx hSw; (try dsimp only at hSw); go_simp; (try (first | (with_reducible rfl) | assumption | rfl))) ?_
                      simp only [Act.put, List.setIfInBounds_toArray, List.set_cons_zero, List.set_cons_succ]
                      refine Lex.step_take (.bool false) xn16 rfl (Lex.want_some rfl xn6 rfl (b' := false) rfl rfl) (by intro Wx hSw; (try dsimp only at hSw); go_simp; (try (first | (with_reducible rfl) | assumption | rfl))) ?_
                      simp only [Act.put, List.setIfInBounds_toArray, List.set_cons_zero, List.set_cons_succ]
                      refine Lex.step_take (.bool false) xn17 rfl (Lex.want_none rfl) (by intro Wx hSw; (try dsimp only at hSw); go_simp; (try (first | (with_reducible rfl) | assumption | rfl))) ?_
                      simp only [Act.put, List.setIfInBounds_toArray, List.set_cons_zero, List.set_cons_succ]
                      refine NoPanic.normal ?_
                      go_wp2
                      go_roundw
                      case rel => exact ⟨q + 1, by omega, by go_num, hF⟩
                      case measure => simp [intOf]; omega
              · obtain rfl : q = m2 := by omega
                go_wp2_with fail
                refine (awake_any _).mono ?_
                rintro e y9 ⟨rfl, hy⟩
                have hF := hF.below hy
                clear hy
                go_wp2
                go_ret
                subst hgw
                exact ⟨rfl, hF.B⟩
          · have hz0' : (z != 0) = true := bne_iff_ne.2 hz0
            go_wp2_with fail
            refine (awake_any _).mono ?_
            rintro e y9 ⟨rfl, hy⟩
            have hF := hF.below hy
            clear hy c0 c1 e0 e1 e2
            go_wp2
            go_ret
            subst hgw
            exact ⟨rfl, hF.B⟩
end Go.Proofs.Ytodhhoegdfpakaa.Ro
