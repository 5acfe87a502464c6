/- RowChecks: whatever schema, row and places, walked. -/
import Derived.Test.YtodhhoegdfpakaaRoI
import Derived.Test.YtodhhoegdfpakaaXsd
namespace Go.Proofs.Ytodhhoegdfpakaa.Ro
open Go.RowKit Pac Va Sc Lex

structure Th (w : World) (g lo1 lo2 lo3 : Nat) (nm : ByteArray) (A1 A2 A3 : Option Addr) (m cp : Nat) (cs : List C) (l : List V) (cols : List Int) (W : World) : Prop extends Tel w g lo1 lo2 nm A1 A2 m cp cs l W where
  i : HasI W lo3 A3 cols
theorem Th.below {w : World} {g lo1 lo2 lo3 : Nat} {nm : ByteArray} {A1 A2 A3 : Option Addr} {m cp : Nat} {cs : List C} {l : List V} {cols : List Int} {W W' : World} (h : Th w g lo1 lo2 lo3 nm A1 A2 A3 m cp cs l cols W) (hb : Below W.heap.size W W') : Th w g lo1 lo2 lo3 nm A1 A2 A3 m cp cs l cols W' :=
  ⟨h.toTel.below hb, h.i.below hb (Nat.le_refl _)⟩
theorem refCheck_of {cs : List C} {l : List V} {z : Int} {m m2 : Nat} (hz : checkE cs l = z) (hm : cs.length = m) (hm2 : l.length = m2) (h9 : m ≤ 9223372036854775807) (h9' : m2 ≤ 9223372036854775807) (nm : ByteArray) (A1 A2 : Option Addr) (cp cp2 lo1 lo2 : Nat) (W : World) (h1 : HasCols W lo1 A1 cs) (h2 : HasV W lo2 A2 l) :
    Calls Try.prog 14 #[.agg #[.string nm, .slice A1 m cp], .slice A2 m2 cp2] W fun e w' => e = .returned (.int .i64 z) ∧ Below W.heap.size W w' := by
  subst hm hm2 hz
  exact refCheck_any A1 A2 cp cp2 nm cs l lo1 lo2 W h1 h2 h9 h9'
theorem refPick_of {l : List V} {cols : List Int} {m m2 : Nat} (hm : l.length = m) (hm2 : cols.length = m2) (h9 : m ≤ 9223372036854775807) (h6 : m2 ≤ 1000000) (A1 A2 : Option Addr) (cp cp2 lo1 lo2 : Nat) (W : World) (h1 : HasV W lo1 A1 l) (h2 : HasI W lo2 A2 cols) :
    Calls Try.prog 12 #[.slice A1 m cp, .slice A2 m2 cp2] W (PickPost l cols W) := by
  subst hm hm2
  exact refPick_any A1 A2 cp cp2 l cols lo1 lo2 W h1 h2 h9 h6
theorem pick_len {l : List V} : ∀ {cols : List Int} {p : List V}, p = (pickO l cols).getD [] → p.length ≤ cols.length
  | cols, p, h => by
    cases hq : pickO l cols with
    | none => rw [hq] at h; rw [h]; exact Nat.zero_le _
    | some p' =>
      by_cases ha : ∀ c ∈ cols, 0 ≤ c ∧ c < l.length
      · obtain ⟨p2, hp2, hl, _⟩ := pick_some ha
        rw [hp2] at h
        rw [h]
        show p2.length ≤ _
        omega
      · have : ∃ c ∈ cols, ¬ (0 ≤ c ∧ c < (l.length : Int)) := by
          by_cases hb : ∃ c ∈ cols, ¬ (0 ≤ c ∧ c < (l.length : Int))
          · exact hb
          · exact absurd (fun c hc => by
              by_cases hx : 0 ≤ c ∧ c < (l.length : Int)
              · exact hx
              · exact absurd ⟨c, hc, hx⟩ hb) ha
        rw [pick_none this] at hq
        cases hq

set_option maxRecDepth 100000 in
set_option maxHeartbeats 8000000 in
theorem checks_any (A1 A2 A3 : Option Addr) (cp cp2 cp3 m m2 m3 : Nat) (nm : ByteArray) (cs : List C) (l : List V) (cols : List Int) (lo1 lo2 lo3 : Nat) (w : World) (h1 : HasCols w lo1 A1 cs) (h2 : HasV w lo2 A2 l) (h3 : HasI w lo3 A3 cols) (hm : cs.length = m) (hm2 : l.length = m2) (hm3 : cols.length = m3) (h9 : m ≤ 9223372036854775807) (h9' : m2 ≤ 9223372036854775807) (h9'' : m3 ≤ 9223372036854775807) (hok2 : ∀ (j : Nat) (a : V), l[j]? = some a → a.s.size ≤ 9223372036854775807) :
    Calls Try.prog 3 #[.agg #[.string nm, .slice A1 m cp], .slice A2 m2 cp2, .slice A3 m3 cp3] w fun e w' => e = .returned (.bool true) ∧ Below w.heap.size w w' := by
  have hF : Th w w.heap.size lo1 lo2 lo3 nm A1 A2 A3 m cp cs l cols (w.alloc (.cells #[.string nm, .slice A1 m cp] 24)) := ⟨Tel.new h1 h2, h3.below ((Below.refl w.heap.size w).alloc (Nat.le_refl _) _) (Nat.le_refl _)⟩
  have HSm := Lib.hid (fun (W : World) (hc : HasV W lo2 A2 l) => small_of hm2 h9' hok2 A2 cp2 lo2 W hc)
  obtain ⟨z, hz⟩ : ∃ z, checkE cs l = z := ⟨_, rfl⟩
  have HC1 := Lib.hid (fun (W : World) (h1 : HasCols W lo1 A1 cs) (h2 : HasV W lo2 A2 l) => check_of hz hm hm2 h9 h9' nm A1 A2 cp cp2 lo1 lo2 W h1 h2)
  have HC2 := Lib.hid (fun (W : World) (h1 : HasCols W lo1 A1 cs) (h2 : HasV W lo2 A2 l) => refCheck_of hz hm hm2 h9 h9' nm A1 A2 cp cp2 lo1 lo2 W h1 h2)
  have HP1 := Lib.hid (fun (h6 : m3 ≤ 1000000) (W : World) (h1 : HasV W lo2 A2 l) (h2 : HasI W lo3 A3 cols) => pick_of hm2 hm3 h9' h6 A2 A3 cp2 cp3 lo2 lo3 W h1 h2)
  have HP2 := Lib.hid (fun (h6 : m3 ≤ 1000000) (W : World) (h1 : HasV W lo2 A2 l) (h2 : HasI W lo3 A3 cols) => refPick_of hm2 hm3 h9' h6 A2 A3 cp2 cp3 lo2 lo3 W h1 h2)
  have HM := Lib.hid hm
  have HM2 := Lib.hid hm2
  have HM3 := Lib.hid hm3
  have HF := Lib.hid hF
  clear hF hz hok2 h1 h2 h3 hm hm2 hm3
  go_enter Try.func3, Try.ntmps3
  by_cases h30 : 30 < m
  · have c1 := HF.out.v.c1
    go_wp2_with fail
    have hF := HF.out
    clear HF
    generalize w.alloc (.cells #[.string nm, .slice A1 m cp] 24) = w1 at hF ⊢
    generalize hgw : w.heap.size = g at hF ⊢
    refine (awake_any _).mono ?_
    rintro e y9 ⟨rfl, hy⟩
    have hF := hF.below hy
    clear hy c1
    go_wp2
    go_ret
    subst hgw
    exact ⟨rfl, hF.B⟩
  · have c1 := HF.out.v.c1
    go_wp2_with fail
    have hF := HF.out
    clear HF c1
    generalize w.alloc (.cells #[.string nm, .slice A1 m cp] 24) = w1 at hF ⊢
    generalize hgw : w.heap.size = g at hF ⊢
    refine (HSm.out _ hF.r).mono ?_
    rintro e w2 ⟨sm, rfl, _, hy⟩
    have hF := hF.below hy
    clear hy HSm
    cases sm
    · go_wp2_with fail
      refine (awake_any _).mono ?_
      rintro e y9 ⟨rfl, hy⟩
      have hF := hF.below hy
      clear hy
      go_wp2
      go_ret
      subst hgw
      exact ⟨rfl, hF.B⟩
    · by_cases h33 : 30 < m3
      · go_wp2_with fail
        refine (awake_any _).mono ?_
        rintro e y9 ⟨rfl, hy⟩
        have hF := hF.below hy
        clear hy
        go_wp2
        go_ret
        subst hgw
        exact ⟨rfl, hF.B⟩
      · go_wp2
        go_loopw [7] (fun i wr => ∃ (q : Nat), q ≤ m ∧ q ≤ m2 ∧ i = .int .i64 q ∧ Th w g lo1 lo2 lo3 nm A1 A2 A3 m cp cs l cols wr) (fun i _ => m - (intOf i).toNat)
        case atStart => exact ⟨0, Nat.zero_le _, Nat.zero_le _, rfl, hF⟩
        case round =>
          clear hF
          obtain ⟨q, hq, hq2, rfl, hF⟩ := hrel
          have c1 := hF.v.c1
          by_cases hgo : q < m ∧ q < m2
          · obtain ⟨hlt, hlt2⟩ := hgo
            have hg1 : cs[q]? = some (cs[q]'(by rw [HM.out]; exact hlt)) := List.getElem?_eq_getElem _
            have hg2 : l[q]? = some (l[q]'(by rw [HM2.out]; exact hlt2)) := List.getElem?_eq_getElem _
            obtain ⟨b1, o1, rfl, hlo1, hlb1, hcc1⟩ := hF.c (fun e => by have := HM.out; rw [e] at this; simp at this; omega)
            obtain ⟨d0, d1, d2⟩ := hcc1 q _ hg1
            obtain ⟨b2, o2, rfl, hlo2, hlb2, e0, e1, e2⟩ := HasV.at hF.r hg2
            generalize (cs[q]'(by rw [HM.out]; exact hlt)) = c at hg1 d0 d1 d2
            generalize (l[q]'(by rw [HM2.out]; exact hlt2)) = a at hg2 e0 e1 e2
            have hD : At6 wr b1 (o1 + q * 3) b2 (o2 + q * 3) c a := ⟨d0, d1, d2, e0, e1, e2⟩
            have hc1 := fun W : World => fits_any c a W
            have hc2 := fun W : World => refFits_any c a W
            generalize fitsE c a = r at hc1 hc2
            obtain ⟨nn, ck, cz⟩ := c
            obtain ⟨k, n, s⟩ := a
            have hc1 : ∀ W : World, Calls Try.prog 9 #[.agg #[.string nn, .int .i64 ck, .bool cz], .agg #[.int .i64 k, .int .i64 n, .string s]] W fun e w' => e = .returned (.int .i64 r) ∧ Below W.heap.size W w' := hc1
            have hc2 : ∀ W : World, Calls Try.prog 10 #[.agg #[.string nn, .int .i64 ck, .bool cz], .agg #[.int .i64 k, .int .i64 n, .string s]] W fun e w' => e = .returned (.int .i64 r) ∧ Below W.heap.size W w' := hc2
            clear hcc1 hg1 hg2 d0 d1 d2 e0 e1 e2
            have i1 : (q : Int) < (m : Int) := by omega
            have i2 : (q : Int) < (m2 : Int) := by omega
            have i0 : (0 : Int) ≤ (q : Int) := by omega
            go_wp2_with fail
            clear c1
            refine Lex.region_lex (ops := xaops) (calls := xacalls) xaord (fun W => W.cell? ⟨g, 1, none⟩ = some (.slice (some ⟨b1, o1, none⟩) m cp) ∧ W.cell? ⟨b1, o1 + q * 3, none⟩ = some (.string nn) ∧ W.cell? ⟨b1, o1 + q * 3 + 1, none⟩ = some (.int .i64 ck) ∧ W.cell? ⟨b1, o1 + q * 3 + 2, none⟩ = some (.bool cz) ∧ W.cell? ⟨b2, o2 + q * 3, none⟩ = some (.int .i64 k) ∧ W.cell? ⟨b2, o2 + q * 3 + 1, none⟩ = some (.int .i64 n) ∧ W.cell? ⟨b2, o2 + q * 3 + 2, none⟩ = some (.string s)) (by kernel_rfl) (by kernel_rfl) xasel (by kernel_rfl) (by kernel_rfl) xalex (⟨hF.v.drew.c1, (hD.below (Below.refl _ _).drew).1, (hD.below (Below.refl _ _).drew).2.1, (hD.below (Below.refl _ _).drew).2.2.1, (hD.below (Below.refl _ _).drew).2.2.2.1, (hD.below (Below.refl _ _).drew).2.2.2.2.1, (hD.below (Below.refl _ _).drew).2.2.2.2.2⟩) ?_
            unfold xaord
            have hD := hD.below (Below.refl _ _).drew
            have hF := hF.below (Below.refl _ _).drew
            refine Lex.step_take (.pointer (some ⟨g, 1, none⟩)) xa0 rfl (Lex.want_none rfl) (by intro Wx hSw; (try dsimp only at hSw); go_simp; (try (first | (with_reducible rfl) | assumption | rfl))) ?_
            simp only [Act.put, List.setIfInBounds_toArray, List.set_cons_zero, List.set_cons_succ]
            refine Lex.step_take (.slice (some ⟨b1, o1, none⟩) m cp) xa1 rfl (Lex.want_none rfl) (by intro Wx hSw; (try dsimp only at hSw); go_simp; (try (first | (with_reducible rfl) | assumption | rfl))) ?_
            simp only [Act.put, List.setIfInBounds_toArray, List.set_cons_zero, List.set_cons_succ]
            refine Lex.step_take (.int .i64 q) xa2 rfl (Lex.want_none rfl) (by intro Wx hSw; (try dsimp only at hSw); go_simp; (try (first | (with_reducible rfl) | assumption | rfl))) ?_
            simp only [Act.put, List.setIfInBounds_toArray, List.set_cons_zero, List.set_cons_succ]
            refine Lex.step_take (.pointer (some ⟨b1, o1 + q * 3, none⟩)) xa3 rfl (Lex.want_none rfl) (by intro Wx hSw; (try dsimp only at hSw); go_simp; (try (first | (with_reducible rfl) | assumption | rfl))) ?_
            simp only [Act.put, List.setIfInBounds_toArray, List.set_cons_zero, List.set_cons_succ]
            refine Lex.step_take (.agg #[.string nn, .int .i64 ck, .bool cz]) xa4 rfl (Lex.want_none rfl) (by intro Wx hSw; (try dsimp only at hSw); go_simp; (try (first | (with_reducible rfl) | assumption | rfl))) ?_
            simp only [Act.put, List.setIfInBounds_toArray, List.set_cons_zero, List.set_cons_succ]
            refine Lex.step_take (.slice (some ⟨b2, o2, none⟩) m2 cp2) xa5 rfl (Lex.want_none rfl) (by intro Wx hSw; (try dsimp only at hSw); go_simp; (try (first | (with_reducible rfl) | assumption | rfl))) ?_
            simp only [Act.put, List.setIfInBounds_toArray, List.set_cons_zero, List.set_cons_succ]
            refine Lex.step_take (.int .i64 q) xa6 rfl (Lex.want_none rfl) (by intro Wx hSw; (try dsimp only at hSw); go_simp; (try (first | (with_reducible rfl) | assumption | rfl))) ?_
            simp only [Act.put, List.setIfInBounds_toArray, List.set_cons_zero, List.set_cons_succ]
            refine Lex.step_take (.pointer (some ⟨b2, o2 + q * 3, none⟩)) xa7 rfl (Lex.want_none rfl) (by intro Wx hSw; (try dsimp only at hSw); go_simp; (try (first | (with_reducible rfl) | assumption | rfl))) ?_
            simp only [Act.put, List.setIfInBounds_toArray, List.set_cons_zero, List.set_cons_succ]
            refine Lex.step_take (.agg #[.int .i64 k, .int .i64 n, .string s]) xa8 rfl (Lex.want_none rfl) (by intro Wx hSw; (try dsimp only at hSw); go_simp; (try (first | (with_reducible rfl) | assumption | rfl))) ?_
            simp only [Act.put, List.setIfInBounds_toArray, List.set_cons_zero, List.set_cons_succ]
            refine Lex.step_take (.pointer (some ⟨g, 1, none⟩)) xa10 rfl (Lex.want_none rfl) (by intro Wx hSw; (try dsimp only at hSw); go_simp; (try (first | (with_reducible rfl) | assumption | rfl))) ?_
            simp only [Act.put, List.setIfInBounds_toArray, List.set_cons_zero, List.set_cons_succ]
            refine Lex.step_take (.slice (some ⟨b1, o1, none⟩) m cp) xa11 rfl (Lex.want_none rfl) (by intro Wx hSw; (try dsimp only at hSw); go_simp; (try (first | (with_reducible rfl) | assumption | rfl))) ?_
            simp only [Act.put, List.setIfInBounds_toArray, List.set_cons_zero, List.set_cons_succ]
            refine Lex.step_take (.int .i64 q) xa12 rfl (Lex.want_none rfl) (by intro Wx hSw; (try dsimp only at hSw); go_simp; (try (first | (with_reducible rfl) | assumption | rfl))) ?_
            simp only [Act.put, List.setIfInBounds_toArray, List.set_cons_zero, List.set_cons_succ]
            refine Lex.step_take (.pointer (some ⟨b1, o1 + q * 3, none⟩)) xa13 rfl (Lex.want_none rfl) (by intro Wx hSw; (try dsimp only at hSw); go_simp; (try (first | (with_reducible rfl) | assumption | rfl))) ?_
            simp only [Act.put, List.setIfInBounds_toArray, List.set_cons_zero, List.set_cons_succ]
            refine Lex.step_take (.agg #[.string nn, .int .i64 ck, .bool cz]) xa14 rfl (Lex.want_none rfl) (by intro Wx hSw; (try dsimp only at hSw); go_simp; (try (first | (with_reducible rfl) | assumption | rfl))) ?_
            simp only [Act.put, List.setIfInBounds_toArray, List.set_cons_zero, List.set_cons_succ]
            refine Lex.step_take (.slice (some ⟨b2, o2, none⟩) m2 cp2) xa15 rfl (Lex.want_none rfl) (by intro Wx hSw; (try dsimp only at hSw); go_simp; (try (first | (with_reducible rfl) | assumption | rfl))) ?_
            simp only [Act.put, List.setIfInBounds_toArray, List.set_cons_zero, List.set_cons_succ]
            refine Lex.step_take (.int .i64 q) xa16 rfl (Lex.want_none rfl) (by intro Wx hSw; (try dsimp only at hSw); go_simp; (try (first | (with_reducible rfl) | assumption | rfl))) ?_
            simp only [Act.put, List.setIfInBounds_toArray, List.set_cons_zero, List.set_cons_succ]
            refine Lex.step_take (.pointer (some ⟨b2, o2 + q * 3, none⟩)) xa17 rfl (Lex.want_none rfl) (by intro Wx hSw; (try dsimp only at hSw); go_simp; (try (first | (with_reducible rfl) | assumption | rfl))) ?_
            simp only [Act.put, List.setIfInBounds_toArray, List.set_cons_zero, List.set_cons_succ]
            refine Lex.step_take (.agg #[.int .i64 k, .int .i64 n, .string s]) xa18 rfl (Lex.want_none rfl) (by intro Wx hSw; (try dsimp only at hSw); go_simp; (try (first | (with_reducible rfl) | assumption | rfl))) ?_
            simp only [Act.put, List.setIfInBounds_toArray, List.set_cons_zero, List.set_cons_succ]
            refine Lex.step_call xa9 rfl (Lex.want_none rfl) (fun K hK => ?_)
            go_simp
            refine (hc1 _).mono ?_
            rintro e y1 ⟨rfl, hy1⟩
            have hD := hD.below hy1
            have hF := hF.below hy1
            clear hy1 hc1
            refine hK.out _ _ _ (fun _ h => h) ⟨hF.v.c1, hD.1, hD.2.1, hD.2.2.1, hD.2.2.2.1, hD.2.2.2.2.1, hD.2.2.2.2.2⟩ ?_
            clear hK K
            try simp only [Act.put, List.setIfInBounds_toArray, List.set_cons_zero, List.set_cons_succ]
            refine Lex.step_call xa19 rfl (Lex.want_none rfl) (fun K hK => ?_)
            go_simp
            refine (hc2 _).mono ?_
            rintro e y1 ⟨rfl, hy1⟩
            have hD := hD.below hy1
            have hF := hF.below hy1
            clear hy1 hc2
            refine hK.out _ _ _ (fun _ h => h) ⟨hF.v.c1, hD.1, hD.2.1, hD.2.2.1, hD.2.2.2.1, hD.2.2.2.2.1, hD.2.2.2.2.2⟩ ?_
            clear hK K
            try simp only [Act.put, List.setIfInBounds_toArray, List.set_cons_zero, List.set_cons_succ]
            refine Lex.step_take (.bool false) xa20 rfl (Lex.want_none rfl) (by intro Wx hSw; (try dsimp only at hSw); go_simp; (try (first | (with_reducible rfl) | assumption | rfl))) ?_
            simp only [Act.put, List.setIfInBounds_toArray, List.set_cons_zero, List.set_cons_succ]
            refine NoPanic.normal ?_
            go_wp2
            go_roundw
            case rel => exact ⟨q + 1, by omega, by omega, by go_num, hF⟩
            case measure => simp [intOf]; omega
          · by_cases hlt : q < m
            · have hl2 : ¬ q < m2 := fun h => hgo ⟨hlt, h⟩
              clear hgo
              go_wp2_with fail
              refine (HP1.out (by omega) _ hF.r hF.i).mono ?_
              rintro e w3 ⟨A4, cp4, p, ok, rfl, hok, hp, _, hv, hy⟩
              have hF := hF.below hy
              have hv := hv.lower (Nat.zero_le _)
              clear hy c1
              obtain ⟨pl, hpl⟩ : ∃ n, p.length = n := ⟨_, rfl⟩
              rw [hpl]
              have HX := Lib.hid (And.intro hok (And.intro hp hpl))
              clear hok hp hpl
              go_wp2_with fail
              refine (HP2.out (by omega) _ hF.r hF.i).mono ?_
              rintro e w4 ⟨A5, cp5, p5, ok5, rfl, hok5, hp5, _, hv5, hy⟩
              have hF := hF.below hy
              have hv := hv.below hy (Nat.le_refl _)
              have hv5 := hv5.lower (Nat.zero_le _)
              clear hy
              obtain ⟨hok, hp, hpl⟩ := HX.out
              obtain rfl : ok5 = ok := hok5.trans hok.symm
              obtain rfl : p5 = p := hp5.trans hp.symm
              rw [hpl]
              have hpl9 : pl ≤ 9223372036854775807 := by
                have h := pick_len hp
                rw [HM3.out, hpl] at h
                omega
              have HX := Lib.hid (And.intro hpl hpl9)
              clear hok hp hpl hok5 hp5 HP1 HP2 hpl9
              have c0 := hF.v.c0
              have c1 := hF.v.c1
              go_wp2_with fail
              obtain ⟨hpl, hpl9⟩ := HX.out
              clear c0 c1 HX
              refine Lex.region_lex (ops := xbops) (calls := xbcalls) xbord (fun W => W.cell? ⟨g, 0, none⟩ = some (.string nm) ∧ W.cell? ⟨g, 1, none⟩ = some (.slice A1 m cp)) (by kernel_rfl) (by kernel_rfl) xbsel (by kernel_rfl) (by kernel_rfl) xblex (⟨hF.v.drew.c0, hF.v.drew.c1⟩) ?_
              unfold xbord
              have hF := hF.below (Below.refl _ _).drew
              have hv := hv.below (Below.refl _ _).drew (Nat.le_refl _)
              have hv5 := hv5.below (Below.refl _ _).drew (Nat.le_refl _)
              refine Lex.step_call xb0 rfl (Lex.want_none rfl) (fun K hK => ?_)
              go_simp
              refine (awake_any _).mono ?_
              rintro e y1 ⟨rfl, hy1⟩
              have hF := hF.below hy1
              have hv := hv.below hy1 (Nat.le_refl _)
              have hv5 := hv5.below hy1 (Nat.le_refl _)
              clear hy1
              refine hK.out _ _ _ (fun _ h => h) ⟨hF.v.c0, hF.v.c1⟩ ?_
              clear hK K
              try simp only [Act.put, List.setIfInBounds_toArray, List.set_cons_zero, List.set_cons_succ]
              refine Lex.step_take (.bool true) xb1 rfl (Lex.want_none rfl) (by intro Wx hSw; (try dsimp only at hSw); go_simp; (try (first | (with_reducible rfl) | assumption | rfl))) ?_
              simp only [Act.put, List.setIfInBounds_toArray, List.set_cons_zero, List.set_cons_succ]
              refine Lex.step_take (.agg #[.string nm, .slice A1 m cp]) xb2 rfl (Lex.want_some rfl xb1 rfl (b' := true) rfl rfl) (by intro Wx hSw; (try dsimp only at hSw); go_simp; (try (first | (with_reducible rfl) | assumption | rfl))) ?_
              simp only [Act.put, List.setIfInBounds_toArray, List.set_cons_zero, List.set_cons_succ]
              refine Lex.step_take (.slice A2 m2 cp2) xb3 rfl (Lex.want_some rfl xb1 rfl (b' := true) rfl rfl) (by intro Wx hSw; (try dsimp only at hSw); go_simp; (try (first | (with_reducible rfl) | assumption | rfl))) ?_
              simp only [Act.put, List.setIfInBounds_toArray, List.set_cons_zero, List.set_cons_succ]
              refine Lex.step_take (.agg #[.string nm, .slice A1 m cp]) xb5 rfl (Lex.want_some rfl xb1 rfl (b' := true) rfl rfl) (by intro Wx hSw; (try dsimp only at hSw); go_simp; (try (first | (with_reducible rfl) | assumption | rfl))) ?_
              simp only [Act.put, List.setIfInBounds_toArray, List.set_cons_zero, List.set_cons_succ]
              refine Lex.step_take (.slice A2 m2 cp2) xb6 rfl (Lex.want_some rfl xb1 rfl (b' := true) rfl rfl) (by intro Wx hSw; (try dsimp only at hSw); go_simp; (try (first | (with_reducible rfl) | assumption | rfl))) ?_
              simp only [Act.put, List.setIfInBounds_toArray, List.set_cons_zero, List.set_cons_succ]
              refine Lex.step_call xb4 rfl (Lex.want_some rfl xb1 rfl (b' := true) rfl rfl) (fun K hK => ?_)
              go_simp
              refine (HC1.out _ hF.c hF.r).mono ?_
              rintro e y1 ⟨rfl, hy1⟩
              have hF := hF.below hy1
              have hv := hv.below hy1 (Nat.le_refl _)
              have hv5 := hv5.below hy1 (Nat.le_refl _)
              clear hy1
              refine hK.out _ _ _ (fun _ h => h) ⟨hF.v.c0, hF.v.c1⟩ ?_
              clear hK K
              try simp only [Act.put, List.setIfInBounds_toArray, List.set_cons_zero, List.set_cons_succ]
              refine Lex.step_call xb7 rfl (Lex.want_some rfl xb1 rfl (b' := true) rfl rfl) (fun K hK => ?_)
              go_simp
              refine (HC2.out _ hF.c hF.r).mono ?_
              rintro e y1 ⟨rfl, hy1⟩
              have hF := hF.below hy1
              have hv := hv.below hy1 (Nat.le_refl _)
              have hv5 := hv5.below hy1 (Nat.le_refl _)
              clear hy1
              refine hK.out _ _ _ (fun _ h => h) ⟨hF.v.c0, hF.v.c1⟩ ?_
              clear hK K
              try simp only [Act.put, List.setIfInBounds_toArray, List.set_cons_zero, List.set_cons_succ]
              refine Lex.step_take (.bool true) xb8 rfl (Lex.want_some rfl xb1 rfl (b' := true) rfl rfl) (by intro Wx hSw; (try dsimp only at hSw); go_simp; (try (first | (with_reducible rfl) | assumption | rfl))) ?_
              simp only [Act.put, List.setIfInBounds_toArray, List.set_cons_zero, List.set_cons_succ]
              refine Lex.step_take (.bool true) xb9 rfl (Lex.want_none rfl) (by intro Wx hSw; (try dsimp only at hSw); go_simp; (try (first | (with_reducible rfl) | assumption | rfl))) ?_
              simp only [Act.put, List.setIfInBounds_toArray, List.set_cons_zero, List.set_cons_succ]
              refine Lex.step_take (.bool true) xb10 rfl (Lex.want_none rfl) (by intro Wx hSw; (try dsimp only at hSw); go_simp; (try (first | (with_reducible rfl) | assumption | rfl))) ?_
              simp only [Act.put, List.setIfInBounds_toArray, List.set_cons_zero, List.set_cons_succ]
              refine Lex.step_take (.slice A4 pl cp4) xb11 rfl (Lex.want_some rfl xb10 rfl (b' := true) rfl rfl) (by intro Wx hSw; (try dsimp only at hSw); go_simp; (try (first | (with_reducible rfl) | assumption | rfl))) ?_
              simp only [Act.put, List.setIfInBounds_toArray, List.set_cons_zero, List.set_cons_succ]
              refine Lex.step_take (.slice A5 pl cp5) xb12 rfl (Lex.want_some rfl xb10 rfl (b' := true) rfl rfl) (by intro Wx hSw; (try dsimp only at hSw); go_simp; (try (first | (with_reducible rfl) | assumption | rfl))) ?_
              simp only [Act.put, List.setIfInBounds_toArray, List.set_cons_zero, List.set_cons_succ]
              refine Lex.step_call xb13 rfl (Lex.want_some rfl xb10 rfl (b' := true) rfl rfl) (fun K hK => ?_)
              go_simp
              refine (same_of hpl hpl9 A4 A5 cp4 cp5 0 0 _ hv hv5).mono ?_
              rintro e y1 ⟨rfl, hy1⟩
              have hF := hF.below hy1
              have hv := hv.below hy1 (Nat.le_refl _)
              have hv5 := hv5.below hy1 (Nat.le_refl _)
              clear hy1
              refine hK.out _ _ _ (fun _ h => h) ⟨hF.v.c0, hF.v.c1⟩ ?_
              clear hK K
              try simp only [Act.put, List.setIfInBounds_toArray, List.set_cons_zero, List.set_cons_succ]
              refine Lex.step_take (.bool true) xb14 rfl (Lex.want_none rfl) (by intro Wx hSw; (try dsimp only at hSw); go_simp; (try (first | (with_reducible rfl) | assumption | rfl))) ?_
              simp only [Act.put, List.setIfInBounds_toArray, List.set_cons_zero, List.set_cons_succ]
              refine Lex.step_take (.bool true) xb15 rfl (Lex.want_none rfl) (by intro Wx hSw; (try dsimp only at hSw); go_simp; (try (first | (with_reducible rfl) | assumption | rfl))) ?_
              simp only [Act.put, List.setIfInBounds_toArray, List.set_cons_zero, List.set_cons_succ]
              refine Lex.step_take (.bool ok5) xb16 rfl (Lex.want_some rfl xb15 rfl (b' := true) rfl rfl) (by intro Wx hSw; (try dsimp only at hSw); go_simp; (try (first | (with_reducible rfl) | assumption | rfl))) ?_
              simp only [Act.put, List.setIfInBounds_toArray, List.set_cons_zero, List.set_cons_succ]
              refine Lex.step_take (.bool ok5) xb17 rfl (Lex.want_some rfl xb15 rfl (b' := true) rfl rfl) (by intro Wx hSw; (try dsimp only at hSw); go_simp; (try (first | (with_reducible rfl) | assumption | rfl))) ?_
              simp only [Act.put, List.setIfInBounds_toArray, List.set_cons_zero, List.set_cons_succ]
              refine Lex.step_take (.bool true) xb18 rfl (Lex.want_some rfl xb15 rfl (b' := true) rfl rfl) (by intro Wx hSw; (try dsimp only at hSw); go_simp; (try (first | (with_reducible rfl) | assumption | rfl))) ?_
              simp only [Act.put, List.setIfInBounds_toArray, List.set_cons_zero, List.set_cons_succ]
              refine Lex.step_take (.bool true) xb19 rfl (Lex.want_none rfl) (by intro Wx hSw; (try dsimp only at hSw); go_simp; (try (first | (with_reducible rfl) | assumption | rfl))) ?_
              simp only [Act.put, List.setIfInBounds_toArray, List.set_cons_zero, List.set_cons_succ]
              refine Lex.step_take (.bool true) xb20 rfl (Lex.want_none rfl) (by intro Wx hSw; (try dsimp only at hSw); go_simp; (try (first | (with_reducible rfl) | assumption | rfl))) ?_
              simp only [Act.put, List.setIfInBounds_toArray, List.set_cons_zero, List.set_cons_succ]
              refine NoPanic.normal ?_
              clear hpl hpl9
              go_wp2
              go_ret
              subst hgw
              exact ⟨rfl, hF.B⟩
            · clear hgo
              go_wp2_with fail
              refine (HP1.out (by omega) _ hF.r hF.i).mono ?_
              rintro e w3 ⟨A4, cp4, p, ok, rfl, hok, hp, _, hv, hy⟩
              have hF := hF.below hy
              have hv := hv.lower (Nat.zero_le _)
              clear hy c1
              obtain ⟨pl, hpl⟩ : ∃ n, p.length = n := ⟨_, rfl⟩
              rw [hpl]
              have HX := Lib.hid (And.intro hok (And.intro hp hpl))
              clear hok hp hpl
              go_wp2_with fail
              refine (HP2.out (by omega) _ hF.r hF.i).mono ?_
              rintro e w4 ⟨A5, cp5, p5, ok5, rfl, hok5, hp5, _, hv5, hy⟩
              have hF := hF.below hy
              have hv := hv.below hy (Nat.le_refl _)
              have hv5 := hv5.lower (Nat.zero_le _)
              clear hy
              obtain ⟨hok, hp, hpl⟩ := HX.out
              obtain rfl : ok5 = ok := hok5.trans hok.symm
              obtain rfl : p5 = p := hp5.trans hp.symm
              rw [hpl]
              have hpl9 : pl ≤ 9223372036854775807 := by
                have h := pick_len hp
                rw [HM3.out, hpl] at h
                omega
              have HX := Lib.hid (And.intro hpl hpl9)
              clear hok hp hpl hok5 hp5 HP1 HP2 hpl9
              have c0 := hF.v.c0
              have c1 := hF.v.c1
              go_wp2_with fail
              obtain ⟨hpl, hpl9⟩ := HX.out
              clear c0 c1 HX
              refine Lex.region_lex (ops := xbops) (calls := xbcalls) xbord (fun W => W.cell? ⟨g, 0, none⟩ = some (.string nm) ∧ W.cell? ⟨g, 1, none⟩ = some (.slice A1 m cp)) (by kernel_rfl) (by kernel_rfl) xbsel (by kernel_rfl) (by kernel_rfl) xblex (⟨hF.v.drew.c0, hF.v.drew.c1⟩) ?_
              unfold xbord
              have hF := hF.below (Below.refl _ _).drew
              have hv := hv.below (Below.refl _ _).drew (Nat.le_refl _)
              have hv5 := hv5.below (Below.refl _ _).drew (Nat.le_refl _)
              refine Lex.step_call xb0 rfl (Lex.want_none rfl) (fun K hK => ?_)
              go_simp
              refine (awake_any _).mono ?_
              rintro e y1 ⟨rfl, hy1⟩
              have hF := hF.below hy1
              have hv := hv.below hy1 (Nat.le_refl _)
              have hv5 := hv5.below hy1 (Nat.le_refl _)
              clear hy1
              refine hK.out _ _ _ (fun _ h => h) ⟨hF.v.c0, hF.v.c1⟩ ?_
              clear hK K
              try simp only [Act.put, List.setIfInBounds_toArray, List.set_cons_zero, List.set_cons_succ]
              refine Lex.step_take (.bool true) xb1 rfl (Lex.want_none rfl) (by intro Wx hSw; (try dsimp only at hSw); go_simp; (try (first | (with_reducible rfl) | assumption | rfl))) ?_
              simp only [Act.put, List.setIfInBounds_toArray, List.set_cons_zero, List.set_cons_succ]
              refine Lex.step_take (.agg #[.string nm, .slice A1 m cp]) xb2 rfl (Lex.want_some rfl xb1 rfl (b' := true) rfl rfl) (by intro Wx hSw; (try dsimp only at hSw); go_simp; (try (first | (with_reducible rfl) | assumption | rfl))) ?_
              simp only [Act.put, List.setIfInBounds_toArray, List.set_cons_zero, List.set_cons_succ]
              refine Lex.step_take (.slice A2 m2 cp2) xb3 rfl (Lex.want_some rfl xb1 rfl (b' := true) rfl rfl) (by intro Wx hSw; (try dsimp only at hSw); go_simp; (try (first | (with_reducible rfl) | assumption | rfl))) ?_
              simp only [Act.put, List.setIfInBounds_toArray, List.set_cons_zero, List.set_cons_succ]
              refine Lex.step_take (.agg #[.string nm, .slice A1 m cp]) xb5 rfl (Lex.want_some rfl xb1 rfl (b' := true) rfl rfl) (by intro Wx hSw; (try dsimp only at hSw); go_simp; (try (first | (with_reducible rfl) | assumption | rfl))) ?_
              simp only [Act.put, List.setIfInBounds_toArray, List.set_cons_zero, List.set_cons_succ]
              refine Lex.step_take (.slice A2 m2 cp2) xb6 rfl (Lex.want_some rfl xb1 rfl (b' := true) rfl rfl) (by intro Wx hSw; (try dsimp only at hSw); go_simp; (try (first | (with_reducible rfl) | assumption | rfl))) ?_
              simp only [Act.put, List.setIfInBounds_toArray, List.set_cons_zero, List.set_cons_succ]
              refine Lex.step_call xb4 rfl (Lex.want_some rfl xb1 rfl (b' := true) rfl rfl) (fun K hK => ?_)
              go_simp
              refine (HC1.out _ hF.c hF.r).mono ?_
              rintro e y1 ⟨rfl, hy1⟩
              have hF := hF.below hy1
              have hv := hv.below hy1 (Nat.le_refl _)
              have hv5 := hv5.below hy1 (Nat.le_refl _)
              clear hy1
              refine hK.out _ _ _ (fun _ h => h) ⟨hF.v.c0, hF.v.c1⟩ ?_
              clear hK K
              try simp only [Act.put, List.setIfInBounds_toArray, List.set_cons_zero, List.set_cons_succ]
              refine Lex.step_call xb7 rfl (Lex.want_some rfl xb1 rfl (b' := true) rfl rfl) (fun K hK => ?_)
              go_simp
              refine (HC2.out _ hF.c hF.r).mono ?_
              rintro e y1 ⟨rfl, hy1⟩
              have hF := hF.below hy1
              have hv := hv.below hy1 (Nat.le_refl _)
              have hv5 := hv5.below hy1 (Nat.le_refl _)
              clear hy1
              refine hK.out _ _ _ (fun _ h => h) ⟨hF.v.c0, hF.v.c1⟩ ?_
              clear hK K
              try simp only [Act.put, List.setIfInBounds_toArray, List.set_cons_zero, List.set_cons_succ]
              refine Lex.step_take (.bool true) xb8 rfl (Lex.want_some rfl xb1 rfl (b' := true) rfl rfl) (by intro Wx hSw; (try dsimp only at hSw); go_simp; (try (first | (with_reducible rfl) | assumption | rfl))) ?_
              simp only [Act.put, List.setIfInBounds_toArray, List.set_cons_zero, List.set_cons_succ]
              refine Lex.step_take (.bool true) xb9 rfl (Lex.want_none rfl) (by intro Wx hSw; (try dsimp only at hSw); go_simp; (try (first | (with_reducible rfl) | assumption | rfl))) ?_
              simp only [Act.put, List.setIfInBounds_toArray, List.set_cons_zero, List.set_cons_succ]
              refine Lex.step_take (.bool true) xb10 rfl (Lex.want_none rfl) (by intro Wx hSw; (try dsimp only at hSw); go_simp; (try (first | (with_reducible rfl) | assumption | rfl))) ?_
              simp only [Act.put, List.setIfInBounds_toArray, List.set_cons_zero, List.set_cons_succ]
              refine Lex.step_take (.slice A4 pl cp4) xb11 rfl (Lex.want_some rfl xb10 rfl (b' := true) rfl rfl) (by intro Wx hSw; (try dsimp only at hSw); go_simp; (try (first | (with_reducible rfl) | assumption | rfl))) ?_
              simp only [Act.put, List.setIfInBounds_toArray, List.set_cons_zero, List.set_cons_succ]
              refine Lex.step_take (.slice A5 pl cp5) xb12 rfl (Lex.want_some rfl xb10 rfl (b' := true) rfl rfl) (by intro Wx hSw; (try dsimp only at hSw); go_simp; (try (first | (with_reducible rfl) | assumption | rfl))) ?_
              simp only [Act.put, List.setIfInBounds_toArray, List.set_cons_zero, List.set_cons_succ]
              refine Lex.step_call xb13 rfl (Lex.want_some rfl xb10 rfl (b' := true) rfl rfl) (fun K hK => ?_)
              go_simp
              refine (same_of hpl hpl9 A4 A5 cp4 cp5 0 0 _ hv hv5).mono ?_
              rintro e y1 ⟨rfl, hy1⟩
              have hF := hF.below hy1
              have hv := hv.below hy1 (Nat.le_refl _)
              have hv5 := hv5.below hy1 (Nat.le_refl _)
              clear hy1
              refine hK.out _ _ _ (fun _ h => h) ⟨hF.v.c0, hF.v.c1⟩ ?_
              clear hK K
              try simp only [Act.put, List.setIfInBounds_toArray, List.set_cons_zero, List.set_cons_succ]
              refine Lex.step_take (.bool true) xb14 rfl (Lex.want_none rfl) (by intro Wx hSw; (try dsimp only at hSw); go_simp; (try (first | (with_reducible rfl) | assumption | rfl))) ?_
              simp only [Act.put, List.setIfInBounds_toArray, List.set_cons_zero, List.set_cons_succ]
              refine Lex.step_take (.bool true) xb15 rfl (Lex.want_none rfl) (by intro Wx hSw; (try dsimp only at hSw); go_simp; (try (first | (with_reducible rfl) | assumption | rfl))) ?_
              simp only [Act.put, List.setIfInBounds_toArray, List.set_cons_zero, List.set_cons_succ]
              refine Lex.step_take (.bool ok5) xb16 rfl (Lex.want_some rfl xb15 rfl (b' := true) rfl rfl) (by intro Wx hSw; (try dsimp only at hSw); go_simp; (try (first | (with_reducible rfl) | assumption | rfl))) ?_
              simp only [Act.put, List.setIfInBounds_toArray, List.set_cons_zero, List.set_cons_succ]
              refine Lex.step_take (.bool ok5) xb17 rfl (Lex.want_some rfl xb15 rfl (b' := true) rfl rfl) (by intro Wx hSw; (try dsimp only at hSw); go_simp; (try (first | (with_reducible rfl) | assumption | rfl))) ?_
              simp only [Act.put, List.setIfInBounds_toArray, List.set_cons_zero, List.set_cons_succ]
              refine Lex.step_take (.bool true) xb18 rfl (Lex.want_some rfl xb15 rfl (b' := true) rfl rfl) (by intro Wx hSw; (try dsimp only at hSw); go_simp; (try (first | (with_reducible rfl) | assumption | rfl))) ?_
              simp only [Act.put, List.setIfInBounds_toArray, List.set_cons_zero, List.set_cons_succ]
              refine Lex.step_take (.bool true) xb19 rfl (Lex.want_none rfl) (by intro Wx hSw; (try dsimp only at hSw); go_simp; (try (first | (with_reducible rfl) | assumption | rfl))) ?_
              simp only [Act.put, List.setIfInBounds_toArray, List.set_cons_zero, List.set_cons_succ]
              refine Lex.step_take (.bool true) xb20 rfl (Lex.want_none rfl) (by intro Wx hSw; (try dsimp only at hSw); go_simp; (try (first | (with_reducible rfl) | assumption | rfl))) ?_
              simp only [Act.put, List.setIfInBounds_toArray, List.set_cons_zero, List.set_cons_succ]
              refine NoPanic.normal ?_
              clear hpl hpl9
              go_wp2
              go_ret
              subst hgw
              exact ⟨rfl, hF.B⟩
end Go.Proofs.Ytodhhoegdfpakaa.Ro
