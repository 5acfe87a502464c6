/- RowCells: whatever schema and row, walked. -/
import Derived.Test.YtodhhoegdfpakaaRoG
import Derived.Test.YtodhhoegdfpakaaScE
import Derived.Test.YtodhhoegdfpakaaXsc
namespace Go.Proofs.Ytodhhoegdfpakaa.Ro
open Go.RowKit Pac Va Sc Lex

/-- A schema's variable, a row, and all that was there as it was. -/
structure Tel (w : World) (g lo1 lo2 : Nat) (nm : ByteArray) (A1 A2 : Option Addr) (m cp : Nat) (cs : List C) (l : List V) (W : World) : Prop where
  v : Box2 W g (.string nm) (.slice A1 m cp)
  c : HasCols W lo1 A1 cs
  r : HasV W lo2 A2 l
  B : Below w.heap.size w W
theorem Tel.below {w : World} {g lo1 lo2 : Nat} {nm : ByteArray} {A1 A2 : Option Addr} {m cp : Nat} {cs : List C} {l : List V} {W W' : World} (h : Tel w g lo1 lo2 nm A1 A2 m cp cs l W) (hb : Below W.heap.size W W') : Tel w g lo1 lo2 nm A1 A2 m cp cs l W' :=
  ⟨h.v.below hb h.v.lt, h.c.below hb (Nat.le_refl _), h.r.below hb (Nat.le_refl _), h.B.trans (hb.mono h.B.size)⟩
theorem Tel.new {w : World} {lo1 lo2 : Nat} {nm : ByteArray} {A1 A2 : Option Addr} {m cp : Nat} {cs : List C} {l : List V} (h1 : HasCols w lo1 A1 cs) (h2 : HasV w lo2 A2 l) : Tel w w.heap.size lo1 lo2 nm A1 A2 m cp cs l (w.alloc (.cells #[.string nm, .slice A1 m cp] 24)) :=
  ⟨Box2.new w _ _ 24, h1.below ((Below.refl w.heap.size w).alloc (Nat.le_refl _) _) (Nat.le_refl _), h2.below ((Below.refl w.heap.size w).alloc (Nat.le_refl _) _) (Nat.le_refl _), (Below.refl w.heap.size w).alloc (Nat.le_refl _) _⟩
def SmallP (l : List V) (W : World) (e : Ending) (w' : World) : Prop :=
  ∃ r : Bool, e = .returned (.bool r) ∧ (r = true → l.length ≤ 30 ∧ ∀ (j : Nat) (a : V), l[j]? = some a → a.s.size ≤ 200) ∧ Below W.heap.size W w'
theorem small_of {l : List V} {m : Nat} (hm : l.length = m) (h9 : m ≤ 9223372036854775807) (hok : ∀ (j : Nat) (a : V), l[j]? = some a → a.s.size ≤ 9223372036854775807) (A : Option Addr) (cp lo : Nat) (W : World) (h : HasV W lo A l) :
    Calls Try.prog 7 #[.slice A m cp] W (SmallP l W) := by
  subst hm
  exact small_any A cp l lo W h h9 hok
theorem right_of {nm : ByteArray} {l : List C} {r : Bool} {m : Nat} (hr : rightS nm l = r) (hm : l.length = m) (hn : nm.size ≤ 9223372036854775807) (h9 : m ≤ 9223372036854775807) (hok : ∀ (j : Nat) (c : C), l[j]? = some c → c.Ok) (A : Option Addr) (cp lo : Nat) (W : World) (hc : m ≤ cp) (h : HasCols W lo A l) :
    Calls Try.prog 16 #[.agg #[.string nm, .slice A m cp]] W fun e w' => e = .returned (.bool r) ∧ Below W.heap.size W w' := by
  subst hm hr
  exact Sc.refRight_any A cp nm l lo W h hc hn h9 hok
theorem check_of {cs : List C} {l : List V} {z : Int} {m m2 : Nat} (hz : checkE cs l = z) (hm : cs.length = m) (hm2 : l.length = m2) (h9 : m ≤ 9223372036854775807) (h9' : m2 ≤ 9223372036854775807) (nm : ByteArray) (A1 A2 : Option Addr) (cp cp2 lo1 lo2 : Nat) (W : World) (h1 : HasCols W lo1 A1 cs) (h2 : HasV W lo2 A2 l) :
    Calls Try.prog 13 #[.agg #[.string nm, .slice A1 m cp], .slice A2 m2 cp2] W fun e w' => e = .returned (.int .i64 z) ∧ Below W.heap.size W w' := by
  subst hm hm2 hz
  exact check_any A1 A2 cp cp2 nm cs l lo1 lo2 W h1 h2 h9 h9'

set_option maxRecDepth 20000 in
set_option maxHeartbeats 8000000 in
theorem cells_any (A1 A2 : Option Addr) (cp cp2 m m2 : Nat) (nm : ByteArray) (cs : List C) (l : List V) (lo1 lo2 : Nat) (w : World) (h1 : HasCols w lo1 A1 cs) (h2 : HasV w lo2 A2 l) (hm : cs.length = m) (hm2 : l.length = m2) (hcp : m ≤ cp) (hn : nm.size ≤ 9223372036854775807) (h9 : m ≤ 9223372036854775807) (h9' : m2 ≤ 9223372036854775807) (hok : ∀ (j : Nat) (c : C), cs[j]? = some c → c.Ok) (hok2 : ∀ (j : Nat) (a : V), l[j]? = some a → a.s.size ≤ 9223372036854775807) :
    Calls Try.prog 4 #[.agg #[.string nm, .slice A1 m cp], .slice A2 m2 cp2] w fun e w' => e = .returned (.bool true) ∧ Below w.heap.size w w' := by
  have hF : Tel w w.heap.size lo1 lo2 nm A1 A2 m cp cs l _ := Tel.new h1 h2
  have hSm := fun (W : World) (hc : HasV W lo2 A2 l) => small_of hm2 h9' hok2 A2 cp2 lo2 W hc
  obtain ⟨r, hr⟩ : ∃ r, rightS nm cs = r := ⟨_, rfl⟩
  have hR := fun (W : World) (hc : HasCols W lo1 A1 cs) => right_of hr hm hn h9 hok A1 cp lo1 W hcp hc
  obtain ⟨z, hz⟩ : ∃ z, checkE cs l = z := ⟨_, rfl⟩
  have hC := fun (W : World) (h1 : HasCols W lo1 A1 cs) (h2 : HasV W lo2 A2 l) => check_of hz hm hm2 h9 h9' nm A1 A2 cp cp2 lo1 lo2 W h1 h2
  have HZ0 : Hid (m2 ≠ m → z ≠ 0) := Lib.hid (fun hne => by
    have : checkE cs l = 1 := by unfold checkE; rw [if_neg (by rw [hm, hm2]; exact hne)]
    rw [← hz, this]
    decide)
  have HZ1 : Hid (m2 = m → (∀ (j : Nat), j < m2 → ∀ (c : C) (v : V), cs[j]? = some c → l[j]? = some v → fitsE c v = 0) → z = 0) := Lib.hid (fun he h => by
    rw [← hz]
    refine check_ok.2 ⟨by rw [hm, hm2, he], fun j c v hc hv => h j (by rw [← hm2]; exact (List.getElem?_eq_some_iff.1 hv).1) c v hc hv⟩)
  have HZ2 : Hid (∀ (j : Nat) (c : C) (v : V), cs[j]? = some c → l[j]? = some v → fitsE c v ≠ 0 → z ≠ 0) := Lib.hid (fun j c v hc hv hne h0 => hne ((check_ok.1 (hz.trans h0)).2 j c v hc hv))
  have HM := Lib.hid hm
  have HM2 := Lib.hid hm2
  have HF := Lib.hid hF
  clear hF hr hz hok hok2 h1 h2 hm hm2
  go_enter Try.func4, Try.ntmps4
  go_wp2_with fail
  have hF := HF.out
  clear HF
  generalize w.alloc (.cells #[.string nm, .slice A1 m cp] 24) = w1 at hF ⊢
  generalize hgw : w.heap.size = g at hF ⊢
  refine (hSm _ hF.r).mono ?_
  rintro e w2 ⟨sm, rfl, _, hy⟩
  have hF := hF.below hy
  clear hy hSm
  have c0 := hF.v.c0
  have c1 := hF.v.c1
  cases sm
  · go_wp2_with fail
    refine (awake_any _).mono ?_
    rintro e y9 ⟨rfl, hy⟩
    have hF := hF.below hy
    clear hy c0 c1
    go_wp2
    go_ret
    subst hgw
    exact ⟨rfl, hF.B⟩
  · by_cases h30 : 30 < m
    · go_wp2_with fail
      refine (awake_any _).mono ?_
      rintro e y9 ⟨rfl, hy⟩
      have hF := hF.below hy
      clear hy c0 c1
      go_wp2
      go_ret
      subst hgw
      exact ⟨rfl, hF.B⟩
    · go_wp2_with fail
      refine (hR _ hF.c).mono ?_
      rintro e w3 ⟨rfl, hy⟩
      have hF := hF.below hy
      clear hy c0 c1 hR
      have c0 := hF.v.c0
      have c1 := hF.v.c1
      cases r
      · go_wp2_with fail
        refine (awake_any _).mono ?_
        rintro e y9 ⟨rfl, hy⟩
        have hF := hF.below hy
        clear hy c0 c1
        go_wp2
        go_ret
        subst hgw
        exact ⟨rfl, hF.B⟩
      · have HB0 : Hid ((((m2 : Int) == (m : Int)) = true → m2 = m) ∧ (((m2 : Int) == (m : Int)) = false → z ≠ 0)) := Lib.hid ⟨fun h => by have := beq_iff_eq.1 h; omega, fun h => HZ0.out (by have := beq_eq_false_iff_ne.1 h; omega)⟩
        go_wp2
        generalize ((m2 : Int) == (m : Int)) = b0 at HB0 ⊢
        clear c0 c1
        go_loopw [5, 6] (fun x i wr => ∃ (b : Bool) (q : Nat), q ≤ m2 ∧ x = .bool b ∧ i = .int .i64 q ∧ Hid ((b = true → m2 = m ∧ ∀ (j : Nat), j < q → ∀ (c : C) (v : V), cs[j]? = some c → l[j]? = some v → fitsE c v = 0) ∧ (b = false → z ≠ 0)) ∧ Tel w g lo1 lo2 nm A1 A2 m cp cs l wr) (fun _ i _ => m2 - (intOf i).toNat)
        case atStart => exact ⟨b0, 0, Nat.zero_le _, rfl, rfl, Lib.hid ⟨fun h => ⟨HB0.out.1 h, fun j hj => absurd hj (Nat.not_lt_zero j)⟩, HB0.out.2⟩, hF⟩
        case round =>
          clear HB0 hF
          obtain ⟨b, q, hq, rfl, rfl, hH, hF⟩ := hrel
          have c0 := hF.v.c0
          have c1 := hF.v.c1
          have hend : (b = true → q = m2) → ((z == 0) = b) := fun h => by
            cases b
            · exact beq_eq_false_iff_ne.2 (hH.out.2 rfl)
            · have := h rfl
              subst this
              exact beq_iff_eq.2 (HZ1.out (hH.out.1 rfl).1 (hH.out.1 rfl).2)
          by_cases hgo : q < m2 ∧ b = true
          · obtain ⟨hlt, rfl⟩ := hgo
            clear hend
            obtain ⟨rfl, hJ⟩ := hH.out.1 rfl
            have hg1 : cs[q]? = some (cs[q]'(by rw [HM.out]; exact hlt)) := List.getElem?_eq_getElem _
            have hg2 : l[q]? = some (l[q]'(by rw [HM2.out]; exact hlt)) := List.getElem?_eq_getElem _
            obtain ⟨b1, o1, rfl, hlo1, hlb1, hcc1⟩ := hF.c (fun e => by have := HM.out; rw [e] at this; simp at this; omega)
            obtain ⟨d0, d1, d2⟩ := hcc1 q _ hg1
            obtain ⟨b2, o2, rfl, hlo2, hlb2, e0, e1, e2⟩ := HasV.at hF.r hg2
            generalize (cs[q]'(by rw [HM.out]; exact hlt)) = c at hg1 d0 d1 d2
            generalize (l[q]'(by rw [HM2.out]; exact hlt)) = a at hg2 e0 e1 e2
            have hD : At6 wr b1 (o1 + q * 3) b2 (o2 + q * 3) c a := ⟨d0, d1, d2, e0, e1, e2⟩
            have hc1 := fun W : World => fits_any c a W
            have HS : Hid (((fitsE c a == 0) = true → m2 = m2 ∧ ∀ (j : Nat), j < q + 1 → ∀ (c : C) (v : V), cs[j]? = some c → l[j]? = some v → fitsE c v = 0) ∧ ((fitsE c a == 0) = false → z ≠ 0)) := Lib.hid ⟨fun h0 => ⟨rfl, fun j hj c' v' hc hv => by
              by_cases hjq : j < q
              · exact hJ j hjq c' v' hc hv
              · obtain rfl : j = q := by omega
                rw [hg1] at hc
                rw [hg2] at hv
                injection hc with hc
                injection hv with hv
                subst hc hv
                exact beq_iff_eq.1 h0⟩, fun h0 => HZ2.out q c a hg1 hg2 (beq_eq_false_iff_ne.1 h0)⟩
            generalize fitsE c a = r at hc1 HS
            obtain ⟨nn, ck, cz⟩ := c
            obtain ⟨k, n, s⟩ := a
            have hc1 : ∀ W : World, Calls Try.prog 9 #[.agg #[.string nn, .int .i64 ck, .bool cz], .agg #[.int .i64 k, .int .i64 n, .string s]] W fun e w' => e = .returned (.int .i64 r) ∧ Below W.heap.size W w' := hc1
            clear hcc1 hg1 hg2 d0 d1 d2 e0 e1 e2 hJ hH
            have i1 : (q : Int) < (m2 : Int) := by omega
            have i0 : (0 : Int) ≤ (q : Int) := by omega
            go_wp2_with fail
            clear c0 c1
            refine Lex.region_lex (ops := xeops) (calls := xecalls) xeord (fun W => W.cell? ⟨g, 1, none⟩ = some (.slice (some ⟨b1, o1, none⟩) m2 cp) ∧ W.cell? ⟨b1, o1 + q * 3, none⟩ = some (.string nn) ∧ W.cell? ⟨b1, o1 + q * 3 + 1, none⟩ = some (.int .i64 ck) ∧ W.cell? ⟨b1, o1 + q * 3 + 2, none⟩ = some (.bool cz) ∧ W.cell? ⟨b2, o2 + q * 3, none⟩ = some (.int .i64 k) ∧ W.cell? ⟨b2, o2 + q * 3 + 1, none⟩ = some (.int .i64 n) ∧ W.cell? ⟨b2, o2 + q * 3 + 2, none⟩ = some (.string s)) (by kernel_rfl) (by kernel_rfl) xesel (by kernel_rfl) (by kernel_rfl) xelex (⟨hF.v.drew.c1, (hD.below (Below.refl _ _).drew).1, (hD.below (Below.refl _ _).drew).2.1, (hD.below (Below.refl _ _).drew).2.2.1, (hD.below (Below.refl _ _).drew).2.2.2.1, (hD.below (Below.refl _ _).drew).2.2.2.2.1, (hD.below (Below.refl _ _).drew).2.2.2.2.2⟩) ?_
            unfold xeord
            have hD := hD.below (Below.refl _ _).drew
            have hF := hF.below (Below.refl _ _).drew
            refine Lex.step_take (.pointer (some ⟨g, 1, none⟩)) xe0 rfl (Lex.want_none rfl) (by intro Wx hSw; (try dsimp only at hSw); go_simp; (try (first | (with_reducible rfl) | assumption | rfl))) ?_
            simp only [Act.put, List.setIfInBounds_toArray, List.set_cons_zero, List.set_cons_succ]
            refine Lex.step_take (.slice (some ⟨b1, o1, none⟩) m2 cp) xe1 rfl (Lex.want_none rfl) (by intro Wx hSw; (try dsimp only at hSw); go_simp; (try (first | (with_reducible rfl) | assumption | rfl))) ?_
            simp only [Act.put, List.setIfInBounds_toArray, List.set_cons_zero, List.set_cons_succ]
            refine Lex.step_take (.int .i64 q) xe2 rfl (Lex.want_none rfl) (by intro Wx hSw; (try dsimp only at hSw); go_simp; (try (first | (with_reducible rfl) | assumption | rfl))) ?_
            simp only [Act.put, List.setIfInBounds_toArray, List.set_cons_zero, List.set_cons_succ]
            refine Lex.step_take (.pointer (some ⟨b1, o1 + q * 3, none⟩)) xe3 rfl (Lex.want_none rfl) (by intro Wx hSw; (try dsimp only at hSw); go_simp; (try (first | (with_reducible rfl) | assumption | rfl))) ?_
            simp only [Act.put, List.setIfInBounds_toArray, List.set_cons_zero, List.set_cons_succ]
            refine Lex.step_take (.agg #[.string nn, .int .i64 ck, .bool cz]) xe4 rfl (Lex.want_none rfl) (by intro Wx hSw; (try dsimp only at hSw); go_simp; (try (first | (with_reducible rfl) | assumption | rfl))) ?_
            simp only [Act.put, List.setIfInBounds_toArray, List.set_cons_zero, List.set_cons_succ]
            refine Lex.step_take (.slice (some ⟨b2, o2, none⟩) m2 cp2) xe5 rfl (Lex.want_none rfl) (by intro Wx hSw; (try dsimp only at hSw); go_simp; (try (first | (with_reducible rfl) | assumption | rfl))) ?_
            simp only [Act.put, List.setIfInBounds_toArray, List.set_cons_zero, List.set_cons_succ]
            refine Lex.step_take (.int .i64 q) xe6 rfl (Lex.want_none rfl) (by intro Wx hSw; (try dsimp only at hSw); go_simp; (try (first | (with_reducible rfl) | assumption | rfl))) ?_
            simp only [Act.put, List.setIfInBounds_toArray, List.set_cons_zero, List.set_cons_succ]
            refine Lex.step_take (.pointer (some ⟨b2, o2 + q * 3, none⟩)) xe7 rfl (Lex.want_none rfl) (by intro Wx hSw; (try dsimp only at hSw); go_simp; (try (first | (with_reducible rfl) | assumption | rfl))) ?_
            simp only [Act.put, List.setIfInBounds_toArray, List.set_cons_zero, List.set_cons_succ]
            refine Lex.step_take (.agg #[.int .i64 k, .int .i64 n, .string s]) xe8 rfl (Lex.want_none rfl) (by intro Wx hSw; (try dsimp only at hSw); go_simp; (try (first | (with_reducible rfl) | assumption | rfl))) ?_
            simp only [Act.put, List.setIfInBounds_toArray, List.set_cons_zero, List.set_cons_succ]
            refine Lex.step_call xe9 rfl (Lex.want_none rfl) (fun K hK => ?_)
            go_simp
            refine (hc1 _).mono ?_
            rintro e y1 ⟨rfl, hy1⟩
            have hD := hD.below hy1
            have hF := hF.below hy1
            clear hy1 hc1
            refine hK.out _ _ _ (fun _ h => h) ⟨hF.v.c1, hD.1, hD.2.1, hD.2.2.1, hD.2.2.2.1, hD.2.2.2.2.1, hD.2.2.2.2.2⟩ ?_
            clear hK K
            try simp only [Act.put, List.setIfInBounds_toArray, List.set_cons_zero, List.set_cons_succ]
            refine Lex.step_take (.bool (r == 0)) xe10 rfl (Lex.want_none rfl) (by intro Wx hSw; (try dsimp only at hSw); go_simp; (try (first | (with_reducible rfl) | assumption | rfl))) ?_
            simp only [Act.put, List.setIfInBounds_toArray, List.set_cons_zero, List.set_cons_succ]
            refine Lex.step_take (.bool (r == 0)) xe11 rfl (Lex.want_none rfl) (by intro Wx hSw; (try dsimp only at hSw); go_simp; (try (first | (with_reducible rfl) | assumption | rfl))) ?_
            simp only [Act.put, List.setIfInBounds_toArray, List.set_cons_zero, List.set_cons_succ]
            refine NoPanic.normal ?_
            go_wp2
            go_roundw
            case rel => exact ⟨_, q + 1, by omega, rfl, by go_num, HS, hF⟩
            case measure => simp [intOf]; omega
          · have HQ := Lib.hid (hend (fun hb => by
              by_cases hlt : q < m2
              · exact absurd ⟨hlt, hb⟩ hgo
              · omega))
            clear hend
            have hzb : ((z == 0) == b) = true := by rw [HQ.out]; exact beq_self_eq_true b
            by_cases hlt : q < m2
            · obtain rfl : b = false := by
                cases b
                · rfl
                · exact absurd ⟨hlt, rfl⟩ hgo
              go_wp2_with fail
              refine (awake_any _).mono ?_
              rintro e y1 ⟨rfl, hy⟩
              have hF := hF.below hy
              clear hy c0 c1
              have c0 := hF.v.c0
              have c1 := hF.v.c1
              go_wp2_with fail
              refine (hC _ hF.c hF.r).mono ?_
              rintro e y2 ⟨rfl, hy⟩
              have hF := hF.below hy
              clear hy c0 c1 hC
              go_wp2
              go_ret
              subst hgw
              exact ⟨rfl, hF.B⟩
            · clear hgo
              go_wp2_with fail
              refine (awake_any _).mono ?_
              rintro e y1 ⟨rfl, hy⟩
              have hF := hF.below hy
              clear hy c0 c1
              have c0 := hF.v.c0
              have c1 := hF.v.c1
              go_wp2_with fail
              refine (hC _ hF.c hF.r).mono ?_
              rintro e y2 ⟨rfl, hy⟩
              have hF := hF.below hy
              clear hy c0 c1 hC
              go_wp2
              go_ret
              subst hgw
              exact ⟨rfl, hF.B⟩
end Go.Proofs.Ytodhhoegdfpakaa.Ro
