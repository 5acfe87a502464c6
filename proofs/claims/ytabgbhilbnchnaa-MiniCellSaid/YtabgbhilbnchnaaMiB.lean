/- Cells in memory; whether two are the same, a group's kinds, a group without any: the document's, walked. -/
import Derived.Test.YtabgbhilbnchnaaMiA
import Derived.Test.YtabgbhilbnchnaaLiB
import Derived.Test.YtabgbhilbnchnaaRoD
import Derived.Test.YtabgbhilbnchnaaXma
import Derived.Deep.AppendLies
namespace Go.Proofs.Ytabgbhilbnchnaa.Mi
open Go.RowKit Pac Va Sc Ro Lex

/-- The slice at A holds these rows of values. -/
abbrev HasVV (w : World) (lo : Nat) (A : Option Addr) (ls : List (List V)) : Prop := Li.HasLs cellsV 3 w lo A ls
def SameP (l1 l2 : List (List V)) (w : World) (e : Ending) (w' : World) : Prop :=
  ∃ r : Bool, e = .returned (.bool r) ∧ (r = true ↔ l1 = l2) ∧ Below w.heap.size w w'
def Rows2 (w : World) (b1 i1 b2 i2 : Nat) (x y : Value) : Prop := w.cell? ⟨b1, i1, none⟩ = some x ∧ w.cell? ⟨b2, i2, none⟩ = some y
theorem Rows2.below {w w' : World} {b1 i1 b2 i2 : Nat} {x y : Value} (h : Rows2 w b1 i1 b2 i2 x y) (hb : Below w.heap.size w w') : Rows2 w' b1 i1 b2 i2 x y := ⟨cell_below hb h.1, cell_below hb h.2⟩
theorem ext_of {α : Type} {a b : List α} {m : Nat} (ha : a.length = m) (hb : b.length = m) (h : ∀ j < m, a[j]? = b[j]?) : a = b := by
  apply List.ext_getElem?
  intro j
  by_cases hj : j < m
  · exact h j hj
  · rw [List.getElem?_eq_none (by omega), List.getElem?_eq_none (by omega)]
theorem upto_succ {α : Type} {a b : List α} {q : Nat} {x : α} (h : ∀ j < q, a[j]? = b[j]?) (ha : a[q]? = some x) (hb : b[q]? = some x) : ∀ j < q + 1, a[j]? = b[j]? := fun j hj => by
  by_cases hq : j < q
  · exact h j hq
  · obtain rfl : j = q := by omega
    rw [ha, hb]

set_option maxRecDepth 20000 in
set_option maxHeartbeats 3200000 in
theorem refSame_any (A1 A2 : Option Addr) (cp1 cp2 : Nat) (l1 l2 : List (List V)) (lo1 lo2 : Nat) (w : World) (h1 : HasVV w lo1 A1 l1) (h2 : HasVV w lo2 A2 l2) (hl1 : l1.length ≤ 9223372036854775807) (hl2 : l2.length ≤ 9223372036854775807) (hg1 : ∀ g ∈ l1, g.length ≤ 9223372036854775807) (hg2 : ∀ g ∈ l2, g.length ≤ 9223372036854775807) :
    Calls Try.prog 11 #[.slice A1 l1.length cp1, .slice A2 l2.length cp2] w (SameP l1 l2 w) := by
  have hPB := fun (w' : World) (h : ¬ l1 = l2) (hB : Below w.heap.size w w') => (show SameP l1 l2 w (.returned (.bool false)) w' from ⟨false, rfl, ⟨(fun h => by cases h), (fun e => absurd e h)⟩, hB⟩)
  have hPG := fun (w' : World) (h : l1 = l2) (hB : Below w.heap.size w w') => (show SameP l1 l2 w (.returned (.bool true)) w' from ⟨true, rfl, ⟨fun _ => h, fun _ => rfl⟩, hB⟩)
  generalize SameP l1 l2 w = post at hPB hPG ⊢
  have HPB := Lib.hid hPB
  have HPG := Lib.hid hPG
  clear hPB hPG
  obtain ⟨m, hm⟩ : ∃ m, l1.length = m := ⟨_, rfl⟩
  obtain ⟨m2, hm2⟩ : ∃ m, l2.length = m := ⟨_, rfl⟩
  rw [hm] at hl1 ⊢
  rw [hm2] at hl2 ⊢
  have HA := Lib.hid h1
  have HB := Lib.hid h2
  have HM := Lib.hid hm
  have HM2 := Lib.hid hm2
  have HG := Lib.hid (And.intro hg1 hg2)
  clear h1 h2 hm hm2 hg1 hg2
  go_enter Try.func11, Try.ntmps11
  by_cases hmm : m = m2
  · subst hmm
    go_wp2
    go_loopw [5] (fun i wr => ∃ q : Nat, q ≤ m ∧ i = .int .i64 q ∧ Hid (∀ j < q, l1[j]? = l2[j]?) ∧ Below w.heap.size w wr) (fun i _ => m - (intOf i).toNat)
    case atStart => exact ⟨0, Nat.zero_le _, rfl, Lib.hid (fun j hj => absurd hj (Nat.not_lt_zero j)), Below.refl _ w⟩
    case round =>
      obtain ⟨q, hq, rfl, hH, hB⟩ := hrel
      by_cases hlt : q < m
      · have hg1 : l1[q]? = some (l1[q]'(by rw [HM.out]; exact hlt)) := List.getElem?_eq_getElem _
        have hg2 : l2[q]? = some (l2[q]'(by rw [HM2.out]; exact hlt)) := List.getElem?_eq_getElem _
        generalize (l1[q]'(by rw [HM.out]; exact hlt)) = g at hg1
        generalize (l2[q]'(by rw [HM2.out]; exact hlt)) = k at hg2
        have sg := HG.out.1 g (List.mem_of_getElem? hg1)
        have sk := HG.out.2 k (List.mem_of_getElem? hg2)
        obtain ⟨b1, o1, A3, c3, rfl, _, _, d1, hI1, _⟩ := (HA.out.below hB (Nat.le_refl _)).at hg1
        obtain ⟨b2, o2, A4, c4, rfl, _, _, d2, hI2, _⟩ := (HB.out.below hB (Nat.le_refl _)).at hg2
        have HG1 := Lib.hid hg1
        have HG2 := Lib.hid hg2
        clear hg1 hg2
        have hcS := fun (W : World) (hI1 : HasV W lo1 A3 g) (hI2 : HasV W lo2 A4 k) => Ro.refSame_any A3 A4 c3 c4 g k lo1 lo2 W hI1 hI2 sg sk
        obtain ⟨p, hp⟩ : ∃ p, g.length = p := ⟨_, rfl⟩
        obtain ⟨p2, hp2⟩ : ∃ p, k.length = p := ⟨_, rfl⟩
        rw [hp] at d1 sg hcS
        rw [hp2] at d2 sk hcS
        have HD : Hid (Rows2 wr b1 (o1 + q) b2 (o2 + q) (.slice A3 p c3) (.slice A4 p2 c4)) := Lib.hid ⟨d1, d2⟩
        have HI1 := Lib.hid hI1
        have HI2 := Lib.hid hI2
        have HCS := Lib.hid hcS
        clear hI1 hI2 hp hp2 d1 d2 hcS
        have i1 : (q : Int) < (m : Int) := by omega
        have i0 : (0 : Int) ≤ (q : Int) := by omega
        by_cases hgk : g = k
        · have HS : Hid (∀ j < q + 1, l1[j]? = l2[j]?) := Lib.hid (upto_succ hH.out HG1.out (by rw [HG2.out, hgk]))
          go_wp2_with fail
          have hD := HD.out.below (Below.refl _ _).drew
          have hI1 := HI1.out.below (Below.refl _ _).drew (Nat.le_refl _)
          have hI2 := HI2.out.below (Below.refl _ _).drew (Nat.le_refl _)
          have hcS := HCS.out
          have hB := hB.drew
          refine Lex.region_lex (ops := maops) (calls := macalls) maord (fun W => W.cell? ⟨b1, o1 + q, none⟩ = some (.slice A3 p c3) ∧ W.cell? ⟨b2, o2 + q, none⟩ = some (.slice A4 p2 c4)) (by kernel_rfl) (by kernel_rfl) masel (by kernel_rfl) (by kernel_rfl) malex (hD) ?_
          unfold maord
          refine Lex.step_take (.slice (some ⟨b1, o1, none⟩) m cp1) ma0 rfl (Lex.want_none rfl) (by intro Wx hSw; (try dsimp only at hSw); go_simp; (try (first | (with_reducible rfl) | assumption | rfl))) ?_
          simp only [Act.put, List.setIfInBounds_toArray, List.set_cons_zero, List.set_cons_succ]
          refine Lex.step_take (.int .i64 q) ma1 rfl (Lex.want_none rfl) (by intro Wx hSw; (try dsimp only at hSw); go_simp; (try (first | (with_reducible rfl) | assumption | rfl))) ?_
          simp only [Act.put, List.setIfInBounds_toArray, List.set_cons_zero, List.set_cons_succ]
          refine Lex.step_take (.pointer (some ⟨b1, o1 + q, none⟩)) ma2 rfl (Lex.want_none rfl) (by intro Wx hSw; (try dsimp only at hSw); go_simp; (try (first | (with_reducible rfl) | assumption | rfl))) ?_
          simp only [Act.put, List.setIfInBounds_toArray, List.set_cons_zero, List.set_cons_succ]
          refine Lex.step_take (.slice A3 p c3) ma3 rfl (Lex.want_none rfl) (by intro Wx hSw; (try dsimp only at hSw); go_simp; (try (first | (with_reducible rfl) | assumption | rfl))) ?_
          simp only [Act.put, List.setIfInBounds_toArray, List.set_cons_zero, List.set_cons_succ]
          refine Lex.step_take (.slice (some ⟨b2, o2, none⟩) m cp2) ma4 rfl (Lex.want_none rfl) (by intro Wx hSw; (try dsimp only at hSw); go_simp; (try (first | (with_reducible rfl) | assumption | rfl))) ?_
          simp only [Act.put, List.setIfInBounds_toArray, List.set_cons_zero, List.set_cons_succ]
          refine Lex.step_take (.int .i64 q) ma5 rfl (Lex.want_none rfl) (by intro Wx hSw; (try dsimp only at hSw); go_simp; (try (first | (with_reducible rfl) | assumption | rfl))) ?_
          simp only [Act.put, List.setIfInBounds_toArray, List.set_cons_zero, List.set_cons_succ]
          refine Lex.step_take (.pointer (some ⟨b2, o2 + q, none⟩)) ma6 rfl (Lex.want_none rfl) (by intro Wx hSw; (try dsimp only at hSw); go_simp; (try (first | (with_reducible rfl) | assumption | rfl))) ?_
          simp only [Act.put, List.setIfInBounds_toArray, List.set_cons_zero, List.set_cons_succ]
          refine Lex.step_take (.slice A4 p2 c4) ma7 rfl (Lex.want_none rfl) (by intro Wx hSw; (try dsimp only at hSw); go_simp; (try (first | (with_reducible rfl) | assumption | rfl))) ?_
          simp only [Act.put, List.setIfInBounds_toArray, List.set_cons_zero, List.set_cons_succ]
          refine Lex.step_call ma8 rfl (Lex.want_none rfl) (fun K hK => ?_)
          go_simp
          refine (hcS _ hI1 hI2).mono ?_
          rintro e y1 ⟨r', rfl, hr', hy1⟩
          obtain rfl : r' = true := hr'.2 hgk
          have hD := hD.below hy1
          have hB := hB.trans (hy1.mono hB.size)
          clear hy1 hcS hI1 hI2
          refine hK.out _ _ _ (fun _ h => h) hD ?_
          clear hK K
          try simp only [Act.put, List.setIfInBounds_toArray, List.set_cons_zero, List.set_cons_succ]
          refine Lex.step_take (.bool false) ma9 rfl (Lex.want_none rfl) (by intro Wx hSw; (try dsimp only at hSw); go_simp; (try (first | (with_reducible rfl) | assumption | rfl))) ?_
          simp only [Act.put, List.setIfInBounds_toArray, List.set_cons_zero, List.set_cons_succ]
          refine NoPanic.normal ?_
          clear hD
          go_wp2
          go_roundw
          case rel => exact ⟨q + 1, by omega, by go_num, HS, hB⟩
          case measure => simp [intOf]; omega
        · have HQ : Hid (¬ l1 = l2) := Lib.hid (fun e => by
            have h1 := HG1.out
            rw [e, HG2.out] at h1
            injection h1 with h1
            exact hgk h1.symm)
          go_wp2_with fail
          have hD := HD.out.below (Below.refl _ _).drew
          have hI1 := HI1.out.below (Below.refl _ _).drew (Nat.le_refl _)
          have hI2 := HI2.out.below (Below.refl _ _).drew (Nat.le_refl _)
          have hcS := HCS.out
          have hB := hB.drew
          refine Lex.region_lex (ops := maops) (calls := macalls) maord (fun W => W.cell? ⟨b1, o1 + q, none⟩ = some (.slice A3 p c3) ∧ W.cell? ⟨b2, o2 + q, none⟩ = some (.slice A4 p2 c4)) (by kernel_rfl) (by kernel_rfl) masel (by kernel_rfl) (by kernel_rfl) malex (hD) ?_
          unfold maord
          refine Lex.step_take (.slice (some ⟨b1, o1, none⟩) m cp1) ma0 rfl (Lex.want_none rfl) (by intro Wx hSw; (try dsimp only at hSw); go_simp; (try (first | (with_reducible rfl) | assumption | rfl))) ?_
          simp only [Act.put, List.setIfInBounds_toArray, List.set_cons_zero, List.set_cons_succ]
          refine Lex.step_take (.int .i64 q) ma1 rfl (Lex.want_none rfl) (by intro Wx hSw; (try dsimp only at hSw); go_simp; (try (first | (with_reducible rfl) | assumption | rfl))) ?_
          simp only [Act.put, List.setIfInBounds_toArray, List.set_cons_zero, List.set_cons_succ]
          refine Lex.step_take (.pointer (some ⟨b1, o1 + q, none⟩)) ma2 rfl (Lex.want_none rfl) (by intro Wx hSw; (try dsimp only at hSw); go_simp; (try (first | (with_reducible rfl) | assumption | rfl))) ?_
          simp only [Act.put, List.setIfInBounds_toArray, List.set_cons_zero, List.set_cons_succ]
          refine Lex.step_take (.slice A3 p c3) ma3 rfl (Lex.want_none rfl) (by intro Wx hSw; (try dsimp only at hSw); go_simp; (try (first | (with_reducible rfl) | assumption | rfl))) ?_
          simp only [Act.put, List.setIfInBounds_toArray, List.set_cons_zero, List.set_cons_succ]
          refine Lex.step_take (.slice (some ⟨b2, o2, none⟩) m cp2) ma4 rfl (Lex.want_none rfl) (by intro Wx hSw; (try dsimp only at hSw); go_simp; (try (first | (with_reducible rfl) | assumption | rfl))) ?_
          simp only [Act.put, List.setIfInBounds_toArray, List.set_cons_zero, List.set_cons_succ]
          refine Lex.step_take (.int .i64 q) ma5 rfl (Lex.want_none rfl) (by intro Wx hSw; (try dsimp only at hSw); go_simp; (try (first | (with_reducible rfl) | assumption | rfl))) ?_
          simp only [Act.put, List.setIfInBounds_toArray, List.set_cons_zero, List.set_cons_succ]
          refine Lex.step_take (.pointer (some ⟨b2, o2 + q, none⟩)) ma6 rfl (Lex.want_none rfl) (by intro Wx hSw; (try dsimp only at hSw); go_simp; (try (first | (with_reducible rfl) | assumption | rfl))) ?_
          simp only [Act.put, List.setIfInBounds_toArray, List.set_cons_zero, List.set_cons_succ]
          refine Lex.step_take (.slice A4 p2 c4) ma7 rfl (Lex.want_none rfl) (by intro Wx hSw; (try dsimp only at hSw); go_simp; (try (first | (with_reducible rfl) | assumption | rfl))) ?_
          simp only [Act.put, List.setIfInBounds_toArray, List.set_cons_zero, List.set_cons_succ]
          refine Lex.step_call ma8 rfl (Lex.want_none rfl) (fun K hK => ?_)
          go_simp
          refine (hcS _ hI1 hI2).mono ?_
          rintro e y1 ⟨r', rfl, hr', hy1⟩
          obtain rfl : r' = false := Bool.eq_false_iff.2 (fun e => hgk (hr'.1 e))
          have hD := hD.below hy1
          have hB := hB.trans (hy1.mono hB.size)
          clear hy1 hcS hI1 hI2
          refine hK.out _ _ _ (fun _ h => h) hD ?_
          clear hK K
          try simp only [Act.put, List.setIfInBounds_toArray, List.set_cons_zero, List.set_cons_succ]
          refine Lex.step_take (.bool true) ma9 rfl (Lex.want_none rfl) (by intro Wx hSw; (try dsimp only at hSw); go_simp; (try (first | (with_reducible rfl) | assumption | rfl))) ?_
          simp only [Act.put, List.setIfInBounds_toArray, List.set_cons_zero, List.set_cons_succ]
          refine NoPanic.normal ?_
          clear hD
          go_wp2
          exact HPB.out _ HQ.out hB
      · obtain rfl : q = m := by omega
        have HQ : Hid (l1 = l2) := Lib.hid (ext_of HM.out HM2.out hH.out)
        go_wp2
        exact HPG.out _ HQ.out hB
  · have HQ : Hid (¬ l1 = l2) := Lib.hid (fun e => hmm (by rw [← HM.out, ← HM2.out, e]))
    have hmm' : ((m : Int) != (m2 : Int)) = true := bne_iff_ne.2 (by omega)
    go_wp2
    exact HPB.out _ HQ.out (Below.refl _ w)

/-- The kinds of these columns. -/
def kindsL (cs : List C) (g : List Int) : List Int := g.map fun c => ((cs[c.toNat]?).map C.k).getD 0
theorem kinds_at {cs : List C} {g : List Int} {q : Nat} {c : Int} {x : C} (hq : g[q]? = some c) (hc : cs[c.toNat]? = some x) : (kindsL cs g)[q]? = some x.k := by
  unfold kindsL
  rw [List.getElem?_map, hq]
  show some (((cs[c.toNat]?).map C.k).getD 0) = _
  rw [hc]
  rfl
theorem kinds_len (cs : List C) (g : List Int) : (kindsL cs g).length = g.length := by unfold kindsL; simp
def KindsPost (ks : List Int) (w : World) (e : Ending) (w' : World) : Prop :=
  ∃ A c, e = .returned (.slice A ks.length c) ∧ ks.length ≤ c ∧ HasI w' w.heap.size A ks ∧ Below w.heap.size w w'

theorem infoInt : (Try.prog.info? 3).map (fun i => (i.zero, i.size, i.bytes)) = some (some (.int .i64 0), 1, 8) := by kernel_rfl
set_option maxRecDepth 20000 in
set_option maxHeartbeats 3200000 in
theorem refKinds_any (nm : ByteArray) (A1 A2 : Option Addr) (cp cp2 : Nat) (cs : List C) (g : List Int) (lo1 lo2 : Nat) (w : World) (h1 : HasCols w lo1 A1 cs) (h2 : HasI w lo2 A2 g) (hl1 : cs.length ≤ 9223372036854775807) (hl2 : g.length ≤ 1000000) (hg : ∀ c ∈ g, 0 ≤ c ∧ c < cs.length) :
    Calls Try.prog 23 #[.agg #[.string nm, .slice A1 cs.length cp], .slice A2 g.length cp2] w (KindsPost (kindsL cs g) w) := by
  obtain ⟨i0, hi, hz0, hz1, hz2⟩ := info_parts infoInt
  obtain ⟨ks, hks⟩ : ∃ ks, kindsL cs g = ks := ⟨_, rfl⟩
  have hkl : ks.length = g.length := by rw [← hks, kinds_len]
  have HAT : Hid (∀ (q : Nat) (c : Int) (x : C), g[q]? = some c → cs[c.toNat]? = some x → ks[q]? = some x.k) := Lib.hid (fun q c x h1 h2 => by rw [← hks]; exact kinds_at h1 h2)
  rw [hks]
  clear hks
  have hP := fun (w' : World) (A : Option Addr) (c : Nat) (hc : ks.length ≤ c) (hi : HasI w' w.heap.size A ks) (hB : Below w.heap.size w w') => (show KindsPost ks w (.returned (.slice A ks.length c)) w' from ⟨A, c, rfl, hc, hi, hB⟩)
  generalize KindsPost ks w = post at hP ⊢
  obtain ⟨m, hm⟩ : ∃ m, g.length = m := ⟨_, rfl⟩
  obtain ⟨mc, hmc⟩ : ∃ m, cs.length = m := ⟨_, rfl⟩
  have hnew := (Below.refl w.heap.size w).alloc (Nat.le_refl _) (.cells #[.string nm, .slice A1 cs.length cp] 24)
  have hx0 := Box2.new w (.string nm) (.slice A1 cs.length cp) 24
  have h1 := h1.below hnew (Nat.le_refl _)
  have h2 := h2.below hnew (Nat.le_refl _)
  rw [hm] at hl2 hkl ⊢
  rw [hmc] at hl1 hg hx0 hnew h1 h2 ⊢
  rw [hkl] at hP
  generalize hw1 : w.alloc (.cells #[.string nm, .slice A1 mc cp] 24) = w1 at hx0 hnew h1 h2
  have hgb := hx0.lt
  have hbw := hnew.size
  have HP := Lib.hid hP
  have HA := Lib.hid h1
  have HB := Lib.hid h2
  have HM := Lib.hid (And.intro hm (And.intro hmc (And.intro hg hkl)))
  have HN := Lib.hid hnew
  clear h1 h2 hm hmc hg hkl hP hnew
  go_enter Try.func23, Try.ntmps23
  go_wp2
  clear hw1
  generalize hg0 : w.heap.size = g0 at hx0 hgb hbw ⊢
  generalize hbase : w1.heap.size = base at hgb hbw
  go_loopw [5, 6] (fun x i wr => ∃ (q : Nat) (sv : Value), q ≤ m ∧ i = .int .i64 q ∧ x = sv ∧ wr.ownsRow base 3 1 sv q (Li.cellsL cellsI (ks.take q)) ∧ Below base w1 wr) (fun _ i _ => m - (intOf i).toNat)
  case atStart => exact ⟨0, _, Nat.zero_le _, rfl, rfl, World.ownsRow_nil _ _ _ _, hbase ▸ Below.refl _ w1⟩
  case round =>
    obtain ⟨q, sv, hq, rfl, rfl, hown, hB⟩ := hrel
    by_cases hlt : q < m
    · obtain ⟨hm, hmc, hg, hkl⟩ := HM.out
      have hg2 : g[q]? = some (g[q]'(by rw [hm]; exact hlt)) := List.getElem?_eq_getElem _
      have hr := hg _ (List.mem_of_getElem? hg2)
      generalize (g[q]'(by rw [hm]; exact hlt)) = c at hg2 hr
      obtain ⟨cn, rfl⟩ : ∃ cn : Nat, c = (cn : Int) := ⟨c.toNat, by omega⟩
      have hcn : cn < mc := by omega
      have hg1 : cs[cn]? = some (cs[cn]'(by rw [hmc]; exact hcn)) := List.getElem?_eq_getElem _
      generalize (cs[cn]'(by rw [hmc]; exact hcn)) = x at hg1
      have hkx := HAT.out q (cn : Int) x hg2 (by rw [Int.toNat_natCast]; exact hg1)
      obtain ⟨b2, o2, rfl, hlo2, hlb2, e0⟩ := HasI.at HB.out hg2
      obtain ⟨b1, o1, rfl, hlo1, hlb1, hcc⟩ := HA.out (fun e => by rw [e] at hg1; simp at hg1)
      obtain ⟨_, d1, _⟩ := hcc cn x hg1
      obtain ⟨_, ck, _⟩ := x
      simp only at d1 hkx
      have HC : Hid (∀ W, Below base w1 W → W.cell? ⟨b2, o2 + q, none⟩ = some (.int .i64 (cn : Int)) ∧ W.cell? ⟨b1, o1 + cn * 3 + 1, none⟩ = some (.int .i64 ck)) := Lib.hid (fun W hW => ⟨cell_below (hbase ▸ hW) e0, cell_below (hbase ▸ hW) d1⟩)
      have HKX : Hid (ks.take (q + 1) = ks.take q ++ [ck]) := Lib.hid (by
        obtain ⟨hlt', e⟩ := List.getElem?_eq_some_iff.1 hkx
        rw [List.take_succ_eq_append_getElem hlt', e])
      clear hcc d1 e0 hg1 hg2 hkx hm hmc hg hkl
      have i1 : (q : Int) < (m : Int) := by omega
      have i0' : (0 : Int) ≤ (q : Int) := by omega
      have j1 : (cn : Int) < (mc : Int) := by omega
      have j0 : (0 : Int) ≤ (cn : Int) := by omega
      have hD := And.intro (hx0.below hB hgb).c1 (HC.out _ hB)
      go_wp2_with fail
      have hown := hown.drew
      have hB := hB.drew
      have hD := And.intro (hx0.below hB hgb).c1 (HC.out _ hB)
      refine Lex.region_lex (ops := mkops) (calls := mkcalls) mkord (fun W => W.cell? ⟨g0, 1, none⟩ = some (.slice (some ⟨b1, o1, none⟩) mc cp) ∧ W.cell? ⟨b2, o2 + q, none⟩ = some (.int .i64 (cn : Int)) ∧ W.cell? ⟨b1, o1 + cn * 3 + 1, none⟩ = some (.int .i64 ck)) (by kernel_rfl) (by kernel_rfl) mksel (by kernel_rfl) (by kernel_rfl) mklex (hD) ?_
      unfold mkord
      generalize hy1 : wr.drew = y1 at hown hB hD ⊢
      clear hy1
      refine Lex.step_take (u5) mk0 rfl (Lex.want_none rfl) (by intro Wx hSw; (try dsimp only at hSw); go_simp; (try (first | (with_reducible rfl) | assumption | rfl))) ?_
      simp only [Act.put, List.setIfInBounds_toArray, List.set_cons_zero, List.set_cons_succ]
      refine Lex.step_take (.pointer (some ⟨g0, 1, none⟩)) mk1 rfl (Lex.want_none rfl) (by intro Wx hSw; (try dsimp only at hSw); go_simp; (try (first | (with_reducible rfl) | assumption | rfl))) ?_
      simp only [Act.put, List.setIfInBounds_toArray, List.set_cons_zero, List.set_cons_succ]
      refine Lex.step_take (.slice (some ⟨b1, o1, none⟩) mc cp) mk2 rfl (Lex.want_none rfl) (by intro Wx hSw; (try dsimp only at hSw); go_simp; (try (first | (with_reducible rfl) | assumption | rfl))) ?_
      simp only [Act.put, List.setIfInBounds_toArray, List.set_cons_zero, List.set_cons_succ]
      refine Lex.step_take (.slice (some ⟨b2, o2, none⟩) m cp2) mk3 rfl (Lex.want_none rfl) (by intro Wx hSw; (try dsimp only at hSw); go_simp; (try (first | (with_reducible rfl) | assumption | rfl))) ?_
      simp only [Act.put, List.setIfInBounds_toArray, List.set_cons_zero, List.set_cons_succ]
      refine Lex.step_take (.int .i64 q) mk4 rfl (Lex.want_none rfl) (by intro Wx hSw; (try dsimp only at hSw); go_simp; (try (first | (with_reducible rfl) | assumption | rfl))) ?_
      simp only [Act.put, List.setIfInBounds_toArray, List.set_cons_zero, List.set_cons_succ]
      refine Lex.step_take (.pointer (some ⟨b2, o2 + q, none⟩)) mk5 rfl (Lex.want_none rfl) (by intro Wx hSw; (try dsimp only at hSw); go_simp; (try (first | (with_reducible rfl) | assumption | rfl))) ?_
      simp only [Act.put, List.setIfInBounds_toArray, List.set_cons_zero, List.set_cons_succ]
      refine Lex.step_take (.int .i64 (cn : Int)) mk6 rfl (Lex.want_none rfl) (by intro Wx hSw; (try dsimp only at hSw); go_simp; (try (first | (with_reducible rfl) | assumption | rfl))) ?_
      simp only [Act.put, List.setIfInBounds_toArray, List.set_cons_zero, List.set_cons_succ]
      refine Lex.step_take (.pointer (some ⟨b1, o1 + cn * 3, none⟩)) mk7 rfl (Lex.want_none rfl) (by intro Wx hSw; (try dsimp only at hSw); go_simp; (try (first | (with_reducible rfl) | assumption | rfl))) ?_
      simp only [Act.put, List.setIfInBounds_toArray, List.set_cons_zero, List.set_cons_succ]
      refine Lex.step_take (.pointer (some ⟨b1, o1 + cn * 3 + 1, none⟩)) mk8 rfl (Lex.want_none rfl) (by intro Wx hSw; (try dsimp only at hSw); go_simp; (try (first | (with_reducible rfl) | assumption | rfl))) ?_
      simp only [Act.put, List.setIfInBounds_toArray, List.set_cons_zero, List.set_cons_succ]
      refine Lex.step_take (.int .i64 ck) mk9 rfl (Lex.want_none rfl) (by intro Wx hSw; (try dsimp only at hSw); go_simp; (try (first | (with_reducible rfl) | assumption | rfl))) ?_
      simp only [Act.put, List.setIfInBounds_toArray, List.set_cons_zero, List.set_cons_succ]
      refine Lex.step_call mk10 rfl (Lex.want_none rfl) (fun K hK => ?_)
      go_simp
      have hown := hown.alloc (.cells #[.int .i64 ck] 3)
      have hnews := heap_alloc_new y1 (.cells #[.int .i64 ck] 3)
      have hB := hB.alloc (hbase ▸ hB.size) (.cells #[.int .i64 ck] 3)
      have hD := And.intro (hx0.below hB hgb).c1 (HC.out _ hB)
      refine hK.out _ _ _ (fun _ h => h) hD ?_
      clear hK K
      try simp only [Act.put, List.setIfInBounds_toArray, List.set_cons_zero, List.set_cons_succ]
      refine Lex.step_call mk11 rfl (Lex.want_none rfl) (fun K hK => ?_)
      refine wp_append_lies _ (.tmp 13) (.tmp 23) 25 (by rfl) base 3 i0 _ 1 8 Try.underlying25 hi hz0 hz1 hz2 rfl (by omega) u5 q (Li.cellsL cellsI (ks.take q)) (by rfl) hown ⟨y1.heap.size, 0, none⟩ 1 1 [.int .i64 ck] (by rfl) (by rfl) (World.news_of_block hnews) (by simp [Value.oneCell']) (by omega) (by unfold maxLen; omega) (by omega) (hbase ▸ hB.size) _ rfl ?_
      intro g5 cap5 y3 hown5 hgrow5 _ hlt5
      have hB := hB.grown hgrow5 (hbase ▸ hB.size) (fun k hk => (hown.lt k hk).1)
      have hD := And.intro (hx0.below hB hgb).c1 (And.intro (HC.out _ hB).1 (HC.out _ hB).2)
      have hD := And.intro (hx0.below hB hgb).c1 (HC.out _ hB)
      refine hK.out _ _ _ (fun _ h => h) hD ?_
      clear hK K
      try simp only [Act.put, List.setIfInBounds_toArray, List.set_cons_zero, List.set_cons_succ]
      refine Lex.step_take (.slice (some ⟨g5, 0, none⟩) (q + 1) cap5) mk12 rfl (Lex.want_none rfl) (by intro Wx hSw; (try dsimp only at hSw); go_simp; (try (first | (with_reducible rfl) | assumption | rfl))) ?_
      simp only [Act.put, List.setIfInBounds_toArray, List.set_cons_zero, List.set_cons_succ]
      refine NoPanic.normal ?_
      clear hD
      go_wp2
      go_roundw
      case rel =>
        refine ⟨q + 1, _, by omega, by go_num, rfl, ?_, hB⟩
        rw [HKX.out, Li.cellsL_snoc]
        exact hown5
      case measure => simp [intOf]; omega
    · obtain rfl : q = m := by omega
      have hkl := HM.out.2.2.2
      rw [List.take_of_length_le (by omega)] at hown
      obtain ⟨A, c, rfl, hc, hl⟩ := Li.list_of_own (R := cellsI) (fun _ => rfl) hown hkl
      have hQ := HP.out _ A c (by omega) (hl.lower (hg0 ▸ hbw)) (HN.out.trans (hB.mono (hg0 ▸ hbw)))
      have HQ := Lib.hid hQ
      clear hQ
      go_wp2
      exact HQ.out
end Go.Proofs.Ytabgbhilbnchnaa.Mi
