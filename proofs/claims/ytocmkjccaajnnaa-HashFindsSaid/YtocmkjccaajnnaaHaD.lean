/- Whether two indexes are the same: the document's, walked. -/
import Derived.Test.YtocmkjccaajnnaaHaC
import Derived.Test.YtocmkjccaajnnaaMgX
namespace Go.Proofs.Ytocmkjccaajnnaa.Ha
open Go.RowKit Pac Bu Ls Lex Go.Proofs.Ytocmkjccaajnnaa.Or

theorem cell_belowB {w w' : World} (h : Below w.heap.size w w') {b i : Nat} {v : Value} (hc : w.cell? ⟨b, i, none⟩ = some v) : w'.cell? ⟨b, i, none⟩ = some v :=
  (h.cell (p := ⟨b, i, none⟩) (World.block_lt_of_cell? w _ hc)).trans hc
def SameHPost (p : Prop) (w : World) (e : Ending) (w' : World) : Prop := ∃ b : Bool, e = .returned (.bool b) ∧ (b = true ↔ p) ∧ Below w.heap.size w w'
theorem take_nextB {l1 l2 : List (List E)} {q : Nat} {a b : List E} (h : l1.take q = l2.take q) (h1 : l1[q]? = some a) (h2 : l2[q]? = some b) (he : a = b) : l1.take (q + 1) = l2.take (q + 1) := by
  rw [take_snocB h1, take_snocB h2, h, he]
section
variable {A A' : Option Addr} {n n2 cp cp2 : Nat} {bs bs' : List (List E)} {w : World}
set_option maxRecDepth 20000 in
set_option maxHeartbeats 6400000 in
theorem refSameH_any (lv nx lv' nx' : Int) (lo lo' : Nat) (hb : HasBs w lo A bs) (hn : bs.length = n) (h9 : n ≤ 100000) (hr : ∀ r ∈ bs, r.length ≤ 9223372036854775807) (hb' : HasBs w lo' A' bs') (hn' : bs'.length = n2) (hr' : ∀ r ∈ bs', r.length ≤ 9223372036854775807) :
    Calls Try.prog 20 #[.agg #[.int .i64 lv, .int .i64 nx, .slice A n cp], .agg #[.int .i64 lv', .int .i64 nx', .slice A' n2 cp2]] w (SameHPost (lv = lv' ∧ nx = nx' ∧ bs = bs') w) := by
  have hB := (Below.refl w.heap.size w).alloc (Nat.le_refl _) (.cells #[.int .i64 lv, .int .i64 nx, .slice A n cp] 27)
  have hx := Box3.new w (.int .i64 lv) (.int .i64 nx) (.slice A n cp) 27
  obtain ⟨g, hg⟩ : ∃ g, w.heap.size = g := ⟨_, rfl⟩
  have hz : (w.alloc (.cells #[.int .i64 lv, .int .i64 nx, .slice A n cp] 27)).heap.size = g + 1 := by simp [hg]
  rw [hg] at hx
  generalize hw0 : w.alloc (.cells #[.int .i64 lv, .int .i64 nx, .slice A n cp] 27) = wa at hB hx hz
  have hB2 := (Below.refl wa.heap.size wa).alloc (Nat.le_refl _) (.cells #[.int .i64 lv', .int .i64 nx', .slice A' n2 cp2] 27)
  have hy := Box3.new wa (.int .i64 lv') (.int .i64 nx') (.slice A' n2 cp2) 27
  rw [hz] at hy
  have hx := hx.below hB2 hx.lt
  have hB := hB.trans (hB2.mono hB.size)
  generalize hw1 : wa.alloc (.cells #[.int .i64 lv', .int .i64 nx', .slice A' n2 cp2] 27) = wb at hB hx hy
  have HL := Lib.hid (And.intro (hb.below hB (Nat.le_refl _)) (And.intro (hb'.below hB (Nat.le_refl _)) (And.intro hn (And.intro hn' (And.intro hr hr')))))
  obtain ⟨g2, hg2⟩ : ∃ g2, g + 1 = g2 := ⟨_, rfl⟩
  rw [hg2] at hy hz
  clear hb hb' hn hn' hr hr' hB2 hg2
  have x0 := hx.c0
  have x1 := hx.c1
  have x2 := hx.c2
  have y0 := hy.c0
  have y1 := hy.c1
  have y2 := hy.c2
  generalize hP : (lv = lv' ∧ nx = nx' ∧ bs = bs') = P
  have HP := Lib.hid hP
  clear hP
  go_enter Try.func20, Try.ntmps20
  by_cases h1 : lv = lv'
  case neg =>
    have HQ : Hid (¬ P) := Lib.hid (by rw [← HP.out]; exact fun h => h1 h.1)
    have h1' : (lv == lv') = false := beq_eq_false_iff_ne.2 h1
    have h1'' : (lv != lv') = true := bne_iff_ne.2 h1
    clear h1
    go_wp2
    go_ret
    exact ⟨false, rfl, ⟨fun e => (by cases e), fun e => absurd e HQ.out⟩, hB⟩
  by_cases h2 : nx = nx'
  case neg =>
    have HQ : Hid (¬ P) := Lib.hid (by rw [← HP.out]; exact fun h => h2 h.2.1)
    have h2' : (nx == nx') = false := beq_eq_false_iff_ne.2 h2
    have h2'' : (nx != nx') = true := bne_iff_ne.2 h2
    subst h1
    clear h2
    go_wp2
    go_ret
    exact ⟨false, rfl, ⟨fun e => (by cases e), fun e => absurd e HQ.out⟩, hB⟩
  by_cases h3 : n = n2
  case neg =>
    have HQ : Hid (¬ P) := Lib.hid (by
      rw [← HP.out]
      intro h
      have h1 := HL.out.2.2.1
      have h2 := HL.out.2.2.2.1
      rw [h.2.2, h2] at h1
      exact h3 h1.symm)
    have h3' : ((n : Int) == (n2 : Int)) = false := beq_eq_false_iff_ne.2 (by omega)
    have h3'' : ((n : Int) != (n2 : Int)) = true := bne_iff_ne.2 (by omega)
    subst h1 h2
    clear h3
    go_wp2
    go_ret
    exact ⟨false, rfl, ⟨fun e => (by cases e), fun e => absurd e HQ.out⟩, hB⟩
  subst h1 h2 h3
  go_wp2
  clear hw0 hw1 hg hz x0 x1 x2 y0 y1 y2
  go_loopw [5] (fun i wr => ∃ q : Nat, q ≤ n ∧ i = .int .i64 q ∧ Hid (bs.take q = bs'.take q) ∧ Below wb.heap.size wb wr) (fun i _ => n - (intOf i).toNat)
  case atStart => exact ⟨0, Nat.zero_le _, rfl, Lib.hid rfl, Below.refl _ _⟩
  case round =>
    obtain ⟨q, hq, rfl, hI, hyb⟩ := hrel
    have x2 := (hx.below hyb hx.lt).c2
    have y2 := (hy.below hyb hy.lt).c2
    by_cases hlt : q < n
    · have hgt := List.getElem?_eq_getElem (l := bs) (i := q) (by rw [HL.out.2.2.1]; exact hlt)
      generalize (bs[q]'(by rw [HL.out.2.2.1]; exact hlt)) = r1 at hgt
      have hgt' := List.getElem?_eq_getElem (l := bs') (i := q) (by rw [HL.out.2.2.2.1]; exact hlt)
      generalize (bs'[q]'(by rw [HL.out.2.2.2.1]; exact hlt)) = r2 at hgt'
      obtain ⟨b1, o1, A3, c3, rfl, _, hlb, d0, hr1, _⟩ := Li.HasLs.at (HL.out.1.below hyb (Nat.le_refl _)) hgt
      obtain ⟨b2, o2, A4, c4, rfl, _, hlb2, f0, hr2, _⟩ := Li.HasLs.at (HL.out.2.1.below hyb (Nat.le_refl _)) hgt'
      have hrm1 := HL.out.2.2.2.2.1 _ (List.mem_of_getElem? hgt)
      have hrm2 := HL.out.2.2.2.2.2 _ (List.mem_of_getElem? hgt')
      have hcS := fun (W : World) (h1 : HasE W lo A3 r1) (h2 : HasE W lo' A4 r2) => refSame_any A3 A4 c3 c4 r1 r2 lo lo' W h1 h2 hrm1 hrm2
      obtain ⟨m1, hm1⟩ : ∃ m, r1.length = m := ⟨_, rfl⟩
      obtain ⟨m2, hm2⟩ : ∃ m, r2.length = m := ⟨_, rfl⟩
      rw [hm1, hm2] at hcS
      rw [hm1] at d0
      rw [hm2] at f0
      have HT := Lib.hid (fun he => take_nextB hI.out hgt hgt' he)
      have HF : Hid (r1 ≠ r2 → ¬ P) := Lib.hid (fun hne => by
        rw [← HP.out]
        intro h
        rw [h.2.2, hgt'] at hgt
        injection hgt with hgt
        exact hne hgt.symm)
      have i1 : (q : Int) < (n : Int) := by omega
      have i0 : (0 : Int) ≤ (q : Int) := by omega
      have hB := hB.trans (hyb.mono hB.size)
      clear hgt hgt' hm1 hm2 hrm1 hrm2
      go_wp2_with fail
      have hdr := (Below.refl wr.heap.size wr).drew
      refine Lex.region_lex (ops := hsops) (calls := hscalls) hsord (fun W => W.cell? ⟨g, 2, none⟩ = some (.slice (some ⟨b1, o1, none⟩) n cp) ∧ W.cell? ⟨g2, 2, none⟩ = some (.slice (some ⟨b2, o2, none⟩) n cp2) ∧ W.cell? ⟨b1, o1 + q, none⟩ = some (.slice A3 m1 c3) ∧ W.cell? ⟨b2, o2 + q, none⟩ = some (.slice A4 m2 c4)) (by kernel_rfl) (by kernel_rfl) hssel (by kernel_rfl) (by kernel_rfl) hslex (⟨cell_belowB hdr x2, cell_belowB hdr y2, cell_belowB hdr d0, cell_belowB hdr f0⟩) ?_
      unfold hsord
      have x2 := cell_belowB hdr x2
      have y2 := cell_belowB hdr y2
      have d0 := cell_belowB hdr d0
      have f0 := cell_belowB hdr f0
      have hr1 := hr1.below hdr (Nat.le_refl _)
      have hr2 := hr2.below hdr (Nat.le_refl _)
      have hB := hB.trans (hdr.mono hB.size)
      have hyb := hyb.trans (hdr.mono hyb.size)
      clear hdr
      refine Lex.step_take (.pointer (some ⟨g, 2, none⟩)) hs0 rfl (Lex.want_none rfl) (by intro Wx hSw; (try dsimp only at hSw); go_simp; (try (first | (with_reducible rfl) | assumption | rfl))) ?_
      simp only [Act.put, List.setIfInBounds_toArray, List.set_cons_zero, List.set_cons_succ]
      refine Lex.step_take (.slice (some ⟨b1, o1, none⟩) n cp) hs1 rfl (Lex.want_none rfl) (by intro Wx hSw; (try dsimp only at hSw); go_simp; (try (first | (with_reducible rfl) | assumption | rfl))) ?_
      simp only [Act.put, List.setIfInBounds_toArray, List.set_cons_zero, List.set_cons_succ]
      refine Lex.step_take (.int .i64 (q : Int)) hs2 rfl (Lex.want_none rfl) (by intro Wx hSw; (try dsimp only at hSw); go_simp; (try (first | (with_reducible rfl) | assumption | rfl))) ?_
      simp only [Act.put, List.setIfInBounds_toArray, List.set_cons_zero, List.set_cons_succ]
      refine Lex.step_take (.pointer (some ⟨b1, o1 + q, none⟩)) hs3 rfl (Lex.want_none rfl) (by intro Wx hSw; (try dsimp only at hSw); go_simp; (try (first | (with_reducible rfl) | assumption | rfl))) ?_
      simp only [Act.put, List.setIfInBounds_toArray, List.set_cons_zero, List.set_cons_succ]
      refine Lex.step_take (.slice A3 m1 c3) hs4 rfl (Lex.want_none rfl) (by intro Wx hSw; (try dsimp only at hSw); go_simp; (try (first | (with_reducible rfl) | assumption | rfl))) ?_
      simp only [Act.put, List.setIfInBounds_toArray, List.set_cons_zero, List.set_cons_succ]
      refine Lex.step_take (.pointer (some ⟨g2, 2, none⟩)) hs5 rfl (Lex.want_none rfl) (by intro Wx hSw; (try dsimp only at hSw); go_simp; (try (first | (with_reducible rfl) | assumption | rfl))) ?_
      simp only [Act.put, List.setIfInBounds_toArray, List.set_cons_zero, List.set_cons_succ]
      refine Lex.step_take (.slice (some ⟨b2, o2, none⟩) n cp2) hs6 rfl (Lex.want_none rfl) (by intro Wx hSw; (try dsimp only at hSw); go_simp; (try (first | (with_reducible rfl) | assumption | rfl))) ?_
      simp only [Act.put, List.setIfInBounds_toArray, List.set_cons_zero, List.set_cons_succ]
      refine Lex.step_take (.int .i64 (q : Int)) hs7 rfl (Lex.want_none rfl) (by intro Wx hSw; (try dsimp only at hSw); go_simp; (try (first | (with_reducible rfl) | assumption | rfl))) ?_
      simp only [Act.put, List.setIfInBounds_toArray, List.set_cons_zero, List.set_cons_succ]
      refine Lex.step_take (.pointer (some ⟨b2, o2 + q, none⟩)) hs8 rfl (Lex.want_none rfl) (by intro Wx hSw; (try dsimp only at hSw); go_simp; (try (first | (with_reducible rfl) | assumption | rfl))) ?_
      simp only [Act.put, List.setIfInBounds_toArray, List.set_cons_zero, List.set_cons_succ]
      refine Lex.step_take (.slice A4 m2 c4) hs9 rfl (Lex.want_none rfl) (by intro Wx hSw; (try dsimp only at hSw); go_simp; (try (first | (with_reducible rfl) | assumption | rfl))) ?_
      simp only [Act.put, List.setIfInBounds_toArray, List.set_cons_zero, List.set_cons_succ]
      refine Lex.step_call hs10 rfl (Lex.want_none rfl) (fun K hK => ?_)
      go_simp
      refine (hcS _ hr1 hr2).mono ?_
      rintro e y1 ⟨r, rfl, hr, hy1⟩
      have hB := hB.trans (hy1.mono hB.size)
      have hyb := hyb.trans (hy1.mono hyb.size)
      have x2 := cell_belowB hy1 x2
      have y2 := cell_belowB hy1 y2
      have d0 := cell_belowB hy1 d0
      have f0 := cell_belowB hy1 f0
      clear hy1
      refine hK.out _ _ _ (fun _ h => h) ⟨x2, y2, d0, f0⟩ ?_
      clear hK K
      try simp only [Act.put, List.setIfInBounds_toArray, List.set_cons_zero, List.set_cons_succ]
      refine Lex.step_take (.bool (!r)) hs11 rfl (Lex.want_none rfl) (by intro Wx hSw; (try dsimp only at hSw); go_simp; (try (first | (with_reducible rfl) | assumption | rfl))) ?_
      simp only [Act.put, List.setIfInBounds_toArray, List.set_cons_zero, List.set_cons_succ]
      refine NoPanic.normal ?_
      clear x2 y2 d0 f0 hcS hr1 hr2
      cases r
      · have HQ := Lib.hid (HF.out (fun h => by cases hr.2 h))
        clear hr
        go_wp2
        go_ret
        exact ⟨false, rfl, ⟨fun e => (by cases e), fun e => absurd e HQ.out⟩, hB⟩
      · have HT := Lib.hid (HT.out (hr.1 rfl))
        clear hr
        go_wp2
        go_roundw
        case rel => exact ⟨q + 1, by omega, by go_num, HT, hyb⟩
        case measure => simp [intOf]; omega
    · obtain rfl : n = q := by omega
      have HY : Hid P := Lib.hid (by
        rw [← HP.out]
        have h := hI.out
        rw [List.take_of_length_le (by rw [HL.out.2.2.1]; exact Nat.le_refl _), List.take_of_length_le (by rw [HL.out.2.2.2.1]; exact Nat.le_refl _)] at h
        simpa using h)
      have hB := hB.trans (hyb.mono hB.size)
      go_wp2
      go_ret
      exact ⟨true, rfl, ⟨fun _ => HY.out, fun _ => rfl⟩, hB⟩
end
end Go.Proofs.Ytocmkjccaajnnaa.Ha
