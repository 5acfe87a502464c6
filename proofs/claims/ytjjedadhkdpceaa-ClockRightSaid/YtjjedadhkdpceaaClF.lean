/- May pages at hand be: the document's, walked. -/
import Derived.Test.YtjjedadhkdpceaaClE
import Derived.Test.YtjjedadhkdpceaaLeB
namespace Go.Proofs.Ytjjedadhkdpceaa.Cl
open Go.RowKit Pac Lex

structure MayC (h : Int) (l : List P) : Prop where
  own : ∀ (i : Nat) (p : P), l[i]? = some p → 0 ≤ p.pins ∧ findL l p.no = some i
  len : l.length ≤ 8
  h0 : 0 ≤ h
  h1 : h = 0 ∨ h < (l.length : Int)
section
variable {A : Option Addr} {n cp : Nat} {l : List P} {w : World}
set_option maxRecDepth 20000 in
set_option maxHeartbeats 3200000 in
theorem refRight_any (h : Int) (lo : Nat) (hl : HasP w lo A l) (hn : l.length = n) (h9 : n ≤ 100000) :
    Calls Try.prog 8 #[.agg #[.slice A n cp, .int .i64 h]] w (BoolPost (MayC h l) w) := by
  have hB := (Below.refl w.heap.size w).alloc (Nat.le_refl _) (.cells #[.slice A n cp, .int .i64 h] 24)
  have hx := Box2.new w (.slice A n cp) (.int .i64 h) 24
  obtain ⟨g, hg⟩ : ∃ g, w.heap.size = g := ⟨_, rfl⟩
  rw [hg] at hx
  have HL := Lib.hid (And.intro (hl.below hB (Nat.le_refl _)) hn)
  generalize hw0 : w.alloc (.cells #[.slice A n cp, .int .i64 h] 24) = wa at hB hx HL
  clear hl
  generalize hP : MayC h l = MP
  have HP := Lib.hid hP
  clear hP
  go_enter Try.func8, Try.ntmps8
  go_wp2
  clear hw0 hg
  go_loopw [3] (fun i wr => ∃ q : Nat, q ≤ n ∧ i = .int .i64 q ∧ Hid (∀ (i : Nat) (p : P), i < q → l[i]? = some p → 0 ≤ p.pins ∧ findL l p.no = some i) ∧ Below wa.heap.size wa wr) (fun i _ => n - (intOf i).toNat)
  case atStart => exact ⟨0, Nat.zero_le _, rfl, Lib.hid (fun i p hi => absurd hi (Nat.not_lt_zero _)), Below.refl _ _⟩
  case round =>
    obtain ⟨q, hq, rfl, hI, hy⟩ := hrel
    have hxr := hx.below hy hx.lt
    have x0 := hxr.c0
    have x1 := hxr.c1
    by_cases hlt : q < n
    · have hgt := List.getElem?_eq_getElem (l := l) (i := q) (by rw [HL.out.2]; exact hlt)
      generalize (l[q]'(by rw [HL.out.2]; exact hlt)) = p at hgt
      obtain ⟨b, o, rfl, _, d0, _, _, d3⟩ := HasP.at (HL.out.1.below hy (Nat.le_refl _)) hgt
      have hl2 := HL.out.1.below hy (Nat.le_refl _)
      obtain ⟨pno, hpno⟩ : ∃ x, p.no = x := ⟨_, rfl⟩
      obtain ⟨pp, hpp⟩ : ∃ x, p.pins = x := ⟨_, rfl⟩
      rw [hpno] at d0
      rw [hpp] at d3
      have HG := Lib.hid (And.intro hgt (And.intro hpno hpp))
      have i1 : (q : Int) < (n : Int) := by omega
      have i0 : (0 : Int) ≤ (q : Int) := by omega
      clear hgt hpno hpp hxr
      by_cases hneg : pp < 0
      · have HQ : Hid (¬ MP) := Lib.hid (by
          rw [← HP.out]
          intro h
          have h1 := (h.own q p HG.out.1).1
          rw [HG.out.2.2] at h1
          omega)
        have e1 : decide (pp < 0) = true := decide_eq_true hneg
        clear hl2 hn
        go_wp2_with fail
        have hdr := (Below.refl wr.heap.size wr).drew
        refine Lex.region_lex (ops := crops) (calls := crcalls) crord (fun W => W.cell? ⟨g, 0, none⟩ = some (.slice (some ⟨b, o, none⟩) n cp) ∧ W.cell? ⟨g, 1, none⟩ = some (.int .i64 h) ∧ W.cell? ⟨b, o + q * 4, none⟩ = some (.int .i64 pno) ∧ W.cell? ⟨b, o + q * 4 + 3, none⟩ = some (.int .i64 pp)) (by kernel_rfl) (by kernel_rfl) crsel (by kernel_rfl) (by kernel_rfl) crlex (⟨cell_belowB hdr x0, cell_belowB hdr x1, cell_belowB hdr d0, cell_belowB hdr d3⟩) ?_
        unfold crord
        have x0 := cell_belowB hdr x0
        have x1 := cell_belowB hdr x1
        have d0 := cell_belowB hdr d0
        have d3 := cell_belowB hdr d3
        have hy := hy.trans (hdr.mono hy.size)
        clear hdr
        refine Lex.step_take (.pointer (some ⟨g, 0, none⟩)) cr0 rfl (Lex.want_none rfl) (by intro Wx hSw; (try dsimp only at hSw); go_simp; (try (first | (with_reducible rfl) | assumption | rfl))) ?_
        simp only [Act.put, List.setIfInBounds_toArray, List.set_cons_zero, List.set_cons_succ]
        refine Lex.step_take (.slice (some ⟨b, o, none⟩) n cp) cr1 rfl (Lex.want_none rfl) (by intro Wx hSw; (try dsimp only at hSw); go_simp; (try (first | (with_reducible rfl) | assumption | rfl))) ?_
        simp only [Act.put, List.setIfInBounds_toArray, List.set_cons_zero, List.set_cons_succ]
        refine Lex.step_take (.int .i64 (q : Int)) cr2 rfl (Lex.want_none rfl) (by intro Wx hSw; (try dsimp only at hSw); go_simp; (try (first | (with_reducible rfl) | assumption | rfl))) ?_
        simp only [Act.put, List.setIfInBounds_toArray, List.set_cons_zero, List.set_cons_succ]
        refine Lex.step_take (.pointer (some ⟨b, o + q * 4, none⟩)) cr3 rfl (Lex.want_none rfl) (by intro Wx hSw; (try dsimp only at hSw); go_simp; (try (first | (with_reducible rfl) | assumption | rfl))) ?_
        simp only [Act.put, List.setIfInBounds_toArray, List.set_cons_zero, List.set_cons_succ]
        refine Lex.step_take (.pointer (some ⟨b, o + q * 4 + 3, none⟩)) cr4 rfl (Lex.want_none rfl) (by intro Wx hSw; (try dsimp only at hSw); go_simp; (try (first | (with_reducible rfl) | assumption | rfl))) ?_
        simp only [Act.put, List.setIfInBounds_toArray, List.set_cons_zero, List.set_cons_succ]
        refine Lex.step_take (.int .i64 pp) cr5 rfl (Lex.want_none rfl) (by intro Wx hSw; (try dsimp only at hSw); go_simp; (try (first | (with_reducible rfl) | assumption | rfl))) ?_
        simp only [Act.put, List.setIfInBounds_toArray, List.set_cons_zero, List.set_cons_succ]
        refine Lex.step_take (.bool true) cr6 rfl (Lex.want_none rfl) (by intro Wx hSw; (try dsimp only at hSw); go_simp; (try (first | (with_reducible rfl) | assumption | rfl))) ?_
        simp only [Act.put, List.setIfInBounds_toArray, List.set_cons_zero, List.set_cons_succ]
        refine Lex.step_take (.bool true) cr7 rfl (Lex.want_none rfl) (by intro Wx hSw; (try dsimp only at hSw); go_simp; (try (first | (with_reducible rfl) | assumption | rfl))) ?_
        simp only [Act.put, List.setIfInBounds_toArray, List.set_cons_zero, List.set_cons_succ]
        refine Lex.step_skip cr8 (Lex.want_some rfl cr7 rfl (b' := true) rfl rfl) ?_
        simp only [Act.put, List.setIfInBounds_toArray, List.set_cons_zero, List.set_cons_succ]
        refine Lex.step_skip cr9 (Lex.want_some rfl cr7 rfl (b' := true) rfl rfl) ?_
        simp only [Act.put, List.setIfInBounds_toArray, List.set_cons_zero, List.set_cons_succ]
        refine Lex.step_skip cr10 (Lex.want_some rfl cr7 rfl (b' := true) rfl rfl) ?_
        simp only [Act.put, List.setIfInBounds_toArray, List.set_cons_zero, List.set_cons_succ]
        refine Lex.step_skip cr11 (Lex.want_some rfl cr7 rfl (b' := true) rfl rfl) ?_
        simp only [Act.put, List.setIfInBounds_toArray, List.set_cons_zero, List.set_cons_succ]
        refine Lex.step_skip cr12 (Lex.want_some rfl cr7 rfl (b' := true) rfl rfl) ?_
        simp only [Act.put, List.setIfInBounds_toArray, List.set_cons_zero, List.set_cons_succ]
        refine Lex.step_skip cr13 (Lex.want_some rfl cr7 rfl (b' := true) rfl rfl) ?_
        simp only [Act.put, List.setIfInBounds_toArray, List.set_cons_zero, List.set_cons_succ]
        refine Lex.step_skip cr14 (Lex.want_some rfl cr7 rfl (b' := true) rfl rfl) ?_
        simp only [Act.put, List.setIfInBounds_toArray, List.set_cons_zero, List.set_cons_succ]
        refine Lex.step_skip cr15 (Lex.want_some rfl cr7 rfl (b' := true) rfl rfl) ?_
        simp only [Act.put, List.setIfInBounds_toArray, List.set_cons_zero, List.set_cons_succ]
        refine Lex.step_skip cr17 (Lex.want_some rfl cr7 rfl (b' := true) rfl rfl) ?_
        simp only [Act.put, List.setIfInBounds_toArray, List.set_cons_zero, List.set_cons_succ]
        refine Lex.step_skip cr16 (Lex.want_some rfl cr7 rfl (b' := true) rfl rfl) ?_
        simp only [Act.put, List.setIfInBounds_toArray, List.set_cons_zero, List.set_cons_succ]
        refine Lex.step_skip cr18 (Lex.want_some rfl cr7 rfl (b' := true) rfl rfl) ?_
        simp only [Act.put, List.setIfInBounds_toArray, List.set_cons_zero, List.set_cons_succ]
        refine Lex.step_take (.bool true) cr19 rfl (Lex.want_none rfl) (by intro Wx hSw; (try dsimp only at hSw); go_simp; (try (first | (with_reducible rfl) | assumption | rfl))) ?_
        simp only [Act.put, List.setIfInBounds_toArray, List.set_cons_zero, List.set_cons_succ]
        refine NoPanic.normal ?_
        clear x0 x1 d0 d3 e1
        have hB := hB.trans (hy.mono hB.size)
        go_wp2
        go_ret
        exact ⟨false, rfl, ⟨fun e => (by cases e), fun e => absurd e HQ.out⟩, hB⟩
      · have e1 : decide (pp < 0) = false := decide_eq_false hneg
        have hcF := fun (W : World) (h2 : HasP W lo (some ⟨b, o, none⟩) l) => refFind_any (cp := cp) h pno lo h2 HL.out.2 h9
        obtain ⟨r, hr⟩ : ∃ r, resI (findL l pno) = r := ⟨_, rfl⟩
        rw [hr] at hcF
        obtain ⟨rb, hrb⟩ : ∃ rb, (r != (q : Int)) = rb := ⟨_, rfl⟩
        have HR := Lib.hid hr
        clear hr hn
        go_wp2_with fail
        have hdr := (Below.refl wr.heap.size wr).drew
        refine Lex.region_lex (ops := crops) (calls := crcalls) crord (fun W => W.cell? ⟨g, 0, none⟩ = some (.slice (some ⟨b, o, none⟩) n cp) ∧ W.cell? ⟨g, 1, none⟩ = some (.int .i64 h) ∧ W.cell? ⟨b, o + q * 4, none⟩ = some (.int .i64 pno) ∧ W.cell? ⟨b, o + q * 4 + 3, none⟩ = some (.int .i64 pp)) (by kernel_rfl) (by kernel_rfl) crsel (by kernel_rfl) (by kernel_rfl) crlex (⟨cell_belowB hdr x0, cell_belowB hdr x1, cell_belowB hdr d0, cell_belowB hdr d3⟩) ?_
        unfold crord
        have x0 := cell_belowB hdr x0
        have x1 := cell_belowB hdr x1
        have d0 := cell_belowB hdr d0
        have d3 := cell_belowB hdr d3
        have hy := hy.trans (hdr.mono hy.size)
        have hl2 := hl2.below hdr (Nat.le_refl _)
        clear hdr
        refine Lex.step_take (.pointer (some ⟨g, 0, none⟩)) cr0 rfl (Lex.want_none rfl) (by intro Wx hSw; (try dsimp only at hSw); go_simp; (try (first | (with_reducible rfl) | assumption | rfl))) ?_
        simp only [Act.put, List.setIfInBounds_toArray, List.set_cons_zero, List.set_cons_succ]
        refine Lex.step_take (.slice (some ⟨b, o, none⟩) n cp) cr1 rfl (Lex.want_none rfl) (by intro Wx hSw; (try dsimp only at hSw); go_simp; (try (first | (with_reducible rfl) | assumption | rfl))) ?_
        simp only [Act.put, List.setIfInBounds_toArray, List.set_cons_zero, List.set_cons_succ]
        refine Lex.step_take (.int .i64 (q : Int)) cr2 rfl (Lex.want_none rfl) (by intro Wx hSw; (try dsimp only at hSw); go_simp; (try (first | (with_reducible rfl) | assumption | rfl))) ?_
        simp only [Act.put, List.setIfInBounds_toArray, List.set_cons_zero, List.set_cons_succ]
        refine Lex.step_take (.pointer (some ⟨b, o + q * 4, none⟩)) cr3 rfl (Lex.want_none rfl) (by intro Wx hSw; (try dsimp only at hSw); go_simp; (try (first | (with_reducible rfl) | assumption | rfl))) ?_
        simp only [Act.put, List.setIfInBounds_toArray, List.set_cons_zero, List.set_cons_succ]
        refine Lex.step_take (.pointer (some ⟨b, o + q * 4 + 3, none⟩)) cr4 rfl (Lex.want_none rfl) (by intro Wx hSw; (try dsimp only at hSw); go_simp; (try (first | (with_reducible rfl) | assumption | rfl))) ?_
        simp only [Act.put, List.setIfInBounds_toArray, List.set_cons_zero, List.set_cons_succ]
        refine Lex.step_take (.int .i64 pp) cr5 rfl (Lex.want_none rfl) (by intro Wx hSw; (try dsimp only at hSw); go_simp; (try (first | (with_reducible rfl) | assumption | rfl))) ?_
        simp only [Act.put, List.setIfInBounds_toArray, List.set_cons_zero, List.set_cons_succ]
        refine Lex.step_take (.bool false) cr6 rfl (Lex.want_none rfl) (by intro Wx hSw; (try dsimp only at hSw); go_simp; (try (first | (with_reducible rfl) | assumption | rfl))) ?_
        simp only [Act.put, List.setIfInBounds_toArray, List.set_cons_zero, List.set_cons_succ]
        refine Lex.step_take (.bool false) cr7 rfl (Lex.want_none rfl) (by intro Wx hSw; (try dsimp only at hSw); go_simp; (try (first | (with_reducible rfl) | assumption | rfl))) ?_
        simp only [Act.put, List.setIfInBounds_toArray, List.set_cons_zero, List.set_cons_succ]
        refine Lex.step_take (.agg #[.slice (some ⟨b, o, none⟩) n cp, .int .i64 h]) cr8 rfl (Lex.want_some rfl cr7 rfl (b' := false) rfl rfl) (by intro Wx hSw; (try dsimp only at hSw); go_simp; (try (first | (with_reducible rfl) | assumption | rfl))) ?_
        simp only [Act.put, List.setIfInBounds_toArray, List.set_cons_zero, List.set_cons_succ]
        refine Lex.step_take (.pointer (some ⟨g, 0, none⟩)) cr9 rfl (Lex.want_some rfl cr7 rfl (b' := false) rfl rfl) (by intro Wx hSw; (try dsimp only at hSw); go_simp; (try (first | (with_reducible rfl) | assumption | rfl))) ?_
        simp only [Act.put, List.setIfInBounds_toArray, List.set_cons_zero, List.set_cons_succ]
        refine Lex.step_take (.slice (some ⟨b, o, none⟩) n cp) cr10 rfl (Lex.want_some rfl cr7 rfl (b' := false) rfl rfl) (by intro Wx hSw; (try dsimp only at hSw); go_simp; (try (first | (with_reducible rfl) | assumption | rfl))) ?_
        simp only [Act.put, List.setIfInBounds_toArray, List.set_cons_zero, List.set_cons_succ]
        refine Lex.step_take (.int .i64 (q : Int)) cr11 rfl (Lex.want_some rfl cr7 rfl (b' := false) rfl rfl) (by intro Wx hSw; (try dsimp only at hSw); go_simp; (try (first | (with_reducible rfl) | assumption | rfl))) ?_
        simp only [Act.put, List.setIfInBounds_toArray, List.set_cons_zero, List.set_cons_succ]
        refine Lex.step_take (.pointer (some ⟨b, o + q * 4, none⟩)) cr12 rfl (Lex.want_some rfl cr7 rfl (b' := false) rfl rfl) (by intro Wx hSw; (try dsimp only at hSw); go_simp; (try (first | (with_reducible rfl) | assumption | rfl))) ?_
        simp only [Act.put, List.setIfInBounds_toArray, List.set_cons_zero, List.set_cons_succ]
        refine Lex.step_take (.pointer (some ⟨b, o + q * 4, none⟩)) cr13 rfl (Lex.want_some rfl cr7 rfl (b' := false) rfl rfl) (by intro Wx hSw; (try dsimp only at hSw); go_simp; (try (first | (with_reducible rfl) | assumption | rfl))) ?_
        simp only [Act.put, List.setIfInBounds_toArray, List.set_cons_zero, List.set_cons_succ]
        refine Lex.step_take (.pointer (some ⟨b, o + q * 4, none⟩)) cr14 rfl (Lex.want_some rfl cr7 rfl (b' := false) rfl rfl) (by intro Wx hSw; (try dsimp only at hSw); go_simp; (try (first | (with_reducible rfl) | assumption | rfl))) ?_
        simp only [Act.put, List.setIfInBounds_toArray, List.set_cons_zero, List.set_cons_succ]
        refine Lex.step_take (.int .i64 pno) cr15 rfl (Lex.want_some rfl cr7 rfl (b' := false) rfl rfl) (by intro Wx hSw; (try dsimp only at hSw); go_simp; (try (first | (with_reducible rfl) | assumption | rfl))) ?_
        simp only [Act.put, List.setIfInBounds_toArray, List.set_cons_zero, List.set_cons_succ]
        refine Lex.step_take (.int .i64 (q : Int)) cr17 rfl (Lex.want_some rfl cr7 rfl (b' := false) rfl rfl) (by intro Wx hSw; (try dsimp only at hSw); go_simp; (try (first | (with_reducible rfl) | assumption | rfl))) ?_
        simp only [Act.put, List.setIfInBounds_toArray, List.set_cons_zero, List.set_cons_succ]
        refine Lex.step_call cr16 rfl (Lex.want_some rfl cr7 rfl (b' := false) rfl rfl) (fun K hK => ?_)
        go_simp
        refine (hcF _ hl2).mono ?_
        rintro e y1 ⟨rfl, hv⟩
        have x0 := cell_belowB hv x0
        have x1 := cell_belowB hv x1
        have d0 := cell_belowB hv d0
        have d3 := cell_belowB hv d3
        have hy := hy.trans (hv.mono hy.size)
        clear hv
        refine hK.out _ _ _ (fun _ h => h) ⟨x0, x1, d0, d3⟩ ?_
        clear hK K
        try simp only [Act.put, List.setIfInBounds_toArray, List.set_cons_zero, List.set_cons_succ]
        refine Lex.step_take (.bool rb) cr18 rfl (Lex.want_some rfl cr7 rfl (b' := false) rfl rfl) (by intro Wx hSw; (try dsimp only at hSw); go_simp; (try (first | (with_reducible rfl) | assumption | rfl))) ?_
        simp only [Act.put, List.setIfInBounds_toArray, List.set_cons_zero, List.set_cons_succ]
        refine Lex.step_take (.bool rb) cr19 rfl (Lex.want_none rfl) (by intro Wx hSw; (try dsimp only at hSw); go_simp; (try (first | (with_reducible rfl) | assumption | rfl))) ?_
        simp only [Act.put, List.setIfInBounds_toArray, List.set_cons_zero, List.set_cons_succ]
        refine NoPanic.normal ?_
        clear x0 x1 d0 d3 e1 hcF hl2
        cases rb
        · have HI : Hid (∀ (i : Nat) (p : P), i < q + 1 → l[i]? = some p → 0 ≤ p.pins ∧ findL l p.no = some i) := Lib.hid (fun i p' hi hp' => by
            by_cases e : i < q
            · exact hI.out i p' e hp'
            · obtain rfl : i = q := by omega
              rw [HG.out.1] at hp'
              injection hp' with hp'
              subst hp'
              rw [HG.out.2.1, HG.out.2.2]
              refine ⟨by omega, ?_⟩
              have h1 := bne_eq_false_iff_eq.1 hrb
              have h2 := HR.out
              cases hf : findL l pno with
              | none => rw [hf] at h2; have h2 : (-1 : Int) = r := h2; omega
              | some j => rw [hf] at h2; have h2 : (j : Int) = r := h2; congr 1; omega)
          clear hrb
          go_wp2
          go_roundw
          case rel => exact ⟨q + 1, by omega, by go_num, HI, hy⟩
          case measure => simp [intOf]; omega
        · have HQ : Hid (¬ MP) := Lib.hid (by
            rw [← HP.out]
            intro h
            have h1 := (h.own q p HG.out.1).2
            rw [HG.out.2.1] at h1
            have h2 := HR.out
            rw [h1] at h2
            have h2 : (q : Int) = r := h2
            have h3 := bne_iff_ne.1 hrb
            exact h3 h2.symm)
          have hB := hB.trans (hy.mono hB.size)
          clear hrb
          go_wp2
          go_ret
          exact ⟨false, rfl, ⟨fun e => (by cases e), fun e => absurd e HQ.out⟩, hB⟩
    · obtain rfl : n = q := by omega
      have hB := hB.trans (hy.mono hB.size)
      have HI : Hid (∀ (i : Nat) (p : P), l[i]? = some p → 0 ≤ p.pins ∧ findL l p.no = some i) := Lib.hid (fun i p hp => hI.out i p (by rw [← HL.out.2]; exact (List.getElem?_eq_some_iff.1 hp).1) hp)
      by_cases c1 : n ≤ 8
      case neg =>
        have HQ : Hid (¬ MP) := Lib.hid (by rw [← HP.out]; intro h; have := h.len; have := HL.out.2; omega)
        have e1 : decide ((n : Int) ≤ 8) = false := decide_eq_false (by omega)
        clear hn
        go_wp2
        go_ret
        exact ⟨false, rfl, ⟨fun e => (by cases e), fun e => absurd e HQ.out⟩, hB⟩
      have e1 : decide ((n : Int) ≤ 8) = true := decide_eq_true (by omega)
      by_cases c2 : 0 ≤ h
      case neg =>
        have HQ : Hid (¬ MP) := Lib.hid (by rw [← HP.out]; intro h; exact c2 h.h0)
        have e2 : decide ((0 : Int) ≤ h) = false := decide_eq_false c2
        clear hn
        go_wp2
        go_ret
        exact ⟨false, rfl, ⟨fun e => (by cases e), fun e => absurd e HQ.out⟩, hB⟩
      have e2 : decide ((0 : Int) ≤ h) = true := decide_eq_true c2
      by_cases c3 : h = 0
      · have HQ : Hid MP := Lib.hid (by rw [← HP.out]; exact ⟨HI.out, by rw [HL.out.2]; exact c1, c2, Or.inl c3⟩)
        have e3 : (h == 0) = true := by rw [beq_iff_eq]; exact c3
        clear hn c3
        go_wp2
        go_ret
        exact ⟨true, rfl, ⟨fun _ => HQ.out, fun _ => rfl⟩, hB⟩
      · have e3 : (h == 0) = false := by rw [beq_eq_false_iff_ne]; exact c3
        by_cases c4 : h < (n : Int)
        · have HQ : Hid MP := Lib.hid (by rw [← HP.out]; exact ⟨HI.out, by rw [HL.out.2]; exact c1, c2, Or.inr (by rw [HL.out.2]; exact c4)⟩)
          have e4 : decide (h < (n : Int)) = true := decide_eq_true c4
          clear hn c3
          go_wp2
          go_ret
          exact ⟨true, rfl, ⟨fun _ => HQ.out, fun _ => rfl⟩, hB⟩
        · have HQ : Hid (¬ MP) := Lib.hid (by rw [← HP.out]; intro h; rcases h.h1 with e | e; exact c3 e; have := HL.out.2; omega)
          have e4 : decide (h < (n : Int)) = false := decide_eq_false c4
          clear hn c3
          go_wp2
          go_ret
          exact ⟨false, rfl, ⟨fun e => (by cases e), fun e => absurd e HQ.out⟩, hB⟩
end
end Go.Proofs.Ytjjedadhkdpceaa.Cl
