/- Whether a sector is a whole head by chance, walked. -/
import Derived.Test.YtdbemkdfndjakaaDoorHdQ
namespace Go.Proofs.YtdbemkdfndjakaaDoor.Hd
open Go.RowKit Tal Sla Fr
def Chance (S : Nat → ByteArray) (old new : H) (j : Nat) : Prop := ∃ g, parseH (S j) = some g ∧ g ≠ old ∧ g ≠ new ∧ old.e < g.e
set_option maxRecDepth 20000 in
set_option maxHeartbeats 12800000 in
theorem bent_any (v : Value) (D : Dev) (old new : H) (w : World) (hD : IsDev w v D) (hn : 2 ≤ D.n) (hn2 : D.n ≤ 2000) (hz : ∀ j, j < D.n → (D.S j).size = 256) :
    Calls Tryd.prog 29 #[v, .agg (cellsH old), .agg (cellsH new)] w fun e w' => ∃ b : Bool, e = .returned (.bool b) ∧ (b = true ↔ Chance D.S old new 0 ∨ Chance D.S old new 1) ∧ Below w.heap.size w w' := by
  obtain ⟨bb, B, cc, k, rfl, hlt, hnc, hc, _, _⟩ := hD
  have HS := Lib.hid (And.intro hc hz)
  clear hc hz
  generalize D.S = S at HS ⊢
  generalize D.n = n at HS hn hn2 hnc ⊢
  generalize D.m = m
  generalize D.dead = dd
  generalize D.left = lf
  generalize D.deeds = ds
  have hs := Box5.new w (.slice (some ⟨bb, 0, none⟩) n cc) (.slice B m k) (.bool dd) (.int .i64 lf) (.int .i64 ds) 39
  have hB := (Below.refl w.heap.size w).alloc (Nat.le_refl _) (.cells #[.slice (some ⟨bb, 0, none⟩) n cc, .slice B m k, .bool dd, .int .i64 lf, .int .i64 ds] 39)
  obtain ⟨g3, hg3⟩ : ∃ x, w.heap.size = x := ⟨_, rfl⟩
  rw [hg3] at hs
  generalize hwa : w.alloc (.cells #[.slice (some ⟨bb, 0, none⟩) n cc, .slice B m k, .bool dd, .int .i64 lf, .int .i64 ds] 39) = wa at hs hB
  have ho := BoxH.new wa old 23
  have hv := (Below.refl wa.heap.size wa).alloc (Nat.le_refl _) (.cells (cellsH old) 23)
  have hs := hs.below hv hs.lt5
  have hB := hB.trans (hv.mono hB.size)
  clear hv
  obtain ⟨g4, hg4⟩ : ∃ x, wa.heap.size = x := ⟨_, rfl⟩
  rw [hg4] at ho
  generalize hwb : wa.alloc (.cells (cellsH old) 23) = wb at hs ho hB
  have hw := BoxH.new wb new 23
  have hv := (Below.refl wb.heap.size wb).alloc (Nat.le_refl _) (.cells (cellsH new) 23)
  have hs := hs.below hv hs.lt5
  have ho := ho.below hv ho.lt
  have hB := hB.trans (hv.mono hB.size)
  clear hv
  obtain ⟨g5, hg5⟩ : ∃ x, wb.heap.size = x := ⟨_, rfl⟩
  rw [hg5] at hw
  generalize hwc : wb.alloc (.cells (cellsH new) 23) = wc at hs ho hw hB
  obtain ⟨op, ol, oe⟩ := old
  obtain ⟨np, nl, ne⟩ := new
  obtain ⟨CH, hCH⟩ : ∃ f : Nat → Prop, f = Chance S ⟨op, ol, oe⟩ ⟨np, nl, ne⟩ := ⟨_, rfl⟩
  rw [← hCH]
  have HCH := Lib.hid hCH
  clear hCH
  unfold cellsH at hwb hwc ⊢
  simp only at hwb hwc ⊢
  go_enter Tryd.func29, Tryd.ntmps29
  go_wp2
  clear hwa hwb hwc hg3 hg4 hg5
  go_loopw [7] (fun i wr => ∃ q : Nat, q ≤ 2 ∧ i = .int .i64 q ∧ (∀ j, j < q → ¬ CH j) ∧ Box5 wr g3 (.slice (some ⟨bb, 0, none⟩) n cc) (.slice B m k) (.bool dd) (.int .i64 lf) (.int .i64 ds) ∧ BoxH wr g4 ⟨op, ol, oe⟩ ∧ BoxH wr g5 ⟨np, nl, ne⟩ ∧ Below w.heap.size w wr) (fun i _ => 2 - (intOf i).toNat)
  case atStart => exact ⟨0, Nat.zero_le _, rfl, fun j hj => absurd hj (Nat.not_lt_zero j), hs, ho, hw, hB⟩
  case round =>
    clear hs ho hw hB
    obtain ⟨q, hq, rfl, hno, hs, ho, hw, hB⟩ := hrel
    have x0 := hs.c0
    by_cases hlt2 : q < 2
    · have i0 : (q : Int) < (n : Int) := by omega
      have i1 : (q : Int) < 2 := by omega
      have i2 : (0 : Int) ≤ (q : Int) := by omega
      have hqn : q < n := by omega
      have kS : wr.cell? ⟨bb, q, none⟩ = some (.string (S q)) := (hB.cell (p := ⟨bb, q, none⟩) hlt).trans (HS.out.1 q hqn)
      have hsz := HS.out.2 q hqn
      have hpa := fun W => refParse_any (S q) W (by omega)
      have HP : Hid (CH q ↔ ∃ g, parseH (S q) = some g ∧ g ≠ ⟨op, ol, oe⟩ ∧ g ≠ ⟨np, nl, ne⟩ ∧ oe < g.e) := Lib.hid (by rw [HCH.out]; exact Iff.rfl)
      clear hsz
      unfold ParsePost at hpa
      generalize S q = sq at kS hpa HP
      generalize hpg : parseH sq = pg at hpa HP
      clear hpg
      go_wp2_with fail
      clear x0 kS
      refine (hpa _).mono ?_
      rintro e w2 ⟨rfl, hv⟩
      clear hpa
      have hs := hs.below hv hs.lt5
      have ho := ho.below hv ho.lt
      have hw := hw.below hv hw.lt
      have hB := hB.trans (hv.mono hB.size)
      clear hv
      have HN := Lib.hid hno
      clear hno
      cases pg with
      | none =>
        have hnc2 : Hid (¬ CH q) := Lib.hid (by rw [HP.out]; rintro ⟨g, h, _⟩; cases h)
        simp only [Option.getD_none, Option.isSome_none]
        unfold cellsH noH
        simp only
        go_upto_region 5 with fail
        have hv := (Below.refl w2.heap.size w2).alloc (Nat.le_refl _) (.cells #[.int .i64 0, .int .i64 0, .int .i64 0] 23)
        have hs := hs.below hv hs.lt5
        have ho := ho.below hv ho.lt
        have hw := hw.below hv hw.lt
        have hB := hB.trans (hv.mono hB.size)
        clear hv
        generalize w2.alloc (.cells #[.int .i64 0, .int .i64 0, .int .i64 0] 23) = w3 at hs ho hw hB ⊢
        have HF := Lib.hid (And.intro hs (And.intro ho (And.intro hw hB)))
        clear hs ho hw hB
        go_wp2
        go_roundw
        case rel => exact ⟨q + 1, by omega, by go_num, fun j hj => (Nat.lt_or_eq_of_le (Nat.le_of_lt_succ hj)).elim (HN.out j) (fun e => e ▸ hnc2.out), HF.out.1, HF.out.2.1, HF.out.2.2.1, HF.out.2.2.2⟩
        case measure => simp [intOf]; omega
      | some g =>
        obtain ⟨gp, gl, ge⟩ := g
        simp only [Option.getD_some, Option.isSome_some]
        unfold cellsH
        simp only
        go_upto_region 5 with fail
        have hv := (Below.refl w2.heap.size w2).alloc (Nat.le_refl _) (.cells #[.int .i64 gp, .int .i64 gl, .int .i64 ge] 23)
        have hg : BoxH (w2.alloc (.cells #[.int .i64 gp, .int .i64 gl, .int .i64 ge] 23)) w2.heap.size ⟨gp, gl, ge⟩ := BoxH.new w2 ⟨gp, gl, ge⟩ 23
        have hs := hs.below hv hs.lt5
        have ho := ho.below hv ho.lt
        have hw := hw.below hv hw.lt
        have hB := hB.trans (hv.mono hB.size)
        clear hv
        generalize w2.alloc (.cells #[.int .i64 gp, .int .i64 gl, .int .i64 ge] 23) = w3 at hs ho hw hg hB ⊢
        generalize w2.heap.size = gg at hg ⊢
        have HF := Lib.hid (And.intro hs (And.intro ho (And.intro hw hB)))
        have a0 : w3.cell? ⟨gg, 0, none⟩ = some (.int .i64 gp) := hg.c0
        have a1 : w3.cell? ⟨gg, 1, none⟩ = some (.int .i64 gl) := hg.c1
        have a2 : w3.cell? ⟨gg, 2, none⟩ = some (.int .i64 ge) := hg.c2
        have b0 : w3.cell? ⟨g4, 0, none⟩ = some (.int .i64 op) := ho.c0
        have b1 : w3.cell? ⟨g4, 1, none⟩ = some (.int .i64 ol) := ho.c1
        have b2 : w3.cell? ⟨g4, 2, none⟩ = some (.int .i64 oe) := ho.c2
        have d0 : w3.cell? ⟨g5, 0, none⟩ = some (.int .i64 np) := hw.c0
        have d1 : w3.cell? ⟨g5, 1, none⟩ = some (.int .i64 nl) := hw.c1
        have d2 : w3.cell? ⟨g5, 2, none⟩ = some (.int .i64 ne) := hw.c2
        have HP2 : Hid (CH q ↔ (¬ (gp = op ∧ gl = ol ∧ ge = oe)) ∧ (¬ (gp = np ∧ gl = nl ∧ ge = ne)) ∧ oe < ge) := Lib.hid (by
          rw [HP.out]
          constructor
          · rintro ⟨g, h, h1, h2, h3⟩
            cases h
            exact ⟨fun h => h1 (by rw [h.1, h.2.1, h.2.2]), fun h => h2 (by rw [h.1, h.2.1, h.2.2]), h3⟩
          · rintro ⟨h1, h2, h3⟩
            exact ⟨_, rfl, fun h => h1 (by cases h; exact ⟨rfl, rfl, rfl⟩), fun h => h2 (by cases h; exact ⟨rfl, rfl, rfl⟩), h3⟩)
        clear HP hs ho hw hg hB
        have hq01 : q = 0 ∨ q = 1 := by omega
        have HQ01 := Lib.hid hq01
        clear hq01
        by_cases e3 : oe < ge
        · go_wp2
          all_goals first
            | (go_ret
               have hc : CH q := by rw [HP2.out]; omega
               exact ⟨true, rfl, ⟨fun _ => HQ01.out.elim (fun e => Or.inl (e ▸ hc)) (fun e => Or.inr (e ▸ hc)), fun _ => rfl⟩, HF.out.2.2.2⟩)
            | (have hc : ¬ CH q := by rw [HP2.out]; omega
               have HNC := Lib.hid hc
               clear hc
               go_roundw
               case rel => exact ⟨q + 1, by omega, by go_num, fun j hj => (Nat.lt_or_eq_of_le (Nat.le_of_lt_succ hj)).elim (HN.out j) (fun e => e ▸ HNC.out), HF.out.1, (by have h := HF.out.2.1; first | exact h | (subst_vars; exact h)), (by have h := HF.out.2.2.1; first | exact h | (subst_vars; exact h)), HF.out.2.2.2⟩
               case measure => simp [intOf]; omega)
        · have HNC : Hid (¬ CH q) := Lib.hid (by rw [HP2.out]; omega)
          clear HP2
          go_wp2
          all_goals
            go_roundw
            case rel => exact ⟨q + 1, by omega, by go_num, fun j hj => (Nat.lt_or_eq_of_le (Nat.le_of_lt_succ hj)).elim (HN.out j) (fun e => e ▸ HNC.out), HF.out.1, (by have h := HF.out.2.1; first | exact h | (subst_vars; exact h)), (by have h := HF.out.2.2.1; first | exact h | (subst_vars; exact h)), HF.out.2.2.2⟩
            case measure => simp [intOf]; omega
    · obtain rfl : q = 2 := by omega
      have hF : Hid (¬ (CH 0 ∨ CH 1)) := Lib.hid (fun h => h.elim (hno 0 (by decide)) (hno 1 (by decide)))
      have HB := Lib.hid hB
      have i0 : (2 : Int) ≤ (n : Int) := by omega
      clear hs ho hw hB hno
      by_cases h3 : (2 : Int) < (n : Int)
      · go_wp2
        go_ret
        exact ⟨false, rfl, ⟨fun h => (by cases h), fun h => absurd h hF.out⟩, HB.out⟩
      · obtain rfl : n = 2 := by omega
        clear h3 i0
        go_wp2
        trace_state
        go_ret
        exact ⟨false, rfl, ⟨fun h => (by cases h), fun h => absurd h hF.out⟩, HB.out⟩
end Go.Proofs.YtdbemkdfndjakaaDoor.Hd
