/- Whether any pages at hand may be: the law, walked. -/
import Derived.Test.YtjjedadhkdpceaaClO
import Derived.Test.YtjjedadhkdpceaaXcc
namespace Go.Proofs.Ytjjedadhkdpceaa.Cl
open Go.RowKit Pac Lex

section
variable {A : Option Addr} {n cp : Nat} {l : List P} {w : World}
set_option maxRecDepth 20000 in
set_option maxHeartbeats 3200000 in
theorem clockRight_any (h : Int) (hl : HasP w 0 A l) (hn : l.length = n) (hc : n ≤ cp) (hf : ∀ p ∈ l, -9223372036854775808 ≤ p.no ∧ p.no ≤ 9223372036854775807 ∧ -9223372036854775808 ≤ p.pins ∧ p.pins ≤ 9223372036854775807) (h0 : -9223372036854775808 ≤ h) (h1 : h ≤ 9223372036854775807) :
    Calls Try.prog 3 #[.agg #[.slice A n cp, .int .i64 h]] w fun e w' => e = .returned (.bool true) ∧ Below w.heap.size w w' := by
  have hB := (Below.refl w.heap.size w).alloc (Nat.le_refl _) (.cells #[.slice A n cp, .int .i64 h] 24)
  have hx := Box2.new w (.slice A n cp) (.int .i64 h) 24
  obtain ⟨g, hg⟩ : ∃ g, w.heap.size = g := ⟨_, rfl⟩
  rw [hg] at hx
  have hl := hl.below hB (Nat.le_refl _)
  generalize hw0 : w.alloc (.cells #[.slice A n cp, .int .i64 h] 24) = wa at hB hx hl
  have x0 := hx.c0
  have x1 := hx.c1
  clear hx
  go_enter Try.func3, Try.ntmps3
  by_cases h9 : n ≤ 100
  · have i1 : ¬ (100 : Int) < (n : Int) := by omega
    go_wp2_with fail
    clear hw0
    have hdr := (Below.refl wa.heap.size wa).drew
    refine Lex.region_lex (ops := clops) (calls := clcalls) clord (fun W => W.cell? ⟨g, 0, none⟩ = some (.slice A n cp) ∧ W.cell? ⟨g, 1, none⟩ = some (.int .i64 h)) (by kernel_rfl) (by kernel_rfl) clsel (by kernel_rfl) (by kernel_rfl) cllex (⟨cell_belowB hdr x0, cell_belowB hdr x1⟩) ?_
    unfold clord
    have x0 := cell_belowB hdr x0
    have x1 := cell_belowB hdr x1
    have hl := hl.below hdr (Nat.le_refl _)
    have hB := hB.trans (hdr.mono hB.size)
    clear hdr
    refine Lex.step_call cl0 rfl (Lex.want_none rfl) (fun K hK => ?_)
    go_simp
    refine (awake_any _).mono ?_
    rintro e y1 ⟨rfl, hv⟩
    have x0 := cell_belowB hv x0
    have x1 := cell_belowB hv x1
    have hl := hl.below hv (Nat.le_refl _)
    have hB := hB.trans (hv.mono hB.size)
    clear hv
    refine hK.out _ _ _ (fun _ h => h) ⟨x0, x1⟩ ?_
    clear hK K
    try simp only [Act.put, List.setIfInBounds_toArray, List.set_cons_zero, List.set_cons_succ]
    refine Lex.step_take (.bool true) cl1 rfl (Lex.want_none rfl) (by intro Wx hSw; (try dsimp only at hSw); go_simp; (try (first | (with_reducible rfl) | assumption | rfl))) ?_
    simp only [Act.put, List.setIfInBounds_toArray, List.set_cons_zero, List.set_cons_succ]
    refine Lex.step_take (.agg #[.slice A n cp, .int .i64 h]) cl2 rfl (Lex.want_some rfl cl1 rfl (b' := true) rfl rfl) (by intro Wx hSw; (try dsimp only at hSw); go_simp; (try (first | (with_reducible rfl) | assumption | rfl))) ?_
    simp only [Act.put, List.setIfInBounds_toArray, List.set_cons_zero, List.set_cons_succ]
    refine Lex.step_take (.agg #[.slice A n cp, .int .i64 h]) cl4 rfl (Lex.want_some rfl cl1 rfl (b' := true) rfl rfl) (by intro Wx hSw; (try dsimp only at hSw); go_simp; (try (first | (with_reducible rfl) | assumption | rfl))) ?_
    simp only [Act.put, List.setIfInBounds_toArray, List.set_cons_zero, List.set_cons_succ]
    refine Lex.step_call cl3 rfl (Lex.want_some rfl cl1 rfl (b' := true) rfl rfl) (fun K hK => ?_)
    go_simp
    refine (right_any h l hl hn hc h9 hf h0 h1).mono ?_
    rintro e y2 ⟨rb, rfl, hrb, hv⟩
    have x0 := cell_belowB hv x0
    have x1 := cell_belowB hv x1
    have hl := hl.below hv (Nat.le_refl _)
    have hB := hB.trans (hv.mono hB.size)
    clear hv
    refine hK.out _ _ _ (fun _ h => h) ⟨x0, x1⟩ ?_
    clear hK K
    try simp only [Act.put, List.setIfInBounds_toArray, List.set_cons_zero, List.set_cons_succ]
    refine Lex.step_call cl5 rfl (Lex.want_some rfl cl1 rfl (b' := true) rfl rfl) (fun K hK => ?_)
    go_simp
    refine (refRight_any h 0 hl hn (by omega)).mono ?_
    rintro e y3 ⟨r2, rfl, hr2, hv⟩
    have x0 := cell_belowB hv x0
    have x1 := cell_belowB hv x1
    have hl := hl.below hv (Nat.le_refl _)
    have hB := hB.trans (hv.mono hB.size)
    clear hv
    obtain rfl : r2 = rb := Bool.eq_iff_iff.2 ⟨fun e => hrb.2 (hr2.1 e), fun e => hr2.2 (hrb.1 e)⟩
    refine hK.out _ _ _ (fun _ h => h) ⟨x0, x1⟩ ?_
    clear hK K
    try simp only [Act.put, List.setIfInBounds_toArray, List.set_cons_zero, List.set_cons_succ]
    refine Lex.step_take (.bool true) cl6 rfl (Lex.want_some rfl cl1 rfl (b' := true) rfl rfl) (by intro Wx hSw; (try dsimp only at hSw); go_simp; (try (first | (with_reducible rfl) | assumption | rfl))) ?_
    simp only [Act.put, List.setIfInBounds_toArray, List.set_cons_zero, List.set_cons_succ]
    refine Lex.step_take (.bool true) cl7 rfl (Lex.want_none rfl) (by intro Wx hSw; (try dsimp only at hSw); go_simp; (try (first | (with_reducible rfl) | assumption | rfl))) ?_
    simp only [Act.put, List.setIfInBounds_toArray, List.set_cons_zero, List.set_cons_succ]
    refine Lex.step_take (.bool true) cl8 rfl (Lex.want_none rfl) (by intro Wx hSw; (try dsimp only at hSw); go_simp; (try (first | (with_reducible rfl) | assumption | rfl))) ?_
    simp only [Act.put, List.setIfInBounds_toArray, List.set_cons_zero, List.set_cons_succ]
    refine NoPanic.normal ?_
    have HB := Lib.hid hB
    clear hl x0 x1 hB hrb hr2
    go_wp2
    go_ret
    exact ⟨rfl, HB.out⟩
  · have i1 : (100 : Int) < (n : Int) := by omega
    go_wp2_with fail
    clear hw0
    refine (awake_any _).mono ?_
    rintro e y1 ⟨rfl, hv⟩
    have HB := Lib.hid (hB.trans (hv.mono hB.size))
    clear hl x0 x1 hB hv
    go_wp2
    go_ret
    exact ⟨rfl, HB.out⟩
end
end Go.Proofs.Ytjjedadhkdpceaa.Cl
