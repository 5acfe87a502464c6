/- Heads, pages and the log have sectors of their own: the law, walked. -/
import Derived.Test.YtdbemkdfndjakaaDoorHdN
import Derived.Test.YtdbemkdfndjakaaDoorXhw
namespace Go.Proofs.YtdbemkdfndjakaaDoor.Hd
open Go.RowKit Tal Sla Fr Lex
set_option maxRecDepth 20000 in
set_option maxHeartbeats 12800000 in
theorem places_any (h : H) (an bn : Nat) (w : World) (ht : Tab w) (ha : an < 65536) (hb : bn < 65536) : Calls Tryd.prog 6 #[.agg (cellsH h), .agg #[.int .u16 (an : Int), .int .u16 (bn : Int)]] w fun e w' => e = .returned (.bool true) ∧ Below w.heap.size w w' := by
  have HT := Lib.hid ht
  clear ht
  have hB := (Below.refl w.heap.size w).alloc (Nat.le_refl _) (.cells (cellsH h) 23)
  have hh := BoxH.new w h 23
  obtain ⟨g1, hg1⟩ : ∃ g, w.heap.size = g := ⟨_, rfl⟩
  rw [hg1] at hh
  generalize hwa : w.alloc (.cells (cellsH h) 23) = wa at hB hh
  have hv := (Below.refl wa.heap.size wa).alloc (Nat.le_refl _) (.cells #[.int .u16 (an : Int), .int .u16 (bn : Int)] 57)
  have r0 : (wa.alloc (.cells #[.int .u16 (an : Int), .int .u16 (bn : Int)] 57)).cell? ⟨wa.heap.size, 0, none⟩ = some (.int .u16 (an : Int)) := by simp
  have r1 : (wa.alloc (.cells #[.int .u16 (an : Int), .int .u16 (bn : Int)] 57)).cell? ⟨wa.heap.size, 1, none⟩ = some (.int .u16 (bn : Int)) := by simp
  have hh := hh.below hv hh.lt
  have hB := hB.trans (hv.mono hB.size)
  clear hv
  generalize hgn : wa.heap.size = gn at r0 r1
  generalize hwb : wa.alloc (.cells #[.int .u16 (an : Int), .int .u16 (bn : Int)] 57) = wb at hB hh r0 r1
  have hRt := fun W => right_any h W
  have hI := rightH_iff h
  obtain ⟨hp, hl, he⟩ := h
  unfold cellsH at hwa hRt ⊢
  simp only at hwa hRt hI ⊢
  have q0 : wb.cell? ⟨g1, 0, none⟩ = some (.int .i64 hp) := hh.c0
  have q1 : wb.cell? ⟨g1, 1, none⟩ = some (.int .i64 hl) := hh.c1
  have q2 : wb.cell? ⟨g1, 2, none⟩ = some (.int .i64 he) := hh.c2
  go_enter Tryd.func6, Tryd.ntmps6
  go_wp2_with fail
  clear hwa hwb hg1 hgn
  refine (hRt _).mono ?_
  rintro e w2 ⟨is, rfl, hi, hv⟩
  have q0 := cell_belowH hv q0
  have q1 := cell_belowH hv q1
  have q2 := cell_belowH hv q2
  have r0 := cell_belowH hv r0
  have r1 := cell_belowH hv r1
  have hh := hh.below hv hh.lt
  have hB := hB.trans (hv.mono hB.size)
  clear hv hRt
  cases is
  · clear q0 q1 q2 r0 r1 hh hi hI
    go_wp2_with fail
    refine (awake_any _ (HT.out.below hB)).mono ?_
    rintro e w3 ⟨rfl, hv⟩
    have HB := Lib.hid (hB.trans (hv.mono hB.size))
    clear hv hB
    go_wp2
    go_ret
    exact ⟨rfl, HB.out⟩
  obtain ⟨x0, x1, x2, x3, x4, x5⟩ := hI.1 (hi.1 rfl)
  obtain ⟨pn, rfl⟩ : ∃ n : Nat, hp = n := ⟨hp.toNat, by omega⟩
  obtain ⟨ln, rfl⟩ : ∃ n : Nat, hl = n := ⟨hl.toNat, by omega⟩
  clear hI hi x4 x5
  have hpv : 0 ≤ (an : Int) % (pn : Int) ∧ (an : Int) % (pn : Int) < pn := ⟨Int.emod_nonneg _ (by omega), Int.emod_lt_of_pos _ (by omega)⟩
  have hiv : 0 ≤ (bn : Int) % (ln : Int) ∧ (bn : Int) % (ln : Int) < ln := ⟨Int.emod_nonneg _ (by omega), Int.emod_lt_of_pos _ (by omega)⟩
  have z0 : ((pn : Int) == 0) = false := beq_eq_false_iff_ne.2 (by omega)
  have z1 : ((ln : Int) == 0) = false := beq_eq_false_iff_ne.2 (by omega)
  have pz : ¬ pn = 0 := by omega
  have lz : ¬ ln = 0 := by omega
  have wr1 : IntKind.i64.wrap ((an : Int)) = (an : Int) := by simp [IntKind.wrap, IntKind.bits, IntKind.signed]; omega
  have wr2 : IntKind.i64.wrap ((bn : Int)) = (bn : Int) := by simp [IntKind.wrap, IntKind.bits, IntKind.signed]; omega
  go_upto_region 3 with fail
  have hdr := (Below.refl w2.heap.size w2).drew
  have q0 := cell_belowH hdr q0
  have q1 := cell_belowH hdr q1
  have q2 := cell_belowH hdr q2
  have r0 := cell_belowH hdr r0
  have r1 := cell_belowH hdr r1
  have hh := hh.below hdr hh.lt
  have hB := hB.trans (hdr.mono hB.size)
  clear hdr
  refine Lex.region_lex (ops := paops) (calls := pacalls) paord (fun W => W.cell? ⟨g1, 0, none⟩ = some (.int .i64 (pn : Int)) ∧ W.cell? ⟨g1, 1, none⟩ = some (.int .i64 (ln : Int)) ∧ W.cell? ⟨g1, 2, none⟩ = some (.int .i64 he) ∧ W.cell? ⟨gn, 0, none⟩ = some (.int .u16 (an : Int)) ∧ W.cell? ⟨gn, 1, none⟩ = some (.int .u16 (bn : Int))) (by kernel_rfl) (by kernel_rfl) pasel (by kernel_rfl) (by kernel_rfl) palex (⟨q0, q1, q2, r0, r1⟩) ?_
  unfold paord
  refine Lex.step_take (.pointer (some ⟨gn, 0, none⟩)) pa0 rfl (Lex.want_none rfl) (by intro Wx hSw; (try dsimp only at hSw); go_simp; (try (first | (with_reducible rfl) | assumption | rfl))) ?_
  simp only [Act.put, List.setIfInBounds_toArray, List.set_cons_zero, List.set_cons_succ]
  refine Lex.step_take (.int .u16 (an : Int)) pa1 rfl (Lex.want_none rfl) (by intro Wx hSw; (try dsimp only at hSw); go_simp; (try (first | (with_reducible rfl) | assumption | rfl))) ?_
  simp only [Act.put, List.setIfInBounds_toArray, List.set_cons_zero, List.set_cons_succ]
  refine Lex.step_take (.int .i64 (an : Int)) pa2 rfl (Lex.want_none rfl) (by intro Wx hSw; (try dsimp only at hSw); go_simp; (try (first | (with_reducible rfl) | assumption | rfl))) ?_
  simp only [Act.put, List.setIfInBounds_toArray, List.set_cons_zero, List.set_cons_succ]
  refine Lex.step_take (.pointer (some ⟨g1, 0, none⟩)) pa3 rfl (Lex.want_none rfl) (by intro Wx hSw; (try dsimp only at hSw); go_simp; (try (first | (with_reducible rfl) | assumption | rfl))) ?_
  simp only [Act.put, List.setIfInBounds_toArray, List.set_cons_zero, List.set_cons_succ]
  refine Lex.step_take (.int .i64 (pn : Int)) pa4 rfl (Lex.want_none rfl) (by intro Wx hSw; (try dsimp only at hSw); go_simp; (try (first | (with_reducible rfl) | assumption | rfl))) ?_
  simp only [Act.put, List.setIfInBounds_toArray, List.set_cons_zero, List.set_cons_succ]
  refine Lex.step_take (.int .i64 ((an : Int) % (pn : Int))) pa5 rfl (Lex.want_none rfl) (by intro Wx hSw; (try dsimp only at hSw); go_simp; (try (first | (with_reducible rfl) | assumption | rfl))) ?_
  simp only [Act.put, List.setIfInBounds_toArray, List.set_cons_zero, List.set_cons_succ]
  refine Lex.step_take (.pointer (some ⟨gn, 1, none⟩)) pa6 rfl (Lex.want_none rfl) (by intro Wx hSw; (try dsimp only at hSw); go_simp; (try (first | (with_reducible rfl) | assumption | rfl))) ?_
  simp only [Act.put, List.setIfInBounds_toArray, List.set_cons_zero, List.set_cons_succ]
  refine Lex.step_take (.int .u16 (bn : Int)) pa7 rfl (Lex.want_none rfl) (by intro Wx hSw; (try dsimp only at hSw); go_simp; (try (first | (with_reducible rfl) | assumption | rfl))) ?_
  simp only [Act.put, List.setIfInBounds_toArray, List.set_cons_zero, List.set_cons_succ]
  refine Lex.step_take (.int .i64 (bn : Int)) pa8 rfl (Lex.want_none rfl) (by intro Wx hSw; (try dsimp only at hSw); go_simp; (try (first | (with_reducible rfl) | assumption | rfl))) ?_
  simp only [Act.put, List.setIfInBounds_toArray, List.set_cons_zero, List.set_cons_succ]
  refine Lex.step_take (.pointer (some ⟨g1, 1, none⟩)) pa9 rfl (Lex.want_none rfl) (by intro Wx hSw; (try dsimp only at hSw); go_simp; (try (first | (with_reducible rfl) | assumption | rfl))) ?_
  simp only [Act.put, List.setIfInBounds_toArray, List.set_cons_zero, List.set_cons_succ]
  refine Lex.step_take (.int .i64 (ln : Int)) pa10 rfl (Lex.want_none rfl) (by intro Wx hSw; (try dsimp only at hSw); go_simp; (try (first | (with_reducible rfl) | assumption | rfl))) ?_
  simp only [Act.put, List.setIfInBounds_toArray, List.set_cons_zero, List.set_cons_succ]
  refine Lex.step_take (.int .i64 ((bn : Int) % (ln : Int))) pa11 rfl (Lex.want_none rfl) (by intro Wx hSw; (try dsimp only at hSw); go_simp; (try (first | (with_reducible rfl) | assumption | rfl))) ?_
  simp only [Act.put, List.setIfInBounds_toArray, List.set_cons_zero, List.set_cons_succ]
  refine Lex.step_take (.int .i64 ((an : Int) % (pn : Int))) pa12 rfl (Lex.want_none rfl) (by intro Wx hSw; (try dsimp only at hSw); go_simp; (try (first | (with_reducible rfl) | assumption | rfl))) ?_
  simp only [Act.put, List.setIfInBounds_toArray, List.set_cons_zero, List.set_cons_succ]
  refine Lex.step_take (.int .i64 ((bn : Int) % (ln : Int))) pa13 rfl (Lex.want_none rfl) (by intro Wx hSw; (try dsimp only at hSw); go_simp; (try (first | (with_reducible rfl) | assumption | rfl))) ?_
  simp only [Act.put, List.setIfInBounds_toArray, List.set_cons_zero, List.set_cons_succ]
  refine NoPanic.normal ?_
  clear q0 q1 q2 r0 r1
  generalize (an : Int) % (pn : Int) = pv at hpv ⊢
  generalize (bn : Int) % (ln : Int) = iv at hiv ⊢
  obtain ⟨av, hav⟩ : ∃ x, 2 + pv = x := ⟨_, rfl⟩
  obtain ⟨bv, hbv⟩ : ∃ x, 2 + (pn : Int) + iv = x := ⟨_, rfl⟩
  obtain ⟨sv, hsv⟩ : ∃ x, 2 + (pn : Int) + (ln : Int) = x := ⟨_, rfl⟩
  obtain ⟨u1, hu1⟩ : ∃ x, 2 + ((pn : Int) - 1) = x := ⟨_, rfl⟩
  obtain ⟨l0, hl0⟩ : ∃ x, 2 + (pn : Int) + 0 = x := ⟨_, rfl⟩
  obtain ⟨l1, hl1⟩ : ∃ x, 2 + (pn : Int) + ((ln : Int) - 1) = x := ⟨_, rfl⟩
  have hHa := fun W => home_any pv W
  have hHb := fun W => home_any ((pn : Int) - 1) W
  have hLa := fun W => log_any ⟨pn, ln, he⟩ iv W
  have hLb := fun W => log_any ⟨pn, ln, he⟩ 0 W
  have hLc := fun W => log_any ⟨pn, ln, he⟩ ((ln : Int) - 1) W
  have hSa := fun W => size_any ⟨pn, ln, he⟩ W
  unfold cellsH at hLa hLb hLc hSa
  simp only at hLa hLb hLc hSa
  rw [show wrap64 (2 + pv) = av by unfold wrap64; omega] at hHa
  rw [show wrap64 (2 + ((pn : Int) - 1)) = u1 by unfold wrap64; omega] at hHb
  rw [show wrap64 (2 + (pn : Int)) = 2 + (pn : Int) by unfold wrap64; omega] at hLa hLb hLc hSa
  rw [show wrap64 (2 + (pn : Int) + iv) = bv by unfold wrap64; omega] at hLa
  rw [show wrap64 (2 + (pn : Int) + 0) = l0 by unfold wrap64; omega] at hLb
  rw [show wrap64 (2 + (pn : Int) + ((ln : Int) - 1)) = l1 by unfold wrap64; omega] at hLc
  rw [show wrap64 (2 + (pn : Int) + (ln : Int)) = sv by unfold wrap64; omega] at hSa
  have HC := Lib.hid (And.intro hHa (And.intro hLa (And.intro hSa (And.intro hHb (And.intro hLb hLc)))))
  clear hHa hLa hSa hHb hLb hLc
  have k1 : 2 ≤ av := by omega
  have k2 : av < bv := by omega
  have k3 : bv < sv := by omega
  have k4 : av < 2 + (pn : Int) := by omega
  have k5 : 2 + (pn : Int) ≤ bv := by omega
  have k6 : (u1 + 1 == l0) = true := by rw [beq_iff_eq]; omega
  have k7 : (l1 + 1 == sv) = true := by rw [beq_iff_eq]; omega
  have m1 : u1 ≤ 2000 := by omega
  have m2 : 0 ≤ u1 := by omega
  have m3 : l1 ≤ 2000 := by omega
  have m4 : 0 ≤ l1 := by omega
  have wr3 : IntKind.i64.wrap (2 + (pn : Int)) = 2 + (pn : Int) := by simp [IntKind.wrap, IntKind.bits, IntKind.signed]; omega
  have wr4 : IntKind.i64.wrap ((pn : Int) - 1) = (pn : Int) - 1 := by simp [IntKind.wrap, IntKind.bits, IntKind.signed]; omega
  have wr5 : IntKind.i64.wrap (u1 + 1) = u1 + 1 := by simp [IntKind.wrap, IntKind.bits, IntKind.signed]; omega
  have wr6 : IntKind.i64.wrap ((ln : Int) - 1) = (ln : Int) - 1 := by simp [IntKind.wrap, IntKind.bits, IntKind.signed]; omega
  have wr7 : IntKind.i64.wrap (l1 + 1) = l1 + 1 := by simp [IntKind.wrap, IntKind.bits, IntKind.signed]; omega
  clear hav hbv hsv hu1 hl0 hl1 hpv hiv
  go_upto_region 4 with fail
  generalize wa2 : w2.drew = w3 at hh hB ⊢
  clear wa2
  have hdr := (Below.refl w3.heap.size w3).drew
  have hh := hh.below hdr hh.lt
  have hB := hB.trans (hdr.mono hB.size)
  clear hdr
  refine Lex.region_lex (ops := pbops) (calls := pbcalls) pbord (fun W => W.cell? ⟨g1, 0, none⟩ = some (.int .i64 (pn : Int)) ∧ W.cell? ⟨g1, 1, none⟩ = some (.int .i64 (ln : Int)) ∧ W.cell? ⟨g1, 2, none⟩ = some (.int .i64 he)) (by kernel_rfl) (by kernel_rfl) pbsel (by kernel_rfl) (by kernel_rfl) pblex (⟨hh.c0, hh.c1, hh.c2⟩) ?_
  unfold pbord
  refine Lex.step_take (.int .i64 pv) pb0 rfl (Lex.want_none rfl) (by intro Wx hSw; (try dsimp only at hSw); go_simp; (try (first | (with_reducible rfl) | assumption | rfl))) ?_
  simp only [Act.put, List.setIfInBounds_toArray, List.set_cons_zero, List.set_cons_succ]
  refine Lex.step_take (.agg #[.int .i64 (pn : Int), .int .i64 (ln : Int), .int .i64 he]) pb2 rfl (Lex.want_none rfl) (by intro Wx hSw; (try dsimp only at hSw); go_simp; (try (first | (with_reducible rfl) | assumption | rfl))) ?_
  simp only [Act.put, List.setIfInBounds_toArray, List.set_cons_zero, List.set_cons_succ]
  refine Lex.step_take (.int .i64 iv) pb3 rfl (Lex.want_none rfl) (by intro Wx hSw; (try dsimp only at hSw); go_simp; (try (first | (with_reducible rfl) | assumption | rfl))) ?_
  simp only [Act.put, List.setIfInBounds_toArray, List.set_cons_zero, List.set_cons_succ]
  refine Lex.step_call pb1 rfl (Lex.want_none rfl) (fun K hK => ?_)
  go_simp
  refine (HC.out.1 _).mono ?_
  rintro e y1 ⟨rfl, rfl⟩
  refine hK.out _ _ _ (fun _ h => h) ⟨hh.c0, hh.c1, hh.c2⟩ ?_
  clear hK K
  try simp only [Act.put, List.setIfInBounds_toArray, List.set_cons_zero, List.set_cons_succ]
  refine Lex.step_call pb4 rfl (Lex.want_none rfl) (fun K hK => ?_)
  go_simp
  refine (HC.out.2.1 _).mono ?_
  rintro e y2 ⟨rfl, hv⟩
  have hh := hh.below hv hh.lt
  have hB := hB.trans (hv.mono hB.size)
  clear hv
  refine hK.out _ _ _ (fun _ h => h) ⟨hh.c0, hh.c1, hh.c2⟩ ?_
  clear hK K
  try simp only [Act.put, List.setIfInBounds_toArray, List.set_cons_zero, List.set_cons_succ]
  refine Lex.step_take (.int .i64 av) pb5 rfl (Lex.want_none rfl) (by intro Wx hSw; (try dsimp only at hSw); go_simp; (try (first | (with_reducible rfl) | assumption | rfl))) ?_
  simp only [Act.put, List.setIfInBounds_toArray, List.set_cons_zero, List.set_cons_succ]
  refine Lex.step_take (.int .i64 bv) pb6 rfl (Lex.want_none rfl) (by intro Wx hSw; (try dsimp only at hSw); go_simp; (try (first | (with_reducible rfl) | assumption | rfl))) ?_
  simp only [Act.put, List.setIfInBounds_toArray, List.set_cons_zero, List.set_cons_succ]
  refine NoPanic.normal ?_
  go_upto_region 5 with fail
  have hdr := (Below.refl y2.heap.size y2).drew
  have hh := hh.below hdr hh.lt
  have hB := hB.trans (hdr.mono hB.size)
  clear hdr
  refine Lex.region_lex (ops := pcops) (calls := pccalls) pcord (fun W => W.cell? ⟨g1, 0, none⟩ = some (.int .i64 (pn : Int)) ∧ W.cell? ⟨g1, 1, none⟩ = some (.int .i64 (ln : Int)) ∧ W.cell? ⟨g1, 2, none⟩ = some (.int .i64 he)) (by kernel_rfl) (by kernel_rfl) pcsel (by kernel_rfl) (by kernel_rfl) pclex (⟨hh.c0, hh.c1, hh.c2⟩) ?_
  unfold pcord
  refine Lex.step_call pc0 rfl (Lex.want_none rfl) (fun K hK => ?_)
  go_simp
  refine (awake_any _ (HT.out.below hB)).mono ?_
  rintro e z1 ⟨rfl, hv⟩
  have hh := hh.below hv hh.lt
  have hB := hB.trans (hv.mono hB.size)
  clear hv
  refine hK.out _ _ _ (fun _ h => h) ⟨hh.c0, hh.c1, hh.c2⟩ ?_
  clear hK K
  try simp only [Act.put, List.setIfInBounds_toArray, List.set_cons_zero, List.set_cons_succ]
  refine Lex.step_take (.bool true) pc1 rfl (Lex.want_none rfl) (by intro Wx hSw; (try dsimp only at hSw); go_simp; (try (first | (with_reducible rfl) | assumption | rfl))) ?_
  simp only [Act.put, List.setIfInBounds_toArray, List.set_cons_zero, List.set_cons_succ]
  refine Lex.step_take (.int .i64 av) pc2 rfl (Lex.want_some rfl pc1 rfl (b' := true) rfl rfl) (by intro Wx hSw; (try dsimp only at hSw); go_simp; (try (first | (with_reducible rfl) | assumption | rfl))) ?_
  simp only [Act.put, List.setIfInBounds_toArray, List.set_cons_zero, List.set_cons_succ]
  refine Lex.step_take (.bool true) pc3 rfl (Lex.want_some rfl pc1 rfl (b' := true) rfl rfl) (by intro Wx hSw; (try dsimp only at hSw); go_simp; (try (first | (with_reducible rfl) | assumption | rfl))) ?_
  simp only [Act.put, List.setIfInBounds_toArray, List.set_cons_zero, List.set_cons_succ]
  refine Lex.step_take (.bool true) pc4 rfl (Lex.want_none rfl) (by intro Wx hSw; (try dsimp only at hSw); go_simp; (try (first | (with_reducible rfl) | assumption | rfl))) ?_
  simp only [Act.put, List.setIfInBounds_toArray, List.set_cons_zero, List.set_cons_succ]
  refine Lex.step_take (.bool true) pc5 rfl (Lex.want_none rfl) (by intro Wx hSw; (try dsimp only at hSw); go_simp; (try (first | (with_reducible rfl) | assumption | rfl))) ?_
  simp only [Act.put, List.setIfInBounds_toArray, List.set_cons_zero, List.set_cons_succ]
  refine Lex.step_take (.int .i64 av) pc6 rfl (Lex.want_some rfl pc5 rfl (b' := true) rfl rfl) (by intro Wx hSw; (try dsimp only at hSw); go_simp; (try (first | (with_reducible rfl) | assumption | rfl))) ?_
  simp only [Act.put, List.setIfInBounds_toArray, List.set_cons_zero, List.set_cons_succ]
  refine Lex.step_take (.int .i64 bv) pc7 rfl (Lex.want_some rfl pc5 rfl (b' := true) rfl rfl) (by intro Wx hSw; (try dsimp only at hSw); go_simp; (try (first | (with_reducible rfl) | assumption | rfl))) ?_
  simp only [Act.put, List.setIfInBounds_toArray, List.set_cons_zero, List.set_cons_succ]
  refine Lex.step_take (.bool true) pc8 rfl (Lex.want_some rfl pc5 rfl (b' := true) rfl rfl) (by intro Wx hSw; (try dsimp only at hSw); go_simp; (try (first | (with_reducible rfl) | assumption | rfl))) ?_
  simp only [Act.put, List.setIfInBounds_toArray, List.set_cons_zero, List.set_cons_succ]
  refine Lex.step_take (.bool true) pc9 rfl (Lex.want_none rfl) (by intro Wx hSw; (try dsimp only at hSw); go_simp; (try (first | (with_reducible rfl) | assumption | rfl))) ?_
  simp only [Act.put, List.setIfInBounds_toArray, List.set_cons_zero, List.set_cons_succ]
  refine Lex.step_take (.bool true) pc10 rfl (Lex.want_none rfl) (by intro Wx hSw; (try dsimp only at hSw); go_simp; (try (first | (with_reducible rfl) | assumption | rfl))) ?_
  simp only [Act.put, List.setIfInBounds_toArray, List.set_cons_zero, List.set_cons_succ]
  refine Lex.step_take (.int .i64 bv) pc11 rfl (Lex.want_some rfl pc10 rfl (b' := true) rfl rfl) (by intro Wx hSw; (try dsimp only at hSw); go_simp; (try (first | (with_reducible rfl) | assumption | rfl))) ?_
  simp only [Act.put, List.setIfInBounds_toArray, List.set_cons_zero, List.set_cons_succ]
  refine Lex.step_take (.agg #[.int .i64 (pn : Int), .int .i64 (ln : Int), .int .i64 he]) pc12 rfl (Lex.want_some rfl pc10 rfl (b' := true) rfl rfl) (by intro Wx hSw; (try dsimp only at hSw); go_simp; (try (first | (with_reducible rfl) | assumption | rfl))) ?_
  simp only [Act.put, List.setIfInBounds_toArray, List.set_cons_zero, List.set_cons_succ]
  refine Lex.step_call pc13 rfl (Lex.want_some rfl pc10 rfl (b' := true) rfl rfl) (fun K hK => ?_)
  go_simp
  refine (HC.out.2.2.1 _).mono ?_
  rintro e z2 ⟨rfl, hv⟩
  have hh := hh.below hv hh.lt
  have hB := hB.trans (hv.mono hB.size)
  clear hv
  refine hK.out _ _ _ (fun _ h => h) ⟨hh.c0, hh.c1, hh.c2⟩ ?_
  clear hK K
  try simp only [Act.put, List.setIfInBounds_toArray, List.set_cons_zero, List.set_cons_succ]
  refine Lex.step_take (.bool true) pc14 rfl (Lex.want_some rfl pc10 rfl (b' := true) rfl rfl) (by intro Wx hSw; (try dsimp only at hSw); go_simp; (try (first | (with_reducible rfl) | assumption | rfl))) ?_
  simp only [Act.put, List.setIfInBounds_toArray, List.set_cons_zero, List.set_cons_succ]
  refine Lex.step_take (.bool true) pc15 rfl (Lex.want_none rfl) (by intro Wx hSw; (try dsimp only at hSw); go_simp; (try (first | (with_reducible rfl) | assumption | rfl))) ?_
  simp only [Act.put, List.setIfInBounds_toArray, List.set_cons_zero, List.set_cons_succ]
  refine Lex.step_take (.bool true) pc16 rfl (Lex.want_none rfl) (by intro Wx hSw; (try dsimp only at hSw); go_simp; (try (first | (with_reducible rfl) | assumption | rfl))) ?_
  simp only [Act.put, List.setIfInBounds_toArray, List.set_cons_zero, List.set_cons_succ]
  refine Lex.step_take (.int .i64 av) pc17 rfl (Lex.want_some rfl pc16 rfl (b' := true) rfl rfl) (by intro Wx hSw; (try dsimp only at hSw); go_simp; (try (first | (with_reducible rfl) | assumption | rfl))) ?_
  simp only [Act.put, List.setIfInBounds_toArray, List.set_cons_zero, List.set_cons_succ]
  refine Lex.step_take (.pointer (some ⟨g1, 0, none⟩)) pc18 rfl (Lex.want_some rfl pc16 rfl (b' := true) rfl rfl) (by intro Wx hSw; (try dsimp only at hSw); go_simp; (try (first | (with_reducible rfl) | assumption | rfl))) ?_
  simp only [Act.put, List.setIfInBounds_toArray, List.set_cons_zero, List.set_cons_succ]
  refine Lex.step_take (.int .i64 (pn : Int)) pc19 rfl (Lex.want_some rfl pc16 rfl (b' := true) rfl rfl) (by intro Wx hSw; (try dsimp only at hSw); go_simp; (try (first | (with_reducible rfl) | assumption | rfl))) ?_
  simp only [Act.put, List.setIfInBounds_toArray, List.set_cons_zero, List.set_cons_succ]
  refine Lex.step_take (.int .i64 (2 + (pn : Int))) pc20 rfl (Lex.want_some rfl pc16 rfl (b' := true) rfl rfl) (by intro Wx hSw; (try dsimp only at hSw); go_simp; (try (first | (with_reducible rfl) | assumption | rfl))) ?_
  simp only [Act.put, List.setIfInBounds_toArray, List.set_cons_zero, List.set_cons_succ]
  refine Lex.step_take (.bool true) pc21 rfl (Lex.want_some rfl pc16 rfl (b' := true) rfl rfl) (by intro Wx hSw; (try dsimp only at hSw); go_simp; (try (first | (with_reducible rfl) | assumption | rfl))) ?_
  simp only [Act.put, List.setIfInBounds_toArray, List.set_cons_zero, List.set_cons_succ]
  refine Lex.step_take (.bool true) pc22 rfl (Lex.want_none rfl) (by intro Wx hSw; (try dsimp only at hSw); go_simp; (try (first | (with_reducible rfl) | assumption | rfl))) ?_
  simp only [Act.put, List.setIfInBounds_toArray, List.set_cons_zero, List.set_cons_succ]
  refine Lex.step_take (.bool true) pc23 rfl (Lex.want_none rfl) (by intro Wx hSw; (try dsimp only at hSw); go_simp; (try (first | (with_reducible rfl) | assumption | rfl))) ?_
  simp only [Act.put, List.setIfInBounds_toArray, List.set_cons_zero, List.set_cons_succ]
  refine Lex.step_take (.int .i64 bv) pc24 rfl (Lex.want_some rfl pc23 rfl (b' := true) rfl rfl) (by intro Wx hSw; (try dsimp only at hSw); go_simp; (try (first | (with_reducible rfl) | assumption | rfl))) ?_
  simp only [Act.put, List.setIfInBounds_toArray, List.set_cons_zero, List.set_cons_succ]
  refine Lex.step_take (.pointer (some ⟨g1, 0, none⟩)) pc25 rfl (Lex.want_some rfl pc23 rfl (b' := true) rfl rfl) (by intro Wx hSw; (try dsimp only at hSw); go_simp; (try (first | (with_reducible rfl) | assumption | rfl))) ?_
  simp only [Act.put, List.setIfInBounds_toArray, List.set_cons_zero, List.set_cons_succ]
  refine Lex.step_take (.int .i64 (pn : Int)) pc26 rfl (Lex.want_some rfl pc23 rfl (b' := true) rfl rfl) (by intro Wx hSw; (try dsimp only at hSw); go_simp; (try (first | (with_reducible rfl) | assumption | rfl))) ?_
  simp only [Act.put, List.setIfInBounds_toArray, List.set_cons_zero, List.set_cons_succ]
  refine Lex.step_take (.int .i64 (2 + (pn : Int))) pc27 rfl (Lex.want_some rfl pc23 rfl (b' := true) rfl rfl) (by intro Wx hSw; (try dsimp only at hSw); go_simp; (try (first | (with_reducible rfl) | assumption | rfl))) ?_
  simp only [Act.put, List.setIfInBounds_toArray, List.set_cons_zero, List.set_cons_succ]
  refine Lex.step_take (.bool true) pc28 rfl (Lex.want_some rfl pc23 rfl (b' := true) rfl rfl) (by intro Wx hSw; (try dsimp only at hSw); go_simp; (try (first | (with_reducible rfl) | assumption | rfl))) ?_
  simp only [Act.put, List.setIfInBounds_toArray, List.set_cons_zero, List.set_cons_succ]
  refine Lex.step_take (.bool true) pc29 rfl (Lex.want_none rfl) (by intro Wx hSw; (try dsimp only at hSw); go_simp; (try (first | (with_reducible rfl) | assumption | rfl))) ?_
  simp only [Act.put, List.setIfInBounds_toArray, List.set_cons_zero, List.set_cons_succ]
  refine Lex.step_take (.bool true) pc30 rfl (Lex.want_none rfl) (by intro Wx hSw; (try dsimp only at hSw); go_simp; (try (first | (with_reducible rfl) | assumption | rfl))) ?_
  simp only [Act.put, List.setIfInBounds_toArray, List.set_cons_zero, List.set_cons_succ]
  refine Lex.step_take (.pointer (some ⟨g1, 0, none⟩)) pc31 rfl (Lex.want_some rfl pc30 rfl (b' := true) rfl rfl) (by intro Wx hSw; (try dsimp only at hSw); go_simp; (try (first | (with_reducible rfl) | assumption | rfl))) ?_
  simp only [Act.put, List.setIfInBounds_toArray, List.set_cons_zero, List.set_cons_succ]
  refine Lex.step_take (.int .i64 (pn : Int)) pc32 rfl (Lex.want_some rfl pc30 rfl (b' := true) rfl rfl) (by intro Wx hSw; (try dsimp only at hSw); go_simp; (try (first | (with_reducible rfl) | assumption | rfl))) ?_
  simp only [Act.put, List.setIfInBounds_toArray, List.set_cons_zero, List.set_cons_succ]
  refine Lex.step_take (.int .i64 ((pn : Int) - 1)) pc33 rfl (Lex.want_some rfl pc30 rfl (b' := true) rfl rfl) (by intro Wx hSw; (try dsimp only at hSw); go_simp; (try (first | (with_reducible rfl) | assumption | rfl))) ?_
  simp only [Act.put, List.setIfInBounds_toArray, List.set_cons_zero, List.set_cons_succ]
  refine Lex.step_take (.agg #[.int .i64 (pn : Int), .int .i64 (ln : Int), .int .i64 he]) pc36 rfl (Lex.want_some rfl pc30 rfl (b' := true) rfl rfl) (by intro Wx hSw; (try dsimp only at hSw); go_simp; (try (first | (with_reducible rfl) | assumption | rfl))) ?_
  simp only [Act.put, List.setIfInBounds_toArray, List.set_cons_zero, List.set_cons_succ]
  refine Lex.step_call pc34 rfl (Lex.want_some rfl pc30 rfl (b' := true) rfl rfl) (fun K hK => ?_)
  go_simp
  refine (HC.out.2.2.2.1 _).mono ?_
  rintro e z3 ⟨rfl, rfl⟩
  refine hK.out _ _ _ (fun _ h => h) ⟨hh.c0, hh.c1, hh.c2⟩ ?_
  clear hK K
  try simp only [Act.put, List.setIfInBounds_toArray, List.set_cons_zero, List.set_cons_succ]
  refine Lex.step_take (.int .i64 (u1 + 1)) pc35 rfl (Lex.want_some rfl pc30 rfl (b' := true) rfl rfl) (by intro Wx hSw; (try dsimp only at hSw); go_simp; (try (first | (with_reducible rfl) | assumption | rfl))) ?_
  simp only [Act.put, List.setIfInBounds_toArray, List.set_cons_zero, List.set_cons_succ]
  refine Lex.step_call pc37 rfl (Lex.want_some rfl pc30 rfl (b' := true) rfl rfl) (fun K hK => ?_)
  go_simp
  refine (HC.out.2.2.2.2.1 _).mono ?_
  rintro e z4 ⟨rfl, hv⟩
  have hh := hh.below hv hh.lt
  have hB := hB.trans (hv.mono hB.size)
  clear hv
  refine hK.out _ _ _ (fun _ h => h) ⟨hh.c0, hh.c1, hh.c2⟩ ?_
  clear hK K
  try simp only [Act.put, List.setIfInBounds_toArray, List.set_cons_zero, List.set_cons_succ]
  refine Lex.step_take (.bool true) pc38 rfl (Lex.want_some rfl pc30 rfl (b' := true) rfl rfl) (by intro Wx hSw; (try dsimp only at hSw); go_simp; (try (first | (with_reducible rfl) | assumption | rfl))) ?_
  simp only [Act.put, List.setIfInBounds_toArray, List.set_cons_zero, List.set_cons_succ]
  refine Lex.step_take (.bool true) pc39 rfl (Lex.want_none rfl) (by intro Wx hSw; (try dsimp only at hSw); go_simp; (try (first | (with_reducible rfl) | assumption | rfl))) ?_
  simp only [Act.put, List.setIfInBounds_toArray, List.set_cons_zero, List.set_cons_succ]
  refine Lex.step_take (.bool true) pc40 rfl (Lex.want_none rfl) (by intro Wx hSw; (try dsimp only at hSw); go_simp; (try (first | (with_reducible rfl) | assumption | rfl))) ?_
  simp only [Act.put, List.setIfInBounds_toArray, List.set_cons_zero, List.set_cons_succ]
  refine Lex.step_take (.agg #[.int .i64 (pn : Int), .int .i64 (ln : Int), .int .i64 he]) pc41 rfl (Lex.want_some rfl pc40 rfl (b' := true) rfl rfl) (by intro Wx hSw; (try dsimp only at hSw); go_simp; (try (first | (with_reducible rfl) | assumption | rfl))) ?_
  simp only [Act.put, List.setIfInBounds_toArray, List.set_cons_zero, List.set_cons_succ]
  refine Lex.step_take (.pointer (some ⟨g1, 1, none⟩)) pc42 rfl (Lex.want_some rfl pc40 rfl (b' := true) rfl rfl) (by intro Wx hSw; (try dsimp only at hSw); go_simp; (try (first | (with_reducible rfl) | assumption | rfl))) ?_
  simp only [Act.put, List.setIfInBounds_toArray, List.set_cons_zero, List.set_cons_succ]
  refine Lex.step_take (.int .i64 (ln : Int)) pc43 rfl (Lex.want_some rfl pc40 rfl (b' := true) rfl rfl) (by intro Wx hSw; (try dsimp only at hSw); go_simp; (try (first | (with_reducible rfl) | assumption | rfl))) ?_
  simp only [Act.put, List.setIfInBounds_toArray, List.set_cons_zero, List.set_cons_succ]
  refine Lex.step_take (.int .i64 ((ln : Int) - 1)) pc44 rfl (Lex.want_some rfl pc40 rfl (b' := true) rfl rfl) (by intro Wx hSw; (try dsimp only at hSw); go_simp; (try (first | (with_reducible rfl) | assumption | rfl))) ?_
  simp only [Act.put, List.setIfInBounds_toArray, List.set_cons_zero, List.set_cons_succ]
  refine Lex.step_take (.agg #[.int .i64 (pn : Int), .int .i64 (ln : Int), .int .i64 he]) pc47 rfl (Lex.want_some rfl pc40 rfl (b' := true) rfl rfl) (by intro Wx hSw; (try dsimp only at hSw); go_simp; (try (first | (with_reducible rfl) | assumption | rfl))) ?_
  simp only [Act.put, List.setIfInBounds_toArray, List.set_cons_zero, List.set_cons_succ]
  refine Lex.step_call pc45 rfl (Lex.want_some rfl pc40 rfl (b' := true) rfl rfl) (fun K hK => ?_)
  go_simp
  refine (HC.out.2.2.2.2.2 _).mono ?_
  rintro e z5 ⟨rfl, hv⟩
  have hh := hh.below hv hh.lt
  have hB := hB.trans (hv.mono hB.size)
  clear hv
  refine hK.out _ _ _ (fun _ h => h) ⟨hh.c0, hh.c1, hh.c2⟩ ?_
  clear hK K
  try simp only [Act.put, List.setIfInBounds_toArray, List.set_cons_zero, List.set_cons_succ]
  refine Lex.step_take (.int .i64 (l1 + 1)) pc46 rfl (Lex.want_some rfl pc40 rfl (b' := true) rfl rfl) (by intro Wx hSw; (try dsimp only at hSw); go_simp; (try (first | (with_reducible rfl) | assumption | rfl))) ?_
  simp only [Act.put, List.setIfInBounds_toArray, List.set_cons_zero, List.set_cons_succ]
  refine Lex.step_call pc48 rfl (Lex.want_some rfl pc40 rfl (b' := true) rfl rfl) (fun K hK => ?_)
  go_simp
  refine (HC.out.2.2.1 _).mono ?_
  rintro e z6 ⟨rfl, hv⟩
  have hh := hh.below hv hh.lt
  have hB := hB.trans (hv.mono hB.size)
  clear hv
  refine hK.out _ _ _ (fun _ h => h) ⟨hh.c0, hh.c1, hh.c2⟩ ?_
  clear hK K
  try simp only [Act.put, List.setIfInBounds_toArray, List.set_cons_zero, List.set_cons_succ]
  refine Lex.step_take (.bool true) pc49 rfl (Lex.want_some rfl pc40 rfl (b' := true) rfl rfl) (by intro Wx hSw; (try dsimp only at hSw); go_simp; (try (first | (with_reducible rfl) | assumption | rfl))) ?_
  simp only [Act.put, List.setIfInBounds_toArray, List.set_cons_zero, List.set_cons_succ]
  refine Lex.step_take (.bool true) pc50 rfl (Lex.want_none rfl) (by intro Wx hSw; (try dsimp only at hSw); go_simp; (try (first | (with_reducible rfl) | assumption | rfl))) ?_
  simp only [Act.put, List.setIfInBounds_toArray, List.set_cons_zero, List.set_cons_succ]
  refine Lex.step_take (.bool true) pc51 rfl (Lex.want_none rfl) (by intro Wx hSw; (try dsimp only at hSw); go_simp; (try (first | (with_reducible rfl) | assumption | rfl))) ?_
  simp only [Act.put, List.setIfInBounds_toArray, List.set_cons_zero, List.set_cons_succ]
  refine NoPanic.normal ?_
  have HB := Lib.hid hB
  clear hB hh
  go_wp2
  go_ret
  exact ⟨rfl, HB.out⟩
end Go.Proofs.YtdbemkdfndjakaaDoor.Hd
