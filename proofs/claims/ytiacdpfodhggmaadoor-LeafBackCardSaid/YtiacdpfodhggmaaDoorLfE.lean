/- LeafApart, walked. -/
import Derived.Test.YtiacdpfodhggmaaDoorLfD
import Derived.Test.YtiacdpfodhggmaaDoorXun
namespace Go.Proofs.YtiacdpfodhggmaaDoor.Lf
open Go.RowKit Tal Lex
theorem noughts_keep {w w2 : World} (t : Nat) (hown : w2.ownsRow w.heap.size 5 1 (.slice (some ⟨w.heap.size, 0, none⟩) t t) t (madeCells (Value.int IntKind.u8 0).cells (t * 1)).toList) (hgrow : w.grownBy w2 none) :
    Below w.heap.size w w2 ∧ ∀ W, Below w2.heap.size w2 W → (convert 26 9 (.slice (some ⟨w.heap.size, 0, none⟩) t t)).run Tryd.prog W = .ok (.string (zeros t)) W := by
  refine ⟨(Below.refl _ _).grown hgrow (Nat.le_refl _) (fun k hk => by cases hk), fun W hW => ?_⟩
  have hcv := run_convert_bytes_arg (P := Tryd.prog) W 26 5 Tryd.underlying26 Tryd.underlying5 w.heap.size 0 t t (List.replicate t 0) (by simp) (fun i hi => by
    have h0 : w2.cell? ⟨w.heap.size, 0 + i, none⟩ = some (Value.int IntKind.u8 0) := by
      rw [Nat.zero_add, hown.cellAt i (by omega)]
      show (madeCells #[Value.int IntKind.u8 0] (t * 1)).toList[i]? = _
      rw [toList_madeCells_one, Nat.mul_one]
      simp [hi]
    rw [hW.cell (p := ⟨w.heap.size, 0 + i, none⟩) (World.block_lt_of_cell? _ _ h0), h0]
    simp [hi]) 9 Tryd.underlying9
  rwa [strOf_zerosF] at hcv
theorem wp_make_full {P : Program} {Q : Exit → Act → World → Prop} {K : Act → World → Prop} {o : Oper} {a : Act} (w : World) (l c : Operand) (t : TypeId) (hop : o.op = Op.makeSlice t l c)
    (base : Nat) (e : TypeId) (i : TypeInfo) (z : Value) (size : Nat) (h1 : P.underlying t = some (.slice e)) (h2 : P.info? e = some i) (h3 : i.zero = some z) (h4 : i.size = size)
    (kl kc : IntKind) (n : Nat) (hl : a.eval l = .int kl n) (hc : a.eval c = .int kc n) (b2 : i.bytes * n ≤ 281474976710656) (b3 : n ≤ maxLen) (b4 : base ≤ w.heap.size)
    (hK : ∀ w', w'.ownsRow base e size (.slice (some ⟨w.heap.size, 0, none⟩) n n) n (madeCells z.cells (n * size)).toList → w.grownBy w' none → K (a.put o.dst (.slice (some ⟨w.heap.size, 0, none⟩) n n)) w') : Oper.wp P o a w K Q := by
  obtain ⟨w', hrun, r1, r2⟩ := run_make_full (P := P) w base t e i z size h1 h2 h3 h4 kl kc n b2 b3 b4
  unfold Oper.wp
  simp [execOp, hop, hl, hc, hrun, Result.andThen]
  exact hK _ r1 r2
section
variable {w : World}
set_option maxRecDepth 10000 in
theorem apart_no (na nb : Int) (da db : ByteArray) (ht : Tab w) (h : da.size ≠ 200 ∨ db.size ≠ 200 ∨ na < 0 ∨ nb < 0 ∨ 512 ≤ na ∨ 512 ≤ nb) (hs : da.size ≤ 9223372036854775807) (hs2 : db.size ≤ 9223372036854775807) :
    Calls Tryd.prog 4 #[.agg #[.int .i64 na, .string da], .agg #[.int .i64 nb, .string db]] w fun e w' => e = .returned (.bool true) ∧ Below w.heap.size w w' := by
  have hbox := (Below.refl w.heap.size w).alloc (Nat.le_refl _) (.cells #[.int .i64 na, .string da] 29)
  have hbox := hbox.alloc hbox.size (.cells #[.int .i64 nb, .string db] 29)
  have HT := Lib.hid (ht.below hbox)
  have HH : Hid (((da.size : Int) != 200) = true ∨ (((da.size : Int) != 200) = false ∧ ((db.size : Int) != 200) = true) ∨ (((da.size : Int) != 200) = false ∧ ((db.size : Int) != 200) = false ∧ decide (na < 0) = true) ∨ (((da.size : Int) != 200) = false ∧ ((db.size : Int) != 200) = false ∧ decide (na < 0) = false ∧ decide (nb < 0) = true)
      ∨ (((da.size : Int) != 200) = false ∧ ((db.size : Int) != 200) = false ∧ decide (na < 0) = false ∧ decide (nb < 0) = false ∧ decide (512 ≤ na) = true) ∨ (((da.size : Int) != 200) = false ∧ ((db.size : Int) != 200) = false ∧ decide (na < 0) = false ∧ decide (nb < 0) = false ∧ decide (512 ≤ na) = false ∧ decide (512 ≤ nb) = true)) := by
    refine Lib.hid ?_
    simp only [bne_iff_ne, bne_eq_false_iff_eq, ne_eq, decide_eq_true_eq, decide_eq_false_iff_not]
    omega
  clear ht h
  rcases HH.out with d1 | ⟨d1, d2⟩ | ⟨d1, d2, d3⟩ | ⟨d1, d2, d3, d4⟩ | ⟨d1, d2, d3, d4, d5⟩ | ⟨d1, d2, d3, d4, d5, d6⟩
  all_goals
    go_enter Tryd.func4, Tryd.ntmps4
    go_wp2_with fail
    refine (awake_any _ HT.out).mono ?_
    rintro e w1 ⟨rfl, hb1⟩
    go_wp2
    go_ret
    exact ⟨rfl, hbox.trans (hb1.mono hbox.size)⟩
set_option maxRecDepth 20000 in
set_option maxHeartbeats 4000000 in
theorem apart_yes (na nb : Nat) (da db : ByteArray) (ht : Tab w) (hn : na < 512) (hn2 : nb < 512) (hs : da.size = 200) (hs2 : db.size = 200) :
    Calls Tryd.prog 4 #[.agg #[.int .i64 na, .string da], .agg #[.int .i64 nb, .string db]] w fun e w' => e = .returned (.bool true) ∧ Below w.heap.size w w' := by
  obtain ⟨i0, hi, hz0, hz1, hz2⟩ := info_partsF infoU8F
  have HBw := (Below.refl w.heap.size w).alloc (Nat.le_refl _) (.cells #[.int .i64 na, .string da] 29)
  have HBw := Lib.hid (HBw.alloc HBw.size (.cells #[.int .i64 nb, .string db] 29))
  have HT := Lib.hid (ht.below HBw.out)
  have HP1 : Hid (∀ W, Tab W → Calls Tryd.prog 10 #[.agg #[.int .i64 na, .string da]] W fun e w' => e = .returned (.string (leafB na da)) ∧ Below W.heap.size W w') := Lib.hid (fun W hW => print_any na da W hW hn hs)
  have HP2 : Hid (∀ W, Tab W → Calls Tryd.prog 10 #[.agg #[.int .i64 nb, .string db]] W fun e w' => e = .returned (.string (leafB nb db)) ∧ Below W.heap.size W w') := Lib.hid (fun W hW => print_any nb db W hW hn2 hs2)
  obtain ⟨z1, hz1'⟩ : ∃ z, zeros 200 = z := ⟨_, rfl⟩
  obtain ⟨z2, hz2'⟩ : ∃ z, zeros 56 = z := ⟨_, rfl⟩
  have HZ2 := Lib.hid hz2'
  have HBl : Hid (∀ W, Calls Tryd.prog 12 #[] W fun e w' => e = .returned (.string z1) ∧ Below W.heap.size W w') := Lib.hid (fun W => by rw [← hz1']; exact blank_any W)
  obtain ⟨bz, hbz⟩ : ∃ b, z1 ++ z2 = b := ⟨_, rfl⟩
  have hbzs : bz.size = 256 := by rw [← hbz, ← hz1', ← hz2', ByteArray.size_append, zeros_size, zeros_size]
  have HPa : Hid (∀ W, Tab W → Calls Tryd.prog 11 #[.string bz, .int .i64 na] W fun e w' => e = .returned (.tuple #[.string ⟨#[]⟩, .bool false]) ∧ Below W.heap.size W w') := Lib.hid (fun W hW => by
    have := parse_any bz na W hW hn (by rw [hbzs]; decide)
    rw [parse_noughts hbzs (by rw [← hbz, ← hz1', ByteArray.data_append, Array.toList_append, List.take_append_of_le_length (by simp [zeros])]; exact zeros_first 200 (by decide))] at this
    exact this)
  obtain ⟨bq, hbq⟩ : ∃ b : Bool, decide (na = nb ∧ da = db) = b := ⟨_, rfl⟩
  have hq1 : ((leafB na da).toList == (leafB nb db).toList) = bq := by
    rw [← hbq]
    by_cases h : na = nb ∧ da = db
    · obtain ⟨rfl, rfl⟩ := h; simp
    · rw [decide_eq_false h, beq_eq_false_iff_ne]
      intro e
      rw [ByteArray.toList_eq, ByteArray.toList_eq] at e
      exact h (leafB_inj hs hs2 (by omega) (by omega) (ByteArray.ext (Array.toList_inj.1 e)))
  have hq2 : ∀ Wx : World, (if (na : Int) = (nb : Int) then if da.toList = db.toList then Result.ok (Next.value (Value.bool true)) Wx else Result.ok (Next.value (Value.bool false)) Wx else Result.ok (Next.value (Value.bool false)) Wx) = Result.ok (Next.value (Value.bool bq)) Wx := fun Wx => by
    rw [← hbq]
    by_cases h1 : na = nb
    · rw [if_pos (by omega)]
      by_cases h2 : da = db
      · subst h2; rw [if_pos rfl, decide_eq_true ⟨h1, rfl⟩]
      · rw [if_neg (fun e => h2 (by rw [ByteArray.toList_eq, ByteArray.toList_eq] at e; exact ByteArray.ext (Array.toList_inj.1 e))), decide_eq_false (fun h => h2 h.2)]
    · rw [if_neg (by omega), decide_eq_false (fun h => h1 h.1)]
  have hzz : z1.size + z2.size ≤ 9223372036854775807 := by rw [← hz1', ← hz2', zeros_size, zeros_size]; decide
  have hq3 : (bq == bq) = true := beq_self_eq_true _
  generalize leafB na da = xa at HP1 hq1
  generalize leafB nb db = xb at HP2 hq1
  have d1 : ((da.size : Int) != 200) = false := by rw [hs]; rfl
  have d2 : ((db.size : Int) != 200) = false := by rw [hs2]; rfl
  have d3 : decide ((na : Int) < 0) = false := by simp
  have d4 : decide ((nb : Int) < 0) = false := by simp
  have d5 : decide (512 ≤ (na : Int)) = false := by simp; omega
  have d6 : decide (512 ≤ (nb : Int)) = false := by simp; omega
  have hS0 : (fun W : World => W.cell? ⟨w.heap.size, 0, none⟩ = some (.int .i64 na) ∧ W.cell? ⟨w.heap.size, 1, none⟩ = some (.string da) ∧ W.cell? ⟨w.heap.size + 1, 0, none⟩ = some (.int .i64 nb) ∧ W.cell? ⟨w.heap.size + 1, 1, none⟩ = some (.string db)) ((w.alloc (.cells #[.int .i64 na, .string da] 29)).alloc (.cells #[.int .i64 nb, .string db] 29)) := by
    refine ⟨?_, ?_, ?_, ?_⟩ <;> simp
  have HS0 := Lib.hid hS0
  clear hS0 ht hs hs2 hn hn2 hz1' hz2' hbq hbzs
  go_enter Tryd.func4, Tryd.ntmps4
  go_wp2_with fail
  clear d1 d2 d3 d4 d5 d6
  generalize (w.alloc (.cells #[.int .i64 na, .string da] 29)).alloc (.cells #[.int .i64 nb, .string db] 29) = w3 at HBw HT HS0 ⊢
  obtain ⟨g, hg⟩ : ∃ g, w.heap.size = g := ⟨_, rfl⟩
  rw [hg] at HS0 ⊢
  have hS : ∀ W, Below w3.heap.size w3 W → (fun W => W.cell? ⟨g, 0, none⟩ = some (.int .i64 na) ∧ W.cell? ⟨g, 1, none⟩ = some (.string da) ∧ W.cell? ⟨g + 1, 0, none⟩ = some (.int .i64 nb) ∧ W.cell? ⟨g + 1, 1, none⟩ = some (.string db)) W := fun W h => by
    obtain ⟨c0, c1, c2, c3⟩ := HS0.out
    exact ⟨(h.cell (World.block_lt_of_cell? _ _ c0)).trans c0, (h.cell (World.block_lt_of_cell? _ _ c1)).trans c1, (h.cell (World.block_lt_of_cell? _ _ c2)).trans c2, (h.cell (World.block_lt_of_cell? _ _ c3)).trans c3⟩
  clear HS0
  have hB := (Below.refl w3.heap.size w3).drew
  refine Lex.region_tree (ops := laops) latree (fun W => W.cell? ⟨g, 0, none⟩ = some (.int .i64 na) ∧ W.cell? ⟨g, 1, none⟩ = some (.string da) ∧ W.cell? ⟨g + 1, 0, none⟩ = some (.int .i64 nb) ∧ W.cell? ⟨g + 1, 1, none⟩ = some (.string db)) (by kernel_rfl) (by kernel_rfl) lasel lalex (hS _ hB) ?_
  unfold latree
  generalize w3.drew = v0 at hB ⊢
  refine Lex.tree_take (.pointer (some ⟨g, 0, none⟩)) la4 (Lex.want_none rfl) (by intro Wx hSw; (try dsimp only at hSw); go_simp; (try (first | (with_reducible rfl) | assumption | rfl))) ?_
  simp only [Act.put, List.setIfInBounds_toArray, List.set_cons_zero, List.set_cons_succ]
  refine Lex.tree_take (.int .i64 na) la5 (Lex.want_none rfl) (by intro Wx hSw; (try dsimp only at hSw); go_simp; (try (first | (with_reducible rfl) | assumption | rfl))) ?_
  simp only [Act.put, List.setIfInBounds_toArray, List.set_cons_zero, List.set_cons_succ]
  refine Lex.tree_call la0 (Lex.want_none rfl) (fun K hK => ?_) ?_
  · go_simp
    refine (HBl.out _).mono ?_
    rintro e y1 ⟨rfl, hy⟩
    have hB := hB.trans (hy.mono hB.size)
    clear hy
    refine hK.out _ _ _ (fun _ h => h) (hS _ hB) ?_
    clear hK K
    try simp only [Act.put, List.setIfInBounds_toArray, List.set_cons_zero, List.set_cons_succ]
    refine Lex.tree_call la1 (Lex.want_none rfl) (fun K hK => ?_) Lex.tree_no
    refine wp_make_full y1 _ _ 26 rfl y1.heap.size 5 i0 (.int .u8 0) 1 Tryd.underlying26 hi hz0 hz1 .i64 .i64 56 rfl rfl (by rw [hz2]; decide) (by unfold maxLen; decide) (Nat.le_refl _) (fun y2 hown hgrow => ?_)
    obtain ⟨hy, hcvm⟩ := noughts_keep 56 hown hgrow
    rw [HZ2.out] at hcvm
    have hB := hB.trans (hy.mono hB.size)
    have hM := Below.refl y2.heap.size y2
    clear hy hown hgrow
    refine hK.out _ _ _ (fun _ h => h) (hS _ hB) ?_
    clear hK K
    try simp only [Act.put, List.setIfInBounds_toArray, List.set_cons_zero, List.set_cons_succ]
    refine Lex.tree_call la2 (Lex.want_none rfl) (fun K hK => ?_) Lex.tree_no
    have hcv := hcvm _ hM
    go_simp
    clear hcv hcvm hM
    refine hK.out _ _ _ (fun _ h => h) (hS _ hB) ?_
    clear hK K
    try simp only [Act.put, List.setIfInBounds_toArray, List.set_cons_zero, List.set_cons_succ]
    refine Lex.tree_take (.string bz) la3 (Lex.want_none rfl) (by intro Wx hSw; (try dsimp only at hSw); go_simp; (try (first | (with_reducible rfl) | assumption | rfl))) ?_
    simp only [Act.put, List.setIfInBounds_toArray, List.set_cons_zero, List.set_cons_succ]
    refine Lex.tree_call la6 (Lex.want_none rfl) (fun K hK => ?_) Lex.tree_no
    go_simp
    refine (HPa.out _ (HT.out.below hB)).mono ?_
    rintro e y3 ⟨rfl, hy⟩
    have hB := hB.trans (hy.mono hB.size)
    clear hy
    refine hK.out _ _ _ (fun _ h => h) (hS _ hB) ?_
    clear hK K
    try simp only [Act.put, List.setIfInBounds_toArray, List.set_cons_zero, List.set_cons_succ]
    refine Lex.tree_take (.tuple #[.string ⟨#[]⟩, .bool false]) la7 (Lex.want_none rfl) (by intro Wx hSw; (try dsimp only at hSw); go_simp; (try (first | (with_reducible rfl) | assumption | rfl))) ?_
    simp only [Act.put, List.setIfInBounds_toArray, List.set_cons_zero, List.set_cons_succ]
    refine Lex.tree_take (.string ⟨#[]⟩) la8 (Lex.want_none rfl) (by intro Wx hSw; (try dsimp only at hSw); go_simp; (try (first | (with_reducible rfl) | assumption | rfl))) ?_
    simp only [Act.put, List.setIfInBounds_toArray, List.set_cons_zero, List.set_cons_succ]
    refine Lex.tree_take (.bool false) la9 (Lex.want_none rfl) (by intro Wx hSw; (try dsimp only at hSw); go_simp; (try (first | (with_reducible rfl) | assumption | rfl))) ?_
    simp only [Act.put, List.setIfInBounds_toArray, List.set_cons_zero, List.set_cons_succ]
    refine Lex.tree_take (.string ⟨#[]⟩) la10 (Lex.want_none rfl) (by intro Wx hSw; (try dsimp only at hSw); go_simp; (try (first | (with_reducible rfl) | assumption | rfl))) ?_
    simp only [Act.put, List.setIfInBounds_toArray, List.set_cons_zero, List.set_cons_succ]
    refine Lex.tree_take (.bool false) la11 (Lex.want_none rfl) (by intro Wx hSw; (try dsimp only at hSw); go_simp; (try (first | (with_reducible rfl) | assumption | rfl))) ?_
    simp only [Act.put, List.setIfInBounds_toArray, List.set_cons_zero, List.set_cons_succ]
    refine Lex.tree_end ?_
    refine NoPanic.normal ?_
    go_wp2_with fail
    have hB := hB.drew
    refine Lex.region_tree (ops := lbops) lbtree (fun W => W.cell? ⟨g, 0, none⟩ = some (.int .i64 na) ∧ W.cell? ⟨g, 1, none⟩ = some (.string da) ∧ W.cell? ⟨g + 1, 0, none⟩ = some (.int .i64 nb) ∧ W.cell? ⟨g + 1, 1, none⟩ = some (.string db)) (by kernel_rfl) (by kernel_rfl) lbsel lblex (hS _ hB) ?_
    unfold lbtree
    generalize y3.drew = v3 at hB ⊢
    refine Lex.tree_call lb0 (Lex.want_none rfl) (fun K hK => ?_) Lex.tree_no
    go_simp
    refine (awake_any _ (HT.out.below hB)).mono ?_
    rintro e y4 ⟨rfl, hy⟩
    have hB := hB.trans (hy.mono hB.size)
    clear hy
    refine hK.out _ _ _ (fun _ h => h) (hS _ hB) ?_
    clear hK K
    try simp only [Act.put, List.setIfInBounds_toArray, List.set_cons_zero, List.set_cons_succ]
    refine Lex.tree_take (.bool true) lb1 (Lex.want_none rfl) (by intro Wx hSw; (try dsimp only at hSw); go_simp; (try (first | (with_reducible rfl) | assumption | rfl))) ?_
    simp only [Act.put, List.setIfInBounds_toArray, List.set_cons_zero, List.set_cons_succ]
    refine Lex.tree_take (.agg #[.int .i64 na, .string da]) lb2 (Lex.want_some rfl lb1 rfl (b' := true) rfl rfl) (by intro Wx hSw; (try dsimp only at hSw); go_simp; (try (first | (with_reducible rfl) | assumption | rfl))) ?_
    simp only [Act.put, List.setIfInBounds_toArray, List.set_cons_zero, List.set_cons_succ]
    refine Lex.tree_take (.agg #[.int .i64 nb, .string db]) lb4 (Lex.want_some rfl lb1 rfl (b' := true) rfl rfl) (by intro Wx hSw; (try dsimp only at hSw); go_simp; (try (first | (with_reducible rfl) | assumption | rfl))) ?_
    simp only [Act.put, List.setIfInBounds_toArray, List.set_cons_zero, List.set_cons_succ]
    refine Lex.tree_take (.agg #[.int .i64 na, .string da]) lb7 (Lex.want_some rfl lb1 rfl (b' := true) rfl rfl) (by intro Wx hSw; (try dsimp only at hSw); go_simp; (try (first | (with_reducible rfl) | assumption | rfl))) ?_
    simp only [Act.put, List.setIfInBounds_toArray, List.set_cons_zero, List.set_cons_succ]
    refine Lex.tree_take (.agg #[.int .i64 nb, .string db]) lb8 (Lex.want_some rfl lb1 rfl (b' := true) rfl rfl) (by intro Wx hSw; (try dsimp only at hSw); go_simp; (try (first | (with_reducible rfl) | assumption | rfl))) ?_
    simp only [Act.put, List.setIfInBounds_toArray, List.set_cons_zero, List.set_cons_succ]
    refine Lex.tree_take (.bool bq) lb9 (Lex.want_some rfl lb1 rfl (b' := true) rfl rfl) (by intro Wx hSw; (try dsimp only at hSw); go_simp; (try exact hq2 _)) ?_
    simp only [Act.put, List.setIfInBounds_toArray, List.set_cons_zero, List.set_cons_succ]
    refine Lex.tree_call lb3 (Lex.want_some rfl lb1 rfl (b' := true) rfl rfl) (fun K hK => ?_) Lex.tree_no
    go_simp
    refine (HP1.out _ (HT.out.below hB)).mono ?_
    rintro e y5 ⟨rfl, hy⟩
    have hB := hB.trans (hy.mono hB.size)
    clear hy
    refine hK.out _ _ _ (fun _ h => h) (hS _ hB) ?_
    clear hK K
    try simp only [Act.put, List.setIfInBounds_toArray, List.set_cons_zero, List.set_cons_succ]
    refine Lex.tree_call lb5 (Lex.want_some rfl lb1 rfl (b' := true) rfl rfl) (fun K hK => ?_) Lex.tree_no
    go_simp
    refine (HP2.out _ (HT.out.below hB)).mono ?_
    rintro e y6 ⟨rfl, hy⟩
    have hB := hB.trans (hy.mono hB.size)
    clear hy
    refine hK.out _ _ _ (fun _ h => h) (hS _ hB) ?_
    clear hK K
    try simp only [Act.put, List.setIfInBounds_toArray, List.set_cons_zero, List.set_cons_succ]
    refine Lex.tree_take (.bool bq) lb6 (Lex.want_some rfl lb1 rfl (b' := true) rfl rfl) (by intro Wx hSw; (try dsimp only at hSw); go_simp; (try (first | (with_reducible rfl) | assumption | rfl))) ?_
    simp only [Act.put, List.setIfInBounds_toArray, List.set_cons_zero, List.set_cons_succ]
    refine Lex.tree_take (.bool true) lb10 (Lex.want_some rfl lb1 rfl (b' := true) rfl rfl) (by intro Wx hSw; (try dsimp only at hSw); go_simp; (try (first | (with_reducible rfl) | assumption | rfl))) ?_
    simp only [Act.put, List.setIfInBounds_toArray, List.set_cons_zero, List.set_cons_succ]
    refine Lex.tree_take (.bool true) lb11 (Lex.want_none rfl) (by intro Wx hSw; (try dsimp only at hSw); go_simp; (try (first | (with_reducible rfl) | assumption | rfl))) ?_
    simp only [Act.put, List.setIfInBounds_toArray, List.set_cons_zero, List.set_cons_succ]
    refine Lex.tree_take (.bool true) lb12 (Lex.want_none rfl) (by intro Wx hSw; (try dsimp only at hSw); go_simp; (try (first | (with_reducible rfl) | assumption | rfl))) ?_
    simp only [Act.put, List.setIfInBounds_toArray, List.set_cons_zero, List.set_cons_succ]
    refine Lex.tree_take (.bool false) lb13 (Lex.want_some rfl lb12 rfl (b' := true) rfl rfl) (by intro Wx hSw; (try dsimp only at hSw); go_simp; (try (first | (with_reducible rfl) | assumption | rfl))) ?_
    simp only [Act.put, List.setIfInBounds_toArray, List.set_cons_zero, List.set_cons_succ]
    refine Lex.tree_take (.bool true) lb14 (Lex.want_some rfl lb12 rfl (b' := true) rfl rfl) (by intro Wx hSw; (try dsimp only at hSw); go_simp; (try (first | (with_reducible rfl) | assumption | rfl))) ?_
    simp only [Act.put, List.setIfInBounds_toArray, List.set_cons_zero, List.set_cons_succ]
    refine Lex.tree_take (.bool true) lb15 (Lex.want_none rfl) (by intro Wx hSw; (try dsimp only at hSw); go_simp; (try (first | (with_reducible rfl) | assumption | rfl))) ?_
    simp only [Act.put, List.setIfInBounds_toArray, List.set_cons_zero, List.set_cons_succ]
    refine Lex.tree_take (.bool true) lb16 (Lex.want_none rfl) (by intro Wx hSw; (try dsimp only at hSw); go_simp; (try (first | (with_reducible rfl) | assumption | rfl))) ?_
    simp only [Act.put, List.setIfInBounds_toArray, List.set_cons_zero, List.set_cons_succ]
    refine Lex.tree_end ?_
    refine NoPanic.normal ?_
    go_wp2
    go_ret
    exact ⟨rfl, HBw.out.trans (hB.mono HBw.out.size)⟩
  refine Lex.tree_call la1 (Lex.want_none rfl) (fun K hK => ?_) Lex.tree_no
  refine wp_make_full v0 _ _ 26 rfl v0.heap.size 5 i0 (.int .u8 0) 1 Tryd.underlying26 hi hz0 hz1 .i64 .i64 56 rfl rfl (by rw [hz2]; decide) (by unfold maxLen; decide) (Nat.le_refl _) (fun y1 hown hgrow => ?_)
  obtain ⟨hy, hcvm⟩ := noughts_keep 56 hown hgrow
  rw [HZ2.out] at hcvm
  have hB := hB.trans (hy.mono hB.size)
  have hM := Below.refl y1.heap.size y1
  clear hy hown hgrow
  refine hK.out _ _ _ (fun _ h => h) (hS _ hB) ?_
  clear hK K
  try simp only [Act.put, List.setIfInBounds_toArray, List.set_cons_zero, List.set_cons_succ]
  refine Lex.tree_call la0 (Lex.want_none rfl) (fun K hK => ?_) ?_
  · go_simp
    refine (HBl.out _).mono ?_
    rintro e y2 ⟨rfl, hy⟩
    have hB := hB.trans (hy.mono hB.size)
    have hM := hM.trans (hy.mono hM.size)
    clear hy
    refine hK.out _ _ _ (fun _ h => h) (hS _ hB) ?_
    clear hK K
    try simp only [Act.put, List.setIfInBounds_toArray, List.set_cons_zero, List.set_cons_succ]
    refine Lex.tree_call la2 (Lex.want_none rfl) (fun K hK => ?_) Lex.tree_no
    have hcv := hcvm _ hM
    go_simp
    clear hcv hcvm hM
    refine hK.out _ _ _ (fun _ h => h) (hS _ hB) ?_
    clear hK K
    try simp only [Act.put, List.setIfInBounds_toArray, List.set_cons_zero, List.set_cons_succ]
    refine Lex.tree_take (.string bz) la3 (Lex.want_none rfl) (by intro Wx hSw; (try dsimp only at hSw); go_simp; (try (first | (with_reducible rfl) | assumption | rfl))) ?_
    simp only [Act.put, List.setIfInBounds_toArray, List.set_cons_zero, List.set_cons_succ]
    refine Lex.tree_call la6 (Lex.want_none rfl) (fun K hK => ?_) Lex.tree_no
    go_simp
    refine (HPa.out _ (HT.out.below hB)).mono ?_
    rintro e y3 ⟨rfl, hy⟩
    have hB := hB.trans (hy.mono hB.size)
    clear hy
    refine hK.out _ _ _ (fun _ h => h) (hS _ hB) ?_
    clear hK K
    try simp only [Act.put, List.setIfInBounds_toArray, List.set_cons_zero, List.set_cons_succ]
    refine Lex.tree_take (.tuple #[.string ⟨#[]⟩, .bool false]) la7 (Lex.want_none rfl) (by intro Wx hSw; (try dsimp only at hSw); go_simp; (try (first | (with_reducible rfl) | assumption | rfl))) ?_
    simp only [Act.put, List.setIfInBounds_toArray, List.set_cons_zero, List.set_cons_succ]
    refine Lex.tree_take (.string ⟨#[]⟩) la8 (Lex.want_none rfl) (by intro Wx hSw; (try dsimp only at hSw); go_simp; (try (first | (with_reducible rfl) | assumption | rfl))) ?_
    simp only [Act.put, List.setIfInBounds_toArray, List.set_cons_zero, List.set_cons_succ]
    refine Lex.tree_take (.bool false) la9 (Lex.want_none rfl) (by intro Wx hSw; (try dsimp only at hSw); go_simp; (try (first | (with_reducible rfl) | assumption | rfl))) ?_
    simp only [Act.put, List.setIfInBounds_toArray, List.set_cons_zero, List.set_cons_succ]
    refine Lex.tree_take (.string ⟨#[]⟩) la10 (Lex.want_none rfl) (by intro Wx hSw; (try dsimp only at hSw); go_simp; (try (first | (with_reducible rfl) | assumption | rfl))) ?_
    simp only [Act.put, List.setIfInBounds_toArray, List.set_cons_zero, List.set_cons_succ]
    refine Lex.tree_take (.bool false) la11 (Lex.want_none rfl) (by intro Wx hSw; (try dsimp only at hSw); go_simp; (try (first | (with_reducible rfl) | assumption | rfl))) ?_
    simp only [Act.put, List.setIfInBounds_toArray, List.set_cons_zero, List.set_cons_succ]
    refine Lex.tree_end ?_
    refine NoPanic.normal ?_
    go_wp2_with fail
    have hB := hB.drew
    refine Lex.region_tree (ops := lbops) lbtree (fun W => W.cell? ⟨g, 0, none⟩ = some (.int .i64 na) ∧ W.cell? ⟨g, 1, none⟩ = some (.string da) ∧ W.cell? ⟨g + 1, 0, none⟩ = some (.int .i64 nb) ∧ W.cell? ⟨g + 1, 1, none⟩ = some (.string db)) (by kernel_rfl) (by kernel_rfl) lbsel lblex (hS _ hB) ?_
    unfold lbtree
    generalize y3.drew = v3 at hB ⊢
    refine Lex.tree_call lb0 (Lex.want_none rfl) (fun K hK => ?_) Lex.tree_no
    go_simp
    refine (awake_any _ (HT.out.below hB)).mono ?_
    rintro e y4 ⟨rfl, hy⟩
    have hB := hB.trans (hy.mono hB.size)
    clear hy
    refine hK.out _ _ _ (fun _ h => h) (hS _ hB) ?_
    clear hK K
    try simp only [Act.put, List.setIfInBounds_toArray, List.set_cons_zero, List.set_cons_succ]
    refine Lex.tree_take (.bool true) lb1 (Lex.want_none rfl) (by intro Wx hSw; (try dsimp only at hSw); go_simp; (try (first | (with_reducible rfl) | assumption | rfl))) ?_
    simp only [Act.put, List.setIfInBounds_toArray, List.set_cons_zero, List.set_cons_succ]
    refine Lex.tree_take (.agg #[.int .i64 na, .string da]) lb2 (Lex.want_some rfl lb1 rfl (b' := true) rfl rfl) (by intro Wx hSw; (try dsimp only at hSw); go_simp; (try (first | (with_reducible rfl) | assumption | rfl))) ?_
    simp only [Act.put, List.setIfInBounds_toArray, List.set_cons_zero, List.set_cons_succ]
    refine Lex.tree_take (.agg #[.int .i64 nb, .string db]) lb4 (Lex.want_some rfl lb1 rfl (b' := true) rfl rfl) (by intro Wx hSw; (try dsimp only at hSw); go_simp; (try (first | (with_reducible rfl) | assumption | rfl))) ?_
    simp only [Act.put, List.setIfInBounds_toArray, List.set_cons_zero, List.set_cons_succ]
    refine Lex.tree_take (.agg #[.int .i64 na, .string da]) lb7 (Lex.want_some rfl lb1 rfl (b' := true) rfl rfl) (by intro Wx hSw; (try dsimp only at hSw); go_simp; (try (first | (with_reducible rfl) | assumption | rfl))) ?_
    simp only [Act.put, List.setIfInBounds_toArray, List.set_cons_zero, List.set_cons_succ]
    refine Lex.tree_take (.agg #[.int .i64 nb, .string db]) lb8 (Lex.want_some rfl lb1 rfl (b' := true) rfl rfl) (by intro Wx hSw; (try dsimp only at hSw); go_simp; (try (first | (with_reducible rfl) | assumption | rfl))) ?_
    simp only [Act.put, List.setIfInBounds_toArray, List.set_cons_zero, List.set_cons_succ]
    refine Lex.tree_take (.bool bq) lb9 (Lex.want_some rfl lb1 rfl (b' := true) rfl rfl) (by intro Wx hSw; (try dsimp only at hSw); go_simp; (try exact hq2 _)) ?_
    simp only [Act.put, List.setIfInBounds_toArray, List.set_cons_zero, List.set_cons_succ]
    refine Lex.tree_call lb3 (Lex.want_some rfl lb1 rfl (b' := true) rfl rfl) (fun K hK => ?_) Lex.tree_no
    go_simp
    refine (HP1.out _ (HT.out.below hB)).mono ?_
    rintro e y5 ⟨rfl, hy⟩
    have hB := hB.trans (hy.mono hB.size)
    clear hy
    refine hK.out _ _ _ (fun _ h => h) (hS _ hB) ?_
    clear hK K
    try simp only [Act.put, List.setIfInBounds_toArray, List.set_cons_zero, List.set_cons_succ]
    refine Lex.tree_call lb5 (Lex.want_some rfl lb1 rfl (b' := true) rfl rfl) (fun K hK => ?_) Lex.tree_no
    go_simp
    refine (HP2.out _ (HT.out.below hB)).mono ?_
    rintro e y6 ⟨rfl, hy⟩
    have hB := hB.trans (hy.mono hB.size)
    clear hy
    refine hK.out _ _ _ (fun _ h => h) (hS _ hB) ?_
    clear hK K
    try simp only [Act.put, List.setIfInBounds_toArray, List.set_cons_zero, List.set_cons_succ]
    refine Lex.tree_take (.bool bq) lb6 (Lex.want_some rfl lb1 rfl (b' := true) rfl rfl) (by intro Wx hSw; (try dsimp only at hSw); go_simp; (try (first | (with_reducible rfl) | assumption | rfl))) ?_
    simp only [Act.put, List.setIfInBounds_toArray, List.set_cons_zero, List.set_cons_succ]
    refine Lex.tree_take (.bool true) lb10 (Lex.want_some rfl lb1 rfl (b' := true) rfl rfl) (by intro Wx hSw; (try dsimp only at hSw); go_simp; (try (first | (with_reducible rfl) | assumption | rfl))) ?_
    simp only [Act.put, List.setIfInBounds_toArray, List.set_cons_zero, List.set_cons_succ]
    refine Lex.tree_take (.bool true) lb11 (Lex.want_none rfl) (by intro Wx hSw; (try dsimp only at hSw); go_simp; (try (first | (with_reducible rfl) | assumption | rfl))) ?_
    simp only [Act.put, List.setIfInBounds_toArray, List.set_cons_zero, List.set_cons_succ]
    refine Lex.tree_take (.bool true) lb12 (Lex.want_none rfl) (by intro Wx hSw; (try dsimp only at hSw); go_simp; (try (first | (with_reducible rfl) | assumption | rfl))) ?_
    simp only [Act.put, List.setIfInBounds_toArray, List.set_cons_zero, List.set_cons_succ]
    refine Lex.tree_take (.bool false) lb13 (Lex.want_some rfl lb12 rfl (b' := true) rfl rfl) (by intro Wx hSw; (try dsimp only at hSw); go_simp; (try (first | (with_reducible rfl) | assumption | rfl))) ?_
    simp only [Act.put, List.setIfInBounds_toArray, List.set_cons_zero, List.set_cons_succ]
    refine Lex.tree_take (.bool true) lb14 (Lex.want_some rfl lb12 rfl (b' := true) rfl rfl) (by intro Wx hSw; (try dsimp only at hSw); go_simp; (try (first | (with_reducible rfl) | assumption | rfl))) ?_
    simp only [Act.put, List.setIfInBounds_toArray, List.set_cons_zero, List.set_cons_succ]
    refine Lex.tree_take (.bool true) lb15 (Lex.want_none rfl) (by intro Wx hSw; (try dsimp only at hSw); go_simp; (try (first | (with_reducible rfl) | assumption | rfl))) ?_
    simp only [Act.put, List.setIfInBounds_toArray, List.set_cons_zero, List.set_cons_succ]
    refine Lex.tree_take (.bool true) lb16 (Lex.want_none rfl) (by intro Wx hSw; (try dsimp only at hSw); go_simp; (try (first | (with_reducible rfl) | assumption | rfl))) ?_
    simp only [Act.put, List.setIfInBounds_toArray, List.set_cons_zero, List.set_cons_succ]
    refine Lex.tree_end ?_
    refine NoPanic.normal ?_
    go_wp2
    go_ret
    exact ⟨rfl, HBw.out.trans (hB.mono HBw.out.size)⟩
  refine Lex.tree_call la2 (Lex.want_none rfl) (fun K hK => ?_) Lex.tree_no
  have hcv := hcvm _ hM
  go_simp
  clear hcv hcvm hM
  refine hK.out _ _ _ (fun _ h => h) (hS _ hB) ?_
  clear hK K
  try simp only [Act.put, List.setIfInBounds_toArray, List.set_cons_zero, List.set_cons_succ]
  refine Lex.tree_call la0 (Lex.want_none rfl) (fun K hK => ?_) Lex.tree_no
  go_simp
  refine (HBl.out _).mono ?_
  rintro e y2 ⟨rfl, hy⟩
  have hB := hB.trans (hy.mono hB.size)
  clear hy
  refine hK.out _ _ _ (fun _ h => h) (hS _ hB) ?_
  clear hK K
  try simp only [Act.put, List.setIfInBounds_toArray, List.set_cons_zero, List.set_cons_succ]
  refine Lex.tree_take (.string bz) la3 (Lex.want_none rfl) (by intro Wx hSw; (try dsimp only at hSw); go_simp; (try (first | (with_reducible rfl) | assumption | rfl))) ?_
  simp only [Act.put, List.setIfInBounds_toArray, List.set_cons_zero, List.set_cons_succ]
  refine Lex.tree_call la6 (Lex.want_none rfl) (fun K hK => ?_) Lex.tree_no
  go_simp
  refine (HPa.out _ (HT.out.below hB)).mono ?_
  rintro e y3 ⟨rfl, hy⟩
  have hB := hB.trans (hy.mono hB.size)
  clear hy
  refine hK.out _ _ _ (fun _ h => h) (hS _ hB) ?_
  clear hK K
  try simp only [Act.put, List.setIfInBounds_toArray, List.set_cons_zero, List.set_cons_succ]
  refine Lex.tree_take (.tuple #[.string ⟨#[]⟩, .bool false]) la7 (Lex.want_none rfl) (by intro Wx hSw; (try dsimp only at hSw); go_simp; (try (first | (with_reducible rfl) | assumption | rfl))) ?_
  simp only [Act.put, List.setIfInBounds_toArray, List.set_cons_zero, List.set_cons_succ]
  refine Lex.tree_take (.string ⟨#[]⟩) la8 (Lex.want_none rfl) (by intro Wx hSw; (try dsimp only at hSw); go_simp; (try (first | (with_reducible rfl) | assumption | rfl))) ?_
  simp only [Act.put, List.setIfInBounds_toArray, List.set_cons_zero, List.set_cons_succ]
  refine Lex.tree_take (.bool false) la9 (Lex.want_none rfl) (by intro Wx hSw; (try dsimp only at hSw); go_simp; (try (first | (with_reducible rfl) | assumption | rfl))) ?_
  simp only [Act.put, List.setIfInBounds_toArray, List.set_cons_zero, List.set_cons_succ]
  refine Lex.tree_take (.string ⟨#[]⟩) la10 (Lex.want_none rfl) (by intro Wx hSw; (try dsimp only at hSw); go_simp; (try (first | (with_reducible rfl) | assumption | rfl))) ?_
  simp only [Act.put, List.setIfInBounds_toArray, List.set_cons_zero, List.set_cons_succ]
  refine Lex.tree_take (.bool false) la11 (Lex.want_none rfl) (by intro Wx hSw; (try dsimp only at hSw); go_simp; (try (first | (with_reducible rfl) | assumption | rfl))) ?_
  simp only [Act.put, List.setIfInBounds_toArray, List.set_cons_zero, List.set_cons_succ]
  refine Lex.tree_end ?_
  refine NoPanic.normal ?_
  go_wp2_with fail
  have hB := hB.drew
  refine Lex.region_tree (ops := lbops) lbtree (fun W => W.cell? ⟨g, 0, none⟩ = some (.int .i64 na) ∧ W.cell? ⟨g, 1, none⟩ = some (.string da) ∧ W.cell? ⟨g + 1, 0, none⟩ = some (.int .i64 nb) ∧ W.cell? ⟨g + 1, 1, none⟩ = some (.string db)) (by kernel_rfl) (by kernel_rfl) lbsel lblex (hS _ hB) ?_
  unfold lbtree
  generalize y3.drew = v3 at hB ⊢
  refine Lex.tree_call lb0 (Lex.want_none rfl) (fun K hK => ?_) Lex.tree_no
  go_simp
  refine (awake_any _ (HT.out.below hB)).mono ?_
  rintro e y4 ⟨rfl, hy⟩
  have hB := hB.trans (hy.mono hB.size)
  clear hy
  refine hK.out _ _ _ (fun _ h => h) (hS _ hB) ?_
  clear hK K
  try simp only [Act.put, List.setIfInBounds_toArray, List.set_cons_zero, List.set_cons_succ]
  refine Lex.tree_take (.bool true) lb1 (Lex.want_none rfl) (by intro Wx hSw; (try dsimp only at hSw); go_simp; (try (first | (with_reducible rfl) | assumption | rfl))) ?_
  simp only [Act.put, List.setIfInBounds_toArray, List.set_cons_zero, List.set_cons_succ]
  refine Lex.tree_take (.agg #[.int .i64 na, .string da]) lb2 (Lex.want_some rfl lb1 rfl (b' := true) rfl rfl) (by intro Wx hSw; (try dsimp only at hSw); go_simp; (try (first | (with_reducible rfl) | assumption | rfl))) ?_
  simp only [Act.put, List.setIfInBounds_toArray, List.set_cons_zero, List.set_cons_succ]
  refine Lex.tree_take (.agg #[.int .i64 nb, .string db]) lb4 (Lex.want_some rfl lb1 rfl (b' := true) rfl rfl) (by intro Wx hSw; (try dsimp only at hSw); go_simp; (try (first | (with_reducible rfl) | assumption | rfl))) ?_
  simp only [Act.put, List.setIfInBounds_toArray, List.set_cons_zero, List.set_cons_succ]
  refine Lex.tree_take (.agg #[.int .i64 na, .string da]) lb7 (Lex.want_some rfl lb1 rfl (b' := true) rfl rfl) (by intro Wx hSw; (try dsimp only at hSw); go_simp; (try (first | (with_reducible rfl) | assumption | rfl))) ?_
  simp only [Act.put, List.setIfInBounds_toArray, List.set_cons_zero, List.set_cons_succ]
  refine Lex.tree_take (.agg #[.int .i64 nb, .string db]) lb8 (Lex.want_some rfl lb1 rfl (b' := true) rfl rfl) (by intro Wx hSw; (try dsimp only at hSw); go_simp; (try (first | (with_reducible rfl) | assumption | rfl))) ?_
  simp only [Act.put, List.setIfInBounds_toArray, List.set_cons_zero, List.set_cons_succ]
  refine Lex.tree_take (.bool bq) lb9 (Lex.want_some rfl lb1 rfl (b' := true) rfl rfl) (by intro Wx hSw; (try dsimp only at hSw); go_simp; (try exact hq2 _)) ?_
  simp only [Act.put, List.setIfInBounds_toArray, List.set_cons_zero, List.set_cons_succ]
  refine Lex.tree_call lb3 (Lex.want_some rfl lb1 rfl (b' := true) rfl rfl) (fun K hK => ?_) Lex.tree_no
  go_simp
  refine (HP1.out _ (HT.out.below hB)).mono ?_
  rintro e y5 ⟨rfl, hy⟩
  have hB := hB.trans (hy.mono hB.size)
  clear hy
  refine hK.out _ _ _ (fun _ h => h) (hS _ hB) ?_
  clear hK K
  try simp only [Act.put, List.setIfInBounds_toArray, List.set_cons_zero, List.set_cons_succ]
  refine Lex.tree_call lb5 (Lex.want_some rfl lb1 rfl (b' := true) rfl rfl) (fun K hK => ?_) Lex.tree_no
  go_simp
  refine (HP2.out _ (HT.out.below hB)).mono ?_
  rintro e y6 ⟨rfl, hy⟩
  have hB := hB.trans (hy.mono hB.size)
  clear hy
  refine hK.out _ _ _ (fun _ h => h) (hS _ hB) ?_
  clear hK K
  try simp only [Act.put, List.setIfInBounds_toArray, List.set_cons_zero, List.set_cons_succ]
  refine Lex.tree_take (.bool bq) lb6 (Lex.want_some rfl lb1 rfl (b' := true) rfl rfl) (by intro Wx hSw; (try dsimp only at hSw); go_simp; (try (first | (with_reducible rfl) | assumption | rfl))) ?_
  simp only [Act.put, List.setIfInBounds_toArray, List.set_cons_zero, List.set_cons_succ]
  refine Lex.tree_take (.bool true) lb10 (Lex.want_some rfl lb1 rfl (b' := true) rfl rfl) (by intro Wx hSw; (try dsimp only at hSw); go_simp; (try (first | (with_reducible rfl) | assumption | rfl))) ?_
  simp only [Act.put, List.setIfInBounds_toArray, List.set_cons_zero, List.set_cons_succ]
  refine Lex.tree_take (.bool true) lb11 (Lex.want_none rfl) (by intro Wx hSw; (try dsimp only at hSw); go_simp; (try (first | (with_reducible rfl) | assumption | rfl))) ?_
  simp only [Act.put, List.setIfInBounds_toArray, List.set_cons_zero, List.set_cons_succ]
  refine Lex.tree_take (.bool true) lb12 (Lex.want_none rfl) (by intro Wx hSw; (try dsimp only at hSw); go_simp; (try (first | (with_reducible rfl) | assumption | rfl))) ?_
  simp only [Act.put, List.setIfInBounds_toArray, List.set_cons_zero, List.set_cons_succ]
  refine Lex.tree_take (.bool false) lb13 (Lex.want_some rfl lb12 rfl (b' := true) rfl rfl) (by intro Wx hSw; (try dsimp only at hSw); go_simp; (try (first | (with_reducible rfl) | assumption | rfl))) ?_
  simp only [Act.put, List.setIfInBounds_toArray, List.set_cons_zero, List.set_cons_succ]
  refine Lex.tree_take (.bool true) lb14 (Lex.want_some rfl lb12 rfl (b' := true) rfl rfl) (by intro Wx hSw; (try dsimp only at hSw); go_simp; (try (first | (with_reducible rfl) | assumption | rfl))) ?_
  simp only [Act.put, List.setIfInBounds_toArray, List.set_cons_zero, List.set_cons_succ]
  refine Lex.tree_take (.bool true) lb15 (Lex.want_none rfl) (by intro Wx hSw; (try dsimp only at hSw); go_simp; (try (first | (with_reducible rfl) | assumption | rfl))) ?_
  simp only [Act.put, List.setIfInBounds_toArray, List.set_cons_zero, List.set_cons_succ]
  refine Lex.tree_take (.bool true) lb16 (Lex.want_none rfl) (by intro Wx hSw; (try dsimp only at hSw); go_simp; (try (first | (with_reducible rfl) | assumption | rfl))) ?_
  simp only [Act.put, List.setIfInBounds_toArray, List.set_cons_zero, List.set_cons_succ]
  refine Lex.tree_end ?_
  refine NoPanic.normal ?_
  go_wp2
  go_ret
  exact ⟨rfl, HBw.out.trans (hB.mono HBw.out.size)⟩
theorem apart_any (na nb : Int) (da db : ByteArray) (ht : Tab w) (hs : da.size ≤ 9223372036854775807) (hs2 : db.size ≤ 9223372036854775807) :
    Calls Tryd.prog 4 #[.agg #[.int .i64 na, .string da], .agg #[.int .i64 nb, .string db]] w fun e w' => e = .returned (.bool true) ∧ Below w.heap.size w w' := by
  by_cases h : da.size ≠ 200 ∨ db.size ≠ 200 ∨ na < 0 ∨ nb < 0 ∨ 512 ≤ na ∨ 512 ≤ nb
  · exact apart_no na nb da db ht h hs hs2
  · obtain ⟨a, rfl⟩ : ∃ a : Nat, na = (a : Int) := ⟨na.toNat, by omega⟩
    obtain ⟨b, rfl⟩ : ∃ b : Nat, nb = (b : Int) := ⟨nb.toNat, by omega⟩
    exact apart_yes a b da db ht (by omega) (by omega) (by omega) (by omega)
end
end Go.Proofs.YtiacdpfodhggmaaDoor.Lf
