/- The document's device: New, walked. -/
import Derived.Test.YtdbemkdfndjakaaDoorHdH
import Derived.Test.YtdbemkdfndjakaaDoorMgX
namespace Go.Proofs.YtdbemkdfndjakaaDoor.Sla
open Go.RowKit Hd
theorem Box5.lt5 {w : World} {g : Nat} {v0 v1 v2 v3 v4 : Value} (h : Box5 w g v0 v1 v2 v3 v4) : g < w.heap.size := World.block_lt_of_cell? w _ h.c0
theorem Box5.set0 {w : World} {g : Nat} {v0 v1 v2 v3 v4 : Value} (h : Box5 w g v0 v1 v2 v3 v4) (u : Value) : Box5 (w.setCell ⟨g, 0, none⟩ u) g u v1 v2 v3 v4 :=
  ⟨World.cell?_setCell_same _ _ _ h.c0, cell_set w g 0 1 u _ (by decide) h.c1, cell_set w g 0 2 u _ (by decide) h.c2, cell_set w g 0 3 u _ (by decide) h.c3, cell_set w g 0 4 u _ (by decide) h.c4, fun i => by rw [World.frozen?_setCell]; exact h.f i⟩
end Go.Proofs.YtdbemkdfndjakaaDoor.Sla
namespace Go.Proofs.YtdbemkdfndjakaaDoor.Hd
open Go.RowKit Go.Shelf Tal Sla Lex
def lenC : Option Value → Nat
  | some (.slice _ n _) => n
  | _ => 0
theorem own_but {w w' : World} {g base : Nat} {e : TypeId} {size : Nat} {v : Value} {n : Nat} {xs : List Value} (h : w.ownsRow base e size v n xs) (hb : But g w w') (hg : g < base) : w'.ownsRow base e size v n xs := by
  refine ⟨h.1, ?_⟩
  rcases h.2 with h2 | ⟨k, cap, cur, e1, e2, e3, r⟩
  · exact Or.inl h2
  · refine Or.inr ⟨k, cap, cur, e1, e2, ?_, r⟩
    rw [hb.block k (by omega)]
    exact e3
set_option maxRecDepth 20000 in
set_option maxHeartbeats 4000000 in
theorem refNew_any (n : Nat) (w : World) (h1 : 1 ≤ n) (h2 : n ≤ 2000) : Calls Tryd.prog 27 #[.int .i64 n] w (DevErr (fresh n) 0 w) := by
  have hd1 : ¬ (n : Int) < 1 := by omega
  have hd2 : ¬ 2000 < (n : Int) := by omega
  obtain ⟨i9, hi9, hv0, hv1, hv2⟩ := info_parts info9
  have hz : zeros 256 = padB ⟨#[]⟩ := rfl
  have HZ := Lib.hid (fun W => blank_any 256 W (by decide))
  have HZP := Lib.hid hz
  generalize zeros 256 = z at HZ HZP
  clear hz
  have hy := Box5.new w (.slice none 0 0) (.slice none 0 0) (.bool false) (.int .i64 0) (.int .i64 0) 39
  have hB := (Below.refl w.heap.size w).alloc (Nat.le_refl _) (.cells #[.slice none 0 0, .slice none 0 0, .bool false, .int .i64 0, .int .i64 0] 39)
  obtain ⟨g0, hg0⟩ : ∃ x, w.heap.size = x := ⟨_, rfl⟩
  have hwg0 : w.heap.size ≤ g0 := by omega
  rw [hg0] at hy
  generalize hwa : w.alloc (.cells #[.slice none 0 0, .slice none 0 0, .bool false, .int .i64 0, .int .i64 0] 39) = wa at hB hy
  have hx := Box5.new wa (.slice none 0 0) (.slice none 0 0) (.bool false) (.int .i64 (-1)) (.int .i64 0) 39
  have hv := (Below.refl wa.heap.size wa).alloc (Nat.le_refl _) (.cells #[.slice none 0 0, .slice none 0 0, .bool false, .int .i64 (-1), .int .i64 0] 39)
  have hyb := hy.lt5
  have hy := hy.below hv hyb
  have hwg : w.heap.size ≤ wa.heap.size := hB.size
  have hB := hB.trans (hv.mono hB.size)
  clear hv
  obtain ⟨g, hg⟩ : ∃ x, wa.heap.size = x := ⟨_, rfl⟩
  rw [hg] at hx hyb hwg
  generalize hwb : wa.alloc (.cells #[.slice none 0 0, .slice none 0 0, .bool false, .int .i64 (-1), .int .i64 0] 39) = wb at hB hy hx
  have hgb := hx.lt5
  obtain ⟨base, hbase⟩ : ∃ x, wb.heap.size = x := ⟨_, rfl⟩
  rw [hbase] at hgb
  go_enter Tryd.func27, Tryd.ntmps27
  have HWB := Lib.hid hwb
  clear hwb
  go_wp2
  rw [HWB.out]
  clear hwa HWB hg hg0
  have hbs : w.heap.size ≤ base := hbase ▸ hB.size
  have hyb : g0 < base := by omega
  have hne : g0 ≠ g := by omega
  go_loopw [13] (fun _ wr => ∃ (q : Nat) (v : Value), q ≤ n ∧ Box5 wr g v (.slice none 0 0) (.bool false) (.int .i64 (-1)) (.int .i64 0) ∧ Box5 wr g0 (.slice none 0 0) (.slice none 0 0) (.bool false) (.int .i64 0) (.int .i64 0) ∧ wr.ownsRow base 9 1 v q (List.replicate q (.string z)) ∧ Below w.heap.size w wr ∧ base ≤ wr.heap.size) (fun _ wr => n - lenC (wr.cell? ⟨g, 0, none⟩))
  case atStart => exact ⟨0, _, Nat.zero_le _, hx, hy, ⟨rfl, Or.inl ⟨rfl, rfl⟩⟩, hB, by omega⟩
  case round =>
    obtain ⟨q, v, hq, hx, hy, hown, hB, hS⟩ := hrel
    obtain ⟨A, cq, rfl⟩ : ∃ A c, v = .slice A q c := by
      rcases hown.2 with ⟨rfl, rfl⟩ | ⟨k, c, cur, rfl, _⟩
      · exact ⟨none, 0, rfl⟩
      · exact ⟨_, c, rfl⟩
    have hmz : lenC (wr.cell? ⟨g, 0, none⟩) = q := by rw [hx.c0]; rfl
    rw [hmz]
    clear hmz
    have hc0 := hx.c0
    by_cases hqn : q < n
    · have hlt : (q : Int) < (n : Int) := by omega
      go_upto_region 5 with fail
      clear hc0
      generalize hve : Value.slice A q cq = v at hx hown ⊢
      clear hve
      have hdr := (Below.refl wr.heap.size wr).drew
      have hx := hx.below hdr hx.lt5
      have hy := hy.below hdr hy.lt5
      have hown := own_below hown hdr (Nat.le_refl _)
      have hB := hB.trans (hdr.mono hB.size)
      have hS := Nat.le_trans hS hdr.size
      clear hdr
      refine Lex.region_last (ops := nwraw) (ops1 := nwops) (calls := nwcalls) 6 _ nword (fun W => W.cell? ⟨g, 0, none⟩ = some v) (by kernel_rfl) nweq nwlast rfl rfl (by kernel_rfl) (by kernel_rfl) (by kernel_rfl) (by kernel_rfl) nwsel (by kernel_rfl) (by kernel_rfl) nwlex (hx.c0) ?_
      unfold nword
      refine Lex.step_take (.pointer (some ⟨g, 0, none⟩)) nw0 rfl (Lex.want_none rfl) (by intro Wx hSw; (try dsimp only at hSw); go_simp; (try (first | (with_reducible rfl) | assumption | rfl))) ?_
      simp only [Act.put, List.setIfInBounds_toArray, List.set_cons_zero, List.set_cons_succ]
      refine Lex.step_take (v) nw1 rfl (Lex.want_none rfl) (by intro Wx hSw; (try dsimp only at hSw); go_simp; (try (first | (with_reducible rfl) | assumption | rfl))) ?_
      simp only [Act.put, List.setIfInBounds_toArray, List.set_cons_zero, List.set_cons_succ]
      refine Lex.step_call nw2 rfl (Lex.want_none rfl) (fun K hK => ?_)
      go_simp
      refine (HZ.out _).mono ?_
      rintro e y1 ⟨rfl, hv⟩
      have hx := hx.below hv hx.lt5
      have hy := hy.below hv hy.lt5
      have hown := own_below hown hv (Nat.le_refl _)
      have hB := hB.trans (hv.mono hB.size)
      have hS := Nat.le_trans hS hv.size
      clear hv
      refine hK.out _ _ _ (fun _ h => h) hx.c0 ?_
      clear hK K
      try simp only [Act.put, List.setIfInBounds_toArray, List.set_cons_zero, List.set_cons_succ]
      refine Lex.step_call nw3 rfl (Lex.want_none rfl) (fun K hK => ?_)
      go_simp
      have hv := (Below.refl y1.heap.size y1).alloc (Nat.le_refl _) (.cells #[.string z] 9)
      have hnews := heap_alloc_new y1 (.cells #[.string z] 9)
      have hx := hx.below hv hx.lt5
      have hy := hy.below hv hy.lt5
      have hown := own_below hown hv (Nat.le_refl _)
      have hB := hB.trans (hv.mono hB.size)
      have hS := Nat.le_trans hS hv.size
      clear hv
      refine hK.out _ _ _ (fun _ h => h) hx.c0 ?_
      clear hK K
      try simp only [Act.put, List.setIfInBounds_toArray, List.set_cons_zero, List.set_cons_succ]
      refine Lex.step_call nw4 rfl (Lex.want_none rfl) (fun K hK => ?_)
      refine wp_append_lies _ (.tmp 19) (.tmp 21) 36 (by rfl) base 9 i9 (.string ⟨#[]⟩) 1 16 Tryd.underlying36 hi9 hv0 hv1 hv2 rfl (by decide) v q (List.replicate q (.string z)) (by rfl) hown ⟨y1.heap.size, 0, none⟩ 1 1 [.string z] (by rfl) (by rfl) (World.news_of_block hnews) (by simp [Value.oneCell']) (by decide) (by unfold maxLen; omega) (by omega) hS _ rfl ?_
      intro g5 cap5 y3 hown5 hgrow5 _ hlt5
      have hv := (Below.refl base _).grown hgrow5 hS (fun k hk => (hown.lt k hk).1)
      have hg5 := (hown5.lt g5 rfl).1
      have hx := hx.below hv hgb
      have hy := hy.below hv hyb
      have hB := hB.grown hgrow5 hB.size (fun k hk => Nat.le_trans hbs (hown.lt k hk).1)
      have hS := Nat.le_trans hS hgrow5.size
      clear hown hgrow5 hnews hv
      refine hK.out _ _ _ (fun _ h => h) hx.c0 ?_
      clear hK K
      try simp only [Act.put, List.setIfInBounds_toArray, List.set_cons_zero, List.set_cons_succ]
      refine Lex.step_take (.pointer (some ⟨g, 0, none⟩)) nw5 rfl (Lex.want_none rfl) (by intro Wx hSw; (try dsimp only at hSw); go_simp; (try (first | (with_reducible rfl) | assumption | rfl))) ?_
      simp only [Act.put, List.setIfInBounds_toArray, List.set_cons_zero, List.set_cons_succ]
      refine Lex.step_take (.bool true) nw6 rfl (Lex.want_none rfl) (by intro Wx hSw; (try dsimp only at hSw); go_simp; (try (first | (with_reducible rfl) | assumption | rfl))) ?_
      simp only [Act.put, List.setIfInBounds_toArray, List.set_cons_zero, List.set_cons_succ]
      refine Lex.last_op nwlast rfl (fun K hK => ?_)
      have k0 := hx.c0
      have kf := hx.f 0
      go_simp
      refine hK.out _ _ ?_
      clear hK K k0 kf
      refine NoPanic.normal ?_
      have hx7 := hx.set0 (.slice (some ⟨g5, 0, none⟩) (q + 1) cap5)
      have hbut := (But.refl g y3).setCell 0 (.slice (some ⟨g5, 0, none⟩) (q + 1) cap5)
      have hy7 := hy.but hbut hne
      have hown7 := own_but hown5 hbut hgb
      have hB7 := hB.setCell (p := ⟨g, 0, none⟩) hwg (.slice (some ⟨g5, 0, none⟩) (q + 1) cap5)
      have hS7 : base ≤ (y3.setCell ⟨g, 0, none⟩ (.slice (some ⟨g5, 0, none⟩) (q + 1) cap5)).heap.size := by rw [hbut.size]; exact hS
      rw [← List.replicate_succ'] at hown7
      go_wp2
      go_roundw
      case rel => exact ⟨q + 1, _, by omega, hx7, hy7, hown7, hB7, hS7⟩
      case measure => rw [hx7.c0]; show n - (q + 1) < n - q; omega
    · obtain rfl : q = n := by omega
      have hrep : (List.range q).map (fun _ : Nat => Value.string z) = List.replicate q (.string z) := by simp [List.map_const']
      rw [← hrep] at hown
      obtain ⟨g5, cap, he, hg5, hcap, hrow⟩ := row_of_own (S := fun _ => z) hown (by omega)
      injection he with he1 _ he3
      subst he1 he3
      have hlt : ¬ (q : Int) < (q : Int) := by omega
      have hc1 := hx.c1
      have hc2 := hx.c2
      have hc3 := hx.c3
      have hc4 := hx.c4
      have ky0 := hy.c0
      have ky1 := hy.c1
      have ky2 := hy.c2
      have ky3 := hy.c3
      have ky4 := hy.c4
      have hfy := hy.f
      have hgl := hrow.1
      have hd5 : DevAt wr g5 none (.agg #[.slice (some ⟨g5, 0, none⟩) q cq, .slice none 0 0, .bool false, .int .i64 (-1), .int .i64 0]) (fresh q) :=
        ⟨cq, 0, rfl, hgl, hcap, fun j hj => (hrow.2.1 j hj).trans (by rw [HZP.out]; rfl), fun h => absurd h (by simp [fresh]), fun _ => ⟨rfl, rfl⟩⟩
      have hn5 : g0 ≠ g5 := by omega
      clear hown hrep
      go_wp2
      refine bodyPost_ret (v := .tuple #[.agg #[.slice (some ⟨g5, 0, none⟩) q cq, .slice none 0 0, .bool false, .int .i64 (-1), .int .i64 0], .int .i64 0]) (by simp [results, Tryd.results27, go_sem, ky0, ky1, ky2, ky3, ky4]) rfl ⟨_, rfl, ⟨g5, none, ?_⟩, ?_⟩
      · repeat (first | (with_reducible exact hd5) | refine DevAt.setCell ?_ (by simp; omega) (fun a h => by cases h) _)
      · repeat (first | (with_reducible exact hB) | refine Below.setCell ?_ (by simp; omega) _)
end Go.Proofs.YtdbemkdfndjakaaDoor.Hd
