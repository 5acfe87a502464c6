/- A key goes: the document's, walked. -/
import Derived.Test.YtocmkjccaajnnaaHaG
namespace Go.Proofs.Ytocmkjccaajnnaa.Ha
open Go.RowKit Pac Bu Ls Lex Go.Proofs.Ytocmkjccaajnnaa.Or

section
variable {A : Option Addr} {n cp : Nat} {w : World}
set_option maxRecDepth 20000 in
set_option maxHeartbeats 3200000 in
theorem refDropH_any (X : Nat → Prop) (h : H) (k : ByteArray) (bk : List E) (hb : HasBsX w X A h.bs) (hn : h.bs.length = n) (h9 : n ≤ 100000) (hl8 : h.lv ≤ 8) (hnx : h.nx ≤ 1000) (hbk : h.bs[whereH spread h k.data.toList]? = some bk) (hm9 : bk.length ≤ 100000) (hk : k.size ≤ 9223372036854775807) :
    Calls Try.prog 15 #[.agg #[.int .i64 h.lv, .int .i64 h.nx, .slice A n cp], .string k] w (HashPost X (dropH spread h k.data.toList) w) := by
  have hge : dropH spread h k.data.toList = withB h (whereH spread h k.data.toList) (dropL bk k.data.toList) := by unfold dropH; rw [hbk]; rfl
  rw [hge]
  obtain ⟨lv, nx, bs⟩ := h
  simp only at hb hn hl8 hnx
  obtain ⟨i, hi⟩ : ∃ i, whereH spread ⟨lv, nx, bs⟩ k.data.toList = i := ⟨_, rfl⟩
  have hcW := fun W : World => refWhere_any lv nx k W hl8 hnx hk
  have hwi : atN lv nx (spread k.data.toList) = i := hi
  rw [hwi] at hcW
  rw [hi] at hbk ⊢
  have hbk : bs[i]? = some bk := hbk
  have hin : i < n := by rw [← hn]; exact (List.getElem?_eq_some_iff.1 hbk).1
  clear hge hi hwi
  have HN : Hid ((⟨lv, nx, bs⟩ : H).bs.length = n) := Lib.hid hn
  obtain ⟨post, hpe⟩ : ∃ post, HashPost X (withB ⟨lv, nx, bs⟩ i (dropL bk k.data.toList)) w = post := ⟨_, rfl⟩
  have HPE := Lib.hid hpe
  show Calls _ _ #[.agg #[.int .i64 lv, .int .i64 nx, .slice A n cp], .string k] _ _
  rw [hpe]
  have hB := (Below.refl w.heap.size w).alloc (Nat.le_refl _) (.cells #[.int .i64 lv, .int .i64 nx, .slice A n cp] 27)
  have hx := Box3.new w (.int .i64 lv) (.int .i64 nx) (.slice A n cp) 27
  obtain ⟨g, hg⟩ : ∃ g, w.heap.size = g := ⟨_, rfl⟩
  have hz : (w.alloc (.cells #[.int .i64 lv, .int .i64 nx, .slice A n cp] 27)).heap.size = g + 1 := by simp [hg]
  rw [hg] at hx
  generalize hw0 : w.alloc (.cells #[.int .i64 lv, .int .i64 nx, .slice A n cp] 27) = wa at hB hx hz
  have hBb := (Below.refl wa.heap.size wa).alloc (Nat.le_refl _) (.cells #[.int .i64 0, .int .i64 0, .slice none 0 0] 27)
  have hy := Box3.new wa (.int .i64 0) (.int .i64 0) (.slice none 0 0) 27
  have hsz : g + 2 ≤ (wa.alloc (.cells #[.int .i64 0, .int .i64 0, .slice none 0 0] 27)).heap.size := by simp [hz]
  rw [hz] at hy
  have hx := hx.below hBb hx.lt
  have hB := hB.trans (hBb.mono hB.size)
  generalize hw1 : wa.alloc (.cells #[.int .i64 0, .int .i64 0, .slice none 0 0] 27) = wb at hB hx hy hsz
  obtain ⟨b, o, A3, c3, rfl, _, hlb, d0, hr1, _⟩ := Li.HasLs.at hb.bs hbk
  rw [hg] at hlb
  have d0 := cell_belowB hB d0
  have hr1 := hr1.below hB (Nat.le_refl _)
  obtain ⟨X1, hX1⟩ : ∃ X1 : Nat → Prop, ∀ b, X1 b ↔ ((X b ∧ b < g) ∨ g + 2 ≤ b) := ⟨fun b => (X b ∧ b < g) ∨ g + 2 ≤ b, fun b => Iff.rfl⟩
  have hbX : HasBsX wb X1 (some ⟨b, o, none⟩) (⟨lv, nx, bs⟩ : H).bs := (hb.lt.mono (fun b h => (hX1 b).2 (Or.inl ⟨h.1, hg ▸ h.2⟩))).below hB (Nat.le_refl _)
  obtain ⟨m, hm⟩ : ∃ m, bk.length = m := ⟨_, rfl⟩
  rw [hm] at d0 hm9
  have hcD := fun (W : World) (h : HasE W 0 A3 bk) => refDrop_any (cp := c3) k 0 h hm hm9
  have x0 := hx.c0
  have x1 := hx.c1
  have x2 := hx.c2
  have i1 : (i : Int) < (n : Int) := by omega
  have i0 : (0 : Int) ≤ (i : Int) := by omega
  have HG := Lib.hid hg
  clear hb hn hbk hBb hm hpe hx
  go_enter Try.func15, Try.ntmps15
  go_wp2_with fail
  clear hw0 hw1 hg hz
  refine (hcW _).mono ?_
  rintro e y0 ⟨rfl, hv⟩
  have x0 := cell_belowB hv x0
  have x1 := cell_belowB hv x1
  have x2 := cell_belowB hv x2
  have d0 := cell_belowB hv d0
  have hbX := hbX.below hv (Nat.le_refl _)
  have hy := hy.below hv hy.lt
  have hsz : g + 2 ≤ _ := Nat.le_trans hsz hv.size
  have hB := hB.trans (hv.mono hB.size)
  have hr1 := hr1.below hv (Nat.le_refl _)
  clear hv
  clear hcW
  go_wp2_with fail
  have hdr := (Below.refl y0.heap.size y0).drew
  refine Lex.region_lex (ops := hdops) (calls := hdcalls) hdord (fun W => W.cell? ⟨g, 0, none⟩ = some (.int .i64 (lv : Int)) ∧ W.cell? ⟨g, 1, none⟩ = some (.int .i64 (nx : Int)) ∧ W.cell? ⟨g, 2, none⟩ = some (.slice (some ⟨b, o, none⟩) n cp) ∧ W.cell? ⟨b, o + i, none⟩ = some (.slice A3 m c3)) (by kernel_rfl) (by kernel_rfl) hdsel (by kernel_rfl) (by kernel_rfl) hdlex (⟨cell_belowB hdr x0, cell_belowB hdr x1, cell_belowB hdr x2, cell_belowB hdr d0⟩) ?_
  unfold hdord
  have x0 := cell_belowB hdr x0
  have x1 := cell_belowB hdr x1
  have x2 := cell_belowB hdr x2
  have d0 := cell_belowB hdr d0
  have hbX := hbX.below hdr (Nat.le_refl _)
  have hy := hy.below hdr hy.lt
  have hsz : g + 2 ≤ _ := Nat.le_trans hsz hdr.size
  have hB := hB.trans (hdr.mono hB.size)
  have hr1 := hr1.below hdr (Nat.le_refl _)
  clear hdr
  refine Lex.step_take (.agg #[.int .i64 (lv : Int), .int .i64 (nx : Int), .slice (some ⟨b, o, none⟩) n cp]) hd0 rfl (Lex.want_none rfl) (by intro Wx hSw; (try dsimp only at hSw); go_simp; (try (first | (with_reducible rfl) | assumption | rfl))) ?_
  simp only [Act.put, List.setIfInBounds_toArray, List.set_cons_zero, List.set_cons_succ]
  refine Lex.step_take (.int .i64 (i : Int)) hd1 rfl (Lex.want_none rfl) (by intro Wx hSw; (try dsimp only at hSw); go_simp; (try (first | (with_reducible rfl) | assumption | rfl))) ?_
  simp only [Act.put, List.setIfInBounds_toArray, List.set_cons_zero, List.set_cons_succ]
  refine Lex.step_take (.pointer (some ⟨g, 2, none⟩)) hd2 rfl (Lex.want_none rfl) (by intro Wx hSw; (try dsimp only at hSw); go_simp; (try (first | (with_reducible rfl) | assumption | rfl))) ?_
  simp only [Act.put, List.setIfInBounds_toArray, List.set_cons_zero, List.set_cons_succ]
  refine Lex.step_take (.slice (some ⟨b, o, none⟩) n cp) hd3 rfl (Lex.want_none rfl) (by intro Wx hSw; (try dsimp only at hSw); go_simp; (try (first | (with_reducible rfl) | assumption | rfl))) ?_
  simp only [Act.put, List.setIfInBounds_toArray, List.set_cons_zero, List.set_cons_succ]
  refine Lex.step_take (.int .i64 (i : Int)) hd4 rfl (Lex.want_none rfl) (by intro Wx hSw; (try dsimp only at hSw); go_simp; (try (first | (with_reducible rfl) | assumption | rfl))) ?_
  simp only [Act.put, List.setIfInBounds_toArray, List.set_cons_zero, List.set_cons_succ]
  refine Lex.step_take (.pointer (some ⟨b, o + i, none⟩)) hd5 rfl (Lex.want_none rfl) (by intro Wx hSw; (try dsimp only at hSw); go_simp; (try (first | (with_reducible rfl) | assumption | rfl))) ?_
  simp only [Act.put, List.setIfInBounds_toArray, List.set_cons_zero, List.set_cons_succ]
  refine Lex.step_take (.slice A3 m c3) hd6 rfl (Lex.want_none rfl) (by intro Wx hSw; (try dsimp only at hSw); go_simp; (try (first | (with_reducible rfl) | assumption | rfl))) ?_
  simp only [Act.put, List.setIfInBounds_toArray, List.set_cons_zero, List.set_cons_succ]
  refine Lex.step_take (.string k) hd7 rfl (Lex.want_none rfl) (by intro Wx hSw; (try dsimp only at hSw); go_simp; (try (first | (with_reducible rfl) | assumption | rfl))) ?_
  simp only [Act.put, List.setIfInBounds_toArray, List.set_cons_zero, List.set_cons_succ]
  refine Lex.step_call hd8 rfl (Lex.want_none rfl) (fun K hK => ?_)
  go_simp
  refine (hcD _ hr1).mono ?_
  rintro e y1 ⟨A5, m5, c5, rfl, hm5, hc5, hl5, hv⟩
  have hE5 : HasEX y1 X1 A5 (dropL bk k.data.toList) := ⟨hl5.lower (Nat.zero_le _), fun hn b o s e => (hX1 b).2 (Or.inr (Nat.le_trans hsz (adr_lt hl5 hn b o s e).1))⟩
  have x0 := cell_belowB hv x0
  have x1 := cell_belowB hv x1
  have x2 := cell_belowB hv x2
  have d0 := cell_belowB hv d0
  have hbX := hbX.below hv (Nat.le_refl _)
  have hy := hy.below hv hy.lt
  have hsz : g + 2 ≤ _ := Nat.le_trans hsz hv.size
  have hB := hB.trans (hv.mono hB.size)
  clear hv
  refine hK.out _ _ _ (fun _ h => h) ⟨x0, x1, x2, d0⟩ ?_
  clear hK K
  try simp only [Act.put, List.setIfInBounds_toArray, List.set_cons_zero, List.set_cons_succ]
  refine Lex.step_call hd9 rfl (Lex.want_none rfl) (fun K hK => ?_)
  go_simp
  refine (refWith_any X1 ⟨lv, nx, bs⟩ i _ hbX HN.out h9 hin hE5 hm5 hc5).mono ?_
  rintro e y2 ⟨A6, n6, c6, he, hn6, hc6, hb6, hv⟩
  have he : e = .returned (.agg #[.int .i64 lv, .int .i64 nx, .slice A6 n6 c6]) := he
  subst he
  have hb6 := hb6.mono (Y := X1) (fun b h => h.elim id (fun h => (hX1 b).2 (Or.inr (Nat.le_trans hsz h))))
  have x0 := cell_belowB hv x0
  have x1 := cell_belowB hv x1
  have x2 := cell_belowB hv x2
  have d0 := cell_belowB hv d0
  have hbX := hbX.below hv (Nat.le_refl _)
  have hy := hy.below hv hy.lt
  have hsz : g + 2 ≤ _ := Nat.le_trans hsz hv.size
  have hB := hB.trans (hv.mono hB.size)
  clear hv
  have f0 := hy.c0
  have f1 := hy.c1
  have f2 := hy.c2
  have fz0 := hy.f 0
  have fz1 := hy.f 1
  have fz2 := hy.f 2
  refine hK.out _ _ _ (fun _ h => h) ⟨x0, x1, x2, d0⟩ ?_
  clear hK K
  try simp only [Act.put, List.setIfInBounds_toArray, List.set_cons_zero, List.set_cons_succ]
  refine Lex.step_call hd10 rfl (Lex.want_none rfl) (fun K hK => ?_)
  go_simp
  have hw := (((Bar.refl (g + 1) y2).setCell 0 (.int .i64 lv)).setCell 1 (.int .i64 nx)).setCell 2 (.slice A6 n6 c6)
  have x0 := (hw.cell (p := ⟨g, 0, none⟩) (World.block_lt_of_cell? _ _ x0) (by show g ≠ g + 1; omega)).trans x0
  have x1 := (hw.cell (p := ⟨g, 1, none⟩) (World.block_lt_of_cell? _ _ x1) (by show g ≠ g + 1; omega)).trans x1
  have x2 := (hw.cell (p := ⟨g, 2, none⟩) (World.block_lt_of_cell? _ _ x2) (by show g ≠ g + 1; omega)).trans x2
  have d0 := (hw.cell (p := ⟨b, o + i, none⟩) (World.block_lt_of_cell? _ _ d0) (by show b ≠ g + 1; omega)).trans d0
  refine hK.out _ _ _ (fun _ h => h) ⟨x0, x1, x2, d0⟩ ?_
  clear hK K
  try simp only [Act.put, List.setIfInBounds_toArray, List.set_cons_zero, List.set_cons_succ]
  refine NoPanic.normal ?_
  have hg := HG.out
  have hB9 := ((hB.setCell (p := ⟨g + 1, 0, none⟩) (by show w.heap.size ≤ g + 1; omega) (.int .i64 lv)).setCell (p := ⟨g + 1, 1, none⟩) (by show w.heap.size ≤ g + 1; omega) (.int .i64 nx)).setCell (p := ⟨g + 1, 2, none⟩) (by show w.heap.size ≤ g + 1; omega) (.slice A6 n6 c6)
  have H9 := Lib.hid (((hy.set0 (.int .i64 lv)).set1 (.int .i64 nx)).set2 (.slice A6 n6 c6))
  have hb9 := (hb6.bar (fun h => by rcases (hX1 _).1 h with h | h <;> omega) hw).mono (Y := fun b => X b ∨ w.heap.size ≤ b) (fun b h => by
    rcases (hX1 b).1 h with h | h
    · exact Or.inl h.1
    · exact Or.inr (by omega))
  have HE := Lib.hid (show HashPost X (withB ⟨lv, nx, bs⟩ i (dropL bk k.data.toList)) w (.returned (.agg #[.int .i64 lv, .int .i64 nx, .slice A6 n6 c6])) _ from ⟨A6, n6, c6, rfl, hn6, hc6, hb9, hB9⟩)
  rw [HPE.out] at HE
  clear hB hB9 hy hb6 hb9 hbX hw hE5 hl5 hcD hr1 hX1
  go_wp2
  refine bodyPost_ret (results_hash rfl _ _ (g + 1) _ _ _ rfl H9.out.c0 H9.out.c1 H9.out.c2) rfl ?_
  exact HE.out
end
end Go.Proofs.Ytocmkjccaajnnaa.Ha
