/- What is found of a key: the document's, walked. -/
import Derived.Test.YtocmkjccaajnnaaHaF
namespace Go.Proofs.Ytocmkjccaajnnaa.Ha
open Go.RowKit Pac Bu Ls Lex Go.Proofs.Ytocmkjccaajnnaa.Or

def placeN : Option E → Int × Int
  | some e => (e.t, e.s)
  | none => (0, 0)
theorem find_vals {o : Option E} {w w' : World} {e : Ending} (h : FindPost o w e w') : ∃ (p q : Int) (b : Bool), e = .returned (.tuple #[.agg #[.int .i64 p, .int .i64 q], .bool b]) ∧ Hid (placeN o = (p, q) ∧ o.isSome = b) ∧ Below w.heap.size w w' := by
  obtain ⟨h1, h2⟩ := h
  cases o with
  | none => exact ⟨0, 0, false, h1, Lib.hid ⟨rfl, rfl⟩, h2⟩
  | some x => exact ⟨x.t, x.s, true, h1, Lib.hid ⟨rfl, rfl⟩, h2⟩
theorem find_back {o : Option E} {w w' : World} {p q : Int} {b : Bool} (h : placeN o = (p, q) ∧ o.isSome = b) (hB : Below w.heap.size w w') : FindPost o w (.returned (.tuple #[.agg #[.int .i64 p, .int .i64 q], .bool b])) w' := by
  obtain ⟨h1, rfl⟩ := h
  cases o with
  | none =>
    injection h1 with h1 h2
    subst h1 h2
    exact ⟨rfl, hB⟩
  | some x =>
    injection h1 with h1 h2
    subst h1 h2
    exact ⟨rfl, hB⟩
section
variable {A : Option Addr} {n cp : Nat} {w : World}
set_option maxRecDepth 20000 in
set_option maxHeartbeats 3200000 in
theorem refGet_any (h : H) (k : ByteArray) (bk : List E) (hb : HasBs w 0 A h.bs) (hn : h.bs.length = n) (h9 : n ≤ 100000) (hl8 : h.lv ≤ 8) (hnx : h.nx ≤ 1000) (hbk : h.bs[whereH spread h k.data.toList]? = some bk) (hm9 : bk.length ≤ 100000) (hk : k.size ≤ 9223372036854775807) :
    Calls Try.prog 19 #[.agg #[.int .i64 h.lv, .int .i64 h.nx, .slice A n cp], .string k] w (FindPost (getH spread h k.data.toList) w) := by
  have hge : getH spread h k.data.toList = findL bk k.data.toList := by unfold getH; rw [hbk]; rfl
  rw [hge]
  obtain ⟨lv, nx, bs⟩ := h
  simp only at hb hn hl8 hnx ⊢
  obtain ⟨i, hi⟩ : ∃ i, whereH spread ⟨lv, nx, bs⟩ k.data.toList = i := ⟨_, rfl⟩
  have hcW := fun W : World => refWhere_any lv nx k W hl8 hnx hk
  have hwi : atN lv nx (spread k.data.toList) = i := hi
  rw [hwi] at hcW
  rw [hi] at hbk
  have hbk : bs[i]? = some bk := hbk
  have hin : i < n := by rw [← hn]; exact (List.getElem?_eq_some_iff.1 hbk).1
  clear hge hi hwi
  have hB := (Below.refl w.heap.size w).alloc (Nat.le_refl _) (.cells #[.int .i64 lv, .int .i64 nx, .slice A n cp] 27)
  have hx := Box3.new w (.int .i64 lv) (.int .i64 nx) (.slice A n cp) 27
  obtain ⟨g, hg⟩ : ∃ g, w.heap.size = g := ⟨_, rfl⟩
  have hz : (w.alloc (.cells #[.int .i64 lv, .int .i64 nx, .slice A n cp] 27)).heap.size = g + 1 := by simp [hg]
  rw [hg] at hx
  generalize hw0 : w.alloc (.cells #[.int .i64 lv, .int .i64 nx, .slice A n cp] 27) = wa at hB hx hz
  have hBb := (Below.refl wa.heap.size wa).alloc (Nat.le_refl _) (.cells #[.int .i64 0, .int .i64 0] 30)
  have hy := Box2.new wa (.int .i64 0) (.int .i64 0) 30
  rw [hz] at hy
  have hx := hx.below hBb hx.lt
  have hB := hB.trans (hBb.mono hB.size)
  generalize hw1 : wa.alloc (.cells #[.int .i64 0, .int .i64 0] 30) = wb at hB hx hy
  obtain ⟨b, o, A3, c3, rfl, _, hlb, d0, hr1, _⟩ := Li.HasLs.at hb hbk
  rw [hg] at hlb
  have d0 := cell_belowB hB d0
  have hr1 := hr1.below hB (Nat.le_refl _)
  obtain ⟨m, hm⟩ : ∃ m, bk.length = m := ⟨_, rfl⟩
  rw [hm] at d0 hm9
  have hcF := fun (W : World) (h : HasE W 0 A3 bk) => refFind_any (cp := c3) k h hm hm9
  have HP := Lib.hid (fun (W : World) (p q : Int) (bo : Bool) (h : placeN (findL bk k.data.toList) = (p, q) ∧ (findL bk k.data.toList).isSome = bo) (hB : Below w.heap.size w W) => find_back h hB)
  obtain ⟨post, hpe⟩ : ∃ post, FindPost (findL bk k.data.toList) w = post := ⟨_, rfl⟩
  rw [hpe] at HP ⊢
  have x0 := hx.c0
  have x1 := hx.c1
  have x2 := hx.c2
  have i1 : (i : Int) < (n : Int) := by omega
  have i0 : (0 : Int) ≤ (i : Int) := by omega
  clear hb hn hbk hBb hm hpe hx
  go_enter Try.func19, Try.ntmps19
  go_wp2_with fail
  have hdr := (Below.refl wb.heap.size wb).drew
  refine Lex.region_lex (ops := hgops) (calls := hgcalls) hgord (fun W => W.cell? ⟨g, 0, none⟩ = some (.int .i64 (lv : Int)) ∧ W.cell? ⟨g, 1, none⟩ = some (.int .i64 (nx : Int)) ∧ W.cell? ⟨g, 2, none⟩ = some (.slice (some ⟨b, o, none⟩) n cp) ∧ W.cell? ⟨b, o + i, none⟩ = some (.slice A3 m c3)) (by kernel_rfl) (by kernel_rfl) hgsel (by kernel_rfl) (by kernel_rfl) hglex (⟨cell_belowB hdr x0, cell_belowB hdr x1, cell_belowB hdr x2, cell_belowB hdr d0⟩) ?_
  unfold hgord
  have x0 := cell_belowB hdr x0
  have x1 := cell_belowB hdr x1
  have x2 := cell_belowB hdr x2
  have d0 := cell_belowB hdr d0
  have hr1 := hr1.below hdr (Nat.le_refl _)
  have hy := hy.below hdr hy.lt
  have hB := hB.trans (hdr.mono hB.size)
  clear hdr
  refine Lex.step_take (.pointer (some ⟨g, 2, none⟩)) hg0 rfl (Lex.want_none rfl) (by intro Wx hSw; (try dsimp only at hSw); go_simp; (try (first | (with_reducible rfl) | assumption | rfl))) ?_
  simp only [Act.put, List.setIfInBounds_toArray, List.set_cons_zero, List.set_cons_succ]
  refine Lex.step_take (.slice (some ⟨b, o, none⟩) n cp) hg1 rfl (Lex.want_none rfl) (by intro Wx hSw; (try dsimp only at hSw); go_simp; (try (first | (with_reducible rfl) | assumption | rfl))) ?_
  simp only [Act.put, List.setIfInBounds_toArray, List.set_cons_zero, List.set_cons_succ]
  refine Lex.step_take (.pointer (some ⟨g, 0, none⟩)) hg2 rfl (Lex.want_none rfl) (by intro Wx hSw; (try dsimp only at hSw); go_simp; (try (first | (with_reducible rfl) | assumption | rfl))) ?_
  simp only [Act.put, List.setIfInBounds_toArray, List.set_cons_zero, List.set_cons_succ]
  refine Lex.step_take (.int .i64 (lv : Int)) hg3 rfl (Lex.want_none rfl) (by intro Wx hSw; (try dsimp only at hSw); go_simp; (try (first | (with_reducible rfl) | assumption | rfl))) ?_
  simp only [Act.put, List.setIfInBounds_toArray, List.set_cons_zero, List.set_cons_succ]
  refine Lex.step_take (.pointer (some ⟨g, 1, none⟩)) hg4 rfl (Lex.want_none rfl) (by intro Wx hSw; (try dsimp only at hSw); go_simp; (try (first | (with_reducible rfl) | assumption | rfl))) ?_
  simp only [Act.put, List.setIfInBounds_toArray, List.set_cons_zero, List.set_cons_succ]
  refine Lex.step_take (.int .i64 (nx : Int)) hg5 rfl (Lex.want_none rfl) (by intro Wx hSw; (try dsimp only at hSw); go_simp; (try (first | (with_reducible rfl) | assumption | rfl))) ?_
  simp only [Act.put, List.setIfInBounds_toArray, List.set_cons_zero, List.set_cons_succ]
  refine Lex.step_take (.string k) hg6 rfl (Lex.want_none rfl) (by intro Wx hSw; (try dsimp only at hSw); go_simp; (try (first | (with_reducible rfl) | assumption | rfl))) ?_
  simp only [Act.put, List.setIfInBounds_toArray, List.set_cons_zero, List.set_cons_succ]
  refine Lex.step_take (.string k) hg10 rfl (Lex.want_none rfl) (by intro Wx hSw; (try dsimp only at hSw); go_simp; (try (first | (with_reducible rfl) | assumption | rfl))) ?_
  simp only [Act.put, List.setIfInBounds_toArray, List.set_cons_zero, List.set_cons_succ]
  refine Lex.step_call hg7 rfl (Lex.want_none rfl) (fun K hK => ?_)
  go_simp
  refine (hcW _).mono ?_
  rintro e y1 ⟨rfl, hv⟩
  have x0 := cell_belowB hv x0
  have x1 := cell_belowB hv x1
  have x2 := cell_belowB hv x2
  have d0 := cell_belowB hv d0
  have hr1 := hr1.below hv (Nat.le_refl _)
  have hy := hy.below hv hy.lt
  have hB := hB.trans (hv.mono hB.size)
  clear hv
  refine hK.out _ _ _ (fun _ h => h) ⟨x0, x1, x2, d0⟩ ?_
  clear hK K
  try simp only [Act.put, List.setIfInBounds_toArray, List.set_cons_zero, List.set_cons_succ]
  refine Lex.step_take (.pointer (some ⟨b, o + i, none⟩)) hg8 rfl (Lex.want_none rfl) (by intro Wx hSw; (try dsimp only at hSw); go_simp; (try (first | (with_reducible rfl) | assumption | rfl))) ?_
  simp only [Act.put, List.setIfInBounds_toArray, List.set_cons_zero, List.set_cons_succ]
  refine Lex.step_take (.slice A3 m c3) hg9 rfl (Lex.want_none rfl) (by intro Wx hSw; (try dsimp only at hSw); go_simp; (try (first | (with_reducible rfl) | assumption | rfl))) ?_
  simp only [Act.put, List.setIfInBounds_toArray, List.set_cons_zero, List.set_cons_succ]
  refine Lex.step_call hg11 rfl (Lex.want_none rfl) (fun K hK => ?_)
  go_simp
  refine (hcF _ hr1).mono ?_
  rintro e y2 hf
  obtain ⟨p, q, bo, rfl, HV, hv⟩ := find_vals hf
  clear hf
  have x0 := cell_belowB hv x0
  have x1 := cell_belowB hv x1
  have x2 := cell_belowB hv x2
  have d0 := cell_belowB hv d0
  have hr1 := hr1.below hv (Nat.le_refl _)
  have hy := hy.below hv hy.lt
  have hB := hB.trans (hv.mono hB.size)
  clear hv
  have f0 := hy.c0
  have f1 := hy.c1
  have fz0 := hy.f 0
  have fz1 := hy.f 1
  refine hK.out _ _ _ (fun _ h => h) ⟨x0, x1, x2, d0⟩ ?_
  clear hK K
  try simp only [Act.put, List.setIfInBounds_toArray, List.set_cons_zero, List.set_cons_succ]
  refine Lex.step_take (.agg #[.int .i64 p, .int .i64 q]) hg12 rfl (Lex.want_none rfl) (by intro Wx hSw; (try dsimp only at hSw); go_simp; (try (first | (with_reducible rfl) | assumption | rfl))) ?_
  simp only [Act.put, List.setIfInBounds_toArray, List.set_cons_zero, List.set_cons_succ]
  refine Lex.step_take (.bool bo) hg13 rfl (Lex.want_none rfl) (by intro Wx hSw; (try dsimp only at hSw); go_simp; (try (first | (with_reducible rfl) | assumption | rfl))) ?_
  simp only [Act.put, List.setIfInBounds_toArray, List.set_cons_zero, List.set_cons_succ]
  refine Lex.step_call hg14 rfl (Lex.want_none rfl) (fun K hK => ?_)
  go_simp
  have hw := ((Bar.refl (g + 1) y2).setCell 0 (.int .i64 p)).setCell 1 (.int .i64 q)
  have x0 := (hw.cell (p := ⟨g, 0, none⟩) (World.block_lt_of_cell? _ _ x0) (by show g ≠ g + 1; omega)).trans x0
  have x1 := (hw.cell (p := ⟨g, 1, none⟩) (World.block_lt_of_cell? _ _ x1) (by show g ≠ g + 1; omega)).trans x1
  have x2 := (hw.cell (p := ⟨g, 2, none⟩) (World.block_lt_of_cell? _ _ x2) (by show g ≠ g + 1; omega)).trans x2
  have d0 := (hw.cell (p := ⟨b, o + i, none⟩) (World.block_lt_of_cell? _ _ d0) (by show b ≠ g + 1; omega)).trans d0
  refine hK.out _ _ _ (fun _ h => h) ⟨x0, x1, x2, d0⟩ ?_
  clear hK K
  try simp only [Act.put, List.setIfInBounds_toArray, List.set_cons_zero, List.set_cons_succ]
  refine Lex.step_take (.bool bo) hg15 rfl (Lex.want_none rfl) (by intro Wx hSw; (try dsimp only at hSw); go_simp; (try (first | (with_reducible rfl) | assumption | rfl))) ?_
  simp only [Act.put, List.setIfInBounds_toArray, List.set_cons_zero, List.set_cons_succ]
  refine NoPanic.normal ?_
  have hB9 := (hB.setCell (p := ⟨g + 1, 0, none⟩) (by show w.heap.size ≤ g + 1; omega) (.int .i64 p)).setCell (p := ⟨g + 1, 1, none⟩) (by show w.heap.size ≤ g + 1; omega) (.int .i64 q)
  have H9 := Lib.hid ((hy.set0 (.int .i64 p)).set1 (.int .i64 q))
  have HE := Lib.hid (HP.out _ p q bo HV.out hB9)
  clear hB hB9 hy HP HV hcF hcW hr1
  go_wp2
  refine bodyPost_ret (results_place rfl _ _ (g + 1) _ _ rfl H9.out.c0 H9.out.c1) rfl ?_
  exact HE.out
end
end Go.Proofs.Ytocmkjccaajnnaa.Ha
