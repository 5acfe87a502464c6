/- Pages at hand: the program's Get and Pin, walked. -/
import Derived.Test.YtjjedadhkdpceaaClJ
import Derived.Test.YtjjedadhkdpceaaXci
namespace Go.Proofs.Ytjjedadhkdpceaa.Cl
open Go.RowKit Pac Lex

theorem px_none (w : World) (X : Nat → Prop) : HasPX w X none 0 [] := ⟨fun h => absurd rfl h, fun h => absurd rfl h, fun _ => ⟨rfl, rfl⟩⟩
theorem clk_none (w : World) (X : Nat → Prop) (k : Nat) : ClkV X ⟨[], 0⟩ k (.agg #[.slice none 0 0, .int .i64 0]) w := ⟨none, 0, 0, rfl, rfl, Nat.le_refl _, px_none w _⟩
section
variable {A : Option Addr} {n cp m : Nat} {w : World}
set_option maxRecDepth 20000 in
set_option maxHeartbeats 3200000 in
theorem pget_any (X : Nat → Prop) (c : C) (no : Int) (hl : HasPX w X A cp c.l) (hn : c.l.length = n) (hc : n ≤ cp) (h9 : n ≤ 100000) :
    Calls Try.prog 14 #[.agg #[.slice A n cp, .int .i64 c.h], .int .i64 no] w (GetPost X (getC c no) w) := by
  obtain ⟨l, h⟩ := c
  simp only at hl hn
  obtain ⟨post, hpe⟩ : ∃ post, GetPost X (getC ⟨l, h⟩ no) w = post := ⟨_, rfl⟩
  have HPE := Lib.hid hpe
  show Calls _ _ #[.agg #[.slice A n cp, .int .i64 h], .int .i64 no] _ _
  rw [hpe]
  have hB := (Below.refl w.heap.size w).alloc (Nat.le_refl _) (.cells #[.slice A n cp, .int .i64 h] 24)
  have hx := Box2.new w (.slice A n cp) (.int .i64 h) 24
  obtain ⟨g, hg⟩ : ∃ g, w.heap.size = g := ⟨_, rfl⟩
  have hz : (w.alloc (.cells #[.slice A n cp, .int .i64 h] 24)).heap.size = g + 1 := by simp [hg]
  rw [hg] at hx
  generalize hw0 : w.alloc (.cells #[.slice A n cp, .int .i64 h] 24) = wa at hB hx hz
  have hBb := (Below.refl wa.heap.size wa).alloc (Nat.le_refl _) (.cells #[.slice none 0 0, .int .i64 0] 24)
  have hy := Box2.new wa (.slice none 0 0) (.int .i64 0) 24
  rw [hz] at hy
  have hx := hx.below hBb hx.lt
  have hB := hB.trans (hBb.mono hB.size)
  generalize hw1 : wa.alloc (.cells #[.slice none 0 0, .int .i64 0] 24) = wb at hB hx hy
  have hcF := pfind_any (cp := cp) h no 0 (hl.p.below hB (Nat.le_refl _)) hn h9
  have x0 := hx.c0
  have x1 := hx.c1
  clear hpe hBb
  go_enter Try.func14, Try.ntmps14
  go_wp2_with fail
  have HG := Lib.hid hg
  clear hw0 hw1 hg hz
  refine hcF.mono ?_
  rintro e w1 ⟨rfl, hv⟩
  have hx := hx.below hv hx.lt
  have hy := hy.below hv hy.lt
  have hB := hB.trans (hv.mono hB.size)
  clear hcF hv x0 x1
  have x0 := hx.c0
  have x1 := hx.c1
  have y0 := hy.c0
  have y1 := hy.c1
  have f0 := hy.f 0
  have f1 := hy.f 1
  cases hf : findL l no with
  | none =>
    have hge : getC ⟨l, h⟩ no = (⟨[], 0⟩, ⟨#[]⟩, false) := by unfold getC; simp only [hf]
    have hr : resI (none : Option Nat) = -1 := rfl
    have hg := HG.out
    have hB9 := (hB.setCell (p := ⟨g + 1, 0, none⟩) (by show w.heap.size ≤ g + 1; omega) (.slice none 0 0)).setCell (p := ⟨g + 1, 1, none⟩) (by show w.heap.size ≤ g + 1; omega) (.int .i64 0)
    have H9 := Lib.hid ((hy.set0 (.slice none 0 0)).set1 (.int .i64 0))
    have HE := Lib.hid (show GetPost X (getC ⟨l, h⟩ no) w (.returned (.tuple #[.agg #[.slice none 0 0, .int .i64 0], .string ⟨#[]⟩, .bool false])) _ from by rw [hge]; exact ⟨_, rfl, clk_none _ _ _, hB9⟩)
    rw [HPE.out] at HE
    rw [hr]
    clear hB hB9 hy hx hl hge hg hf hr hn
    go_wp2
    refine bodyPost_ret (results_get rfl _ _ (g + 1) _ _ rfl H9.out.c0 H9.out.c1) rfl ?_
    exact HE.out
  | some i =>
    have hi := find_lt hf
    have hp := List.getElem?_eq_getElem hi
    generalize l[i]'hi = p at hp
    rw [hn] at hi
    have hl1 := hl.p.below hB (Nat.le_refl _)
    obtain ⟨b, o, rfl, hlb, d0, d1, d2, d3⟩ := HasP.at hl1 hp
    have hge : getC ⟨l, h⟩ no = (⟨l.set i (touch p), h⟩, p.data, true) := by unfold getC; simp only [hf, hp]; rw [modify_set hp]; rfl
    have hr : resI (some i) = (i : Int) := rfl
    rw [hr]
    have hn0 : ¬ (i : Int) < 0 := by omega
    have i1 : (i : Int) < (n : Int) := by omega
    have i0 : (0 : Int) ≤ (i : Int) := by omega
    obtain ⟨gh, hgh⟩ : ∃ gh, w1.heap.size = gh := ⟨_, rfl⟩
    have HX := Lib.hid (And.intro hx (And.intro hy (And.intro hB (And.intro hn (And.intro hp (And.intro hge (And.intro hl1 hgh)))))))
    obtain ⟨pn, pd, pr, pp⟩ := p
    simp only at d0 d1 d2 d3
    clear hx hy hB hl hn hp hge hf hr y0 y1 f0 f1 hl1
    go_wp2_with fail
    obtain ⟨hx, hy, hB, hn, hp, hge, hl1, hgh⟩ := HX.out
    have hnew := (Below.refl w1.heap.size w1).alloc (Nat.le_refl _) (.cells #[.int .i64 pn, .string pd, .bool true, .int .i64 pp] 36)
    have hb4 := Box4.new w1 (.int .i64 pn) (.string pd) (.bool true) (.int .i64 pp) 36
    have hyl := hy.lt
    rw [hgh] at hb4 hyl
    have hx := hx.below hnew hx.lt
    have hy := hy.below hnew hy.lt
    have hB := hB.trans (hnew.mono hB.size)
    have hl1 := hl1.below hnew (Nat.le_refl _)
    generalize w1.alloc (.cells #[.int .i64 pn, .string pd, .bool true, .int .i64 pp] 36) = w2 at hx hy hB hl1 hb4 ⊢
    clear hnew x0 x1 d0 d1 d2 d3 HX hgh hlb
    have hgb := hb4.lt
    have x0 := hx.c0
    have x1 := hx.c1
    have e0 := hb4.c0
    have e1 := hb4.c1
    have e2 := hb4.c2
    have e3 := hb4.c3
    have hdr := (Below.refl w2.heap.size w2).drew
    clear hx hb4
    refine Lex.region_lex (ops := gqops) (calls := gqcalls) gqord (fun W => W.cell? ⟨g, 0, none⟩ = some (.slice (some ⟨b, o, none⟩) n cp) ∧ W.cell? ⟨g, 1, none⟩ = some (.int .i64 (h : Int)) ∧ W.cell? ⟨gh, 0, none⟩ = some (.int .i64 pn) ∧ W.cell? ⟨gh, 1, none⟩ = some (.string pd) ∧ W.cell? ⟨gh, 2, none⟩ = some (.bool true) ∧ W.cell? ⟨gh, 3, none⟩ = some (.int .i64 pp)) (by kernel_rfl) (by kernel_rfl) gqsel (by kernel_rfl) (by kernel_rfl) gqlex (⟨cell_belowB hdr x0, cell_belowB hdr x1, cell_belowB hdr e0, cell_belowB hdr e1, cell_belowB hdr e2, cell_belowB hdr e3⟩) ?_
    unfold gqord
    have x0 := cell_belowB hdr x0
    have x1 := cell_belowB hdr x1
    have e0 := cell_belowB hdr e0
    have e1 := cell_belowB hdr e1
    have e2 := cell_belowB hdr e2
    have e3 := cell_belowB hdr e3
    have hy := hy.below hdr hy.lt
    have hB := hB.trans (hdr.mono hB.size)
    have hl1 := hl1.below hdr (Nat.le_refl _)
    have hszd := hdr.size
    clear hdr
    refine Lex.step_take (.agg #[.slice (some ⟨b, o, none⟩) n cp, .int .i64 (h : Int)]) gq0 rfl (Lex.want_none rfl) (by intro Wx hSw; (try dsimp only at hSw); go_simp; (try (first | (with_reducible rfl) | assumption | rfl))) ?_
    simp only [Act.put, List.setIfInBounds_toArray, List.set_cons_zero, List.set_cons_succ]
    refine Lex.step_take (.int .i64 (i : Int)) gq1 rfl (Lex.want_none rfl) (by intro Wx hSw; (try dsimp only at hSw); go_simp; (try (first | (with_reducible rfl) | assumption | rfl))) ?_
    simp only [Act.put, List.setIfInBounds_toArray, List.set_cons_zero, List.set_cons_succ]
    refine Lex.step_take (.agg #[.int .i64 pn, .string pd, .bool true, .int .i64 pp]) gq2 rfl (Lex.want_none rfl) (by intro Wx hSw; (try dsimp only at hSw); go_simp; (try (first | (with_reducible rfl) | assumption | rfl))) ?_
    simp only [Act.put, List.setIfInBounds_toArray, List.set_cons_zero, List.set_cons_succ]
    refine Lex.step_take (.pointer (some ⟨gh, 0, none⟩)) gq4 rfl (Lex.want_none rfl) (by intro Wx hSw; (try dsimp only at hSw); go_simp; (try (first | (with_reducible rfl) | assumption | rfl))) ?_
    simp only [Act.put, List.setIfInBounds_toArray, List.set_cons_zero, List.set_cons_succ]
    refine Lex.step_take (.pointer (some ⟨gh, 1, none⟩)) gq5 rfl (Lex.want_none rfl) (by intro Wx hSw; (try dsimp only at hSw); go_simp; (try (first | (with_reducible rfl) | assumption | rfl))) ?_
    simp only [Act.put, List.setIfInBounds_toArray, List.set_cons_zero, List.set_cons_succ]
    refine Lex.step_take (.string pd) gq6 rfl (Lex.want_none rfl) (by intro Wx hSw; (try dsimp only at hSw); go_simp; (try (first | (with_reducible rfl) | assumption | rfl))) ?_
    simp only [Act.put, List.setIfInBounds_toArray, List.set_cons_zero, List.set_cons_succ]
    refine Lex.step_call gq3 rfl (Lex.want_none rfl) (fun K hK => ?_)
    go_simp
    refine (with_own (cp := cp) h i ⟨pn, pd, true, pp⟩ b o hl1 hn h9 hi).mono ?_
    rintro e y1 ⟨g5, c5, rfl, hown, hv⟩
    have hbs := Nat.le_trans hgb (Nat.le_trans (Nat.le_of_eq rfl) hszd)
    have x0 := cell_belowB hv x0
    have x1 := cell_belowB hv x1
    have e0 := cell_belowB hv e0
    have e1 := cell_belowB hv e1
    have e2 := cell_belowB hv e2
    have e3 := cell_belowB hv e3
    have hy := hy.below hv hy.lt
    have hB := hB.trans (hv.mono hB.size)
    clear hv hl1
    refine hK.out _ _ _ (fun _ h => h) ⟨x0, x1, e0, e1, e2, e3⟩ ?_
    clear hK K
    try simp only [Act.put, List.setIfInBounds_toArray, List.set_cons_zero, List.set_cons_succ]
    refine Lex.step_call gq7 rfl (Lex.want_none rfl) (fun K hK => ?_)
    have hbar := ((Bar.refl (g + 1) y1).setCell 0 (.slice (some ⟨g5, 0, none⟩) n c5)).setCell 1 (.int .i64 h)
    have k0 := hy.c0
    have k1 := hy.c1
    have kf := hy.f
    go_simp
    clear k0 k1 kf
    have x0 := (hbar.cell (p := ⟨g, 0, none⟩) (World.block_lt_of_cell? _ _ x0) (by show g ≠ g + 1; omega)).trans x0
    have x1 := (hbar.cell (p := ⟨g, 1, none⟩) (World.block_lt_of_cell? _ _ x1) (by show g ≠ g + 1; omega)).trans x1
    have e0 := (hbar.cell (p := ⟨gh, 0, none⟩) (World.block_lt_of_cell? _ _ e0) (by show gh ≠ g + 1; omega)).trans e0
    have e1 := (hbar.cell (p := ⟨gh, 1, none⟩) (World.block_lt_of_cell? _ _ e1) (by show gh ≠ g + 1; omega)).trans e1
    have e2 := (hbar.cell (p := ⟨gh, 2, none⟩) (World.block_lt_of_cell? _ _ e2) (by show gh ≠ g + 1; omega)).trans e2
    have e3 := (hbar.cell (p := ⟨gh, 3, none⟩) (World.block_lt_of_cell? _ _ e3) (by show gh ≠ g + 1; omega)).trans e3
    have hy9 := (hy.set0 (.slice (some ⟨g5, 0, none⟩) n c5)).set1 (.int .i64 h)
    have hB9 := hB.trans (hbar.below (B := w.heap.size) (by have := HG.out; omega) hB.size)
    have hown9 := Li.own_bar hown hbar (by omega)
    refine hK.out _ _ _ (fun _ h => h) ⟨x0, x1, e0, e1, e2, e3⟩ ?_
    clear hK K
    try simp only [Act.put, List.setIfInBounds_toArray, List.set_cons_zero, List.set_cons_succ]
    refine Lex.step_take (.string pd) gq8 rfl (Lex.want_none rfl) (by intro Wx hSw; (try dsimp only at hSw); go_simp; (try (first | (with_reducible rfl) | assumption | rfl))) ?_
    simp only [Act.put, List.setIfInBounds_toArray, List.set_cons_zero, List.set_cons_succ]
    refine Lex.step_take (.bool true) gq9 rfl (Lex.want_none rfl) (by intro Wx hSw; (try dsimp only at hSw); go_simp; (try (first | (with_reducible rfl) | assumption | rfl))) ?_
    simp only [Act.put, List.setIfInBounds_toArray, List.set_cons_zero, List.set_cons_succ]
    refine NoPanic.normal ?_
    have H9 := Lib.hid hy9
    have hln : (l.set i (touch ⟨pn, pd, pr, pp⟩)).length = n := by simp [hn]
    have HE := Lib.hid (show GetPost X (getC ⟨l, h⟩ no) w (.returned (.tuple #[.agg #[.slice (some ⟨g5, 0, none⟩) n c5, .int .i64 h], .string pd, .bool true])) _ from by rw [hge]; exact ⟨_, rfl, own_clk (c := ⟨l.set i (touch ⟨pn, pd, pr, pp⟩), h⟩) hown9 hln (by omega) (by have := HG.out; omega), hB9⟩)
    rw [HPE.out] at HE
    clear x0 x1 e0 e1 e2 e3 hy hB hown hbar hy9 hB9 hown9 hge hp hn
    go_wp2
    refine bodyPost_ret (results_get rfl _ _ (g + 1) _ _ rfl H9.out.c0 H9.out.c1) rfl ?_
    exact HE.out
set_option maxRecDepth 20000 in
set_option maxHeartbeats 3200000 in
theorem ppin_any (X : Nat → Prop) (c : C) (no : Int) (more : Bool) (hp9 : ∀ p ∈ c.l, 0 ≤ p.pins ∧ p.pins ≤ 100000) (hl : HasPX w X A cp c.l) (hn : c.l.length = n) (hc : n ≤ cp) (h9 : n ≤ 100000) :
    Calls Try.prog 13 #[.agg #[.slice A n cp, .int .i64 c.h], .int .i64 no, .bool more] w (PinPost X (pinC c no more) w) := by
  obtain ⟨l, h⟩ := c
  simp only at hl hn hp9
  obtain ⟨post, hpe⟩ : ∃ post, PinPost X (pinC ⟨l, h⟩ no more) w = post := ⟨_, rfl⟩
  have HPE := Lib.hid hpe
  show Calls _ _ #[.agg #[.slice A n cp, .int .i64 h], .int .i64 no, .bool more] _ _
  rw [hpe]
  have hB := (Below.refl w.heap.size w).alloc (Nat.le_refl _) (.cells #[.slice A n cp, .int .i64 h] 24)
  have hx := Box2.new w (.slice A n cp) (.int .i64 h) 24
  obtain ⟨g, hg⟩ : ∃ g, w.heap.size = g := ⟨_, rfl⟩
  have hz : (w.alloc (.cells #[.slice A n cp, .int .i64 h] 24)).heap.size = g + 1 := by simp [hg]
  rw [hg] at hx
  generalize hw0 : w.alloc (.cells #[.slice A n cp, .int .i64 h] 24) = wa at hB hx hz
  have hBb := (Below.refl wa.heap.size wa).alloc (Nat.le_refl _) (.cells #[.slice none 0 0, .int .i64 0] 24)
  have hy := Box2.new wa (.slice none 0 0) (.int .i64 0) 24
  rw [hz] at hy
  have hx := hx.below hBb hx.lt
  have hB := hB.trans (hBb.mono hB.size)
  generalize hw1 : wa.alloc (.cells #[.slice none 0 0, .int .i64 0] 24) = wb at hB hx hy
  have hcF := pfind_any (cp := cp) h no 0 (hl.p.below hB (Nat.le_refl _)) hn h9
  have x0 := hx.c0
  have x1 := hx.c1
  clear hpe hBb
  go_enter Try.func13, Try.ntmps13
  go_wp2_with fail
  have HG := Lib.hid hg
  clear hw0 hw1 hg hz
  refine hcF.mono ?_
  rintro e w1 ⟨rfl, hv⟩
  have hx := hx.below hv hx.lt
  have hy := hy.below hv hy.lt
  have hB := hB.trans (hv.mono hB.size)
  clear hcF hv x0 x1
  have x0 := hx.c0
  have x1 := hx.c1
  have y0 := hy.c0
  have y1 := hy.c1
  have f0 := hy.f 0
  have f1 := hy.f 1
  cases hf : findL l no with
  | none =>
    have hge : pinC ⟨l, h⟩ no more = (⟨[], 0⟩, false) := by unfold pinC; simp only [hf]
    have hr : resI (none : Option Nat) = -1 := rfl
    have hg := HG.out
    have hB9 := (hB.setCell (p := ⟨g + 1, 0, none⟩) (by show w.heap.size ≤ g + 1; omega) (.slice none 0 0)).setCell (p := ⟨g + 1, 1, none⟩) (by show w.heap.size ≤ g + 1; omega) (.int .i64 0)
    have H9 := Lib.hid ((hy.set0 (.slice none 0 0)).set1 (.int .i64 0))
    have HE := Lib.hid (show PinPost X (pinC ⟨l, h⟩ no more) w (.returned (.tuple #[.agg #[.slice none 0 0, .int .i64 0], .bool false])) _ from by rw [hge]; exact ⟨_, rfl, clk_none _ _ _, hB9⟩)
    rw [HPE.out] at HE
    rw [hr]
    clear hB hB9 hy hx hl hge hg hf hr hn
    go_wp2
    refine bodyPost_ret (results_pin rfl _ _ (g + 1) _ _ rfl H9.out.c0 H9.out.c1) rfl ?_
    exact HE.out
  | some i =>
    have hi := find_lt hf
    have hp := List.getElem?_eq_getElem hi
    generalize l[i]'hi = p at hp
    rw [hn] at hi
    have hl1 := hl.p.below hB (Nat.le_refl _)
    obtain ⟨b, o, rfl, hlb, d0, d1, d2, d3⟩ := HasP.at hl1 hp
    have hge : pinC ⟨l, h⟩ no more = (⟨l.set i (hold more p), h⟩, true) := by unfold pinC; simp only [hf]; rw [modify_set hp]
    have hr : resI (some i) = (i : Int) := rfl
    rw [hr]
    have hpp := hp9 p (List.mem_of_getElem? hp)
    have hn0 : ¬ (i : Int) < 0 := by omega
    have i1 : (i : Int) < (n : Int) := by omega
    have i0 : (0 : Int) ≤ (i : Int) := by omega
    obtain ⟨gh, hgh⟩ : ∃ gh, w1.heap.size = gh := ⟨_, rfl⟩
    obtain ⟨pn, pd, pr, pp⟩ := p
    simp only at d0 d1 d2 d3 hpp
    -- what stands behind the change of the number
    have HH := Lib.hid (fun (v : Int) (hv : hold more ⟨pn, pd, pr, pp⟩ = ⟨pn, pd, pr, v⟩) => (show
        (Box2 (w1.alloc (.cells #[.int .i64 pn, .string pd, .bool pr, .int .i64 v] 36)) g (.slice (some ⟨b, o, none⟩) n cp) (.int .i64 h)) ∧
        (Box4 (w1.alloc (.cells #[.int .i64 pn, .string pd, .bool pr, .int .i64 v] 36)) gh (.int .i64 pn) (.string pd) (.bool pr) (.int .i64 v)) ∧
        Calls Try.prog 20 #[.agg #[.slice (some ⟨b, o, none⟩) n cp, .int .i64 h], .int .i64 i, .agg #[.int .i64 pn, .string pd, .bool pr, .int .i64 v]] (w1.alloc (.cells #[.int .i64 pn, .string pd, .bool pr, .int .i64 v] 36)) (fun e W => ∃ g5 c5, e = .returned (.agg #[.slice (some ⟨g5, 0, none⟩) n c5, .int .i64 h]) ∧ Box2 W (g + 1) (.slice none 0 0) (.int .i64 0) ∧ Box2 ((W.setCell ⟨g + 1, 0, none⟩ (.slice (some ⟨g5, 0, none⟩) n c5)).setCell ⟨g + 1, 1, none⟩ (.int .i64 h)) (g + 1) (.slice (some ⟨g5, 0, none⟩) n c5) (.int .i64 h) ∧ post (.returned (.tuple #[.agg #[.slice (some ⟨g5, 0, none⟩) n c5, .int .i64 h], .bool true])) ((W.setCell ⟨g + 1, 0, none⟩ (.slice (some ⟨g5, 0, none⟩) n c5)).setCell ⟨g + 1, 1, none⟩ (.int .i64 h))) from by
      have hnew := (Below.refl w1.heap.size w1).alloc (Nat.le_refl _) (.cells #[.int .i64 pn, .string pd, .bool pr, .int .i64 v] 36)
      have hb4 := Box4.new w1 (.int .i64 pn) (.string pd) (.bool pr) (.int .i64 v) 36
      rw [hgh] at hb4
      have hyl := hy.lt
      refine ⟨hx.below hnew hx.lt, hb4, (with_own (cp := cp) h i ⟨pn, pd, pr, v⟩ b o (hl1.below hnew (Nat.le_refl _)) hn h9 hi).mono ?_⟩
      rintro e W ⟨g5, c5, rfl, hown, hv2⟩
      have hy2 := (hy.below hnew hy.lt).below hv2 (Nat.lt_of_lt_of_le hy.lt hnew.size)
      have hg := HG.out
      have hB2 := (hB.trans (hnew.mono hB.size)).trans (hv2.mono (Nat.le_trans hB.size hnew.size))
      have hbar := ((Bar.refl (g + 1) W).setCell 0 (.slice (some ⟨g5, 0, none⟩) n c5)).setCell 1 (.int .i64 h)
      have hB9 := hB2.trans (hbar.below (B := w.heap.size) (by omega) hB2.size)
      have hbs := hB.size
      have hns := hnew.size
      have hown9 := Li.own_bar hown hbar (by omega)
      refine ⟨g5, c5, rfl, hy2, (hy2.set0 _).set1 _, ?_⟩
      rw [← HPE.out, hge, hv]
      exact ⟨_, rfl, own_clk (c := ⟨l.set i ⟨pn, pd, pr, v⟩, h⟩) hown9 (by simp [hn]) (by omega) (by omega), hB9⟩))
    clear hx hy hB hl hn hp hge hf hr y0 y1 f0 f1 hl1
    cases more
    · by_cases hq1 : pp < 1
      · have HA := HH.out (0) (by unfold hold; simp only [Bool.false_eq_true, if_false]; rw [show max 0 (pp - 1) = 0 by omega])
        obtain ⟨hx2, hb4, hC⟩ := HA
        have a0 := hx2.c0
        have a1 := hx2.c1
        have e0 := hb4.c0
        have e1 := hb4.c1
        have e2 := hb4.c2
        have e3 := hb4.c3
        clear HH hx2 hb4
        go_wp2_with fail
        refine hC.mono ?_
        rintro e W ⟨g5, c5, rfl, hy, H9, HE⟩
        have y0 := hy.c0
        have y1 := hy.c1
        have f0 := hy.f 0
        have f1 := hy.f 1
        have H9 := Lib.hid H9
        have HE := Lib.hid HE
        clear hC hy a0 a1 e0 e1 e2 e3
        go_wp2
        refine bodyPost_ret (results_pin rfl _ _ (g + 1) _ _ rfl H9.out.c0 H9.out.c1) rfl ?_
        exact HE.out
      · have HA := HH.out (pp - 1) (by unfold hold; simp only [Bool.false_eq_true, if_false]; rw [show max 0 (pp - 1) = pp - 1 by omega])
        have e9 : IntKind.i64.wrap (pp - 1) = pp - 1 := IntWalk.i64_in _ (by omega)
        obtain ⟨hx2, hb4, hC⟩ := HA
        have a0 := hx2.c0
        have a1 := hx2.c1
        have e0 := hb4.c0
        have e1 := hb4.c1
        have e2 := hb4.c2
        have e3 := hb4.c3
        clear HH hx2 hb4
        go_wp2_with fail
        refine hC.mono ?_
        rintro e W ⟨g5, c5, rfl, hy, H9, HE⟩
        have y0 := hy.c0
        have y1 := hy.c1
        have f0 := hy.f 0
        have f1 := hy.f 1
        have H9 := Lib.hid H9
        have HE := Lib.hid HE
        clear hC hy a0 a1 e0 e1 e2 e3
        go_wp2
        refine bodyPost_ret (results_pin rfl _ _ (g + 1) _ _ rfl H9.out.c0 H9.out.c1) rfl ?_
        exact HE.out
    · have HA := HH.out (pp + 1) (by unfold hold; simp only [if_true])
      have e9 : IntKind.i64.wrap (pp + 1) = pp + 1 := IntWalk.i64_in _ (by omega)
      obtain ⟨hx2, hb4, hC⟩ := HA
      have a0 := hx2.c0
      have a1 := hx2.c1
      have e0 := hb4.c0
      have e1 := hb4.c1
      have e2 := hb4.c2
      have e3 := hb4.c3
      clear HH hx2 hb4
      go_wp2_with fail
      refine hC.mono ?_
      rintro e W ⟨g5, c5, rfl, hy, H9, HE⟩
      have y0 := hy.c0
      have y1 := hy.c1
      have f0 := hy.f 0
      have f1 := hy.f 1
      have H9 := Lib.hid H9
      have HE := Lib.hid HE
      clear hC hy a0 a1 e0 e1 e2 e3
      go_wp2
      refine bodyPost_ret (results_pin rfl _ _ (g + 1) _ _ rfl H9.out.c0 H9.out.c1) rfl ?_
      exact HE.out
end
end Go.Proofs.Ytjjedadhkdpceaa.Cl
