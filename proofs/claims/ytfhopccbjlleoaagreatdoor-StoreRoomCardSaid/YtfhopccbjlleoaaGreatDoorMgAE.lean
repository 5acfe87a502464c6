/- Texts Xci, ClK, ClL, Xcj, Xfp, FrM, FrN, Xha, one behind the other. -/
import Derived.Test.YtfhopccbjlleoaaGreatDoorMgAA
import Derived.Test.YtfhopccbjlleoaaGreatDoorProg
import Derived.KernelRfl
import Derived.Test.YtfhopccbjlleoaaGreatDoorMgAB
import Derived.Test.YtfhopccbjlleoaaGreatDoorMgAD
/- The operations of a condition, each by its number. -/
namespace Go.Proofs.YtfhopccbjlleoaaGreatDoor.Cl
open Lex

noncomputable def gqops : Array Oper := #[{ dst := some 21, op := Op.load 35 (Operand.tmp 2), type := 35, pos := "clock.go:26", after := #[], guard := none },
 { dst := some 22, op := Op.move (Operand.tmp 7), type := 3, pos := "clock.go:26", after := #[], guard := none },
 { dst := some 23, op := Op.load 112 (Operand.tmp 8), type := 112, pos := "clock.go:26", after := #[], guard := none },
 { dst := some 24, op := Op.call { callee := Callee.value (Operand.func 86), args := #[Operand.tmp 21, Operand.tmp 22, Operand.tmp 23], argTypes := #[35, 3, 112] }, type := 35, pos := "clock.go:26", after := #[{ on := 0, ground := Ground.data }, { on := 1, ground := Ground.data }, { on := 2, ground := Ground.data }], guard := none },
 { dst := some 25, op := Op.fieldAddr 112 (Operand.tmp 8) 0, type := 0, pos := "clock.go:26", after := #[{ on := 7, ground := Ground.gcOnly Departure.lateStores }], guard := none },
 { dst := some 26, op := Op.fieldAddr 92 (Operand.tmp 25) 1, type := 0, pos := "clock.go:26", after := #[{ on := 4, ground := Ground.data }, { on := 7, ground := Ground.gcOnly Departure.lateStores }], guard := none },
 { dst := some 27, op := Op.load 9 (Operand.tmp 26), type := 9, pos := "clock.go:26", after := #[{ on := 5, ground := Ground.data }, { on := 7, ground := Ground.gcOnly Departure.lateStores }], guard := none },
 { dst := none, op := Op.store 35 (Operand.tmp 4) (Operand.tmp 24), type := 0, pos := "clock.go:26", after := #[{ on := 3, ground := Ground.data }, { on := 3, ground := Ground.chain }, { on := 0, ground := Ground.phase }, { on := 1, ground := Ground.phase }, { on := 2, ground := Ground.phase }, { on := 3, ground := Ground.phase }, { on := 4, ground := Ground.textOnly Departure.lateStores }, { on := 5, ground := Ground.textOnly Departure.lateStores }, { on := 6, ground := Ground.textOnly Departure.lateStores }], guard := none },
 { dst := some 5, op := Op.assign (Operand.tmp 27), type := 9, pos := "clock.go:26", after := #[{ on := 6, ground := Ground.data }, { on := 7, ground := Ground.chain }, { on := 0, ground := Ground.phase }, { on := 1, ground := Ground.phase }, { on := 2, ground := Ground.phase }, { on := 3, ground := Ground.phase }, { on := 4, ground := Ground.phase }, { on := 5, ground := Ground.phase }, { on := 6, ground := Ground.phase }, { on := 7, ground := Ground.phase }], guard := none },
 { dst := some 6, op := Op.assign (Operand.const (Value.bool true)), type := 4, pos := "clock.go:26", after := #[{ on := 8, ground := Ground.chain }, { on := 0, ground := Ground.phase }, { on := 1, ground := Ground.phase }, { on := 2, ground := Ground.phase }, { on := 3, ground := Ground.phase }, { on := 4, ground := Ground.phase }, { on := 5, ground := Ground.phase }, { on := 6, ground := Ground.phase }, { on := 7, ground := Ground.phase }, { on := 8, ground := Ground.phase }], guard := none }]
def gqcalls : List Nat := [3, 7]
def gqord : List Nat := [0, 1, 2, 4, 5, 6, 3, 7, 8, 9]
theorem gqsel : Region.noSelect gqops = true := by kernel_rfl
theorem gqlex : lexH gqops gqcalls gqord (Array.replicate gqops.size false) = true := by kernel_rfl
theorem gq0 : gqops[0]? = some { dst := some 21, op := Op.load 35 (Operand.tmp 2), type := 35, pos := "clock.go:26", after := #[], guard := none } := by kernel_rfl
theorem gq1 : gqops[1]? = some { dst := some 22, op := Op.move (Operand.tmp 7), type := 3, pos := "clock.go:26", after := #[], guard := none } := by kernel_rfl
theorem gq2 : gqops[2]? = some { dst := some 23, op := Op.load 112 (Operand.tmp 8), type := 112, pos := "clock.go:26", after := #[], guard := none } := by kernel_rfl
theorem gq3 : gqops[3]? = some { dst := some 24, op := Op.call { callee := Callee.value (Operand.func 86), args := #[Operand.tmp 21, Operand.tmp 22, Operand.tmp 23], argTypes := #[35, 3, 112] }, type := 35, pos := "clock.go:26", after := #[{ on := 0, ground := Ground.data }, { on := 1, ground := Ground.data }, { on := 2, ground := Ground.data }], guard := none } := by kernel_rfl
theorem gq4 : gqops[4]? = some { dst := some 25, op := Op.fieldAddr 112 (Operand.tmp 8) 0, type := 0, pos := "clock.go:26", after := #[{ on := 7, ground := Ground.gcOnly Departure.lateStores }], guard := none } := by kernel_rfl
theorem gq5 : gqops[5]? = some { dst := some 26, op := Op.fieldAddr 92 (Operand.tmp 25) 1, type := 0, pos := "clock.go:26", after := #[{ on := 4, ground := Ground.data }, { on := 7, ground := Ground.gcOnly Departure.lateStores }], guard := none } := by kernel_rfl
theorem gq6 : gqops[6]? = some { dst := some 27, op := Op.load 9 (Operand.tmp 26), type := 9, pos := "clock.go:26", after := #[{ on := 5, ground := Ground.data }, { on := 7, ground := Ground.gcOnly Departure.lateStores }], guard := none } := by kernel_rfl
theorem gq7 : gqops[7]? = some { dst := none, op := Op.store 35 (Operand.tmp 4) (Operand.tmp 24), type := 0, pos := "clock.go:26", after := #[{ on := 3, ground := Ground.data }, { on := 3, ground := Ground.chain }, { on := 0, ground := Ground.phase }, { on := 1, ground := Ground.phase }, { on := 2, ground := Ground.phase }, { on := 3, ground := Ground.phase }, { on := 4, ground := Ground.textOnly Departure.lateStores }, { on := 5, ground := Ground.textOnly Departure.lateStores }, { on := 6, ground := Ground.textOnly Departure.lateStores }], guard := none } := by kernel_rfl
theorem gq8 : gqops[8]? = some { dst := some 5, op := Op.assign (Operand.tmp 27), type := 9, pos := "clock.go:26", after := #[{ on := 6, ground := Ground.data }, { on := 7, ground := Ground.chain }, { on := 0, ground := Ground.phase }, { on := 1, ground := Ground.phase }, { on := 2, ground := Ground.phase }, { on := 3, ground := Ground.phase }, { on := 4, ground := Ground.phase }, { on := 5, ground := Ground.phase }, { on := 6, ground := Ground.phase }, { on := 7, ground := Ground.phase }], guard := none } := by kernel_rfl
theorem gq9 : gqops[9]? = some { dst := some 6, op := Op.assign (Operand.const (Value.bool true)), type := 4, pos := "clock.go:26", after := #[{ on := 8, ground := Ground.chain }, { on := 0, ground := Ground.phase }, { on := 1, ground := Ground.phase }, { on := 2, ground := Ground.phase }, { on := 3, ground := Ground.phase }, { on := 4, ground := Ground.phase }, { on := 5, ground := Ground.phase }, { on := 6, ground := Ground.phase }, { on := 7, ground := Ground.phase }, { on := 8, ground := Ground.phase }], guard := none } := by kernel_rfl
end Go.Proofs.YtfhopccbjlleoaaGreatDoor.Cl

/- Pages at hand: the program's Get and Pin, walked. -/
namespace Go.Proofs.YtfhopccbjlleoaaGreatDoor.Cl
open Go.RowKit Pac Lex

theorem px_none (w : World) (X : Nat → Prop) : HasPX w X none 0 [] := ⟨fun h => absurd rfl h, fun h => absurd rfl h, fun _ => ⟨rfl, rfl⟩⟩
theorem clk_none (w : World) (X : Nat → Prop) (k : Nat) : ClkV X ⟨[], 0⟩ k (.agg #[.slice none 0 0, .int .i64 0]) w := ⟨none, 0, 0, rfl, rfl, Nat.le_refl _, px_none w _⟩
section
variable {A : Option Addr} {n cp m : Nat} {w : World}
set_option maxRecDepth 20000 in
set_option maxHeartbeats 3200000 in
theorem pget_any (X : Nat → Prop) (c : C) (no : Int) (hl : HasPX w X A cp c.l) (hn : c.l.length = n) (hc : n ≤ cp) (h9 : n ≤ 100000) :
  Calls Tryz.prog 49 #[.agg #[.slice A n cp, .int .i64 c.h], .int .i64 no] w (GetPost X (getC c no) w) := by
 obtain ⟨l, h⟩ := c
 simp only at hl hn
 obtain ⟨post, hpe⟩ : ∃ post, GetPost X (getC ⟨l, h⟩ no) w = post := ⟨_, rfl⟩
 have HPE := Lib.hid hpe
 show Calls _ _ #[.agg #[.slice A n cp, .int .i64 h], .int .i64 no] _ _
 rw [hpe]
 have hB := (Below.refl w.heap.size w).alloc (Nat.le_refl _) (.cells #[.slice A n cp, .int .i64 h] 35)
 have hx := Box2.new w (.slice A n cp) (.int .i64 h) 35
 obtain ⟨g, hg⟩ : ∃ g, w.heap.size = g := ⟨_, rfl⟩
 have hz : (w.alloc (.cells #[.slice A n cp, .int .i64 h] 35)).heap.size = g + 1 := by simp [hg]
 rw [hg] at hx
 generalize hw0 : w.alloc (.cells #[.slice A n cp, .int .i64 h] 35) = wa at hB hx hz
 have hBb := (Below.refl wa.heap.size wa).alloc (Nat.le_refl _) (.cells #[.slice none 0 0, .int .i64 0] 35)
 have hy := Box2.new wa (.slice none 0 0) (.int .i64 0) 35
 rw [hz] at hy
 have hx := hx.below hBb hx.lt
 have hB := hB.trans (hBb.mono hB.size)
 generalize hw1 : wa.alloc (.cells #[.slice none 0 0, .int .i64 0] 35) = wb at hB hx hy
 have hcF := pfind_any (cp := cp) h no 0 (hl.p.below hB (Nat.le_refl _)) hn h9
 have x0 := hx.c0
 have x1 := hx.c1
 clear hpe hBb
 go_enter Tryz.func49, Tryz.ntmps49
 go_wp2_with fail
 have HG := Lib.hid hg
 clear hw0 hw1 hg hz
 refine hcF.mono ?_
 rintro e w1 ⟨rfl, hv⟩
 have hx := hx.below hv hx.lt
 have hy := hy.below hv hy.lt
 have hB := hB.trans (hv.mono hB.size)
 clear hcF hv x0 x1
 have x0 := hx.c0
 have x1 := hx.c1
 have y0 := hy.c0
 have y1 := hy.c1
 have f0 := hy.f 0
 have f1 := hy.f 1
 cases hf : findL l no with
 | none =>
  have hge : getC ⟨l, h⟩ no = (⟨[], 0⟩, ⟨#[]⟩, false) := by unfold getC; simp only [hf]
  have hr : resI (none : Option Nat) = -1 := rfl
  have hg := HG.out
  have hB9 := (hB.setCell (p := ⟨g + 1, 0, none⟩) (by show w.heap.size ≤ g + 1; omega) (.slice none 0 0)).setCell (p := ⟨g + 1, 1, none⟩) (by show w.heap.size ≤ g + 1; omega) (.int .i64 0)
  have H9 := Lib.hid ((hy.set0 (.slice none 0 0)).set1 (.int .i64 0))
  have HE := Lib.hid (show GetPost X (getC ⟨l, h⟩ no) w (.returned (.tuple #[.agg #[.slice none 0 0, .int .i64 0], .string ⟨#[]⟩, .bool false])) _ from by rw [hge]; exact ⟨_, rfl, clk_none _ _ _, hB9⟩)
  rw [HPE.out] at HE
  rw [hr]
  clear hB hB9 hy hx hl hge hg hf hr hn
  go_wp2
  refine bodyPost_ret (results_get rfl _ _ (g + 1) _ _ rfl H9.out.c0 H9.out.c1) rfl ?_
  exact HE.out
 | some i =>
  have hi := find_lt hf
  have hp := List.getElem?_eq_getElem hi
  generalize l[i]'hi = p at hp
  rw [hn] at hi
  have hl1 := hl.p.below hB (Nat.le_refl _)
  obtain ⟨b, o, rfl, hlb, d0, d1, d2, d3⟩ := HasP.at hl1 hp
  have hge : getC ⟨l, h⟩ no = (⟨l.set i (touch p), h⟩, p.data, true) := by unfold getC; simp only [hf, hp]; rw [modify_set hp]; rfl
  have hr : resI (some i) = (i : Int) := rfl
  rw [hr]
  have hn0 : ¬ (i : Int) < 0 := by omega
  have i1 : (i : Int) < (n : Int) := by omega
  have i0 : (0 : Int) ≤ (i : Int) := by omega
  obtain ⟨gh, hgh⟩ : ∃ gh, w1.heap.size = gh := ⟨_, rfl⟩
  have HX := Lib.hid (And.intro hx (And.intro hy (And.intro hB (And.intro hn (And.intro hp (And.intro hge (And.intro hl1 hgh)))))))
  obtain ⟨pn, pd, pr, pp⟩ := p
  simp only at d0 d1 d2 d3
  clear hx hy hB hl hn hp hge hf hr y0 y1 f0 f1 hl1
  go_wp2_with fail
  obtain ⟨hx, hy, hB, hn, hp, hge, hl1, hgh⟩ := HX.out
  have hnew := (Below.refl w1.heap.size w1).alloc (Nat.le_refl _) (.cells #[.int .i64 pn, .string pd, .bool true, .int .i64 pp] 112)
  have hb4 := Box4.new w1 (.int .i64 pn) (.string pd) (.bool true) (.int .i64 pp) 112
  have hyl := hy.lt
  rw [hgh] at hb4 hyl
  have hx := hx.below hnew hx.lt
  have hy := hy.below hnew hy.lt
  have hB := hB.trans (hnew.mono hB.size)
  have hl1 := hl1.below hnew (Nat.le_refl _)
  generalize w1.alloc (.cells #[.int .i64 pn, .string pd, .bool true, .int .i64 pp] 112) = w2 at hx hy hB hl1 hb4 ⊢
  clear hnew x0 x1 d0 d1 d2 d3 HX hgh hlb
  have hgb := hb4.lt
  have x0 := hx.c0
  have x1 := hx.c1
  have e0 := hb4.c0
  have e1 := hb4.c1
  have e2 := hb4.c2
  have e3 := hb4.c3
  have hdr := (Below.refl w2.heap.size w2).drew
  clear hx hb4
  refine Lex.region_lex (ops := gqops) (calls := gqcalls) gqord (fun W => W.cell? ⟨g, 0, none⟩ = some (.slice (some ⟨b, o, none⟩) n cp) ∧ W.cell? ⟨g, 1, none⟩ = some (.int .i64 (h : Int)) ∧ W.cell? ⟨gh, 0, none⟩ = some (.int .i64 pn) ∧ W.cell? ⟨gh, 1, none⟩ = some (.string pd) ∧ W.cell? ⟨gh, 2, none⟩ = some (.bool true) ∧ W.cell? ⟨gh, 3, none⟩ = some (.int .i64 pp)) (by kernel_rfl) (by kernel_rfl) gqsel (by kernel_rfl) (by kernel_rfl) gqlex (⟨cell_belowB hdr x0, cell_belowB hdr x1, cell_belowB hdr e0, cell_belowB hdr e1, cell_belowB hdr e2, cell_belowB hdr e3⟩) ?_
  unfold gqord
  have x0 := cell_belowB hdr x0
  have x1 := cell_belowB hdr x1
  have e0 := cell_belowB hdr e0
  have e1 := cell_belowB hdr e1
  have e2 := cell_belowB hdr e2
  have e3 := cell_belowB hdr e3
  have hy := hy.below hdr hy.lt
  have hB := hB.trans (hdr.mono hB.size)
  have hl1 := hl1.below hdr (Nat.le_refl _)
  have hszd := hdr.size
  clear hdr
  refine Lex.step_take (.agg #[.slice (some ⟨b, o, none⟩) n cp, .int .i64 (h : Int)]) gq0 rfl (Lex.want_none rfl) (by intro Wx hSw; (try dsimp only at hSw); go_simp; (try (first | (with_reducible rfl) | assumption | rfl))) ?_
  simp only [Act.put, List.setIfInBounds_toArray, List.set_cons_zero, List.set_cons_succ]
  refine Lex.step_take (.int .i64 (i : Int)) gq1 rfl (Lex.want_none rfl) (by intro Wx hSw; (try dsimp only at hSw); go_simp; (try (first | (with_reducible rfl) | assumption | rfl))) ?_
  simp only [Act.put, List.setIfInBounds_toArray, List.set_cons_zero, List.set_cons_succ]
  refine Lex.step_take (.agg #[.int .i64 pn, .string pd, .bool true, .int .i64 pp]) gq2 rfl (Lex.want_none rfl) (by intro Wx hSw; (try dsimp only at hSw); go_simp; (try (first | (with_reducible rfl) | assumption | rfl))) ?_
  simp only [Act.put, List.setIfInBounds_toArray, List.set_cons_zero, List.set_cons_succ]
  refine Lex.step_take (.pointer (some ⟨gh, 0, none⟩)) gq4 rfl (Lex.want_none rfl) (by intro Wx hSw; (try dsimp only at hSw); go_simp; (try (first | (with_reducible rfl) | assumption | rfl))) ?_
  simp only [Act.put, List.setIfInBounds_toArray, List.set_cons_zero, List.set_cons_succ]
  refine Lex.step_take (.pointer (some ⟨gh, 1, none⟩)) gq5 rfl (Lex.want_none rfl) (by intro Wx hSw; (try dsimp only at hSw); go_simp; (try (first | (with_reducible rfl) | assumption | rfl))) ?_
  simp only [Act.put, List.setIfInBounds_toArray, List.set_cons_zero, List.set_cons_succ]
  refine Lex.step_take (.string pd) gq6 rfl (Lex.want_none rfl) (by intro Wx hSw; (try dsimp only at hSw); go_simp; (try (first | (with_reducible rfl) | assumption | rfl))) ?_
  simp only [Act.put, List.setIfInBounds_toArray, List.set_cons_zero, List.set_cons_succ]
  refine Lex.step_call gq3 rfl (Lex.want_none rfl) (fun K hK => ?_)
  go_simp
  refine (with_own (cp := cp) h i ⟨pn, pd, true, pp⟩ b o hl1 hn h9 hi).mono ?_
  rintro e y1 ⟨g5, c5, rfl, hown, hv⟩
  have hbs := Nat.le_trans hgb (Nat.le_trans (Nat.le_of_eq rfl) hszd)
  have x0 := cell_belowB hv x0
  have x1 := cell_belowB hv x1
  have e0 := cell_belowB hv e0
  have e1 := cell_belowB hv e1
  have e2 := cell_belowB hv e2
  have e3 := cell_belowB hv e3
  have hy := hy.below hv hy.lt
  have hB := hB.trans (hv.mono hB.size)
  clear hv hl1
  refine hK.out _ _ _ (fun _ h => h) ⟨x0, x1, e0, e1, e2, e3⟩ ?_
  clear hK K
  try simp only [Act.put, List.setIfInBounds_toArray, List.set_cons_zero, List.set_cons_succ]
  refine Lex.step_call gq7 rfl (Lex.want_none rfl) (fun K hK => ?_)
  have hbar := ((Bar.refl (g + 1) y1).setCell 0 (.slice (some ⟨g5, 0, none⟩) n c5)).setCell 1 (.int .i64 h)
  have k0 := hy.c0
  have k1 := hy.c1
  have kf := hy.f
  go_simp
  clear k0 k1 kf
  have x0 := (hbar.cell (p := ⟨g, 0, none⟩) (World.block_lt_of_cell? _ _ x0) (by show g ≠ g + 1; omega)).trans x0
  have x1 := (hbar.cell (p := ⟨g, 1, none⟩) (World.block_lt_of_cell? _ _ x1) (by show g ≠ g + 1; omega)).trans x1
  have e0 := (hbar.cell (p := ⟨gh, 0, none⟩) (World.block_lt_of_cell? _ _ e0) (by show gh ≠ g + 1; omega)).trans e0
  have e1 := (hbar.cell (p := ⟨gh, 1, none⟩) (World.block_lt_of_cell? _ _ e1) (by show gh ≠ g + 1; omega)).trans e1
  have e2 := (hbar.cell (p := ⟨gh, 2, none⟩) (World.block_lt_of_cell? _ _ e2) (by show gh ≠ g + 1; omega)).trans e2
  have e3 := (hbar.cell (p := ⟨gh, 3, none⟩) (World.block_lt_of_cell? _ _ e3) (by show gh ≠ g + 1; omega)).trans e3
  have hy9 := (hy.set0 (.slice (some ⟨g5, 0, none⟩) n c5)).set1 (.int .i64 h)
  have hB9 := hB.trans (hbar.below (B := w.heap.size) (by have := HG.out; omega) hB.size)
  have hown9 := Li.own_bar hown hbar (by omega)
  refine hK.out _ _ _ (fun _ h => h) ⟨x0, x1, e0, e1, e2, e3⟩ ?_
  clear hK K
  try simp only [Act.put, List.setIfInBounds_toArray, List.set_cons_zero, List.set_cons_succ]
  refine Lex.step_take (.string pd) gq8 rfl (Lex.want_none rfl) (by intro Wx hSw; (try dsimp only at hSw); go_simp; (try (first | (with_reducible rfl) | assumption | rfl))) ?_
  simp only [Act.put, List.setIfInBounds_toArray, List.set_cons_zero, List.set_cons_succ]
  refine Lex.step_take (.bool true) gq9 rfl (Lex.want_none rfl) (by intro Wx hSw; (try dsimp only at hSw); go_simp; (try (first | (with_reducible rfl) | assumption | rfl))) ?_
  simp only [Act.put, List.setIfInBounds_toArray, List.set_cons_zero, List.set_cons_succ]
  refine NoPanic.normal ?_
  have H9 := Lib.hid hy9
  have hln : (l.set i (touch ⟨pn, pd, pr, pp⟩)).length = n := by simp [hn]
  have HE := Lib.hid (show GetPost X (getC ⟨l, h⟩ no) w (.returned (.tuple #[.agg #[.slice (some ⟨g5, 0, none⟩) n c5, .int .i64 h], .string pd, .bool true])) _ from by rw [hge]; exact ⟨_, rfl, own_clk (c := ⟨l.set i (touch ⟨pn, pd, pr, pp⟩), h⟩) hown9 hln (by omega) (by have := HG.out; omega), hB9⟩)
  rw [HPE.out] at HE
  clear x0 x1 e0 e1 e2 e3 hy hB hown hbar hy9 hB9 hown9 hge hp hn
  go_wp2
  refine bodyPost_ret (results_get rfl _ _ (g + 1) _ _ rfl H9.out.c0 H9.out.c1) rfl ?_
  exact HE.out
end
end Go.Proofs.YtfhopccbjlleoaaGreatDoor.Cl

/- Pages at hand: the program's turn: the hand goes round about, walked. -/
namespace Go.Proofs.YtfhopccbjlleoaaGreatDoor.Cl
open Go.RowKit Pac Lex

/-- What holds while the hand goes round: the pages are in a row of the call's own; the new one is in a variable. -/
structure TurnM (w : World) (g n base : Nat) (z : P) (l : List P) (h g5 c5 : Nat) (W : World) : Prop where
 own : W.ownsRow base 112 4 (.slice (some ⟨g5, 0, none⟩) n c5) n (Li.cellsL cellsP l)
 x : Box2 W g (.slice (some ⟨g5, 0, none⟩) n c5) (.int .i64 h)
 p : Box4 W (g + 1) (.int .i64 z.no) (.string z.data) (.bool z.ref) (.int .i64 z.pins)
 y : Box2 W (g + 2) (.slice none 0 0) (.int .i64 0)
 B : Below w.heap.size w W
 bs : base ≤ W.heap.size
section
variable {w W W' : World} {g n base h h2 g5 c5 i : Nat} {z p : P} {l : List P}
theorem TurnM.below (m : TurnM w g n base z l h g5 c5 W) (hb : Below W.heap.size W W') : TurnM w g n base z l h g5 c5 W' :=
 ⟨Li.own_below m.own hb (Nat.le_refl _), m.x.below hb m.x.lt, m.p.below hb m.p.lt, m.y.below hb m.y.lt, m.B.trans (hb.mono m.B.size), Nat.le_trans m.bs hb.size⟩
theorem TurnM.lt (m : TurnM w g n base z l h g5 c5 W) : base ≤ g5 ∧ g5 < W.heap.size := m.own.lt g5 rfl
theorem TurnM.at (m : TurnM w g n base z l h g5 c5 W) {i : Nat} {p : P} (hp : l[i]? = some p) : W.cell? ⟨g5, i * 4, none⟩ = some (.int .i64 p.no) ∧ W.cell? ⟨g5, i * 4 + 1, none⟩ = some (.string p.data) ∧ W.cell? ⟨g5, i * 4 + 2, none⟩ = some (.bool p.ref) ∧ W.cell? ⟨g5, i * 4 + 3, none⟩ = some (.int .i64 p.pins) := by
 have hlt := (List.getElem?_eq_some_iff.1 hp).1
 have hl := m.own.1
 rw [Li.cellsL_len cellsP_len] at hl
 have key : ∀ t (ht : t < 4) v, (cellsP p)[t]? = some v → W.cell? ⟨g5, i * 4 + t, none⟩ = some v := fun t ht v hv => by
  have h1 := m.own.cellAt (i * 4 + t) (by omega)
  rw [Li.cellsL_at cellsP_len l i p hp t v hv] at h1
  exact h1
 exact ⟨key 0 (by decide) _ rfl, key 1 (by decide) _ rfl, key 2 (by decide) _ rfl, key 3 (by decide) _ rfl⟩
theorem TurnM.hand (m : TurnM w g n base z l h g5 c5 W) (hg : w.heap.size = g) (hb : g + 3 ≤ base) (h2 : Nat) : TurnM w g n base z l h2 g5 c5 (W.setCell ⟨g, 1, none⟩ (.int .i64 h2)) :=
 have hbar := (Bar.refl g W).setCell 1 (.int .i64 h2)
 ⟨Li.own_bar m.own hbar (by omega), m.x.set1 _, m.p.bar hbar (by omega), m.y.bar hbar (by omega), m.B.trans (hbar.below (B := w.heap.size) (Nat.le_of_eq hg) m.B.size), Nat.le_trans m.bs hbar.size⟩
theorem TurnM.noref (m : TurnM w g n base z l h g5 c5 W) (hg : w.heap.size = g) (hb : g + 3 ≤ base) (hp : l[i]? = some p) : TurnM w g n base z (l.set i (setRef false p)) h g5 c5 (W.setCell ⟨g5, i * 4 + 2, none⟩ (.bool false)) := by
 have hbar := (Bar.refl g5 W).setCell (i * 4 + 2) (.bool false)
 have h5 := m.lt
 have h1 := (m.own.stored (i * 4 + 2) (.bool false)).1
 rw [cells_modify (f := setRef false) cellsP_len (by decide) hp rfl, modify_set hp] at h1
 exact ⟨h1, m.x.bar hbar (by omega), m.p.bar hbar (by omega), m.y.bar hbar (by omega), m.B.trans (hbar.below (B := w.heap.size) (by omega) m.B.size), Nat.le_trans m.bs hbar.size⟩
end
/-- What turn answers: the row is its own. -/
def TurnPost (R : List P × Nat) (w : World) (e : Ending) (w' : World) : Prop := WithPost (R.2 : Int) 8 R.1 w e w'
section
variable {n cp m : Nat} {w : World}
set_option maxRecDepth 20000 in
set_option maxHeartbeats 6400000 in
theorem turn_any (l : List P) (h : Nat) (z : P) (b o : Nat) (hl : HasP w 0 (some ⟨b, o, none⟩) l) (hn : l.length = 8) (hh8 : h < 8) :
  Calls Tryz.prog 92 #[.agg #[.slice (some ⟨b, o, none⟩) 8 cp, .int .i64 h], .agg #[.int .i64 z.no, .string z.data, .bool z.ref, .int .i64 z.pins]] w (TurnPost (spinL z 16 l h) w) := by
 obtain ⟨R, hR⟩ : ∃ R, spinL z 16 l h = R := ⟨_, rfl⟩
 rw [hR]
 obtain ⟨post, hpe⟩ : ∃ post, TurnPost R w = post := ⟨_, rfl⟩
 have HPE := Lib.hid hpe
 rw [hpe]
 have HRR := Lib.hid hR
 clear hpe hR
 have hB := (Below.refl w.heap.size w).alloc (Nat.le_refl _) (.cells #[.slice (some ⟨b, o, none⟩) 8 cp, .int .i64 h] 35)
 have hx := Box2.new w (.slice (some ⟨b, o, none⟩) 8 cp) (.int .i64 h) 35
 obtain ⟨g, hg⟩ : ∃ g, w.heap.size = g := ⟨_, rfl⟩
 have hz : (w.alloc (.cells #[.slice (some ⟨b, o, none⟩) 8 cp, .int .i64 h] 35)).heap.size = g + 1 := by simp [hg]
 rw [hg] at hx
 generalize hw0 : w.alloc (.cells #[.slice (some ⟨b, o, none⟩) 8 cp, .int .i64 h] 35) = wa at hB hx hz
 have hBb := (Below.refl wa.heap.size wa).alloc (Nat.le_refl _) (.cells #[.int .i64 z.no, .string z.data, .bool z.ref, .int .i64 z.pins] 112)
 have hp := Box4.new wa (.int .i64 z.no) (.string z.data) (.bool z.ref) (.int .i64 z.pins) 112
 have hz2 : (wa.alloc (.cells #[.int .i64 z.no, .string z.data, .bool z.ref, .int .i64 z.pins] 112)).heap.size = g + 2 := by simp [hz]
 rw [hz] at hp
 have hx := hx.below hBb hx.lt
 have hB := hB.trans (hBb.mono hB.size)
 generalize hw1 : wa.alloc (.cells #[.int .i64 z.no, .string z.data, .bool z.ref, .int .i64 z.pins] 112) = wb at hB hx hp hz2
 have hBc := (Below.refl wb.heap.size wb).alloc (Nat.le_refl _) (.cells #[.slice none 0 0, .int .i64 0] 35)
 have hy := Box2.new wb (.slice none 0 0) (.int .i64 0) 35
 have hz3 : g + 3 ≤ (wb.alloc (.cells #[.slice none 0 0, .int .i64 0] 35)).heap.size := by simp [hz2]
 rw [hz2] at hy
 have hx := hx.below hBc hx.lt
 have hp := hp.below hBc hp.lt
 have hB := hB.trans (hBc.mono hB.size)
 generalize hw2 : wb.alloc (.cells #[.slice none 0 0, .int .i64 0] 35) = wq at hB hx hp hy hz3
 have hCl := clone_some (cp := cp) b o (hl.below hB (Nat.le_refl _)) hn (by omega)
 have x0 := hx.c0
 have HX := Lib.hid (And.intro hx (And.intro hp (And.intro hy (And.intro hB (And.intro hz3 (And.intro hg hn))))))
 clear hx hp hy hB hl hBb hBc hn hz3
 obtain ⟨zn, zd, zr, zp⟩ := z
 go_enter Tryz.func92, Tryz.ntmps92
 go_wp2_with fail
 clear hw0 hw1 hw2 hz hz2 hg
 refine hCl.mono ?_
 rintro e y6 ⟨v6, rfl, hown, hb6⟩
 clear hCl x0
 obtain ⟨hx, hp, hy, hB, hz3, hg, hn⟩ := HX.out
 obtain ⟨g5, c5, rfl, hg5, hgl⟩ := hown.form (by omega)
 have hB := hB.trans (hb6.mono hB.size)
 have hx := hx.below hb6 hx.lt
 have hp := hp.below hb6 hp.lt
 have hy := hy.below hb6 hy.lt
 have hbs := hb6.size
 obtain ⟨base, hbase⟩ : ∃ base, wq.heap.size = base := ⟨_, rfl⟩
 rw [hbase] at hown hz3 hbs hg5
 have x0 := hx.c0
 have x1 := hx.c1
 have xf := hx.f 0
 have hbar := (Bar.refl g y6).setCell 0 (.slice (some ⟨g5, 0, none⟩) 8 c5)
 have hM : TurnM w g 8 base ⟨zn, zd, zr, zp⟩ l h g5 c5 (y6.setCell ⟨g, 0, none⟩ (.slice (some ⟨g5, 0, none⟩) 8 c5)) := ⟨Li.own_bar hown hbar (by omega), hx.set0 _, hp.bar hbar (by omega), hy.bar hbar (by omega), hB.trans (hbar.below (B := w.heap.size) (by omega) hB.size), Nat.le_trans hbs hbar.size⟩
 have hcP := points_any (A := some ⟨g5, 0, none⟩) (n := 8) (cp := c5) (w := y6.setCell ⟨g, 0, none⟩ (.slice (some ⟨g5, 0, none⟩) 8 c5)) h
 have HG := Lib.hid (And.intro hg hz3)
 have HN := Lib.hid hn
 have HM := Lib.hid hM
 have z0 := hM.x.c0
 have z1 := hM.x.c1
 clear hx hp hy hB hown hbar hM HX hg hn hb6 hbase hz3 hbs
 go_wp2_with fail
 refine hcP.mono ?_
 rintro e y7 ⟨bb, rfl, hbb, hv⟩
 obtain rfl : bb = true := hbb.2 ⟨by omega, by omega⟩
 have hM := HM.out.below hv
 have z0 := hM.x.c0
 have HM := Lib.hid hM
 clear hcP hbb hv x0 x1 xf hM z1
 go_wp2
 clear z0
 go_loopw [5, 6, 19] (fun _ _ i wr => ∃ (k hk : Nat) (lk : List P), k ≤ 16 ∧ i = .int .i64 k ∧ hk < 8 ∧ Hid (lk.length = 8 ∧ spinL ⟨zn, zd, zr, zp⟩ (16 - k) lk hk = R) ∧ TurnM w g 8 base ⟨zn, zd, zr, zp⟩ lk hk g5 c5 wr) (fun _ _ i _ => 16 - (intOf i).toNat)
 case atStart => exact ⟨0, h, l, Nat.zero_le _, rfl, hh8, Lib.hid ⟨HN.out, HRR.out⟩, HM.out⟩
 case round =>
  obtain ⟨k, hk, lk, hk16, rfl, hk8, HS, hM⟩ := hrel
  have hgw := HG.out.1
  have hgb := HG.out.2
  by_cases hlt : k < 16
  ·have hp := List.getElem?_eq_getElem (l := lk) (i := hk) (by rw [HS.out.1]; exact hk8)
   generalize (lk[hk]'(by rw [HS.out.1]; exact hk8)) = p at hp
   obtain ⟨h2, hh2⟩ : ∃ h2, (hk + 1) % 8 = h2 := ⟨_, rfl⟩
   have hh28 : h2 < 8 := by omega
   have t1 : ((hk : Int) + 1).tmod 8 = (h2 : Int) := by rw [Int.tmod_eq_emod_of_nonneg (by omega)]; omega
   have e9 : IntKind.i64.wrap ((hk : Int) + 1) = (hk : Int) + 1 := IntWalk.i64_in _ (by omega)
   obtain ⟨pn, pd, pr, pp⟩ := p
   obtain ⟨d0, d1, d2, d3⟩ := hM.at hp
   simp only at d0 d1 d2 d3
   have hg5' := hM.lt
   have hnew := (Below.refl wr.heap.size wr).alloc (Nat.le_refl _) (.cells #[.int .i64 pn, .string pd, .bool pr, .int .i64 pp] 112)
   have hb4 := Box4.new wr (.int .i64 pn) (.string pd) (.bool pr) (.int .i64 pp) 112
   obtain ⟨go, hgo⟩ : ∃ go, wr.heap.size = go := ⟨_, rfl⟩
   rw [hgo] at hb4 hg5'
   have hMa := hM.below hnew
   have hM2 := hMa.hand hgw hgb h2
   have hgo2 : g + 3 ≤ go := by have := hM.bs; omega
   have hb42 := hb4.bar ((Bar.refl g (wr.alloc (.cells #[.int .i64 pn, .string pd, .bool pr, .int .i64 pp] 112))).setCell 1 (.int .i64 h2)) (by omega)
   have x0 := hM.x.c0
   have x1 := hM.x.c1
   have xa0 := hMa.x.c0
   have xa1 := hMa.x.c1
   have xf1 := hMa.x.f 1
   have o3 := hb42.c3
   have i1 : (hk : Int) < 8 := by omega
   have i0 : (0 : Int) ≤ (hk : Int) := by omega
   have HP := Lib.hid (And.intro hp hh2)
   have HM2 := Lib.hid (And.intro hM2 hb42)
   have H16 : Hid (16 - k = (16 - (k + 1)) + 1) := Lib.hid (by omega)
   clear hp hh2 hM2 hb42 hM hb4 hMa hnew
   go_upto_region 9 with fail
   obtain ⟨hM2, hb42⟩ := HM2.out
   clear x0 x1 xa0 xa1 xf1 o3 HM2 t1 e9 d0 d1 d2 d3 hgo
   generalize (wr.alloc (.cells #[.int .i64 pn, .string pd, .bool pr, .int .i64 pp] 112)).setCell ⟨g, 1, none⟩ (.int .i64 h2) = ws at hM2 hb42 ⊢
   obtain ⟨d0, d1, d2, d3⟩ := hM2.at HP.out.1
   simp only at d0 d1 d2 d3
   have z0 := hM2.x.c0
   have z1 := hM2.x.c1
   have df := hM2.own.frozenAt
   have o2 := hb42.c2
   have o3 := hb42.c3
   have HM2 := Lib.hid (And.intro hM2 hb42)
   clear hM2 hb42
   by_cases c1 : 0 < pp
   ·have HS2 : Hid (lk.length = 8 ∧ spinL ⟨zn, zd, zr, zp⟩ (16 - (k + 1)) lk h2 = R) := Lib.hid ⟨HS.out.1, by
     have h := HS.out.2
     rw [H16.out, spin_pass HP.out.1 c1, HS.out.1, HP.out.2] at h
     exact h⟩
    go_wp2
    go_roundw
    case rel => exact ⟨k + 1, h2, lk, by omega, by go_num, hh28, HS2, HM2.out.1⟩
    case measure => simp [intOf]; omega
   ·have c1' : ¬ (0 : Int) < pp := c1
    cases pr
    ·have HV : Hid (R = (lk.set hk ⟨zn, zd, zr, zp⟩, h2)) := Lib.hid (by
      have h := HS.out.2
      rw [H16.out, spin_take HP.out.1 c1 rfl, HS.out.1, HP.out.2] at h
      exact h.symm)
     have hown8 := own_whole HM2.out.1.own HP.out.1 ⟨zn, zd, zr, zp⟩
     have hbar2 := ((((Bar.refl g5 ws).setCell (hk * 4) (.int .i64 zn)).setCell (hk * 4 + 1) (.string zd)).setCell (hk * 4 + 2) (.bool zr)).setCell (hk * 4 + 3) (.int .i64 zp)
     have hx8 := HM2.out.1.x.bar hbar2 (by omega)
     have hy8 := HM2.out.1.y.bar hbar2 (by omega)
     have hB8 := HM2.out.1.B.trans (hbar2.below (B := w.heap.size) (by omega) HM2.out.1.B.size)
     have e0 := HM2.out.1.p.c0
     have e1 := HM2.out.1.p.c1
     have e2 := HM2.out.1.p.c2
     have e3 := HM2.out.1.p.c3
     have q0 := hx8.c0
     have q1 := hx8.c1
     have r0 := hy8.c0
     have r1 := hy8.c1
     have rf0 := hy8.f 0
     have rf1 := hy8.f 1
     have hbar3 := ((Bar.refl (g + 2) (((((ws.setCell ⟨g5, hk * 4, none⟩ (.int .i64 zn)).setCell ⟨g5, hk * 4 + 1, none⟩ (.string zd)).setCell ⟨g5, hk * 4 + 2, none⟩ (.bool zr)).setCell ⟨g5, hk * 4 + 3, none⟩ (.int .i64 zp)))).setCell 0 (.slice (some ⟨g5, 0, none⟩) 8 c5)).setCell 1 (.int .i64 h2)
     have hB9 := hB8.trans (hbar3.below (B := w.heap.size) (by omega) hB8.size)
     have H9 := Lib.hid ((hy8.set0 (.slice (some ⟨g5, 0, none⟩) 8 c5)).set1 (.int .i64 h2))
     have hown9 := Li.own_bar hown8 hbar3 (by omega)
     have HE := Lib.hid (show TurnPost R w (.returned (.agg #[.slice (some ⟨g5, 0, none⟩) 8 c5, .int .i64 h2])) _ from by rw [HV.out]; exact ⟨g5, c5, rfl, Li.own_base hown9 (by omega), hB9⟩)
     rw [HPE.out] at HE
     clear hown8 hbar2 hx8 hy8 hB8 hbar3 hB9 hown9 hg5'
     go_wp2
     refine bodyPost_ret (results_clock rfl _ _ (g + 2) _ _ rfl H9.out.c0 H9.out.c1) rfl ?_
     exact HE.out
    ·have HS2 : Hid ((lk.set hk (setRef false ⟨pn, pd, true, pp⟩)).length = 8 ∧ spinL ⟨zn, zd, zr, zp⟩ (16 - (k + 1)) (lk.set hk (setRef false ⟨pn, pd, true, pp⟩)) h2 = R) := Lib.hid ⟨by rw [List.length_set]; exact HS.out.1, by
      have h := HS.out.2
      rw [H16.out, spin_clear HP.out.1 c1 rfl, HS.out.1, HP.out.2] at h
      exact h⟩
     have HM3 := Lib.hid (HM2.out.1.noref hgw hgb HP.out.1)
     go_wp2
     go_roundw
     case rel => exact ⟨k + 1, h2, lk.set hk (setRef false ⟨pn, pd, true, pp⟩), by omega, by go_num, hh28, HS2, HM3.out⟩
     case measure => simp [intOf]; omega
  ·obtain rfl : k = 16 := by omega
   have HV : Hid (R = (lk, hk)) := Lib.hid HS.out.2.symm
   have x0 := hM.x.c0
   have x1 := hM.x.c1
   have r0 := hM.y.c0
   have r1 := hM.y.c1
   have rf0 := hM.y.f 0
   have rf1 := hM.y.f 1
   have hlt5 := hM.lt
   have hbar3 := ((Bar.refl (g + 2) wr).setCell 0 (.slice (some ⟨g5, 0, none⟩) 8 c5)).setCell 1 (.int .i64 hk)
   have hB9 := hM.B.trans (hbar3.below (B := w.heap.size) (by omega) hM.B.size)
   have H9 := Lib.hid ((hM.y.set0 (.slice (some ⟨g5, 0, none⟩) 8 c5)).set1 (.int .i64 hk))
   have hown9 := Li.own_bar hM.own hbar3 (by omega)
   have HE := Lib.hid (show TurnPost R w (.returned (.agg #[.slice (some ⟨g5, 0, none⟩) 8 c5, .int .i64 hk])) _ from by rw [HV.out]; exact ⟨g5, c5, rfl, Li.own_base hown9 (by omega), hB9⟩)
   rw [HPE.out] at HE
   clear hM hbar3 hB9 hown9 hlt5
   go_wp2
   refine bodyPost_ret (results_clock rfl _ _ (g + 2) _ _ rfl H9.out.c0 H9.out.c1) rfl ?_
   exact HE.out
end
end Go.Proofs.YtfhopccbjlleoaaGreatDoor.Cl

/- The operations of drawn regions, each by its number; the trees of their orders. -/
namespace Go.Proofs.YtfhopccbjlleoaaGreatDoor.Cl
open Lex

noncomputable def pqops : Array Oper := #[{ dst := some 30, op := Op.fieldAddr 35 (Operand.tmp 2) 0, type := 0, pos := "clock.go:37", after := #[], guard := none },
 { dst := some 31, op := Op.load 33 (Operand.tmp 30), type := 33, pos := "clock.go:37", after := #[{ on := 0, ground := Ground.data }], guard := none },
 { dst := some 32, op := Op.call { callee := Callee.value (Operand.func 91), args := #[Operand.tmp 31], argTypes := #[33] }, type := 33, pos := "clock.go:37", after := #[{ on := 1, ground := Ground.data }], guard := none },
 { dst := some 33, op := Op.load 112 (Operand.tmp 5), type := 112, pos := "clock.go:37", after := #[], guard := none },
 { dst := some 34, op := Op.buildSlice 33 1 #[(0, Operand.tmp 33)], type := 33, pos := "clock.go:37", after := #[{ on := 3, ground := Ground.data }], guard := none }]
def pqtree : Tr := (.op 0 (.op 1 (.op 3 (.alt 2 (.alt 4 .fin .fin) (.alt 4 (.alt 2 .fin .fin) .fin)))))
theorem pqsel : Region.noSelect pqops = true := by kernel_rfl
theorem pqlex : lexT pqops pqops.size [] pqtree (Array.replicate pqops.size false) = true := by kernel_rfl
theorem pq0 : pqops[0]? = some { dst := some 30, op := Op.fieldAddr 35 (Operand.tmp 2) 0, type := 0, pos := "clock.go:37", after := #[], guard := none } := by kernel_rfl
theorem pq1 : pqops[1]? = some { dst := some 31, op := Op.load 33 (Operand.tmp 30), type := 33, pos := "clock.go:37", after := #[{ on := 0, ground := Ground.data }], guard := none } := by kernel_rfl
theorem pq2 : pqops[2]? = some { dst := some 32, op := Op.call { callee := Callee.value (Operand.func 91), args := #[Operand.tmp 31], argTypes := #[33] }, type := 33, pos := "clock.go:37", after := #[{ on := 1, ground := Ground.data }], guard := none } := by kernel_rfl
theorem pq3 : pqops[3]? = some { dst := some 33, op := Op.load 112 (Operand.tmp 5), type := 112, pos := "clock.go:37", after := #[], guard := none } := by kernel_rfl
theorem pq4 : pqops[4]? = some { dst := some 34, op := Op.buildSlice 33 1 #[(0, Operand.tmp 33)], type := 33, pos := "clock.go:37", after := #[{ on := 3, ground := Ground.data }], guard := none } := by kernel_rfl
noncomputable def pqraw : Array Oper := #[{ dst := some 30, op := Op.fieldAddr 35 (Operand.tmp 2) 0, type := 0, pos := "clock.go:37", after := #[], guard := none },
 { dst := some 31, op := Op.load 33 (Operand.tmp 30), type := 33, pos := "clock.go:37", after := #[{ on := 0, ground := Ground.data }], guard := none },
 { dst := some 32, op := Op.call { callee := Callee.value (Operand.func 91), args := #[Operand.tmp 31], argTypes := #[33] }, type := 33, pos := "clock.go:37", after := #[{ on := 1, ground := Ground.data }], guard := none },
 { dst := some 33, op := Op.load 112 (Operand.tmp 5), type := 112, pos := "clock.go:37", after := #[], guard := none },
 { dst := some 34, op := Op.buildSlice 33 1 #[(0, Operand.tmp 33)], type := 33, pos := "clock.go:37", after := #[{ on := 3, ground := Ground.data }], guard := none },
 { dst := some 35, op := Op.call { callee := Callee.builtin Builtin.append, args := #[Operand.tmp 32, Operand.tmp 34], argTypes := #[33, 33] }, type := 33, pos := "clock.go:37", after := #[{ on := 2, ground := Ground.data }, { on := 4, ground := Ground.data }, { on := 2, ground := Ground.chain }], guard := none },
 { dst := some 36, op := Op.fieldAddr 35 (Operand.tmp 2) 0, type := 0, pos := "clock.go:37", after := #[{ on := 0, ground := Ground.phase }, { on := 1, ground := Ground.phase }, { on := 2, ground := Ground.phase }, { on := 3, ground := Ground.phase }, { on := 4, ground := Ground.phase }, { on := 5, ground := Ground.phase }], guard := none },
 { dst := none, op := Op.store 33 (Operand.tmp 36) (Operand.tmp 35), type := 0, pos := "clock.go:37", after := #[{ on := 6, ground := Ground.data }, { on := 5, ground := Ground.data }, { on := 5, ground := Ground.chain }, { on := 0, ground := Ground.phase }, { on := 1, ground := Ground.phase }, { on := 2, ground := Ground.phase }, { on := 3, ground := Ground.phase }, { on := 4, ground := Ground.phase }, { on := 5, ground := Ground.phase }], guard := none }]
theorem pqcut : pqops = pqraw.extract 0 5 := by kernel_rfl
theorem pqsize : pqraw.size = 8 := by kernel_rfl
theorem pqrsel : Region.noSelect pqraw = true := by kernel_rfl
theorem pqtlex : lexH pqraw [5, 7] [5, 6, 7] (extL (Array.replicate 5 true) pqraw.size) = true := by kernel_rfl
theorem pqt5 : pqraw[5]? = some { dst := some 35, op := Op.call { callee := Callee.builtin Builtin.append, args := #[Operand.tmp 32, Operand.tmp 34], argTypes := #[33, 33] }, type := 33, pos := "clock.go:37", after := #[{ on := 2, ground := Ground.data }, { on := 4, ground := Ground.data }, { on := 2, ground := Ground.chain }], guard := none } := by kernel_rfl
theorem pqt6 : pqraw[6]? = some { dst := some 36, op := Op.fieldAddr 35 (Operand.tmp 2) 0, type := 0, pos := "clock.go:37", after := #[{ on := 0, ground := Ground.phase }, { on := 1, ground := Ground.phase }, { on := 2, ground := Ground.phase }, { on := 3, ground := Ground.phase }, { on := 4, ground := Ground.phase }, { on := 5, ground := Ground.phase }], guard := none } := by kernel_rfl
theorem pqt7 : pqraw[7]? = some { dst := none, op := Op.store 33 (Operand.tmp 36) (Operand.tmp 35), type := 0, pos := "clock.go:37", after := #[{ on := 6, ground := Ground.data }, { on := 5, ground := Ground.data }, { on := 5, ground := Ground.chain }, { on := 0, ground := Ground.phase }, { on := 1, ground := Ground.phase }, { on := 2, ground := Ground.phase }, { on := 3, ground := Ground.phase }, { on := 4, ground := Ground.phase }, { on := 5, ground := Ground.phase }], guard := none } := by kernel_rfl
end Go.Proofs.YtfhopccbjlleoaaGreatDoor.Cl

/- The operations of a condition, each by its number. -/
namespace Go.Proofs.YtfhopccbjlleoaaGreatDoor.Fr
open Lex

noncomputable def fpops : Array Oper := #[{ dst := some 19, op := Op.fieldAddr 83 (Operand.tmp 1) 2, type := 0, pos := "frame.go:40", after := #[], guard := none },
 { dst := some 20, op := Op.load 4 (Operand.tmp 19), type := 4, pos := "frame.go:40", after := #[{ on := 0, ground := Ground.data }], guard := none },
 { dst := some 21, op := Op.call { callee := Callee.value (Operand.func 137), args := #[Operand.tmp 20], argTypes := #[4] }, type := 9, pos := "frame.go:40", after := #[{ on := 1, ground := Ground.data }], guard := none },
 { dst := some 22, op := Op.fieldAddr 83 (Operand.tmp 1) 0, type := 0, pos := "frame.go:40", after := #[], guard := none },
 { dst := some 23, op := Op.load 3 (Operand.tmp 22), type := 3, pos := "frame.go:40", after := #[{ on := 3, ground := Ground.data }], guard := none },
 { dst := some 24, op := Op.call { callee := Callee.value (Operand.func 110), args := #[Operand.tmp 23], argTypes := #[3] }, type := 9, pos := "frame.go:40", after := #[{ on := 4, ground := Ground.data }, { on := 2, ground := Ground.chain }], guard := none },
 { dst := some 25, op := Op.binOp BinOp.add 9 (Operand.tmp 21) (Operand.tmp 24) 9, type := 9, pos := "frame.go:40", after := #[{ on := 2, ground := Ground.data }, { on := 5, ground := Ground.data }], guard := none },
 { dst := some 26, op := Op.fieldAddr 83 (Operand.tmp 1) 1, type := 0, pos := "frame.go:40", after := #[], guard := none },
 { dst := some 27, op := Op.load 3 (Operand.tmp 26), type := 3, pos := "frame.go:40", after := #[{ on := 7, ground := Ground.data }], guard := none },
 { dst := some 28, op := Op.call { callee := Callee.value (Operand.func 110), args := #[Operand.tmp 27], argTypes := #[3] }, type := 9, pos := "frame.go:40", after := #[{ on := 8, ground := Ground.data }, { on := 5, ground := Ground.chain }], guard := none },
 { dst := some 29, op := Op.binOp BinOp.add 9 (Operand.tmp 25) (Operand.tmp 28) 9, type := 9, pos := "frame.go:40", after := #[{ on := 6, ground := Ground.data }, { on := 9, ground := Ground.data }], guard := none },
 { dst := some 30, op := Op.fieldAddr 83 (Operand.tmp 1) 3, type := 0, pos := "frame.go:40", after := #[], guard := none },
 { dst := some 31, op := Op.load 3 (Operand.tmp 30), type := 3, pos := "frame.go:40", after := #[{ on := 11, ground := Ground.data }], guard := none },
 { dst := some 32, op := Op.call { callee := Callee.value (Operand.func 110), args := #[Operand.tmp 31], argTypes := #[3] }, type := 9, pos := "frame.go:40", after := #[{ on := 12, ground := Ground.data }, { on := 9, ground := Ground.chain }], guard := none },
 { dst := some 33, op := Op.binOp BinOp.add 9 (Operand.tmp 29) (Operand.tmp 32) 9, type := 9, pos := "frame.go:40", after := #[{ on := 10, ground := Ground.data }, { on := 13, ground := Ground.data }], guard := none },
 { dst := some 34, op := Op.fieldAddr 83 (Operand.tmp 1) 4, type := 0, pos := "frame.go:40", after := #[], guard := none },
 { dst := some 35, op := Op.load 9 (Operand.tmp 34), type := 9, pos := "frame.go:40", after := #[{ on := 15, ground := Ground.data }], guard := none },
 { dst := some 36, op := Op.binOp BinOp.add 9 (Operand.tmp 33) (Operand.tmp 35) 9, type := 9, pos := "frame.go:40", after := #[{ on := 14, ground := Ground.data }, { on := 16, ground := Ground.data }], guard := none },
 { dst := some 37, op := Op.call { callee := Callee.value (Operand.func 109), args := #[Operand.tmp 36, Operand.const (Value.int IntKind.i64 256)], argTypes := #[9, 3] }, type := 9, pos := "frame.go:40", after := #[{ on := 17, ground := Ground.data }, { on := 13, ground := Ground.chain }], guard := none },
 { dst := some 2, op := Op.assign (Operand.tmp 37), type := 9, pos := "frame.go:40", after := #[{ on := 18, ground := Ground.data }, { on := 18, ground := Ground.chain }, { on := 0, ground := Ground.phase }, { on := 1, ground := Ground.phase }, { on := 2, ground := Ground.phase }, { on := 3, ground := Ground.phase }, { on := 4, ground := Ground.phase }, { on := 5, ground := Ground.phase }, { on := 6, ground := Ground.phase }, { on := 7, ground := Ground.phase }, { on := 8, ground := Ground.phase }, { on := 9, ground := Ground.phase }, { on := 10, ground := Ground.phase }, { on := 11, ground := Ground.phase }, { on := 12, ground := Ground.phase }, { on := 13, ground := Ground.phase }, { on := 14, ground := Ground.phase }, { on := 15, ground := Ground.phase }, { on := 16, ground := Ground.phase }, { on := 17, ground := Ground.phase }, { on := 18, ground := Ground.phase }], guard := none }]
def fpcalls : List Nat := [2, 5, 9, 13, 18]
def fpord : List Nat := [0, 1, 3, 4, 7, 8, 11, 12, 15, 16, 2, 5, 6, 9, 10, 13, 14, 17, 18, 19]
theorem fpsel : Region.noSelect fpops = true := by kernel_rfl
theorem fplex : lexH fpops fpcalls fpord (Array.replicate fpops.size false) = true := by kernel_rfl
theorem fp0 : fpops[0]? = some { dst := some 19, op := Op.fieldAddr 83 (Operand.tmp 1) 2, type := 0, pos := "frame.go:40", after := #[], guard := none } := by kernel_rfl
theorem fp1 : fpops[1]? = some { dst := some 20, op := Op.load 4 (Operand.tmp 19), type := 4, pos := "frame.go:40", after := #[{ on := 0, ground := Ground.data }], guard := none } := by kernel_rfl
theorem fp2 : fpops[2]? = some { dst := some 21, op := Op.call { callee := Callee.value (Operand.func 137), args := #[Operand.tmp 20], argTypes := #[4] }, type := 9, pos := "frame.go:40", after := #[{ on := 1, ground := Ground.data }], guard := none } := by kernel_rfl
theorem fp3 : fpops[3]? = some { dst := some 22, op := Op.fieldAddr 83 (Operand.tmp 1) 0, type := 0, pos := "frame.go:40", after := #[], guard := none } := by kernel_rfl
theorem fp4 : fpops[4]? = some { dst := some 23, op := Op.load 3 (Operand.tmp 22), type := 3, pos := "frame.go:40", after := #[{ on := 3, ground := Ground.data }], guard := none } := by kernel_rfl
theorem fp5 : fpops[5]? = some { dst := some 24, op := Op.call { callee := Callee.value (Operand.func 110), args := #[Operand.tmp 23], argTypes := #[3] }, type := 9, pos := "frame.go:40", after := #[{ on := 4, ground := Ground.data }, { on := 2, ground := Ground.chain }], guard := none } := by kernel_rfl
theorem fp6 : fpops[6]? = some { dst := some 25, op := Op.binOp BinOp.add 9 (Operand.tmp 21) (Operand.tmp 24) 9, type := 9, pos := "frame.go:40", after := #[{ on := 2, ground := Ground.data }, { on := 5, ground := Ground.data }], guard := none } := by kernel_rfl
theorem fp7 : fpops[7]? = some { dst := some 26, op := Op.fieldAddr 83 (Operand.tmp 1) 1, type := 0, pos := "frame.go:40", after := #[], guard := none } := by kernel_rfl
theorem fp8 : fpops[8]? = some { dst := some 27, op := Op.load 3 (Operand.tmp 26), type := 3, pos := "frame.go:40", after := #[{ on := 7, ground := Ground.data }], guard := none } := by kernel_rfl
theorem fp9 : fpops[9]? = some { dst := some 28, op := Op.call { callee := Callee.value (Operand.func 110), args := #[Operand.tmp 27], argTypes := #[3] }, type := 9, pos := "frame.go:40", after := #[{ on := 8, ground := Ground.data }, { on := 5, ground := Ground.chain }], guard := none } := by kernel_rfl
theorem fp10 : fpops[10]? = some { dst := some 29, op := Op.binOp BinOp.add 9 (Operand.tmp 25) (Operand.tmp 28) 9, type := 9, pos := "frame.go:40", after := #[{ on := 6, ground := Ground.data }, { on := 9, ground := Ground.data }], guard := none } := by kernel_rfl
theorem fp11 : fpops[11]? = some { dst := some 30, op := Op.fieldAddr 83 (Operand.tmp 1) 3, type := 0, pos := "frame.go:40", after := #[], guard := none } := by kernel_rfl
theorem fp12 : fpops[12]? = some { dst := some 31, op := Op.load 3 (Operand.tmp 30), type := 3, pos := "frame.go:40", after := #[{ on := 11, ground := Ground.data }], guard := none } := by kernel_rfl
theorem fp13 : fpops[13]? = some { dst := some 32, op := Op.call { callee := Callee.value (Operand.func 110), args := #[Operand.tmp 31], argTypes := #[3] }, type := 9, pos := "frame.go:40", after := #[{ on := 12, ground := Ground.data }, { on := 9, ground := Ground.chain }], guard := none } := by kernel_rfl
theorem fp14 : fpops[14]? = some { dst := some 33, op := Op.binOp BinOp.add 9 (Operand.tmp 29) (Operand.tmp 32) 9, type := 9, pos := "frame.go:40", after := #[{ on := 10, ground := Ground.data }, { on := 13, ground := Ground.data }], guard := none } := by kernel_rfl
theorem fp15 : fpops[15]? = some { dst := some 34, op := Op.fieldAddr 83 (Operand.tmp 1) 4, type := 0, pos := "frame.go:40", after := #[], guard := none } := by kernel_rfl
theorem fp16 : fpops[16]? = some { dst := some 35, op := Op.load 9 (Operand.tmp 34), type := 9, pos := "frame.go:40", after := #[{ on := 15, ground := Ground.data }], guard := none } := by kernel_rfl
theorem fp17 : fpops[17]? = some { dst := some 36, op := Op.binOp BinOp.add 9 (Operand.tmp 33) (Operand.tmp 35) 9, type := 9, pos := "frame.go:40", after := #[{ on := 14, ground := Ground.data }, { on := 16, ground := Ground.data }], guard := none } := by kernel_rfl
theorem fp18 : fpops[18]? = some { dst := some 37, op := Op.call { callee := Callee.value (Operand.func 109), args := #[Operand.tmp 36, Operand.const (Value.int IntKind.i64 256)], argTypes := #[9, 3] }, type := 9, pos := "frame.go:40", after := #[{ on := 17, ground := Ground.data }, { on := 13, ground := Ground.chain }], guard := none } := by kernel_rfl
theorem fp19 : fpops[19]? = some { dst := some 2, op := Op.assign (Operand.tmp 37), type := 9, pos := "frame.go:40", after := #[{ on := 18, ground := Ground.data }, { on := 18, ground := Ground.chain }, { on := 0, ground := Ground.phase }, { on := 1, ground := Ground.phase }, { on := 2, ground := Ground.phase }, { on := 3, ground := Ground.phase }, { on := 4, ground := Ground.phase }, { on := 5, ground := Ground.phase }, { on := 6, ground := Ground.phase }, { on := 7, ground := Ground.phase }, { on := 8, ground := Ground.phase }, { on := 9, ground := Ground.phase }, { on := 10, ground := Ground.phase }, { on := 11, ground := Ground.phase }, { on := 12, ground := Ground.phase }, { on := 13, ground := Ground.phase }, { on := 14, ground := Ground.phase }, { on := 15, ground := Ground.phase }, { on := 16, ground := Ground.phase }, { on := 17, ground := Ground.phase }, { on := 18, ground := Ground.phase }], guard := none } := by kernel_rfl
end Go.Proofs.YtfhopccbjlleoaaGreatDoor.Fr

/- Frames: the program's Print at 4d08357, walked. -/
namespace Go.Proofs.YtfhopccbjlleoaaGreatDoor.Fr
open Go.RowKit Tal Lf Lex
set_option maxRecDepth 20000 in
set_option maxHeartbeats 3200000 in
theorem print_any (f : F) (w : World) (ht : Tab w) (h : RightF f) :
  Calls Tryz.prog 103 #[.agg (cellsF f)] w fun e w' => e = .returned (.string (frameB f)) ∧ Below w.heap.size w w' := by
 have HT := Lib.hid ht
 clear ht
 have hB := (Below.refl w.heap.size w).alloc (Nat.le_refl _) (.cells (cellsF f) 83)
 have hf := BoxF.new w f 83
 obtain ⟨g, hg⟩ : ∃ g, w.heap.size = g := ⟨_, rfl⟩
 rw [hg] at hf
 generalize hwa : w.alloc (.cells (cellsF f) 83) = wa at hB hf
 obtain ⟨fe, fi, fc, fp, fd⟩ := f
 have q0 := h.e0
 have q1 := h.e1
 have q2 := h.i0
 have q3 := h.i1
 have q4 := h.p0
 have q5 := h.p1
 have hds := h.small
 clear h
 simp only at q0 q1 q2 q3 q4 q5 hds
 obtain ⟨en, rfl⟩ : ∃ n : Nat, fe = n := ⟨fe.toNat, by omega⟩
 obtain ⟨ix, rfl⟩ : ∃ n : Nat, fi = n := ⟨fi.toNat, by omega⟩
 obtain ⟨pn, rfl⟩ : ∃ n : Nat, fp = n := ⟨fp.toNat, by omega⟩
 obtain ⟨sx, hsx⟩ : ∃ x, frameB ⟨en, ix, fc, pn, fd⟩ = x := ⟨_, rfl⟩
 rw [hsx]
 have r0 := fun W => hasRoom_any en W (by omega) (by omega)
 have r1 := fun W => hasRoom_any ix W (by omega) (by omega)
 have r2 := fun W => hasRoom_any pn W (by omega) (by omega)
 have hM := fun W => markOf_any fc W
 have hE := fun W => fprinted_any en W (by omega)
 have hI := fun W => fprinted_any ix W (by omega)
 have hP := fun W => fprinted_any pn W (by omega)
 have hS := fun W (ht : Tab W) => sealed_any (hdF ⟨en, ix, fc, pn, fd⟩ ++ fd) 256 W ht (by decide) (by rw [ByteArray.size_append, hdF_size]; omega)
 rw [show sealed (hdF ⟨en, ix, fc, pn, fd⟩ ++ fd) (256 : Int).toNat = sx from hsx, show hdF ⟨en, ix, fc, pn, fd⟩ = markB fc ++ prt en ++ prt ix ++ prt pn from by unfold hdF; simp only [Int.toNat_natCast]; rfl] at hS
 have z0 : (markB fc).size = 4 := rfl
 have z1 : (markB fc ++ prt en).size = 8 := by rw [ByteArray.size_append, prt_size, z0]
 have z2 : (markB fc ++ prt en ++ prt ix).size = 12 := by rw [ByteArray.size_append, prt_size, z1]
 have z3 : (markB fc ++ prt en ++ prt ix ++ prt pn).size = 16 := by rw [ByteArray.size_append, prt_size, z2]
 have z5 := prt_size en
 have z6 := prt_size ix
 have z7 := prt_size pn
 have z8 : 16 + fd.size ≤ 9223372036854775807 := by omega
 generalize markB fc = mk at hM hS z0 z1 z2 z3
 generalize prt en = pe at hE hS z1 z2 z3 z5
 generalize prt ix = pi at hI hS z2 z3 z6
 generalize prt pn = pp at hP hS z3 z7
 have HS := Lib.hid hS
 clear hS hsx
 unfold cellsF at hwa ⊢
 simp only at hwa ⊢
 have f0 := hf.c0
 have f1 := hf.c1
 have f2 := hf.c2
 have f3 := hf.c3
 have f4 := hf.c4
 simp only at f0 f1 f2 f3 f4
 clear hf
 go_enter Tryz.func103, Tryz.ntmps103
 go_wp2_with fail
 clear hwa hg
 refine (r0 _).mono ?_
 rintro e w2 ⟨rfl, rfl⟩
 go_wp2_with fail
 refine (r1 _).mono ?_
 rintro e w3 ⟨rfl, rfl⟩
 go_wp2_with fail
 refine (r2 _).mono ?_
 rintro e w4 ⟨rfl, rfl⟩
 clear r0 r1 r2
 go_upto_region 3 with fail
 have hdr := (Below.refl w4.heap.size w4).drew
 refine Lex.region_lex (ops := fpops) (calls := fpcalls) fpord (fun W => W.cell? ⟨g, 0, none⟩ = some (.int .i64 (en : Int)) ∧ W.cell? ⟨g, 1, none⟩ = some (.int .i64 (ix : Int)) ∧ W.cell? ⟨g, 2, none⟩ = some (.bool fc) ∧ W.cell? ⟨g, 3, none⟩ = some (.int .i64 (pn : Int)) ∧ W.cell? ⟨g, 4, none⟩ = some (.string fd)) (by kernel_rfl) (by kernel_rfl) fpsel (by kernel_rfl) (by kernel_rfl) fplex (⟨cell_belowF hdr f0, cell_belowF hdr f1, cell_belowF hdr f2, cell_belowF hdr f3, cell_belowF hdr f4⟩) ?_
 unfold fpord
 have f0 := cell_belowF hdr f0
 have f1 := cell_belowF hdr f1
 have f2 := cell_belowF hdr f2
 have f3 := cell_belowF hdr f3
 have f4 := cell_belowF hdr f4
 have hB := hB.trans (hdr.mono hB.size)
 clear hdr
 refine Lex.step_take (.pointer (some ⟨g, 2, none⟩)) fp0 rfl (Lex.want_none rfl) (by intro Wx hSw; (try dsimp only at hSw); go_simp; (try (first | (with_reducible rfl) | assumption | rfl))) ?_
 simp only [Act.put, List.setIfInBounds_toArray, List.set_cons_zero, List.set_cons_succ]
 refine Lex.step_take (.bool fc) fp1 rfl (Lex.want_none rfl) (by intro Wx hSw; (try dsimp only at hSw); go_simp; (try (first | (with_reducible rfl) | assumption | rfl))) ?_
 simp only [Act.put, List.setIfInBounds_toArray, List.set_cons_zero, List.set_cons_succ]
 refine Lex.step_take (.pointer (some ⟨g, 0, none⟩)) fp3 rfl (Lex.want_none rfl) (by intro Wx hSw; (try dsimp only at hSw); go_simp; (try (first | (with_reducible rfl) | assumption | rfl))) ?_
 simp only [Act.put, List.setIfInBounds_toArray, List.set_cons_zero, List.set_cons_succ]
 refine Lex.step_take (.int .i64 (en : Int)) fp4 rfl (Lex.want_none rfl) (by intro Wx hSw; (try dsimp only at hSw); go_simp; (try (first | (with_reducible rfl) | assumption | rfl))) ?_
 simp only [Act.put, List.setIfInBounds_toArray, List.set_cons_zero, List.set_cons_succ]
 refine Lex.step_take (.pointer (some ⟨g, 1, none⟩)) fp7 rfl (Lex.want_none rfl) (by intro Wx hSw; (try dsimp only at hSw); go_simp; (try (first | (with_reducible rfl) | assumption | rfl))) ?_
 simp only [Act.put, List.setIfInBounds_toArray, List.set_cons_zero, List.set_cons_succ]
 refine Lex.step_take (.int .i64 (ix : Int)) fp8 rfl (Lex.want_none rfl) (by intro Wx hSw; (try dsimp only at hSw); go_simp; (try (first | (with_reducible rfl) | assumption | rfl))) ?_
 simp only [Act.put, List.setIfInBounds_toArray, List.set_cons_zero, List.set_cons_succ]
 refine Lex.step_take (.pointer (some ⟨g, 3, none⟩)) fp11 rfl (Lex.want_none rfl) (by intro Wx hSw; (try dsimp only at hSw); go_simp; (try (first | (with_reducible rfl) | assumption | rfl))) ?_
 simp only [Act.put, List.setIfInBounds_toArray, List.set_cons_zero, List.set_cons_succ]
 refine Lex.step_take (.int .i64 (pn : Int)) fp12 rfl (Lex.want_none rfl) (by intro Wx hSw; (try dsimp only at hSw); go_simp; (try (first | (with_reducible rfl) | assumption | rfl))) ?_
 simp only [Act.put, List.setIfInBounds_toArray, List.set_cons_zero, List.set_cons_succ]
 refine Lex.step_take (.pointer (some ⟨g, 4, none⟩)) fp15 rfl (Lex.want_none rfl) (by intro Wx hSw; (try dsimp only at hSw); go_simp; (try (first | (with_reducible rfl) | assumption | rfl))) ?_
 simp only [Act.put, List.setIfInBounds_toArray, List.set_cons_zero, List.set_cons_succ]
 refine Lex.step_take (.string fd) fp16 rfl (Lex.want_none rfl) (by intro Wx hSw; (try dsimp only at hSw); go_simp; (try (first | (with_reducible rfl) | assumption | rfl))) ?_
 simp only [Act.put, List.setIfInBounds_toArray, List.set_cons_zero, List.set_cons_succ]
 refine Lex.step_call fp2 rfl (Lex.want_none rfl) (fun K hK => ?_)
 go_simp
 refine (hM _).mono ?_
 rintro e y1 ⟨rfl, rfl⟩
 refine hK.out _ _ _ (fun _ h => h) ⟨f0, f1, f2, f3, f4⟩ ?_
 clear hK K
 try simp only [Act.put, List.setIfInBounds_toArray, List.set_cons_zero, List.set_cons_succ]
 refine Lex.step_call fp5 rfl (Lex.want_none rfl) (fun K hK => ?_)
 go_simp
 refine (hE _).mono ?_
 rintro e y2 ⟨rfl, hv⟩
 have f0 := cell_belowF hv f0
 have f1 := cell_belowF hv f1
 have f2 := cell_belowF hv f2
 have f3 := cell_belowF hv f3
 have f4 := cell_belowF hv f4
 have hB := hB.trans (hv.mono hB.size)
 clear hv
 refine hK.out _ _ _ (fun _ h => h) ⟨f0, f1, f2, f3, f4⟩ ?_
 clear hK K
 try simp only [Act.put, List.setIfInBounds_toArray, List.set_cons_zero, List.set_cons_succ]
 refine Lex.step_take (.string (mk ++ pe)) fp6 rfl (Lex.want_none rfl) (by intro Wx hSw; (try dsimp only at hSw); go_simp; (try (first | (with_reducible rfl) | assumption | rfl))) ?_
 simp only [Act.put, List.setIfInBounds_toArray, List.set_cons_zero, List.set_cons_succ]
 refine Lex.step_call fp9 rfl (Lex.want_none rfl) (fun K hK => ?_)
 go_simp
 refine (hI _).mono ?_
 rintro e y3 ⟨rfl, hv⟩
 have f0 := cell_belowF hv f0
 have f1 := cell_belowF hv f1
 have f2 := cell_belowF hv f2
 have f3 := cell_belowF hv f3
 have f4 := cell_belowF hv f4
 have hB := hB.trans (hv.mono hB.size)
 clear hv
 refine hK.out _ _ _ (fun _ h => h) ⟨f0, f1, f2, f3, f4⟩ ?_
 clear hK K
 try simp only [Act.put, List.setIfInBounds_toArray, List.set_cons_zero, List.set_cons_succ]
 refine Lex.step_take (.string (mk ++ pe ++ pi)) fp10 rfl (Lex.want_none rfl) (by intro Wx hSw; (try dsimp only at hSw); go_simp; (try (first | (with_reducible rfl) | assumption | rfl))) ?_
 simp only [Act.put, List.setIfInBounds_toArray, List.set_cons_zero, List.set_cons_succ]
 refine Lex.step_call fp13 rfl (Lex.want_none rfl) (fun K hK => ?_)
 go_simp
 refine (hP _).mono ?_
 rintro e y4 ⟨rfl, hv⟩
 have f0 := cell_belowF hv f0
 have f1 := cell_belowF hv f1
 have f2 := cell_belowF hv f2
 have f3 := cell_belowF hv f3
 have f4 := cell_belowF hv f4
 have hB := hB.trans (hv.mono hB.size)
 clear hv
 refine hK.out _ _ _ (fun _ h => h) ⟨f0, f1, f2, f3, f4⟩ ?_
 clear hK K
 try simp only [Act.put, List.setIfInBounds_toArray, List.set_cons_zero, List.set_cons_succ]
 refine Lex.step_take (.string (mk ++ pe ++ pi ++ pp)) fp14 rfl (Lex.want_none rfl) (by intro Wx hSw; (try dsimp only at hSw); go_simp; (try (first | (with_reducible rfl) | assumption | rfl))) ?_
 simp only [Act.put, List.setIfInBounds_toArray, List.set_cons_zero, List.set_cons_succ]
 refine Lex.step_take (.string (mk ++ pe ++ pi ++ pp ++ fd)) fp17 rfl (Lex.want_none rfl) (by intro Wx hSw; (try dsimp only at hSw); go_simp; (try (first | (with_reducible rfl) | assumption | rfl))) ?_
 simp only [Act.put, List.setIfInBounds_toArray, List.set_cons_zero, List.set_cons_succ]
 refine Lex.step_call fp18 rfl (Lex.want_none rfl) (fun K hK => ?_)
 go_simp
 refine (HS.out _ (HT.out.below hB)).mono ?_
 rintro e y5 ⟨rfl, hv⟩
 have f0 := cell_belowF hv f0
 have f1 := cell_belowF hv f1
 have f2 := cell_belowF hv f2
 have f3 := cell_belowF hv f3
 have f4 := cell_belowF hv f4
 have hB := hB.trans (hv.mono hB.size)
 clear hv
 refine hK.out _ _ _ (fun _ h => h) ⟨f0, f1, f2, f3, f4⟩ ?_
 clear hK K
 try simp only [Act.put, List.setIfInBounds_toArray, List.set_cons_zero, List.set_cons_succ]
 refine Lex.step_take (.string sx) fp19 rfl (Lex.want_none rfl) (by intro Wx hSw; (try dsimp only at hSw); go_simp; (try (first | (with_reducible rfl) | assumption | rfl))) ?_
 simp only [Act.put, List.setIfInBounds_toArray, List.set_cons_zero, List.set_cons_succ]
 refine NoPanic.normal ?_
 have HB := Lib.hid hB
 clear hB f0 f1 f2 f3 f4
 go_wp2
 go_ret
 exact ⟨rfl, HB.out⟩
end Go.Proofs.YtfhopccbjlleoaaGreatDoor.Fr

/- Frames: the program's read and Parse at 4d08357, walked. -/
namespace Go.Proofs.YtfhopccbjlleoaaGreatDoor.Fr
open Go.RowKit Tal Lf
theorem results_fr1 {fn : Func} {p : Tmp} (h : fn.results = #[.cell p 83]) (tmps : Array Value) (w : World) (g : Nat) (v0 v1 v2 v3 v4 : Value)
  (hp : tmps.getD p undef = .pointer (some ⟨g, 0, none⟩)) (c0 : w.cell? ⟨g, 0, none⟩ = some v0) (c1 : w.cell? ⟨g, 1, none⟩ = some v1) (c2 : w.cell? ⟨g, 2, none⟩ = some v2) (c3 : w.cell? ⟨g, 3, none⟩ = some v3) (c4 : w.cell? ⟨g, 4, none⟩ = some v4) :
  (results fn tmps).run Tryz.prog w = .ok (.agg #[v0, v1, v2, v3, v4]) w := by
 have hp' : tmps[p]?.getD undef = .pointer (some ⟨g, 0, none⟩) := by simpa using hp
 clear hp
 simp only [results, h]
 go_simp
theorem results_fr2 {fn : Func} {p q : Tmp} (h : fn.results = #[.cell p 83, .tmp q]) (tmps : Array Value) (w : World) (g : Nat) (v0 v1 v2 v3 v4 : Value)
  (hp : tmps.getD p undef = .pointer (some ⟨g, 0, none⟩)) (c0 : w.cell? ⟨g, 0, none⟩ = some v0) (c1 : w.cell? ⟨g, 1, none⟩ = some v1) (c2 : w.cell? ⟨g, 2, none⟩ = some v2) (c3 : w.cell? ⟨g, 3, none⟩ = some v3) (c4 : w.cell? ⟨g, 4, none⟩ = some v4) :
  (results fn tmps).run Tryz.prog w = .ok (.tuple #[.agg #[v0, v1, v2, v3, v4], tmps.getD q undef]) w := by
 have hp' : tmps[p]?.getD undef = .pointer (some ⟨g, 0, none⟩) := by simpa using hp
 clear hp
 simp only [results, h]
 go_simp
section
variable {w w' : World} {g B : Nat} {f : F}
theorem cell_set (w : World) (g i j : Nat) (u v : Value) (hij : i ≠ j) (h : w.cell? ⟨g, j, none⟩ = some v) : (w.setCell ⟨g, i, none⟩ u).cell? ⟨g, j, none⟩ = some v :=
 (World.cell?_setCell_other w _ _ u (fun e => by injection e with _ e2; exact hij e2)).trans h
/-- Another frame put into the variable. -/
theorem BoxF.put (h : BoxF w g f) (u : F) : BoxF (((((w.setCell ⟨g, 0, none⟩ (.int .i64 u.e)).setCell ⟨g, 1, none⟩ (.int .i64 u.i)).setCell ⟨g, 2, none⟩ (.bool u.c)).setCell ⟨g, 3, none⟩ (.int .i64 u.p)).setCell ⟨g, 4, none⟩ (.string u.d)) g u := by
 have a0 := World.cell?_setCell_same w ⟨g, 0, none⟩ (.int .i64 u.e) h.c0
 have b1 := cell_set w g 0 1 (.int .i64 u.e) _ (by decide) h.c1
 have b2 := cell_set w g 0 2 (.int .i64 u.e) _ (by decide) h.c2
 have b3 := cell_set w g 0 3 (.int .i64 u.e) _ (by decide) h.c3
 have b4 := cell_set w g 0 4 (.int .i64 u.e) _ (by decide) h.c4
 have f0 : ∀ i, (w.setCell ⟨g, 0, none⟩ (.int .i64 u.e)).frozen? ⟨g, i, none⟩ = false := fun i => by rw [World.frozen?_setCell]; exact h.f i
 generalize w.setCell ⟨g, 0, none⟩ (.int .i64 u.e) = w1 at a0 b1 b2 b3 b4 f0 ⊢
 have a0 := cell_set w1 g 1 0 (.int .i64 u.i) _ (by decide) a0
 have a1 := World.cell?_setCell_same w1 ⟨g, 1, none⟩ (.int .i64 u.i) b1
 have b2 := cell_set w1 g 1 2 (.int .i64 u.i) _ (by decide) b2
 have b3 := cell_set w1 g 1 3 (.int .i64 u.i) _ (by decide) b3
 have b4 := cell_set w1 g 1 4 (.int .i64 u.i) _ (by decide) b4
 have f0 : ∀ i, (w1.setCell ⟨g, 1, none⟩ (.int .i64 u.i)).frozen? ⟨g, i, none⟩ = false := fun i => by rw [World.frozen?_setCell]; exact f0 i
 generalize w1.setCell ⟨g, 1, none⟩ (.int .i64 u.i) = w2 at a0 a1 b2 b3 b4 f0 ⊢
 have a0 := cell_set w2 g 2 0 (.bool u.c) _ (by decide) a0
 have a1 := cell_set w2 g 2 1 (.bool u.c) _ (by decide) a1
 have a2 := World.cell?_setCell_same w2 ⟨g, 2, none⟩ (.bool u.c) b2
 have b3 := cell_set w2 g 2 3 (.bool u.c) _ (by decide) b3
 have b4 := cell_set w2 g 2 4 (.bool u.c) _ (by decide) b4
 have f0 : ∀ i, (w2.setCell ⟨g, 2, none⟩ (.bool u.c)).frozen? ⟨g, i, none⟩ = false := fun i => by rw [World.frozen?_setCell]; exact f0 i
 generalize w2.setCell ⟨g, 2, none⟩ (.bool u.c) = w3 at a0 a1 a2 b3 b4 f0 ⊢
 have a0 := cell_set w3 g 3 0 (.int .i64 u.p) _ (by decide) a0
 have a1 := cell_set w3 g 3 1 (.int .i64 u.p) _ (by decide) a1
 have a2 := cell_set w3 g 3 2 (.int .i64 u.p) _ (by decide) a2
 have a3 := World.cell?_setCell_same w3 ⟨g, 3, none⟩ (.int .i64 u.p) b3
 have b4 := cell_set w3 g 3 4 (.int .i64 u.p) _ (by decide) b4
 have f0 : ∀ i, (w3.setCell ⟨g, 3, none⟩ (.int .i64 u.p)).frozen? ⟨g, i, none⟩ = false := fun i => by rw [World.frozen?_setCell]; exact f0 i
 generalize w3.setCell ⟨g, 3, none⟩ (.int .i64 u.p) = w4 at a0 a1 a2 a3 b4 f0 ⊢
 exact ⟨cell_set w4 g 4 0 _ _ (by decide) a0, cell_set w4 g 4 1 _ _ (by decide) a1, cell_set w4 g 4 2 _ _ (by decide) a2, cell_set w4 g 4 3 _ _ (by decide) a3, World.cell?_setCell_same w4 ⟨g, 4, none⟩ _ b4, fun i => by rw [World.frozen?_setCell]; exact f0 i⟩
theorem below_put (hB : Below B w w') (hg : B ≤ g) (u : F) : Below B w (((((w'.setCell ⟨g, 0, none⟩ (.int .i64 u.e)).setCell ⟨g, 1, none⟩ (.int .i64 u.i)).setCell ⟨g, 2, none⟩ (.bool u.c)).setCell ⟨g, 3, none⟩ (.int .i64 u.p)).setCell ⟨g, 4, none⟩ (.string u.d)) :=
 ((((hB.setCell (p := ⟨g, 0, none⟩) hg _).setCell (p := ⟨g, 1, none⟩) hg _).setCell (p := ⟨g, 2, none⟩) hg _).setCell (p := ⟨g, 3, none⟩) hg _).setCell (p := ⟨g, 4, none⟩) hg _
end
theorem first4 (s : ByteArray) : (s.extract 0 4).toList = s.data.toList.take 4 := by
 rw [Lib.extract_toList, List.drop_zero]
theorem cand_read (s : ByteArray) (b : Bool) (hb : ((s.extract 0 4).toList == [76, 79, 71, 67]) = b) : cand s = ⟨nm (s.data.toList.drop 4), nm (s.data.toList.drop 8), b, nm (s.data.toList.drop 12), s.extract 16 (16 + lenOf b)⟩ := by
 have hb2 : (s.data.toList.take 4 == word true) = b := by rw [← hb, first4]; rfl
 unfold cand
 rw [hb2]
 cases b with
 | true =>
  have e : s.extract 16 (16 + lenOf true) = ⟨#[]⟩ := none_size (by show (s.extract 16 16).size = 0; rw [ByteArray.size_extract]; omega)
  rw [e]
  rfl
 | false => rfl
set_option maxRecDepth 20000 in
set_option maxHeartbeats 1600000 in
theorem read_any (s : ByteArray) (w : World) (hs : s.size = 256) :
  Calls Tryz.prog 144 #[.string s] w fun e w' => e = .returned (.agg (cellsF (cand s))) ∧ Below w.heap.size w w' := by
 have hB := (Below.refl w.heap.size w).alloc (Nat.le_refl _) (.cells (cellsF noF) 83)
 have hf := BoxF.new w noF 83
 obtain ⟨g, hg⟩ : ∃ g, w.heap.size = g := ⟨_, rfl⟩
 have hwg : w.heap.size ≤ g := by omega
 rw [hg] at hf
 generalize hwa : w.alloc (.cells (cellsF noF) 83) = wa at hB hf
 unfold cellsF noF at hwa
 simp only at hwa
 obtain ⟨b, hb⟩ : ∃ b, ((s.extract 0 4).toList == [76, 79, 71, 67]) = b := ⟨_, rfl⟩
 have HC := Lib.hid (cand_read s b hb)
 have n4 : ∀ W, Calls Tryz.prog 126 #[.string s, .int .i64 4] W fun e w' => e = .returned (.int .i64 (nm (s.data.toList.drop 4) : Nat)) ∧ Below W.heap.size W w' := fun W => numberAt_any 4 W (by decide) (by omega) (by omega)
 have n8 : ∀ W, Calls Tryz.prog 126 #[.string s, .int .i64 8] W fun e w' => e = .returned (.int .i64 (nm (s.data.toList.drop 8) : Nat)) ∧ Below W.heap.size W w' := fun W => numberAt_any 8 W (by decide) (by omega) (by omega)
 have n12 : ∀ W, Calls Tryz.prog 126 #[.string s, .int .i64 12] W fun e w' => e = .returned (.int .i64 (nm (s.data.toList.drop 12) : Nat)) ∧ Below W.heap.size W w' := fun W => numberAt_any 12 W (by decide) (by omega) (by omega)
 have hR := fun W : World => dataBytes_any b W
 have hl : lenOf b ≤ 200 := by cases b <;> decide
 generalize lenOf b = ln at HC hR hl
 generalize nm (s.data.toList.drop 4) = v4 at HC n4
 generalize nm (s.data.toList.drop 8) = v8 at HC n8
 generalize nm (s.data.toList.drop 12) = v12 at HC n12
 have i0 : (4 : Int) ≤ (s.size : Int) := by omega
 have i2 : (16 : Int) + (ln : Int) ≤ (s.size : Int) := by omega
 have i3 : (16 : Int) ≤ (16 : Int) + (ln : Int) := by omega
 have i4 : ((16 : Int) + (ln : Int)).toNat = 16 + ln := by omega
 go_enter Tryz.func144, Tryz.ntmps144
 go_wp2_with fail
 clear hwa hg hb
 refine (n4 _).mono ?_
 rintro e w1 ⟨rfl, hv⟩
 have hf := hf.below hv hf.lt
 have hB := hB.trans (hv.mono hB.size)
 clear hv
 go_wp2_with fail
 refine (n8 _).mono ?_
 rintro e w2 ⟨rfl, hv⟩
 have hf := hf.below hv hf.lt
 have hB := hB.trans (hv.mono hB.size)
 clear hv
 go_wp2_with fail
 refine (n12 _).mono ?_
 rintro e w3 ⟨rfl, hv⟩
 have hf := hf.below hv hf.lt
 have hB := hB.trans (hv.mono hB.size)
 clear hv
 go_wp2_with fail
 refine (hR _).mono ?_
 rintro e w4 ⟨rfl, rfl⟩
 have HR := Lib.hid (hf.put ⟨v4, v8, b, v12, s.extract 16 (16 + ln)⟩)
 have HB := Lib.hid (below_put hB hwg ⟨v4, v8, b, v12, s.extract 16 (16 + ln)⟩)
 have x0 := hf.c0
 have x1 := hf.c1
 have x2 := hf.c2
 have x3 := hf.c3
 have x4 := hf.c4
 have xf := hf.f
 clear hf hB n4 n8 n12 hR
 go_wp2
 refine bodyPost_ret (results_fr1 rfl _ _ g _ _ _ _ _ rfl HR.out.c0 HR.out.c1 HR.out.c2 HR.out.c3 HR.out.c4) rfl ?_
 rw [HC.out]
 exact ⟨rfl, HB.out⟩
set_option maxRecDepth 20000 in
set_option maxHeartbeats 1600000 in
theorem parse_any (s : ByteArray) (w : World) (ht : Tab w) (hs : s.size ≤ 300) :
  Calls Tryz.prog 127 #[.string s] w fun e w' => e = .returned (.tuple #[.agg (cellsF ((parseF s).getD noF)), .bool (parseF s).isSome]) ∧ Below w.heap.size w w' := by
 have HT := Lib.hid ht
 clear ht
 have hB := (Below.refl w.heap.size w).alloc (Nat.le_refl _) (.cells (cellsF noF) 83)
 have hf := BoxF.new w noF 83
 obtain ⟨g, hg⟩ : ∃ g, w.heap.size = g := ⟨_, rfl⟩
 have hwg : w.heap.size ≤ g := by omega
 rw [hg] at hf
 generalize hwa : w.alloc (.cells (cellsF noF) 83) = wa at hB hf
 unfold cellsF noF at hwa
 simp only at hwa
 obtain ⟨post, hpe⟩ : ∃ post, (fun (e : Ending) (w' : World) => e = .returned (.tuple #[.agg (cellsF ((parseF s).getD noF)), .bool (parseF s).isSome]) ∧ Below w.heap.size w w') = post := ⟨_, rfl⟩
 rw [hpe]
 have no : parseF s = none → ∀ W, Below w.heap.size w W → post (.returned (.tuple #[.agg #[.int .i64 0, .int .i64 0, .bool false, .int .i64 0, .string ⟨#[]⟩], .bool false])) W := fun h W hW => by rw [← hpe, h]; exact ⟨rfl, hW⟩
 have yes : parseF s = some (cand s) → ∀ W, Below w.heap.size w W → post (.returned (.tuple #[.agg (cellsF (cand s)), .bool true])) W := fun h W hW => by rw [← hpe, h]; exact ⟨rfl, hW⟩
 have NO := Lib.hid no
 have YES := Lib.hid yes
 clear no yes hpe
 by_cases h : s.size = 256
 ·have h1 : ((s.size : Int) == 256) = true := by rw [beq_iff_eq]; omega
  have hRd := fun W => read_any s W h
  have hRt := fun W => right_any (cand s) W
  have HP := Lib.hid (fun (h : RightF (cand s)) W (ht : Tab W) => print_any (cand s) W ht h)
  have HI : Hid (RightF (cand s) → frameB (cand s) = s → parseF s = some (cand s)) := Lib.hid (fun h1 h2 => by unfold parseF; rw [if_pos ⟨h, h1, h2⟩])
  have HN : Hid (¬ (RightF (cand s) ∧ frameB (cand s) = s) → parseF s = none) := Lib.hid (fun h1 => by unfold parseF; rw [if_neg (fun h2 => h1 h2.2)])
  generalize cand s = cf at hRd hRt HP HI HN YES
  obtain ⟨fe, fi, fc, fp, fd⟩ := cf
  unfold cellsF at hRd hRt
  have HQ := HP.out
  unfold cellsF at HQ
  have HP := Lib.hid HQ
  clear HQ
  have YQ := YES.out
  unfold cellsF at YQ
  have YES := Lib.hid YQ
  clear YQ
  simp only at hRd hRt
  go_enter Tryz.func127, Tryz.ntmps127
  go_wp2_with fail
  clear hwa hg
  refine (hRd _).mono ?_
  rintro e w1 ⟨rfl, hv⟩
  have hf := hf.below hv hf.lt
  have hB := hB.trans (hv.mono hB.size)
  clear hv hRd
  go_upto_region 4 with fail
  have hn : Below w1.heap.size w1 (w1.alloc (.cells #[.int .i64 fe, .int .i64 fi, .bool fc, .int .i64 fp, .string fd] 83)) := (Below.refl w1.heap.size w1).alloc (Nat.le_refl _) _
  have ha : BoxF (w1.alloc (.cells #[.int .i64 fe, .int .i64 fi, .bool fc, .int .i64 fp, .string fd] 83)) w1.heap.size ⟨fe, fi, fc, fp, fd⟩ := BoxF.new w1 ⟨fe, fi, fc, fp, fd⟩ 83
  have hf := hf.below hn hf.lt
  have hB := hB.trans (hn.mono hB.size)
  clear hn
  generalize w1.alloc (.cells #[.int .i64 fe, .int .i64 fi, .bool fc, .int .i64 fp, .string fd] 83) = w3 at hf ha hB ⊢
  generalize w1.heap.size = ga at ha ⊢
  have a0 := ha.c0
  have a1 := ha.c1
  have a2 := ha.c2
  have a3 := ha.c3
  have a4 := ha.c4
  simp only at a0 a1 a2 a3 a4
  go_wp2_with fail
  refine (hRt _).mono ?_
  rintro e w4 ⟨is, rfl, hb, hv⟩
  have hf := hf.below hv hf.lt
  have ha := ha.below hv ha.lt
  have hB := hB.trans (hv.mono hB.size)
  clear hv hRt a0 a1 a2 a3 a4
  have a0 := ha.c0
  have a1 := ha.c1
  have a2 := ha.c2
  have a3 := ha.c3
  have a4 := ha.c4
  simp only at a0 a1 a2 a3 a4
  cases is
  ·have HR := Lib.hid (hf.put noF)
   have HB := Lib.hid (below_put hB hwg noF)
   have HNO := Lib.hid (NO.out (HN.out (fun h => by cases hb.2 h.1)))
   have x0 := hf.c0
   have x1 := hf.c1
   have x2 := hf.c2
   have x3 := hf.c3
   have x4 := hf.c4
   have xf := hf.f
   clear hf hB ha a0 a1 a2 a3 a4 hb
   go_wp2
   refine bodyPost_ret (results_fr2 rfl _ _ g _ _ _ _ _ rfl HR.out.c0 HR.out.c1 HR.out.c2 HR.out.c3 HR.out.c4) rfl ?_
   exact HNO.out _ HB.out
  ·have hr := hb.1 rfl
   have hpf := HP.out hr
   clear hb
   go_wp2_with fail
   refine (hpf _ (HT.out.below hB)).mono ?_
   rintro e w5 ⟨rfl, hv⟩
   have hf := hf.below hv hf.lt
   have ha := ha.below hv ha.lt
   have hB := hB.trans (hv.mono hB.size)
   clear hv hpf a0 a1 a2 a3 a4
   have x0 := hf.c0
   have x1 := hf.c1
   have x2 := hf.c2
   have x3 := hf.c3
   have x4 := hf.c4
   have xf := hf.f
   by_cases hq : frameB ⟨fe, fi, fc, fp, fd⟩ = s
   ·have e1 : ((frameB ⟨fe, fi, fc, fp, fd⟩).toList == s.toList) = true := by rw [hq]; exact beq_self_eq_true _
    have HR := Lib.hid (hf.put ⟨fe, fi, fc, fp, fd⟩)
    have HB := Lib.hid (below_put hB hwg ⟨fe, fi, fc, fp, fd⟩)
    have HYE := Lib.hid (YES.out (HI.out hr hq))
    have a0 := ha.c0
    have a1 := ha.c1
    have a2 := ha.c2
    have a3 := ha.c3
    have a4 := ha.c4
    simp only at a0 a1 a2 a3 a4
    generalize frameB ⟨fe, fi, fc, fp, fd⟩ = sx at e1 ⊢
    clear hf hB ha hq hr
    go_wp2
    refine bodyPost_ret (results_fr2 rfl _ _ g _ _ _ _ _ rfl HR.out.c0 HR.out.c1 HR.out.c2 HR.out.c3 HR.out.c4) rfl ?_
    exact HYE.out _ HB.out
   ·have e1 : ((frameB ⟨fe, fi, fc, fp, fd⟩).toList == s.toList) = false := str_ne hq
    have HR := Lib.hid (hf.put noF)
    have HB := Lib.hid (below_put hB hwg noF)
    have HNO := Lib.hid (NO.out (HN.out (fun h => hq h.2)))
    generalize frameB ⟨fe, fi, fc, fp, fd⟩ = sx at e1 ⊢
    clear hf hB ha hq hr
    go_wp2
    refine bodyPost_ret (results_fr2 rfl _ _ g _ _ _ _ _ rfl HR.out.c0 HR.out.c1 HR.out.c2 HR.out.c3 HR.out.c4) rfl ?_
    exact HNO.out _ HB.out
 ·have h1 : ((s.size : Int) == 256) = false := beq_eq_false_iff_ne.2 (by omega)
  have e : parseF s = none := by unfold parseF; rw [if_neg (fun hc => h hc.1)]
  have HR := Lib.hid (hf.put noF)
  have HB := Lib.hid (below_put hB hwg noF)
  have HNO := Lib.hid (NO.out e)
  have x0 := hf.c0
  have x1 := hf.c1
  have x2 := hf.c2
  have x3 := hf.c3
  have x4 := hf.c4
  have xf := hf.f
  clear hf hB e
  go_enter Tryz.func127, Tryz.ntmps127
  go_wp2
  refine bodyPost_ret (results_fr2 rfl _ _ g _ _ _ _ _ rfl HR.out.c0 HR.out.c1 HR.out.c2 HR.out.c3 HR.out.c4) rfl ?_
  exact HNO.out _ HB.out
end Go.Proofs.YtfhopccbjlleoaaGreatDoor.Fr

/- The operations of a condition, each by its number. -/
namespace Go.Proofs.YtfhopccbjlleoaaGreatDoor.Hd
open Lex

noncomputable def haops : Array Oper := #[{ dst := some 19, op := Op.fieldAddr 30 (Operand.tmp 1) 0, type := 0, pos := "head.go:54", after := #[], guard := none },
 { dst := some 20, op := Op.load 3 (Operand.tmp 19), type := 3, pos := "head.go:54", after := #[{ on := 0, ground := Ground.data }], guard := none },
 { dst := some 21, op := Op.call { callee := Callee.value (Operand.func 110), args := #[Operand.tmp 20], argTypes := #[3] }, type := 9, pos := "head.go:54", after := #[{ on := 1, ground := Ground.data }], guard := none },
 { dst := some 22, op := Op.binOp BinOp.add 9 (Operand.const (Value.string { data := #[77, 79, 83, 65, 73, 67, 48, 49] })) (Operand.tmp 21) 9, type := 9, pos := "head.go:54", after := #[{ on := 2, ground := Ground.data }], guard := none },
 { dst := some 23, op := Op.fieldAddr 30 (Operand.tmp 1) 1, type := 0, pos := "head.go:54", after := #[], guard := none },
 { dst := some 24, op := Op.load 3 (Operand.tmp 23), type := 3, pos := "head.go:54", after := #[{ on := 4, ground := Ground.data }], guard := none },
 { dst := some 25, op := Op.call { callee := Callee.value (Operand.func 110), args := #[Operand.tmp 24], argTypes := #[3] }, type := 9, pos := "head.go:54", after := #[{ on := 5, ground := Ground.data }, { on := 2, ground := Ground.chain }], guard := none },
 { dst := some 26, op := Op.binOp BinOp.add 9 (Operand.tmp 22) (Operand.tmp 25) 9, type := 9, pos := "head.go:54", after := #[{ on := 3, ground := Ground.data }, { on := 6, ground := Ground.data }], guard := none },
 { dst := some 27, op := Op.fieldAddr 30 (Operand.tmp 1) 2, type := 0, pos := "head.go:54", after := #[], guard := none },
 { dst := some 28, op := Op.load 3 (Operand.tmp 27), type := 3, pos := "head.go:54", after := #[{ on := 8, ground := Ground.data }], guard := none },
 { dst := some 29, op := Op.call { callee := Callee.value (Operand.func 110), args := #[Operand.tmp 28], argTypes := #[3] }, type := 9, pos := "head.go:54", after := #[{ on := 9, ground := Ground.data }, { on := 6, ground := Ground.chain }], guard := none },
 { dst := some 30, op := Op.binOp BinOp.add 9 (Operand.tmp 26) (Operand.tmp 29) 9, type := 9, pos := "head.go:54", after := #[{ on := 7, ground := Ground.data }, { on := 10, ground := Ground.data }], guard := none },
 { dst := some 31, op := Op.call { callee := Callee.value (Operand.func 109), args := #[Operand.tmp 30, Operand.const (Value.int IntKind.i64 256)], argTypes := #[9, 3] }, type := 9, pos := "head.go:54", after := #[{ on := 11, ground := Ground.data }, { on := 10, ground := Ground.chain }], guard := none },
 { dst := some 2, op := Op.assign (Operand.tmp 31), type := 9, pos := "head.go:54", after := #[{ on := 12, ground := Ground.data }, { on := 12, ground := Ground.chain }, { on := 0, ground := Ground.phase }, { on := 1, ground := Ground.phase }, { on := 2, ground := Ground.phase }, { on := 3, ground := Ground.phase }, { on := 4, ground := Ground.phase }, { on := 5, ground := Ground.phase }, { on := 6, ground := Ground.phase }, { on := 7, ground := Ground.phase }, { on := 8, ground := Ground.phase }, { on := 9, ground := Ground.phase }, { on := 10, ground := Ground.phase }, { on := 11, ground := Ground.phase }, { on := 12, ground := Ground.phase }], guard := none }]
def hacalls : List Nat := [2, 6, 10, 12]
def haord : List Nat := [0, 1, 4, 5, 8, 9, 2, 3, 6, 7, 10, 11, 12, 13]
theorem hasel : Region.noSelect haops = true := by kernel_rfl
theorem halex : lexH haops hacalls haord (Array.replicate haops.size false) = true := by kernel_rfl
theorem ha0 : haops[0]? = some { dst := some 19, op := Op.fieldAddr 30 (Operand.tmp 1) 0, type := 0, pos := "head.go:54", after := #[], guard := none } := by kernel_rfl
theorem ha1 : haops[1]? = some { dst := some 20, op := Op.load 3 (Operand.tmp 19), type := 3, pos := "head.go:54", after := #[{ on := 0, ground := Ground.data }], guard := none } := by kernel_rfl
theorem ha2 : haops[2]? = some { dst := some 21, op := Op.call { callee := Callee.value (Operand.func 110), args := #[Operand.tmp 20], argTypes := #[3] }, type := 9, pos := "head.go:54", after := #[{ on := 1, ground := Ground.data }], guard := none } := by kernel_rfl
theorem ha3 : haops[3]? = some { dst := some 22, op := Op.binOp BinOp.add 9 (Operand.const (Value.string { data := #[77, 79, 83, 65, 73, 67, 48, 49] })) (Operand.tmp 21) 9, type := 9, pos := "head.go:54", after := #[{ on := 2, ground := Ground.data }], guard := none } := by kernel_rfl
theorem ha4 : haops[4]? = some { dst := some 23, op := Op.fieldAddr 30 (Operand.tmp 1) 1, type := 0, pos := "head.go:54", after := #[], guard := none } := by kernel_rfl
theorem ha5 : haops[5]? = some { dst := some 24, op := Op.load 3 (Operand.tmp 23), type := 3, pos := "head.go:54", after := #[{ on := 4, ground := Ground.data }], guard := none } := by kernel_rfl
theorem ha6 : haops[6]? = some { dst := some 25, op := Op.call { callee := Callee.value (Operand.func 110), args := #[Operand.tmp 24], argTypes := #[3] }, type := 9, pos := "head.go:54", after := #[{ on := 5, ground := Ground.data }, { on := 2, ground := Ground.chain }], guard := none } := by kernel_rfl
theorem ha7 : haops[7]? = some { dst := some 26, op := Op.binOp BinOp.add 9 (Operand.tmp 22) (Operand.tmp 25) 9, type := 9, pos := "head.go:54", after := #[{ on := 3, ground := Ground.data }, { on := 6, ground := Ground.data }], guard := none } := by kernel_rfl
theorem ha8 : haops[8]? = some { dst := some 27, op := Op.fieldAddr 30 (Operand.tmp 1) 2, type := 0, pos := "head.go:54", after := #[], guard := none } := by kernel_rfl
theorem ha9 : haops[9]? = some { dst := some 28, op := Op.load 3 (Operand.tmp 27), type := 3, pos := "head.go:54", after := #[{ on := 8, ground := Ground.data }], guard := none } := by kernel_rfl
theorem ha10 : haops[10]? = some { dst := some 29, op := Op.call { callee := Callee.value (Operand.func 110), args := #[Operand.tmp 28], argTypes := #[3] }, type := 9, pos := "head.go:54", after := #[{ on := 9, ground := Ground.data }, { on := 6, ground := Ground.chain }], guard := none } := by kernel_rfl
theorem ha11 : haops[11]? = some { dst := some 30, op := Op.binOp BinOp.add 9 (Operand.tmp 26) (Operand.tmp 29) 9, type := 9, pos := "head.go:54", after := #[{ on := 7, ground := Ground.data }, { on := 10, ground := Ground.data }], guard := none } := by kernel_rfl
theorem ha12 : haops[12]? = some { dst := some 31, op := Op.call { callee := Callee.value (Operand.func 109), args := #[Operand.tmp 30, Operand.const (Value.int IntKind.i64 256)], argTypes := #[9, 3] }, type := 9, pos := "head.go:54", after := #[{ on := 11, ground := Ground.data }, { on := 10, ground := Ground.chain }], guard := none } := by kernel_rfl
theorem ha13 : haops[13]? = some { dst := some 2, op := Op.assign (Operand.tmp 31), type := 9, pos := "head.go:54", after := #[{ on := 12, ground := Ground.data }, { on := 12, ground := Ground.chain }, { on := 0, ground := Ground.phase }, { on := 1, ground := Ground.phase }, { on := 2, ground := Ground.phase }, { on := 3, ground := Ground.phase }, { on := 4, ground := Ground.phase }, { on := 5, ground := Ground.phase }, { on := 6, ground := Ground.phase }, { on := 7, ground := Ground.phase }, { on := 8, ground := Ground.phase }, { on := 9, ground := Ground.phase }, { on := 10, ground := Ground.phase }, { on := 11, ground := Ground.phase }, { on := 12, ground := Ground.phase }], guard := none } := by kernel_rfl
noncomputable def hbops : Array Oper := #[{ dst := some 3, op := Op.fieldAddr 30 (Operand.tmp 1) 0, type := 0, pos := "ref.go:36", after := #[], guard := none },
 { dst := some 4, op := Op.load 3 (Operand.tmp 3), type := 3, pos := "ref.go:36", after := #[{ on := 0, ground := Ground.data }], guard := none },
 { dst := some 5, op := Op.call { callee := Callee.value (Operand.func 114), args := #[Operand.tmp 4], argTypes := #[3] }, type := 9, pos := "ref.go:36", after := #[{ on := 1, ground := Ground.data }], guard := none },
 { dst := some 6, op := Op.binOp BinOp.add 9 (Operand.const (Value.string { data := #[77, 79, 83, 65, 73, 67, 48, 49] })) (Operand.tmp 5) 9, type := 9, pos := "ref.go:36", after := #[{ on := 2, ground := Ground.data }], guard := none },
 { dst := some 7, op := Op.fieldAddr 30 (Operand.tmp 1) 1, type := 0, pos := "ref.go:36", after := #[], guard := none },
 { dst := some 8, op := Op.load 3 (Operand.tmp 7), type := 3, pos := "ref.go:36", after := #[{ on := 4, ground := Ground.data }], guard := none },
 { dst := some 9, op := Op.call { callee := Callee.value (Operand.func 114), args := #[Operand.tmp 8], argTypes := #[3] }, type := 9, pos := "ref.go:36", after := #[{ on := 5, ground := Ground.data }, { on := 2, ground := Ground.chain }], guard := none },
 { dst := some 10, op := Op.binOp BinOp.add 9 (Operand.tmp 6) (Operand.tmp 9) 9, type := 9, pos := "ref.go:36", after := #[{ on := 3, ground := Ground.data }, { on := 6, ground := Ground.data }], guard := none },
 { dst := some 11, op := Op.fieldAddr 30 (Operand.tmp 1) 2, type := 0, pos := "ref.go:36", after := #[], guard := none },
 { dst := some 12, op := Op.load 3 (Operand.tmp 11), type := 3, pos := "ref.go:36", after := #[{ on := 8, ground := Ground.data }], guard := none },
 { dst := some 13, op := Op.call { callee := Callee.value (Operand.func 114), args := #[Operand.tmp 12], argTypes := #[3] }, type := 9, pos := "ref.go:36", after := #[{ on := 9, ground := Ground.data }, { on := 6, ground := Ground.chain }], guard := none },
 { dst := some 14, op := Op.binOp BinOp.add 9 (Operand.tmp 10) (Operand.tmp 13) 9, type := 9, pos := "ref.go:36", after := #[{ on := 7, ground := Ground.data }, { on := 10, ground := Ground.data }], guard := none },
 { dst := some 15, op := Op.call { callee := Callee.value (Operand.func 113), args := #[Operand.tmp 14, Operand.const (Value.int IntKind.i64 256)], argTypes := #[9, 3] }, type := 9, pos := "ref.go:36", after := #[{ on := 11, ground := Ground.data }, { on := 10, ground := Ground.chain }], guard := none },
 { dst := some 2, op := Op.assign (Operand.tmp 15), type := 9, pos := "ref.go:36", after := #[{ on := 12, ground := Ground.data }, { on := 12, ground := Ground.chain }, { on := 0, ground := Ground.phase }, { on := 1, ground := Ground.phase }, { on := 2, ground := Ground.phase }, { on := 3, ground := Ground.phase }, { on := 4, ground := Ground.phase }, { on := 5, ground := Ground.phase }, { on := 6, ground := Ground.phase }, { on := 7, ground := Ground.phase }, { on := 8, ground := Ground.phase }, { on := 9, ground := Ground.phase }, { on := 10, ground := Ground.phase }, { on := 11, ground := Ground.phase }, { on := 12, ground := Ground.phase }], guard := none }]
theorem hb0 : hbops[0]? = some { dst := some 3, op := Op.fieldAddr 30 (Operand.tmp 1) 0, type := 0, pos := "ref.go:36", after := #[], guard := none } := by kernel_rfl
theorem hb1 : hbops[1]? = some { dst := some 4, op := Op.load 3 (Operand.tmp 3), type := 3, pos := "ref.go:36", after := #[{ on := 0, ground := Ground.data }], guard := none } := by kernel_rfl
theorem hb2 : hbops[2]? = some { dst := some 5, op := Op.call { callee := Callee.value (Operand.func 114), args := #[Operand.tmp 4], argTypes := #[3] }, type := 9, pos := "ref.go:36", after := #[{ on := 1, ground := Ground.data }], guard := none } := by kernel_rfl
theorem hb3 : hbops[3]? = some { dst := some 6, op := Op.binOp BinOp.add 9 (Operand.const (Value.string { data := #[77, 79, 83, 65, 73, 67, 48, 49] })) (Operand.tmp 5) 9, type := 9, pos := "ref.go:36", after := #[{ on := 2, ground := Ground.data }], guard := none } := by kernel_rfl
theorem hb4 : hbops[4]? = some { dst := some 7, op := Op.fieldAddr 30 (Operand.tmp 1) 1, type := 0, pos := "ref.go:36", after := #[], guard := none } := by kernel_rfl
theorem hb5 : hbops[5]? = some { dst := some 8, op := Op.load 3 (Operand.tmp 7), type := 3, pos := "ref.go:36", after := #[{ on := 4, ground := Ground.data }], guard := none } := by kernel_rfl
theorem hb6 : hbops[6]? = some { dst := some 9, op := Op.call { callee := Callee.value (Operand.func 114), args := #[Operand.tmp 8], argTypes := #[3] }, type := 9, pos := "ref.go:36", after := #[{ on := 5, ground := Ground.data }, { on := 2, ground := Ground.chain }], guard := none } := by kernel_rfl
theorem hb7 : hbops[7]? = some { dst := some 10, op := Op.binOp BinOp.add 9 (Operand.tmp 6) (Operand.tmp 9) 9, type := 9, pos := "ref.go:36", after := #[{ on := 3, ground := Ground.data }, { on := 6, ground := Ground.data }], guard := none } := by kernel_rfl
theorem hb8 : hbops[8]? = some { dst := some 11, op := Op.fieldAddr 30 (Operand.tmp 1) 2, type := 0, pos := "ref.go:36", after := #[], guard := none } := by kernel_rfl
theorem hb9 : hbops[9]? = some { dst := some 12, op := Op.load 3 (Operand.tmp 11), type := 3, pos := "ref.go:36", after := #[{ on := 8, ground := Ground.data }], guard := none } := by kernel_rfl
end Go.Proofs.YtfhopccbjlleoaaGreatDoor.Hd
