/- The document's examples hold; walked. -/
import Derived.Test.YtajoklimdlalhaaScN
import Derived.Test.YtajoklimdlalhaaXrd
import Derived.Test.YtajoklimdlalhaaPacI
namespace Go.Proofs.Ytajoklimdlalhaa.Sc
open Go.RowKit Pac Lex

def prB : ByteArray := ⟨#[2, 116, 4, 4, 105, 100, 4, 8, 110, 97, 109, 101, 14]⟩
theorem prB_read : readS prB false = (nmT, [cId, cName], ⟨#[]⟩, false) := read_some
/-- What stands when the examples are judged. -/
structure Awk (w : World) (g x b t : Nat) (A1 A2 A3 : Option Addr) (p : Nat) (W : World) : Prop where
  bx : IsBox W g ⟨#[]⟩ false
  vx : Box2 W x (.string nmT) (.slice A1 2 p)
  vb : Box2 W b (.string nmT) (.slice A2 1 1)
  vt : Box2 W t (.string nmT) (.slice A3 2 2)
  cx : HasCols W 0 A1 [cId, cName]
  cb : HasCols W 0 A2 [cBad]
  ct : HasCols W 0 A3 [cId, cId]
  B : Below w.heap.size w W
theorem Awk.below {w : World} {g x b t : Nat} {A1 A2 A3 : Option Addr} {p : Nat} {W W' : World} (h : Awk w g x b t A1 A2 A3 p W) (hb : Below W.heap.size W W') : Awk w g x b t A1 A2 A3 p W' :=
  ⟨h.bx.below hb h.bx.lt, h.vx.below hb h.vx.lt, h.vb.below hb h.vb.lt, h.vt.below hb h.vt.lt, h.cx.below hb (Nat.le_refl _), h.cb.below hb (Nat.le_refl _), h.ct.below hb (Nat.le_refl _), h.B.trans (hb.mono h.B.size)⟩
theorem done_ok (g : Nat) (W : World) (h : IsBox W g ⟨#[]⟩ false) : Calls Try.prog 17 #[.pointer (some ⟨g, 0, none⟩)] W fun e w' => e = .returned (.bool true) ∧ W = w' := by
  have hd := boxDone_any g ⟨#[]⟩ false W h
  rw [show doneB ⟨#[]⟩ false = true by unfold doneB; rw [ByteArray.toList_eq]; rfl] at hd
  exact hd
def ReadEx (g : Nat) (W : World) (e : Ending) (w' : World) : Prop :=
  ∃ A p, e = .returned (.agg #[.string nmT, .slice A 2 p]) ∧ 2 ≤ p ∧ HasCols w' 0 A [cId, cName] ∧ IsBox w' g ⟨#[]⟩ false ∧ Bar g W w'
theorem readEx (g : Nat) (W : World) (h : IsBox W g prB false) : Calls Try.prog 14 #[.pointer (some ⟨g, 0, none⟩)] W (ReadEx g W) := by
  have hr := read_any g prB false W h (by decide)
  rw [prB_read] at hr
  refine hr.mono ?_
  rintro e w' ⟨v, rfl, ⟨A, p, rfl, hp, hc⟩, hb, hB⟩
  exact ⟨A, p, rfl, hp, hc.lower (Nat.zero_le _), hb, hB⟩

set_option maxRecDepth 20000 in
set_option maxHeartbeats 8000000 in
theorem awake_any (w : World) : Calls Try.prog 8 #[] w fun e w' => e = .returned (.bool true) ∧ Below w.heap.size w w' := by
  go_enter Try.func8, Try.ntmps8
  go_wp2_with fail
  refine (some_any _).mono ?_
  rintro e y1 ⟨A0, rfl, hA0, hy1⟩
  go_wp2_with fail
  refine (print_of right_some print_some rfl A0 2 _ _ hA0).mono ?_
  rintro e y2 ⟨rfl, hy2⟩
  have hB := hy1.trans (hy2.mono hy1.size)
  have lg := hB.size
  clear hA0 hy1 hy2
  have hb := Box2.new y2 (.string prB) (.bool false) 30
  have hB := hB.alloc hB.size (.cells #[.string prB, .bool false] 30)
  have HB := Lib.hid (And.intro hb hB)
  clear hb hB
  have hP : (⟨#[2, 116, 4, 4, 105, 100, 4, 8, 110, 97, 109, 101, 14]⟩ : ByteArray) = prB := rfl
  rw [hP]
  have hRd := readEx
  clear hB
  generalize prB = pr at HB hRd ⊢
  clear hP
  go_wp2_with fail
  obtain ⟨hb, hB⟩ := HB.out
  refine (hRd _ _ hb).mono ?_
  rintro e y3 ⟨A1, p, rfl, hp, hC1, hb3, hB3⟩
  have hB4 := hB.trans (hB3.below lg hB.size)
  clear hRd hb hB HB hB3 lg
  have g1 : y2.heap.size < y3.heap.size := hb3.lt
  generalize y2.heap.size = g at hb3 g1 ⊢
  have hx3 := Box2.new y3 (.string nmT) (.slice A1 2 p) 24
  have hb3 := hb3.alloc (.cells #[.string nmT, .slice A1 2 p] 24)
  have hC1 := hC1.below ((Below.refl y3.heap.size y3).alloc (Nat.le_refl _) (.cells #[.string nmT, .slice A1 2 p] 24)) (Nat.le_refl _)
  have hB4 := hB4.alloc hB4.size (.cells #[.string nmT, .slice A1 2 p] 24)
  have HS := Lib.hid (And.intro hx3 (And.intro hb3 (And.intro hC1 hB4)))
  clear hx3 hb3 hC1 hB4
  go_wp2_with fail
  obtain ⟨hx3, hb3, hC1, hB4⟩ := HS.out
  refine (some_any _).mono ?_
  rintro e y4 ⟨A0', rfl, _, hy4⟩
  have hx3 := hx3.below hy4 hx3.lt
  have hb3 := hb3.below hy4 hb3.lt
  have hC1 := hC1.below hy4 (Nat.le_refl _)
  have hB4 := hB4.trans (hy4.mono hB4.size)
  clear hy4 HS g1
  generalize y3.heap.size = x at hx3 ⊢
  have HS := Lib.hid (And.intro hx3 (And.intro hb3 (And.intro hC1 hB4)))
  clear hx3 hb3 hC1 hB4
  go_wp2_with fail
  obtain ⟨hx3, hb3, hC1, hB4⟩ := HS.out
  have hv4 := (Box2.new y4 (.string nmT) (.slice (some ⟨y4.heap.size + 1, 0, none⟩) 1 1) 24).alloc (.cells #[.string ⟨#[105, 100]⟩, .int .i64 2, .bool false] 41)
  have hn := heap_alloc_new (y4.alloc (.cells #[.string nmT, .slice (some ⟨y4.heap.size + 1, 0, none⟩) 1 1] 24)) (.cells #[.string ⟨#[105, 100]⟩, .int .i64 2, .bool false] 41)
  rw [show (y4.alloc (.cells #[.string nmT, .slice (some ⟨y4.heap.size + 1, 0, none⟩) 1 1] 24)).heap.size = y4.heap.size + 1 by simp] at hn
  have hC2 := (cols_one cBad 41 hn).lower (Nat.zero_le _)
  have hbl := ((Below.refl y4.heap.size y4).alloc (Nat.le_refl _) (.cells #[.string nmT, .slice (some ⟨y4.heap.size + 1, 0, none⟩) 1 1] 24)).alloc (by simp) (.cells #[.string ⟨#[105, 100]⟩, .int .i64 2, .bool false] 41)
  have hx3 := hx3.below hbl hx3.lt
  have hb3 := hb3.below hbl hb3.lt
  have hC1 := hC1.below hbl (Nat.le_refl _)
  have hB4 := hB4.trans (hbl.mono hB4.size)
  clear hn hbl HS
  generalize (y4.alloc (.cells #[.string nmT, .slice (some ⟨y4.heap.size + 1, 0, none⟩) 1 1] 24)).alloc (.cells #[.string ⟨#[105, 100]⟩, .int .i64 2, .bool false] 41) = w5 at hv4 hC2 hx3 hb3 hC1 hB4 ⊢
  generalize (some ⟨y4.heap.size + 1, 0, none⟩ : Option Addr) = A2 at hv4 hC2 ⊢
  generalize y4.heap.size = b at hv4 ⊢
  refine (some_any _).mono ?_
  rintro e y5 ⟨A0'', rfl, _, hy5⟩
  have hx3 := hx3.below hy5 hx3.lt
  have hb3 := hb3.below hy5 hb3.lt
  have hv4 := hv4.below hy5 hv4.lt
  have hC1 := hC1.below hy5 (Nat.le_refl _)
  have hC2 := hC2.below hy5 (Nat.le_refl _)
  have hB4 := hB4.trans (hy5.mono hB4.size)
  clear hy5
  have hv5 := (Box2.new y5 (.string nmT) (.slice (some ⟨y5.heap.size + 1, 0, none⟩) 2 2) 24).alloc (.cells #[.string ⟨#[105, 100]⟩, .int .i64 1, .bool false, .string ⟨#[105, 100]⟩, .int .i64 1, .bool false] 41)
  have hn := heap_alloc_new (y5.alloc (.cells #[.string nmT, .slice (some ⟨y5.heap.size + 1, 0, none⟩) 2 2] 24)) (.cells #[.string ⟨#[105, 100]⟩, .int .i64 1, .bool false, .string ⟨#[105, 100]⟩, .int .i64 1, .bool false] 41)
  rw [show (y5.alloc (.cells #[.string nmT, .slice (some ⟨y5.heap.size + 1, 0, none⟩) 2 2] 24)).heap.size = y5.heap.size + 1 by simp] at hn
  have hC3 := (cols_two cId cId 41 hn).lower (Nat.zero_le _)
  have hbl := ((Below.refl y5.heap.size y5).alloc (Nat.le_refl _) (.cells #[.string nmT, .slice (some ⟨y5.heap.size + 1, 0, none⟩) 2 2] 24)).alloc (by simp) (.cells #[.string ⟨#[105, 100]⟩, .int .i64 1, .bool false, .string ⟨#[105, 100]⟩, .int .i64 1, .bool false] 41)
  have hF : Awk w g x b y5.heap.size A1 A2 (some ⟨y5.heap.size + 1, 0, none⟩) p ((y5.alloc (.cells #[.string nmT, .slice (some ⟨y5.heap.size + 1, 0, none⟩) 2 2] 24)).alloc (.cells #[.string ⟨#[105, 100]⟩, .int .i64 1, .bool false, .string ⟨#[105, 100]⟩, .int .i64 1, .bool false] 41)) :=
    ⟨hb3.below hbl hb3.lt, hx3.below hbl hx3.lt, hv4.below hbl hv4.lt, hv5, hC1.below hbl (Nat.le_refl _), hC2.below hbl (Nat.le_refl _), hC3, hB4.trans (hbl.mono hB4.size)⟩
  have HF := Lib.hid hF
  clear hF hbl hC3 hn hv5 hB4 hC2 hC1 hv4 hb3 hx3
  go_wp2_with fail
  have hF := HF.out
  clear HF
  generalize (y5.alloc (.cells #[.string nmT, .slice (some ⟨y5.heap.size + 1, 0, none⟩) 2 2] 24)).alloc (.cells #[.string ⟨#[105, 100]⟩, .int .i64 1, .bool false, .string ⟨#[105, 100]⟩, .int .i64 1, .bool false] 41) = w6 at hF ⊢
  generalize (some ⟨y5.heap.size + 1, 0, none⟩ : Option Addr) = A3 at hF ⊢
  generalize y5.heap.size = t at hF ⊢
  refine Lex.region_lex (ops := xwops) (calls := xwcalls) xword (fun W => W.cell? ⟨x, 0, none⟩ = some (.string nmT) ∧ W.cell? ⟨x, 1, none⟩ = some (.slice A1 2 p) ∧ W.cell? ⟨b, 0, none⟩ = some (.string nmT) ∧ W.cell? ⟨b, 1, none⟩ = some (.slice A2 1 1) ∧ W.cell? ⟨t, 0, none⟩ = some (.string nmT) ∧ W.cell? ⟨t, 1, none⟩ = some (.slice A3 2 2)) (by kernel_rfl) (by kernel_rfl) xwsel (by kernel_rfl) (by kernel_rfl) xwlex (⟨hF.vx.drew.c0, hF.vx.drew.c1, hF.vb.drew.c0, hF.vb.drew.c1, hF.vt.drew.c0, hF.vt.drew.c1⟩) ?_
  unfold xword
  have hF := hF.below (Below.refl _ _).drew
  refine Lex.step_call xw0 rfl (Lex.want_none rfl) (fun K hK => ?_)
  go_simp
  refine (some_any _).mono ?_
  rintro e _ ⟨D0, rfl, hA0, hy1⟩
  have hF := hF.below hy1
  clear hy1
  refine hK.out _ _ _ (fun _ h => h) ⟨hF.vx.c0, hF.vx.c1, hF.vb.c0, hF.vb.c1, hF.vt.c0, hF.vt.c1⟩ ?_
  clear hK K
  try simp only [Act.put, List.setIfInBounds_toArray, List.set_cons_zero, List.set_cons_succ]
  refine Lex.step_call xw1 rfl (Lex.want_none rfl) (fun K hK => ?_)
  go_simp
  refine (right_of right_some (m := 2) rfl (by decide) (by omega) (ok_two ok_id ok_name) D0 2 _ _ (Nat.le_refl _) hA0).mono ?_
  rintro e _ ⟨rfl, hy1⟩
  clear hA0
  have hF := hF.below hy1
  clear hy1
  refine hK.out _ _ _ (fun _ h => h) ⟨hF.vx.c0, hF.vx.c1, hF.vb.c0, hF.vb.c1, hF.vt.c0, hF.vt.c1⟩ ?_
  clear hK K
  try simp only [Act.put, List.setIfInBounds_toArray, List.set_cons_zero, List.set_cons_succ]
  refine Lex.step_take (.bool true) xw2 rfl (Lex.want_none rfl) (by intro Wx hSw; (try dsimp only at hSw); go_simp; (try (first | (with_reducible rfl) | assumption | rfl))) ?_
  simp only [Act.put, List.setIfInBounds_toArray, List.set_cons_zero, List.set_cons_succ]
  refine Lex.step_take (.agg #[.string nmT, .slice A1 2 p]) xw3 rfl (Lex.want_some rfl xw2 rfl (b' := true) rfl rfl) (by intro Wx hSw; (try dsimp only at hSw); go_simp; (try (first | (with_reducible rfl) | assumption | rfl))) ?_
  simp only [Act.put, List.setIfInBounds_toArray, List.set_cons_zero, List.set_cons_succ]
  refine Lex.step_call xw4 rfl (Lex.want_some rfl xw2 rfl (b' := true) rfl rfl) (fun K hK => ?_)
  go_simp
  refine (some_any _).mono ?_
  rintro e _ ⟨D1, rfl, hA0, hy1⟩
  have hF := hF.below hy1
  clear hy1
  refine hK.out _ _ _ (fun _ h => h) ⟨hF.vx.c0, hF.vx.c1, hF.vb.c0, hF.vb.c1, hF.vt.c0, hF.vt.c1⟩ ?_
  clear hK K
  try simp only [Act.put, List.setIfInBounds_toArray, List.set_cons_zero, List.set_cons_succ]
  refine Lex.step_call xw5 rfl (Lex.want_some rfl xw2 rfl (b' := true) rfl rfl) (fun K hK => ?_)
  go_simp
  refine (same_of (m := 2) rfl (by omega) A1 D1 p 2 _ _ _ hF.cx hA0).mono ?_
  rintro e _ ⟨rfl, hy1⟩
  clear hA0
  have hF := hF.below hy1
  clear hy1
  refine hK.out _ _ _ (fun _ h => h) ⟨hF.vx.c0, hF.vx.c1, hF.vb.c0, hF.vb.c1, hF.vt.c0, hF.vt.c1⟩ ?_
  clear hK K
  try simp only [Act.put, List.setIfInBounds_toArray, List.set_cons_zero, List.set_cons_succ]
  refine Lex.step_take (.bool true) xw6 rfl (Lex.want_none rfl) (by intro Wx hSw; (try dsimp only at hSw); go_simp; (try (first | (with_reducible rfl) | assumption | rfl))) ?_
  simp only [Act.put, List.setIfInBounds_toArray, List.set_cons_zero, List.set_cons_succ]
  refine Lex.step_take (.bool true) xw7 rfl (Lex.want_none rfl) (by intro Wx hSw; (try dsimp only at hSw); go_simp; (try (first | (with_reducible rfl) | assumption | rfl))) ?_
  simp only [Act.put, List.setIfInBounds_toArray, List.set_cons_zero, List.set_cons_succ]
  refine Lex.step_take (.pointer (some ⟨g, 0, none⟩)) xw8 rfl (Lex.want_some rfl xw7 rfl (b' := true) rfl rfl) (by intro Wx hSw; (try dsimp only at hSw); go_simp; (try (first | (with_reducible rfl) | assumption | rfl))) ?_
  simp only [Act.put, List.setIfInBounds_toArray, List.set_cons_zero, List.set_cons_succ]
  refine Lex.step_call xw9 rfl (Lex.want_some rfl xw7 rfl (b' := true) rfl rfl) (fun K hK => ?_)
  go_simp
  refine (done_ok g _ hF.bx).mono ?_
  rintro e _ ⟨rfl, rfl⟩
  refine hK.out _ _ _ (fun _ h => h) ⟨hF.vx.c0, hF.vx.c1, hF.vb.c0, hF.vb.c1, hF.vt.c0, hF.vt.c1⟩ ?_
  clear hK K
  try simp only [Act.put, List.setIfInBounds_toArray, List.set_cons_zero, List.set_cons_succ]
  refine Lex.step_take (.bool true) xw10 rfl (Lex.want_none rfl) (by intro Wx hSw; (try dsimp only at hSw); go_simp; (try (first | (with_reducible rfl) | assumption | rfl))) ?_
  simp only [Act.put, List.setIfInBounds_toArray, List.set_cons_zero, List.set_cons_succ]
  refine Lex.step_take (.bool true) xw11 rfl (Lex.want_none rfl) (by intro Wx hSw; (try dsimp only at hSw); go_simp; (try (first | (with_reducible rfl) | assumption | rfl))) ?_
  simp only [Act.put, List.setIfInBounds_toArray, List.set_cons_zero, List.set_cons_succ]
  refine Lex.step_take (.agg #[.string nmT, .slice A2 1 1]) xw12 rfl (Lex.want_some rfl xw11 rfl (b' := true) rfl rfl) (by intro Wx hSw; (try dsimp only at hSw); go_simp; (try (first | (with_reducible rfl) | assumption | rfl))) ?_
  simp only [Act.put, List.setIfInBounds_toArray, List.set_cons_zero, List.set_cons_succ]
  refine Lex.step_call xw13 rfl (Lex.want_some rfl xw11 rfl (b' := true) rfl rfl) (fun K hK => ?_)
  go_simp
  refine (right_of right_bad (m := 1) rfl (by decide) (by omega) (ok_one ok_bad) A2 1 _ _ (Nat.le_refl _) hF.cb).mono ?_
  rintro e _ ⟨rfl, hy1⟩
  have hF := hF.below hy1
  clear hy1
  refine hK.out _ _ _ (fun _ h => h) ⟨hF.vx.c0, hF.vx.c1, hF.vb.c0, hF.vb.c1, hF.vt.c0, hF.vt.c1⟩ ?_
  clear hK K
  try simp only [Act.put, List.setIfInBounds_toArray, List.set_cons_zero, List.set_cons_succ]
  refine Lex.step_take (.bool true) xw14 rfl (Lex.want_some rfl xw11 rfl (b' := true) rfl rfl) (by intro Wx hSw; (try dsimp only at hSw); go_simp; (try (first | (with_reducible rfl) | assumption | rfl))) ?_
  simp only [Act.put, List.setIfInBounds_toArray, List.set_cons_zero, List.set_cons_succ]
  refine Lex.step_take (.bool true) xw15 rfl (Lex.want_none rfl) (by intro Wx hSw; (try dsimp only at hSw); go_simp; (try (first | (with_reducible rfl) | assumption | rfl))) ?_
  simp only [Act.put, List.setIfInBounds_toArray, List.set_cons_zero, List.set_cons_succ]
  refine Lex.step_take (.bool true) xw16 rfl (Lex.want_none rfl) (by intro Wx hSw; (try dsimp only at hSw); go_simp; (try (first | (with_reducible rfl) | assumption | rfl))) ?_
  simp only [Act.put, List.setIfInBounds_toArray, List.set_cons_zero, List.set_cons_succ]
  refine Lex.step_take (.agg #[.string nmT, .slice A3 2 2]) xw17 rfl (Lex.want_some rfl xw16 rfl (b' := true) rfl rfl) (by intro Wx hSw; (try dsimp only at hSw); go_simp; (try (first | (with_reducible rfl) | assumption | rfl))) ?_
  simp only [Act.put, List.setIfInBounds_toArray, List.set_cons_zero, List.set_cons_succ]
  refine Lex.step_call xw18 rfl (Lex.want_some rfl xw16 rfl (b' := true) rfl rfl) (fun K hK => ?_)
  go_simp
  refine (right_of right_twice (m := 2) rfl (by decide) (by omega) (ok_two ok_id ok_id) A3 2 _ _ (Nat.le_refl _) hF.ct).mono ?_
  rintro e _ ⟨rfl, hy1⟩
  have hF := hF.below hy1
  clear hy1
  refine hK.out _ _ _ (fun _ h => h) ⟨hF.vx.c0, hF.vx.c1, hF.vb.c0, hF.vb.c1, hF.vt.c0, hF.vt.c1⟩ ?_
  clear hK K
  try simp only [Act.put, List.setIfInBounds_toArray, List.set_cons_zero, List.set_cons_succ]
  refine Lex.step_take (.bool true) xw19 rfl (Lex.want_some rfl xw16 rfl (b' := true) rfl rfl) (by intro Wx hSw; (try dsimp only at hSw); go_simp; (try (first | (with_reducible rfl) | assumption | rfl))) ?_
  simp only [Act.put, List.setIfInBounds_toArray, List.set_cons_zero, List.set_cons_succ]
  refine Lex.step_take (.bool true) xw20 rfl (Lex.want_none rfl) (by intro Wx hSw; (try dsimp only at hSw); go_simp; (try (first | (with_reducible rfl) | assumption | rfl))) ?_
  simp only [Act.put, List.setIfInBounds_toArray, List.set_cons_zero, List.set_cons_succ]
  refine Lex.step_take (.bool true) xw21 rfl (Lex.want_none rfl) (by intro Wx hSw; (try dsimp only at hSw); go_simp; (try (first | (with_reducible rfl) | assumption | rfl))) ?_
  simp only [Act.put, List.setIfInBounds_toArray, List.set_cons_zero, List.set_cons_succ]
  refine Lex.step_take (.agg #[.string ⟨#[116]⟩, .slice none 0 0]) xw22 rfl (Lex.want_some rfl xw21 rfl (b' := true) rfl rfl) (by intro Wx hSw; (try dsimp only at hSw); go_simp; (try (first | (with_reducible rfl) | assumption | rfl))) ?_
  simp only [Act.put, List.setIfInBounds_toArray, List.set_cons_zero, List.set_cons_succ]
  refine Lex.step_call xw23 rfl (Lex.want_some rfl xw21 rfl (b' := true) rfl rfl) (fun K hK => ?_)
  go_simp
  refine (right_of right_none (m := 0) rfl (by decide) (by omega) (fun j c h => by simp at h) none 0 0 _ (Nat.le_refl _) (HasCols.nil _ _ _)).mono ?_
  rintro e _ ⟨rfl, hy1⟩
  have hF := hF.below hy1
  clear hy1
  refine hK.out _ _ _ (fun _ h => h) ⟨hF.vx.c0, hF.vx.c1, hF.vb.c0, hF.vb.c1, hF.vt.c0, hF.vt.c1⟩ ?_
  clear hK K
  try simp only [Act.put, List.setIfInBounds_toArray, List.set_cons_zero, List.set_cons_succ]
  refine Lex.step_take (.bool true) xw24 rfl (Lex.want_some rfl xw21 rfl (b' := true) rfl rfl) (by intro Wx hSw; (try dsimp only at hSw); go_simp; (try (first | (with_reducible rfl) | assumption | rfl))) ?_
  simp only [Act.put, List.setIfInBounds_toArray, List.set_cons_zero, List.set_cons_succ]
  refine Lex.step_take (.bool true) xw25 rfl (Lex.want_none rfl) (by intro Wx hSw; (try dsimp only at hSw); go_simp; (try (first | (with_reducible rfl) | assumption | rfl))) ?_
  simp only [Act.put, List.setIfInBounds_toArray, List.set_cons_zero, List.set_cons_succ]
  refine Lex.step_take (.bool true) xw26 rfl (Lex.want_none rfl) (by intro Wx hSw; (try dsimp only at hSw); go_simp; (try (first | (with_reducible rfl) | assumption | rfl))) ?_
  simp only [Act.put, List.setIfInBounds_toArray, List.set_cons_zero, List.set_cons_succ]
  refine Lex.step_call xw27 rfl (Lex.want_some rfl xw26 rfl (b' := true) rfl rfl) (fun K hK => ?_)
  go_simp
  refine (some_any _).mono ?_
  rintro e _ ⟨D2, rfl, hA0, hy1⟩
  have hF := hF.below hy1
  clear hy1
  refine hK.out _ _ _ (fun _ h => h) ⟨hF.vx.c0, hF.vx.c1, hF.vb.c0, hF.vb.c1, hF.vt.c0, hF.vt.c1⟩ ?_
  clear hK K
  try simp only [Act.put, List.setIfInBounds_toArray, List.set_cons_zero, List.set_cons_succ]
  refine Lex.step_call xw28 rfl (Lex.want_some rfl xw26 rfl (b' := true) rfl rfl) (fun K hK => ?_)
  go_simp
  refine (print_of right_some print_some (m := 2) rfl D2 2 _ _ hA0).mono ?_
  rintro e _ ⟨rfl, hy1⟩
  clear hA0
  have hF := hF.below hy1
  clear hy1
  refine hK.out _ _ _ (fun _ h => h) ⟨hF.vx.c0, hF.vx.c1, hF.vb.c0, hF.vb.c1, hF.vt.c0, hF.vt.c1⟩ ?_
  clear hK K
  try simp only [Act.put, List.setIfInBounds_toArray, List.set_cons_zero, List.set_cons_succ]
  refine Lex.step_take (.bool true) xw29 rfl (Lex.want_some rfl xw26 rfl (b' := true) rfl rfl) (by intro Wx hSw; (try dsimp only at hSw); go_simp; (try (first | (with_reducible rfl) | assumption | rfl))) ?_
  simp only [Act.put, List.setIfInBounds_toArray, List.set_cons_zero, List.set_cons_succ]
  refine Lex.step_take (.bool true) xw30 rfl (Lex.want_none rfl) (by intro Wx hSw; (try dsimp only at hSw); go_simp; (try (first | (with_reducible rfl) | assumption | rfl))) ?_
  simp only [Act.put, List.setIfInBounds_toArray, List.set_cons_zero, List.set_cons_succ]
  refine Lex.step_take (.bool true) xw31 rfl (Lex.want_none rfl) (by intro Wx hSw; (try dsimp only at hSw); go_simp; (try (first | (with_reducible rfl) | assumption | rfl))) ?_
  simp only [Act.put, List.setIfInBounds_toArray, List.set_cons_zero, List.set_cons_succ]
  refine NoPanic.normal ?_
  go_wp2
  go_ret
  exact ⟨rfl, hF.B⟩
end Go.Proofs.Ytajoklimdlalhaa.Sc
