/- The document's examples hold; walked. -/
import Derived.Test.YtodhhoegdfpakaaRoF
import Derived.Test.YtodhhoegdfpakaaXsb
namespace Go.Proofs.Ytodhhoegdfpakaa.Ro
open Go.RowKit Pac Va Sc Lex

def cId : C := ⟨⟨#[105, 100]⟩, 1, false⟩
def cX : C := ⟨⟨#[120]⟩, 2, true⟩
def vn : V := ⟨1, 3, ⟨#[]⟩⟩
def v0 : V := ⟨0, 0, ⟨#[]⟩⟩
theorem ck1 : checkE [cId, cX] [vn, v0] = 0 := by decide +kernel
theorem ck2 : checkE [cId, cX] [v0, v0] = 6 := by decide +kernel
theorem ck3 : checkE [cId, cX] [vn, vn] = 5 := by decide +kernel
theorem ck4 : checkE [cId, cX] [vn] = 1 := by decide +kernel
theorem ft9 : fitsE cId ⟨9, 0, ⟨#[]⟩⟩ = 1 := by decide +kernel
theorem ck {g d : Nat} {W : World} {l : List V} {r : Int} (he : checkE [cId, cX] l = r) (hc : HasCols W 0 (some ⟨g, 0, none⟩) [cId, cX]) (hl : HasV W 0 (some ⟨d, 0, none⟩) l) (hn : l.length ≤ 9) :
    Calls Try.prog 13 #[.agg #[.string ⟨#[116]⟩, .slice (some ⟨g, 0, none⟩) 2 2], .slice (some ⟨d, 0, none⟩) l.length l.length] W fun e w' => e = .returned (.int .i64 r) ∧ Below W.heap.size W w' := by
  have h := check_any (some ⟨g, 0, none⟩) (some ⟨d, 0, none⟩) 2 l.length ⟨#[116]⟩ [cId, cX] l 0 0 W hc hl (by decide) (by omega)
  rw [he] at h
  exact h
theorem ft (W : World) : Calls Try.prog 9 #[.agg #[.string ⟨#[105, 100]⟩, .int .i64 1, .bool false], .agg #[.int .i64 9, .int .i64 0, .string ⟨#[]⟩]] W fun e w' => e = .returned (.int .i64 1) ∧ Below W.heap.size W w' := by
  have h := fits_any cId ⟨9, 0, ⟨#[]⟩⟩ W
  rw [ft9] at h
  exact h
theorem cols_two {w : World} {b : Nat} (a c : C) (t : TypeId) (h : w.heap[b]? = some (.cells #[.string a.n, .int .i64 a.k, .bool a.z, .string c.n, .int .i64 c.k, .bool c.z] t (0, 0))) : HasCols w b (some ⟨b, 0, none⟩) [a, c] := by
  intro _
  refine ⟨b, 0, rfl, Nat.le_refl _, (Array.getElem?_eq_some_iff.1 h).1, fun j d hd => ?_⟩
  have hc : ∀ i, w.cell? ⟨b, i, none⟩ = (#[.string a.n, .int .i64 a.k, .bool a.z, .string c.n, .int .i64 c.k, .bool c.z] : Array Value)[i]? := fun i => cell_of_row w b i _ t (0, 0) h
  match j, hd with
  | 0, hd =>
    have hd : a = d := by simpa using hd
    subst hd
    exact ⟨hc 0, hc 1, hc 2⟩
  | 1, hd =>
    have hd : c = d := by simpa using hd
    subst hd
    exact ⟨hc 3, hc 4, hc 5⟩
  | j + 2, hd => simp at hd
def Pick1 (W : World) (e : Ending) (w' : World) : Prop :=
  ∃ bp op cp, e = .returned (.tuple #[.slice (some ⟨bp, op, none⟩) 3 cp, .bool true]) ∧ At3 w' bp (op + 3) vn ∧ Below W.heap.size W w'
theorem pick1 {d d2 : Nat} {W : World} (hl : HasV W 0 (some ⟨d, 0, none⟩) [vn, v0]) (hi : HasI W 0 (some ⟨d2, 0, none⟩) [1, 0, 0]) : Calls Try.prog 11 #[.slice (some ⟨d, 0, none⟩) 2 2, .slice (some ⟨d2, 0, none⟩) 3 3] W (Pick1 W) := by
  refine (pick_any _ _ 2 3 [vn, v0] [1, 0, 0] 0 0 W hl hi (by decide) (by decide)).mono ?_
  rintro e w' ⟨A, cp, p, ok, rfl, hok, hp, _, hv, hB⟩
  have hpk : pickO [vn, v0] [1, 0, 0] = some [v0, vn, vn] := rfl
  rw [hpk] at hok hp
  have hok : ok = true := hok
  have hp : p = [v0, vn, vn] := hp
  subst hok hp
  obtain ⟨b, o, rfl, _, _, h0, h1, h2⟩ := HasV.at hv (q := 1) (a := vn) rfl
  exact ⟨b, o, cp, rfl, ⟨h0, h1, h2⟩, hB⟩
def Pick2 (W : World) (e : Ending) (w' : World) : Prop :=
  ∃ A cp, e = .returned (.tuple #[.slice A 0 cp, .bool false]) ∧ Below W.heap.size W w'
theorem pick2 {d d2 : Nat} {W : World} (hl : HasV W 0 (some ⟨d, 0, none⟩) [vn]) (hi : HasI W 0 (some ⟨d2, 0, none⟩) [1]) : Calls Try.prog 11 #[.slice (some ⟨d, 0, none⟩) 1 1, .slice (some ⟨d2, 0, none⟩) 1 1] W (Pick2 W) := by
  refine (pick_any _ _ 1 1 [vn] [1] 0 0 W hl hi (by decide) (by decide)).mono ?_
  rintro e w' ⟨A, cp, p, ok, rfl, hok, hp, _, hv, hB⟩
  have hpk : pickO [vn] [1] = none := rfl
  rw [hpk] at hok hp
  have hok : ok = false := hok
  have hp : p = [] := hp
  subst hok hp
  exact ⟨A, cp, rfl, hB⟩
/-- What stands when the examples are judged. -/
structure Awk0 (w : World) (g x y : Nat) (W : World) : Prop where
  hg : W.heap[g]? = some (.cells #[.string ⟨#[105, 100]⟩, .int .i64 1, .bool false, .string ⟨#[120]⟩, .int .i64 2, .bool true] 32)
  hx : W.heap[x]? = some (.cells #[.string ⟨#[116]⟩, .slice (some ⟨g, 0, none⟩) 2 2] 24)
  hy : W.heap[y]? = some (.cells #[.int .i64 1, .int .i64 3, .string ⟨#[]⟩] 34)
  B : Below w.heap.size w W
theorem blk_below {W W' : World} (hb : Below W.heap.size W W') {k : Nat} {o : Obj} (h : W.heap[k]? = some o) : W'.heap[k]? = some o :=
  (hb.block k (Array.getElem?_eq_some_iff.1 h).1).trans h
theorem Awk0.below {w : World} {g x y : Nat} {W W' : World} (h : Awk0 w g x y W) (hb : Below W.heap.size W W') : Awk0 w g x y W' :=
  ⟨blk_below hb h.hg, blk_below hb h.hx, blk_below hb h.hy, h.B.trans (hb.mono h.B.size)⟩
theorem Awk0.cols {w : World} {g x y : Nat} {W : World} (h : Awk0 w g x y W) : HasCols W 0 (some ⟨g, 0, none⟩) [cId, cX] :=
  (cols_two cId cX 32 h.hg).lower (Nat.zero_le _)
structure Awk (w : World) (g x y bp op : Nat) (W : World) : Prop extends Awk0 w g x y W where
  vp : At3 W bp (op + 3) vn
theorem Awk.below {w : World} {g x y bp op : Nat} {W W' : World} (h : Awk w g x y bp op W) (hb : Below W.heap.size W W') : Awk w g x y bp op W' :=
  ⟨h.toAwk0.below hb, h.vp.below hb⟩
theorem Awk.held {w : World} {g x y bp op : Nat} {W : World} (h : Awk w g x y bp op W) : (fun W => W.cell? ⟨x, 0, none⟩ = some (.string ⟨#[116]⟩) ∧ W.cell? ⟨x, 1, none⟩ = some (.slice (some ⟨g, 0, none⟩) 2 2) ∧ W.cell? ⟨y, 0, none⟩ = some (.int .i64 1) ∧ W.cell? ⟨y, 1, none⟩ = some (.int .i64 3) ∧ W.cell? ⟨y, 2, none⟩ = some (.string ⟨#[]⟩) ∧ W.cell? ⟨g, 0, none⟩ = some (.string ⟨#[105, 100]⟩) ∧ W.cell? ⟨g, 1, none⟩ = some (.int .i64 1) ∧ W.cell? ⟨g, 2, none⟩ = some (.bool false) ∧ W.cell? ⟨bp, op + 3, none⟩ = some (.int .i64 1) ∧ W.cell? ⟨bp, op + 3 + 1, none⟩ = some (.int .i64 3) ∧ W.cell? ⟨bp, op + 3 + 2, none⟩ = some (.string ⟨#[]⟩)) W :=
  ⟨cell_of_row W x 0 _ 24 (0, 0) h.hx, cell_of_row W x 1 _ 24 (0, 0) h.hx, cell_of_row W y 0 _ 34 (0, 0) h.hy, cell_of_row W y 1 _ 34 (0, 0) h.hy, cell_of_row W y 2 _ 34 (0, 0) h.hy, cell_of_row W g 0 _ 32 (0, 0) h.hg, cell_of_row W g 1 _ 32 (0, 0) h.hg, cell_of_row W g 2 _ 32 (0, 0) h.hg, h.vp.1, h.vp.2.1, h.vp.2.2⟩

set_option maxRecDepth 20000 in
set_option maxHeartbeats 8000000 in
theorem awake_any (w : World) : Calls Try.prog 8 #[] w fun e w' => e = .returned (.bool true) ∧ Below w.heap.size w w' := by
  have hF : Awk0 w w.heap.size (w.heap.size + 1) (w.heap.size + 2) (((w.alloc (.cells #[.string ⟨#[105, 100]⟩, .int .i64 1, .bool false, .string ⟨#[120]⟩, .int .i64 2, .bool true] 32)).alloc (.cells #[.string ⟨#[116]⟩, .slice (some ⟨w.heap.size, 0, none⟩) 2 2] 24)).alloc (.cells #[.int .i64 1, .int .i64 3, .string ⟨#[]⟩] 34)) := by
    have b0 := heap_alloc_new w (.cells #[.string ⟨#[105, 100]⟩, .int .i64 1, .bool false, .string ⟨#[120]⟩, .int .i64 2, .bool true] 32)
    have b1 := heap_alloc_new (w.alloc (.cells #[.string ⟨#[105, 100]⟩, .int .i64 1, .bool false, .string ⟨#[120]⟩, .int .i64 2, .bool true] 32)) (.cells #[.string ⟨#[116]⟩, .slice (some ⟨w.heap.size, 0, none⟩) 2 2] 24)
    have b2 := heap_alloc_new ((w.alloc (.cells #[.string ⟨#[105, 100]⟩, .int .i64 1, .bool false, .string ⟨#[120]⟩, .int .i64 2, .bool true] 32)).alloc (.cells #[.string ⟨#[116]⟩, .slice (some ⟨w.heap.size, 0, none⟩) 2 2] 24)) (.cells #[.int .i64 1, .int .i64 3, .string ⟨#[]⟩] 34)
    rw [show (w.alloc (.cells #[.string ⟨#[105, 100]⟩, .int .i64 1, .bool false, .string ⟨#[120]⟩, .int .i64 2, .bool true] 32)).heap.size = w.heap.size + 1 by simp] at b1
    rw [show ((w.alloc (.cells #[.string ⟨#[105, 100]⟩, .int .i64 1, .bool false, .string ⟨#[120]⟩, .int .i64 2, .bool true] 32)).alloc (.cells #[.string ⟨#[116]⟩, .slice (some ⟨w.heap.size, 0, none⟩) 2 2] 24)).heap.size = w.heap.size + 2 by simp] at b2
    exact ⟨blk_below ((Below.refl _ _).alloc (Nat.le_refl _) _) (blk_below ((Below.refl _ _).alloc (Nat.le_refl _) _) b0), blk_below ((Below.refl _ _).alloc (Nat.le_refl _) _) b1, b2, (((Below.refl w.heap.size w).alloc (Nat.le_refl _) _).alloc (by simp) _).alloc (by simp; omega) _⟩
  have hs1 : w.heap.size + 2 + 1 = (((w.alloc (.cells #[.string ⟨#[105, 100]⟩, .int .i64 1, .bool false, .string ⟨#[120]⟩, .int .i64 2, .bool true] 32)).alloc (.cells #[.string ⟨#[116]⟩, .slice (some ⟨w.heap.size, 0, none⟩) 2 2] 24)).alloc (.cells #[.int .i64 1, .int .i64 3, .string ⟨#[]⟩] 34)).heap.size := by simp
  have HF := Lib.hid hF
  have HS := Lib.hid hs1
  clear hF hs1
  go_enter Try.func8, Try.ntmps8
  go_wp2_with fail
  have hF := HF.out
  have hs1 := HS.out
  clear HF HS
  generalize ((w.alloc (.cells #[.string ⟨#[105, 100]⟩, .int .i64 1, .bool false, .string ⟨#[120]⟩, .int .i64 2, .bool true] 32)).alloc (.cells #[.string ⟨#[116]⟩, .slice (some ⟨w.heap.size, 0, none⟩) 2 2] 24)).alloc (.cells #[.int .i64 1, .int .i64 3, .string ⟨#[]⟩] 34) = w1 at hF hs1 ⊢
  simp only [show w.heap.size + 1 + 1 + 1 = w1.heap.size from hs1, show w.heap.size + 1 + 1 = w.heap.size + 2 from rfl]
  generalize w.heap.size + 2 = y at hF hs1 ⊢
  generalize hx : w.heap.size + 1 = x at hF ⊢
  clear hx hs1
  have hl := (Li.list_of_block (R := cellsV) (l := [vn, v0]) cellsV_len (heap_alloc_new w1 (.cells #[.int .i64 1, .int .i64 3, .string ⟨#[]⟩, .int .i64 0, .int .i64 0, .string ⟨#[]⟩] 34)) rfl).lower (Nat.zero_le _)
  have hl := hl.below ((Below.refl _ _).alloc (Nat.le_refl _) (.cells #[.int .i64 1, .int .i64 0, .int .i64 0] 3)) (Nat.le_refl _)
  have hi := (Li.list_of_block (R := cellsI) (l := [1, 0, 0]) (fun _ => rfl) (heap_alloc_new (w1.alloc (.cells #[.int .i64 1, .int .i64 3, .string ⟨#[]⟩, .int .i64 0, .int .i64 0, .string ⟨#[]⟩] 34)) (.cells #[.int .i64 1, .int .i64 0, .int .i64 0] 3)) rfl).lower (Nat.zero_le _)
  rw [show (w1.alloc (.cells #[.int .i64 1, .int .i64 3, .string ⟨#[]⟩, .int .i64 0, .int .i64 0, .string ⟨#[]⟩] 34)).heap.size = w1.heap.size + 1 by simp] at hi
  have hF := (hF.below ((Below.refl _ _).alloc (Nat.le_refl _) (.cells #[.int .i64 1, .int .i64 3, .string ⟨#[]⟩, .int .i64 0, .int .i64 0, .string ⟨#[]⟩] 34))).below ((Below.refl _ _).alloc (Nat.le_refl _) (.cells #[.int .i64 1, .int .i64 0, .int .i64 0] 3))
  refine (pick1 hl hi).mono ?_
  rintro e w2 ⟨bp, op, cp, rfl, hv, hy2⟩
  have hF := hF.below hy2
  clear hl hi hy2
  generalize w1.heap.size = q1
  generalize w.heap.size = g at hF ⊢
  have d0 := cell_of_row w2 y 0 _ 34 (0, 0) hF.hy
  have d1 := cell_of_row w2 y 1 _ 34 (0, 0) hF.hy
  have d2 := cell_of_row w2 y 2 _ 34 (0, 0) hF.hy
  simp only [List.getElem?_toArray, List.getElem?_cons_zero, List.getElem?_cons_succ] at d0 d1 d2
  have HF := Lib.hid (And.intro hF hv)
  clear hF hv
  go_wp2_with fail
  obtain ⟨hF, hv⟩ := HF.out
  have hl := (Li.list_of_block (R := cellsV) (l := [vn]) cellsV_len (heap_alloc_new w2 (.cells #[.int .i64 1, .int .i64 3, .string ⟨#[]⟩] 34)) rfl).lower (Nat.zero_le _)
  have hl := hl.below ((Below.refl _ _).alloc (Nat.le_refl _) (.cells #[.int .i64 1] 3)) (Nat.le_refl _)
  have hi := (Li.list_of_block (R := cellsI) (l := [1]) (fun _ => rfl) (heap_alloc_new (w2.alloc (.cells #[.int .i64 1, .int .i64 3, .string ⟨#[]⟩] 34)) (.cells #[.int .i64 1] 3)) rfl).lower (Nat.zero_le _)
  rw [show (w2.alloc (.cells #[.int .i64 1, .int .i64 3, .string ⟨#[]⟩] 34)).heap.size = w2.heap.size + 1 by simp] at hi
  have hF := (hF.below ((Below.refl _ _).alloc (Nat.le_refl _) (.cells #[.int .i64 1, .int .i64 3, .string ⟨#[]⟩] 34))).below ((Below.refl _ _).alloc (Nat.le_refl _) (.cells #[.int .i64 1] 3))
  have hv := (hv.below ((Below.refl _ _).alloc (Nat.le_refl _) (.cells #[.int .i64 1, .int .i64 3, .string ⟨#[]⟩] 34))).below ((Below.refl _ _).alloc (Nat.le_refl _) (.cells #[.int .i64 1] 3))
  refine (pick2 hl hi).mono ?_
  rintro e w6 ⟨A6, cp6, rfl, hy6⟩
  have hF : Awk w g x y bp op w6 := ⟨hF.below hy6, hv.below hy6⟩
  clear hl hi hy6 hv HF d0 d1 d2
  generalize w2.heap.size = q2
  have HF := Lib.hid hF
  clear hF
  go_wp2_with fail
  have hF := HF.out
  clear HF
  refine Lex.region_lex (ops := xwops) (calls := xwcalls) xword (fun W => W.cell? ⟨x, 0, none⟩ = some (.string ⟨#[116]⟩) ∧ W.cell? ⟨x, 1, none⟩ = some (.slice (some ⟨g, 0, none⟩) 2 2) ∧ W.cell? ⟨y, 0, none⟩ = some (.int .i64 1) ∧ W.cell? ⟨y, 1, none⟩ = some (.int .i64 3) ∧ W.cell? ⟨y, 2, none⟩ = some (.string ⟨#[]⟩) ∧ W.cell? ⟨g, 0, none⟩ = some (.string ⟨#[105, 100]⟩) ∧ W.cell? ⟨g, 1, none⟩ = some (.int .i64 1) ∧ W.cell? ⟨g, 2, none⟩ = some (.bool false) ∧ W.cell? ⟨bp, op + 3, none⟩ = some (.int .i64 1) ∧ W.cell? ⟨bp, op + 3 + 1, none⟩ = some (.int .i64 3) ∧ W.cell? ⟨bp, op + 3 + 2, none⟩ = some (.string ⟨#[]⟩)) (by kernel_rfl) (by kernel_rfl) xwsel (by kernel_rfl) (by kernel_rfl) xwlex ((hF.below (Below.refl _ _).drew).held) ?_
  unfold xword
  have hF := hF.below (Below.refl _ _).drew
  generalize w6.drew = z0 at hF ⊢
  refine Lex.step_take (.agg #[.string ⟨#[116]⟩, .slice (some ⟨g, 0, none⟩) 2 2]) xw0 rfl (Lex.want_none rfl) (by intro Wx hSw; (try dsimp only at hSw); go_simp; (try (first | (with_reducible rfl) | assumption | rfl))) ?_
  simp only [Act.put, List.setIfInBounds_toArray, List.set_cons_zero, List.set_cons_succ]
  refine Lex.step_take (.agg #[.int .i64 1, .int .i64 3, .string ⟨#[]⟩]) xw1 rfl (Lex.want_none rfl) (by intro Wx hSw; (try dsimp only at hSw); go_simp; (try (first | (with_reducible rfl) | assumption | rfl))) ?_
  simp only [Act.put, List.setIfInBounds_toArray, List.set_cons_zero, List.set_cons_succ]
  refine Lex.step_take (.agg #[.int .i64 0, .int .i64 0, .string ⟨#[]⟩]) xw2 rfl (Lex.want_none rfl) (by intro Wx hSw; (try dsimp only at hSw); go_simp; (try (first | (with_reducible rfl) | assumption | rfl))) ?_
  simp only [Act.put, List.setIfInBounds_toArray, List.set_cons_zero, List.set_cons_succ]
  refine Lex.step_call xw3 rfl (Lex.want_none rfl) (fun K hK => ?_)
  go_simp
  have hl := (Li.list_of_block (R := cellsV) (l := [vn, v0]) cellsV_len (heap_alloc_new z0 (.cells #[.int .i64 1, .int .i64 3, .string ⟨#[]⟩, .int .i64 0, .int .i64 0, .string ⟨#[]⟩] 34)) rfl).lower (Nat.zero_le _)
  have hF := hF.below ((Below.refl _ _).alloc (Nat.le_refl _) (.cells #[.int .i64 1, .int .i64 3, .string ⟨#[]⟩, .int .i64 0, .int .i64 0, .string ⟨#[]⟩] 34))
  generalize z0.heap.size = d1 at hl ⊢
  generalize z0.alloc (.cells #[.int .i64 1, .int .i64 3, .string ⟨#[]⟩, .int .i64 0, .int .i64 0, .string ⟨#[]⟩] 34) = z1 at hl hF ⊢
  refine hK.out _ _ _ (fun _ h => h) hF.held ?_
  clear hK K
  try simp only [Act.put, List.setIfInBounds_toArray, List.set_cons_zero, List.set_cons_succ]
  refine Lex.step_call xw4 rfl (Lex.want_none rfl) (fun K hK => ?_)
  go_simp
  refine (ck ck1 hF.cols hl (by decide)).mono ?_
  rintro e z2 ⟨rfl, hy⟩
  have hF := hF.below hy
  clear hy hl
  refine hK.out _ _ _ (fun _ h => h) hF.held ?_
  clear hK K
  try simp only [Act.put, List.setIfInBounds_toArray, List.set_cons_zero, List.set_cons_succ]
  refine Lex.step_take (.bool true) xw5 rfl (Lex.want_none rfl) (by intro Wx hSw; (try dsimp only at hSw); go_simp; (try (first | (with_reducible rfl) | assumption | rfl))) ?_
  simp only [Act.put, List.setIfInBounds_toArray, List.set_cons_zero, List.set_cons_succ]
  refine Lex.step_take (.bool true) xw6 rfl (Lex.want_none rfl) (by intro Wx hSw; (try dsimp only at hSw); go_simp; (try (first | (with_reducible rfl) | assumption | rfl))) ?_
  simp only [Act.put, List.setIfInBounds_toArray, List.set_cons_zero, List.set_cons_succ]
  refine Lex.step_take (.agg #[.string ⟨#[116]⟩, .slice (some ⟨g, 0, none⟩) 2 2]) xw7 rfl (Lex.want_some rfl xw6 rfl (b' := true) rfl rfl) (by intro Wx hSw; (try dsimp only at hSw); go_simp; (try (first | (with_reducible rfl) | assumption | rfl))) ?_
  simp only [Act.put, List.setIfInBounds_toArray, List.set_cons_zero, List.set_cons_succ]
  refine Lex.step_take (.agg #[.int .i64 0, .int .i64 0, .string ⟨#[]⟩]) xw8 rfl (Lex.want_some rfl xw6 rfl (b' := true) rfl rfl) (by intro Wx hSw; (try dsimp only at hSw); go_simp; (try (first | (with_reducible rfl) | assumption | rfl))) ?_
  simp only [Act.put, List.setIfInBounds_toArray, List.set_cons_zero, List.set_cons_succ]
  refine Lex.step_take (.agg #[.int .i64 0, .int .i64 0, .string ⟨#[]⟩]) xw9 rfl (Lex.want_some rfl xw6 rfl (b' := true) rfl rfl) (by intro Wx hSw; (try dsimp only at hSw); go_simp; (try (first | (with_reducible rfl) | assumption | rfl))) ?_
  simp only [Act.put, List.setIfInBounds_toArray, List.set_cons_zero, List.set_cons_succ]
  refine Lex.step_call xw10 rfl (Lex.want_some rfl xw6 rfl (b' := true) rfl rfl) (fun K hK => ?_)
  go_simp
  have hl := (Li.list_of_block (R := cellsV) (l := [v0, v0]) cellsV_len (heap_alloc_new z2 (.cells #[.int .i64 0, .int .i64 0, .string ⟨#[]⟩, .int .i64 0, .int .i64 0, .string ⟨#[]⟩] 34)) rfl).lower (Nat.zero_le _)
  have hF := hF.below ((Below.refl _ _).alloc (Nat.le_refl _) (.cells #[.int .i64 0, .int .i64 0, .string ⟨#[]⟩, .int .i64 0, .int .i64 0, .string ⟨#[]⟩] 34))
  generalize z2.heap.size = d2 at hl ⊢
  generalize z2.alloc (.cells #[.int .i64 0, .int .i64 0, .string ⟨#[]⟩, .int .i64 0, .int .i64 0, .string ⟨#[]⟩] 34) = z3 at hl hF ⊢
  refine hK.out _ _ _ (fun _ h => h) hF.held ?_
  clear hK K
  try simp only [Act.put, List.setIfInBounds_toArray, List.set_cons_zero, List.set_cons_succ]
  refine Lex.step_call xw11 rfl (Lex.want_some rfl xw6 rfl (b' := true) rfl rfl) (fun K hK => ?_)
  go_simp
  refine (ck ck2 hF.cols hl (by decide)).mono ?_
  rintro e z4 ⟨rfl, hy⟩
  have hF := hF.below hy
  clear hy hl
  refine hK.out _ _ _ (fun _ h => h) hF.held ?_
  clear hK K
  try simp only [Act.put, List.setIfInBounds_toArray, List.set_cons_zero, List.set_cons_succ]
  refine Lex.step_take (.bool true) xw12 rfl (Lex.want_some rfl xw6 rfl (b' := true) rfl rfl) (by intro Wx hSw; (try dsimp only at hSw); go_simp; (try (first | (with_reducible rfl) | assumption | rfl))) ?_
  simp only [Act.put, List.setIfInBounds_toArray, List.set_cons_zero, List.set_cons_succ]
  refine Lex.step_take (.bool true) xw13 rfl (Lex.want_none rfl) (by intro Wx hSw; (try dsimp only at hSw); go_simp; (try (first | (with_reducible rfl) | assumption | rfl))) ?_
  simp only [Act.put, List.setIfInBounds_toArray, List.set_cons_zero, List.set_cons_succ]
  refine Lex.step_take (.bool true) xw14 rfl (Lex.want_none rfl) (by intro Wx hSw; (try dsimp only at hSw); go_simp; (try (first | (with_reducible rfl) | assumption | rfl))) ?_
  simp only [Act.put, List.setIfInBounds_toArray, List.set_cons_zero, List.set_cons_succ]
  refine Lex.step_take (.agg #[.string ⟨#[116]⟩, .slice (some ⟨g, 0, none⟩) 2 2]) xw15 rfl (Lex.want_some rfl xw14 rfl (b' := true) rfl rfl) (by intro Wx hSw; (try dsimp only at hSw); go_simp; (try (first | (with_reducible rfl) | assumption | rfl))) ?_
  simp only [Act.put, List.setIfInBounds_toArray, List.set_cons_zero, List.set_cons_succ]
  refine Lex.step_take (.agg #[.int .i64 1, .int .i64 3, .string ⟨#[]⟩]) xw16 rfl (Lex.want_some rfl xw14 rfl (b' := true) rfl rfl) (by intro Wx hSw; (try dsimp only at hSw); go_simp; (try (first | (with_reducible rfl) | assumption | rfl))) ?_
  simp only [Act.put, List.setIfInBounds_toArray, List.set_cons_zero, List.set_cons_succ]
  refine Lex.step_take (.agg #[.int .i64 1, .int .i64 3, .string ⟨#[]⟩]) xw17 rfl (Lex.want_some rfl xw14 rfl (b' := true) rfl rfl) (by intro Wx hSw; (try dsimp only at hSw); go_simp; (try (first | (with_reducible rfl) | assumption | rfl))) ?_
  simp only [Act.put, List.setIfInBounds_toArray, List.set_cons_zero, List.set_cons_succ]
  refine Lex.step_call xw18 rfl (Lex.want_some rfl xw14 rfl (b' := true) rfl rfl) (fun K hK => ?_)
  go_simp
  have hl := (Li.list_of_block (R := cellsV) (l := [vn, vn]) cellsV_len (heap_alloc_new z4 (.cells #[.int .i64 1, .int .i64 3, .string ⟨#[]⟩, .int .i64 1, .int .i64 3, .string ⟨#[]⟩] 34)) rfl).lower (Nat.zero_le _)
  have hF := hF.below ((Below.refl _ _).alloc (Nat.le_refl _) (.cells #[.int .i64 1, .int .i64 3, .string ⟨#[]⟩, .int .i64 1, .int .i64 3, .string ⟨#[]⟩] 34))
  generalize z4.heap.size = d3 at hl ⊢
  generalize z4.alloc (.cells #[.int .i64 1, .int .i64 3, .string ⟨#[]⟩, .int .i64 1, .int .i64 3, .string ⟨#[]⟩] 34) = z5 at hl hF ⊢
  refine hK.out _ _ _ (fun _ h => h) hF.held ?_
  clear hK K
  try simp only [Act.put, List.setIfInBounds_toArray, List.set_cons_zero, List.set_cons_succ]
  refine Lex.step_call xw19 rfl (Lex.want_some rfl xw14 rfl (b' := true) rfl rfl) (fun K hK => ?_)
  go_simp
  refine (ck ck3 hF.cols hl (by decide)).mono ?_
  rintro e z6 ⟨rfl, hy⟩
  have hF := hF.below hy
  clear hy hl
  refine hK.out _ _ _ (fun _ h => h) hF.held ?_
  clear hK K
  try simp only [Act.put, List.setIfInBounds_toArray, List.set_cons_zero, List.set_cons_succ]
  refine Lex.step_take (.bool true) xw20 rfl (Lex.want_some rfl xw14 rfl (b' := true) rfl rfl) (by intro Wx hSw; (try dsimp only at hSw); go_simp; (try (first | (with_reducible rfl) | assumption | rfl))) ?_
  simp only [Act.put, List.setIfInBounds_toArray, List.set_cons_zero, List.set_cons_succ]
  refine Lex.step_take (.bool true) xw21 rfl (Lex.want_none rfl) (by intro Wx hSw; (try dsimp only at hSw); go_simp; (try (first | (with_reducible rfl) | assumption | rfl))) ?_
  simp only [Act.put, List.setIfInBounds_toArray, List.set_cons_zero, List.set_cons_succ]
  refine Lex.step_take (.bool true) xw22 rfl (Lex.want_none rfl) (by intro Wx hSw; (try dsimp only at hSw); go_simp; (try (first | (with_reducible rfl) | assumption | rfl))) ?_
  simp only [Act.put, List.setIfInBounds_toArray, List.set_cons_zero, List.set_cons_succ]
  refine Lex.step_take (.agg #[.string ⟨#[116]⟩, .slice (some ⟨g, 0, none⟩) 2 2]) xw23 rfl (Lex.want_some rfl xw22 rfl (b' := true) rfl rfl) (by intro Wx hSw; (try dsimp only at hSw); go_simp; (try (first | (with_reducible rfl) | assumption | rfl))) ?_
  simp only [Act.put, List.setIfInBounds_toArray, List.set_cons_zero, List.set_cons_succ]
  refine Lex.step_take (.agg #[.int .i64 1, .int .i64 3, .string ⟨#[]⟩]) xw24 rfl (Lex.want_some rfl xw22 rfl (b' := true) rfl rfl) (by intro Wx hSw; (try dsimp only at hSw); go_simp; (try (first | (with_reducible rfl) | assumption | rfl))) ?_
  simp only [Act.put, List.setIfInBounds_toArray, List.set_cons_zero, List.set_cons_succ]
  refine Lex.step_call xw25 rfl (Lex.want_some rfl xw22 rfl (b' := true) rfl rfl) (fun K hK => ?_)
  go_simp
  have hl := (Li.list_of_block (R := cellsV) (l := [vn]) cellsV_len (heap_alloc_new z6 (.cells #[.int .i64 1, .int .i64 3, .string ⟨#[]⟩] 34)) rfl).lower (Nat.zero_le _)
  have hF := hF.below ((Below.refl _ _).alloc (Nat.le_refl _) (.cells #[.int .i64 1, .int .i64 3, .string ⟨#[]⟩] 34))
  generalize z6.heap.size = d4 at hl ⊢
  generalize z6.alloc (.cells #[.int .i64 1, .int .i64 3, .string ⟨#[]⟩] 34) = z7 at hl hF ⊢
  refine hK.out _ _ _ (fun _ h => h) hF.held ?_
  clear hK K
  try simp only [Act.put, List.setIfInBounds_toArray, List.set_cons_zero, List.set_cons_succ]
  refine Lex.step_call xw26 rfl (Lex.want_some rfl xw22 rfl (b' := true) rfl rfl) (fun K hK => ?_)
  go_simp
  refine (ck ck4 hF.cols hl (by decide)).mono ?_
  rintro e z8 ⟨rfl, hy⟩
  have hF := hF.below hy
  clear hy hl
  refine hK.out _ _ _ (fun _ h => h) hF.held ?_
  clear hK K
  try simp only [Act.put, List.setIfInBounds_toArray, List.set_cons_zero, List.set_cons_succ]
  refine Lex.step_take (.bool true) xw27 rfl (Lex.want_some rfl xw22 rfl (b' := true) rfl rfl) (by intro Wx hSw; (try dsimp only at hSw); go_simp; (try (first | (with_reducible rfl) | assumption | rfl))) ?_
  simp only [Act.put, List.setIfInBounds_toArray, List.set_cons_zero, List.set_cons_succ]
  refine Lex.step_take (.bool true) xw28 rfl (Lex.want_none rfl) (by intro Wx hSw; (try dsimp only at hSw); go_simp; (try (first | (with_reducible rfl) | assumption | rfl))) ?_
  simp only [Act.put, List.setIfInBounds_toArray, List.set_cons_zero, List.set_cons_succ]
  refine Lex.step_take (.bool true) xw29 rfl (Lex.want_none rfl) (by intro Wx hSw; (try dsimp only at hSw); go_simp; (try (first | (with_reducible rfl) | assumption | rfl))) ?_
  simp only [Act.put, List.setIfInBounds_toArray, List.set_cons_zero, List.set_cons_succ]
  refine Lex.step_take (.pointer (some ⟨x, 1, none⟩)) xw30 rfl (Lex.want_some rfl xw29 rfl (b' := true) rfl rfl) (by intro Wx hSw; (try dsimp only at hSw); go_simp; (try (first | (with_reducible rfl) | assumption | rfl))) ?_
  simp only [Act.put, List.setIfInBounds_toArray, List.set_cons_zero, List.set_cons_succ]
  refine Lex.step_take (.slice (some ⟨g, 0, none⟩) 2 2) xw31 rfl (Lex.want_some rfl xw29 rfl (b' := true) rfl rfl) (by intro Wx hSw; (try dsimp only at hSw); go_simp; (try (first | (with_reducible rfl) | assumption | rfl))) ?_
  simp only [Act.put, List.setIfInBounds_toArray, List.set_cons_zero, List.set_cons_succ]
  refine Lex.step_take (.pointer (some ⟨g, 0, none⟩)) xw32 rfl (Lex.want_some rfl xw29 rfl (b' := true) rfl rfl) (by intro Wx hSw; (try dsimp only at hSw); go_simp; (try (first | (with_reducible rfl) | assumption | rfl))) ?_
  simp only [Act.put, List.setIfInBounds_toArray, List.set_cons_zero, List.set_cons_succ]
  refine Lex.step_take (.agg #[.string ⟨#[105, 100]⟩, .int .i64 1, .bool false]) xw33 rfl (Lex.want_some rfl xw29 rfl (b' := true) rfl rfl) (by intro Wx hSw; (try dsimp only at hSw); go_simp; (try (first | (with_reducible rfl) | assumption | rfl))) ?_
  simp only [Act.put, List.setIfInBounds_toArray, List.set_cons_zero, List.set_cons_succ]
  refine Lex.step_take (.agg #[.int .i64 9, .int .i64 0, .string ⟨#[]⟩]) xw34 rfl (Lex.want_some rfl xw29 rfl (b' := true) rfl rfl) (by intro Wx hSw; (try dsimp only at hSw); go_simp; (try (first | (with_reducible rfl) | assumption | rfl))) ?_
  simp only [Act.put, List.setIfInBounds_toArray, List.set_cons_zero, List.set_cons_succ]
  refine Lex.step_call xw35 rfl (Lex.want_some rfl xw29 rfl (b' := true) rfl rfl) (fun K hK => ?_)
  go_simp
  refine (ft _).mono ?_
  rintro e z9 ⟨rfl, hy⟩
  have hF := hF.below hy
  clear hy
  refine hK.out _ _ _ (fun _ h => h) hF.held ?_
  clear hK K
  try simp only [Act.put, List.setIfInBounds_toArray, List.set_cons_zero, List.set_cons_succ]
  refine Lex.step_take (.bool true) xw36 rfl (Lex.want_some rfl xw29 rfl (b' := true) rfl rfl) (by intro Wx hSw; (try dsimp only at hSw); go_simp; (try (first | (with_reducible rfl) | assumption | rfl))) ?_
  simp only [Act.put, List.setIfInBounds_toArray, List.set_cons_zero, List.set_cons_succ]
  refine Lex.step_take (.bool true) xw37 rfl (Lex.want_none rfl) (by intro Wx hSw; (try dsimp only at hSw); go_simp; (try (first | (with_reducible rfl) | assumption | rfl))) ?_
  simp only [Act.put, List.setIfInBounds_toArray, List.set_cons_zero, List.set_cons_succ]
  refine Lex.step_take (.bool true) xw38 rfl (Lex.want_none rfl) (by intro Wx hSw; (try dsimp only at hSw); go_simp; (try (first | (with_reducible rfl) | assumption | rfl))) ?_
  simp only [Act.put, List.setIfInBounds_toArray, List.set_cons_zero, List.set_cons_succ]
  refine Lex.step_take (.bool true) xw39 rfl (Lex.want_some rfl xw38 rfl (b' := true) rfl rfl) (by intro Wx hSw; (try dsimp only at hSw); go_simp; (try (first | (with_reducible rfl) | assumption | rfl))) ?_
  simp only [Act.put, List.setIfInBounds_toArray, List.set_cons_zero, List.set_cons_succ]
  refine Lex.step_take (.bool true) xw40 rfl (Lex.want_none rfl) (by intro Wx hSw; (try dsimp only at hSw); go_simp; (try (first | (with_reducible rfl) | assumption | rfl))) ?_
  simp only [Act.put, List.setIfInBounds_toArray, List.set_cons_zero, List.set_cons_succ]
  refine Lex.step_take (.bool true) xw41 rfl (Lex.want_none rfl) (by intro Wx hSw; (try dsimp only at hSw); go_simp; (try (first | (with_reducible rfl) | assumption | rfl))) ?_
  simp only [Act.put, List.setIfInBounds_toArray, List.set_cons_zero, List.set_cons_succ]
  refine Lex.step_take (.slice (some ⟨bp, op, none⟩) 3 cp) xw42 rfl (Lex.want_some rfl xw41 rfl (b' := true) rfl rfl) (by intro Wx hSw; (try dsimp only at hSw); go_simp; (try (first | (with_reducible rfl) | assumption | rfl))) ?_
  simp only [Act.put, List.setIfInBounds_toArray, List.set_cons_zero, List.set_cons_succ]
  refine Lex.step_take (.int .i64 3) xw43 rfl (Lex.want_some rfl xw41 rfl (b' := true) rfl rfl) (by intro Wx hSw; (try dsimp only at hSw); go_simp; (try (first | (with_reducible rfl) | assumption | rfl))) ?_
  simp only [Act.put, List.setIfInBounds_toArray, List.set_cons_zero, List.set_cons_succ]
  refine Lex.step_take (.bool true) xw44 rfl (Lex.want_some rfl xw41 rfl (b' := true) rfl rfl) (by intro Wx hSw; (try dsimp only at hSw); go_simp; (try (first | (with_reducible rfl) | assumption | rfl))) ?_
  simp only [Act.put, List.setIfInBounds_toArray, List.set_cons_zero, List.set_cons_succ]
  refine Lex.step_take (.bool true) xw45 rfl (Lex.want_none rfl) (by intro Wx hSw; (try dsimp only at hSw); go_simp; (try (first | (with_reducible rfl) | assumption | rfl))) ?_
  simp only [Act.put, List.setIfInBounds_toArray, List.set_cons_zero, List.set_cons_succ]
  refine Lex.step_take (.bool true) xw46 rfl (Lex.want_none rfl) (by intro Wx hSw; (try dsimp only at hSw); go_simp; (try (first | (with_reducible rfl) | assumption | rfl))) ?_
  simp only [Act.put, List.setIfInBounds_toArray, List.set_cons_zero, List.set_cons_succ]
  refine Lex.step_take (.slice (some ⟨bp, op, none⟩) 3 cp) xw47 rfl (Lex.want_some rfl xw46 rfl (b' := true) rfl rfl) (by intro Wx hSw; (try dsimp only at hSw); go_simp; (try (first | (with_reducible rfl) | assumption | rfl))) ?_
  simp only [Act.put, List.setIfInBounds_toArray, List.set_cons_zero, List.set_cons_succ]
  refine Lex.step_take (.pointer (some ⟨bp, op + 3, none⟩)) xw48 rfl (Lex.want_some rfl xw46 rfl (b' := true) rfl rfl) (by intro Wx hSw; (try dsimp only at hSw); go_simp; (try (first | (with_reducible rfl) | assumption | rfl))) ?_
  simp only [Act.put, List.setIfInBounds_toArray, List.set_cons_zero, List.set_cons_succ]
  refine Lex.step_take (.agg #[.int .i64 1, .int .i64 3, .string ⟨#[]⟩]) xw49 rfl (Lex.want_some rfl xw46 rfl (b' := true) rfl rfl) (by intro Wx hSw; (try dsimp only at hSw); go_simp; (try (first | (with_reducible rfl) | assumption | rfl))) ?_
  simp only [Act.put, List.setIfInBounds_toArray, List.set_cons_zero, List.set_cons_succ]
  refine Lex.step_take (.agg #[.int .i64 1, .int .i64 3, .string ⟨#[]⟩]) xw50 rfl (Lex.want_some rfl xw46 rfl (b' := true) rfl rfl) (by intro Wx hSw; (try dsimp only at hSw); go_simp; (try (first | (with_reducible rfl) | assumption | rfl))) ?_
  simp only [Act.put, List.setIfInBounds_toArray, List.set_cons_zero, List.set_cons_succ]
  refine Lex.step_take (.bool true) xw51 rfl (Lex.want_some rfl xw46 rfl (b' := true) rfl rfl) (by intro Wx hSw; (try dsimp only at hSw); go_simp; (try (first | (with_reducible rfl) | assumption | rfl))) ?_
  simp only [Act.put, List.setIfInBounds_toArray, List.set_cons_zero, List.set_cons_succ]
  refine Lex.step_take (.bool true) xw52 rfl (Lex.want_none rfl) (by intro Wx hSw; (try dsimp only at hSw); go_simp; (try (first | (with_reducible rfl) | assumption | rfl))) ?_
  simp only [Act.put, List.setIfInBounds_toArray, List.set_cons_zero, List.set_cons_succ]
  refine Lex.step_take (.bool true) xw53 rfl (Lex.want_none rfl) (by intro Wx hSw; (try dsimp only at hSw); go_simp; (try (first | (with_reducible rfl) | assumption | rfl))) ?_
  simp only [Act.put, List.setIfInBounds_toArray, List.set_cons_zero, List.set_cons_succ]
  refine Lex.step_take (.bool false) xw54 rfl (Lex.want_some rfl xw53 rfl (b' := true) rfl rfl) (by intro Wx hSw; (try dsimp only at hSw); go_simp; (try (first | (with_reducible rfl) | assumption | rfl))) ?_
  simp only [Act.put, List.setIfInBounds_toArray, List.set_cons_zero, List.set_cons_succ]
  refine Lex.step_take (.bool true) xw55 rfl (Lex.want_some rfl xw53 rfl (b' := true) rfl rfl) (by intro Wx hSw; (try dsimp only at hSw); go_simp; (try (first | (with_reducible rfl) | assumption | rfl))) ?_
  simp only [Act.put, List.setIfInBounds_toArray, List.set_cons_zero, List.set_cons_succ]
  refine Lex.step_take (.bool true) xw56 rfl (Lex.want_none rfl) (by intro Wx hSw; (try dsimp only at hSw); go_simp; (try (first | (with_reducible rfl) | assumption | rfl))) ?_
  simp only [Act.put, List.setIfInBounds_toArray, List.set_cons_zero, List.set_cons_succ]
  refine Lex.step_take (.bool true) xw57 rfl (Lex.want_none rfl) (by intro Wx hSw; (try dsimp only at hSw); go_simp; (try (first | (with_reducible rfl) | assumption | rfl))) ?_
  simp only [Act.put, List.setIfInBounds_toArray, List.set_cons_zero, List.set_cons_succ]
  refine NoPanic.normal ?_
  go_wp2
  go_ret
  exact ⟨rfl, hF.B⟩
end Go.Proofs.Ytodhhoegdfpakaa.Ro
