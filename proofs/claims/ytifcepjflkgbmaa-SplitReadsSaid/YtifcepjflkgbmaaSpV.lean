/- The plain splits: the program's, walked. -/
import Derived.Test.YtifcepjflkgbmaaSpG
namespace Go.Proofs.Ytifcepjflkgbmaa.Sp
open Go.RowKit Pac Lex

/-- The first q of m numbers, and noughts. -/
def upZ (m q : Nat) : List Value := (List.range m).map (fun (k : Nat) => Value.int .i64 (if k < q then (k : Int) else 0))
theorem upZ_len (m q : Nat) : (upZ m q).length = m := by unfold upZ; simp
theorem upZ_at {m q k : Nat} (h : k < m) : (upZ m q)[k]? = some (.int .i64 (if k < q then (k : Int) else 0)) := by
  unfold upZ
  rw [List.getElem?_map, List.getElem?_range h]
  rfl
theorem upZ_set {m q : Nat} (h : q < m) : (upZ m q).set q (.int .i64 (q : Int)) = upZ m (q + 1) := by
  apply List.ext_getElem?
  intro j
  by_cases hj : j < m
  · rw [List.getElem?_set, upZ_at hj, upZ_at hj, upZ_len]
    by_cases hjq : q = j
    · subst hjq
      rw [if_pos rfl, if_pos h, if_pos (by omega)]
    · rw [if_neg hjq]
      congr 2
      by_cases h2 : j < q
      · rw [if_pos h2, if_pos (by omega)]
      · rw [if_neg h2, if_neg (by omega)]
  · rw [List.getElem?_eq_none (by rw [List.length_set, upZ_len]; omega), List.getElem?_eq_none (by rw [upZ_len]; omega)]
theorem upZ_all (m : Nat) : upZ m m = Li.cellsL cellsI (upTo m) := by
  unfold upZ Li.cellsL upTo cellsI
  rw [List.flatMap_map]
  apply List.ext_getElem?
  intro j
  rw [← List.map_eq_flatMap, List.getElem?_map, List.getElem?_map]
  by_cases hj : j < m
  · rw [List.getElem?_range hj]
    simp [hj]
  · rw [List.getElem?_eq_none (by simpa using hj)]
    rfl
theorem made_ints (n : Nat) : (madeCells (Value.int .i64 0).cells (n * 1)).toList = upZ n 0 := by
  unfold madeCells upZ
  simp [Value.cells, Nat.mod_one]

set_option maxRecDepth 20000 in
set_option maxHeartbeats 1600000 in
theorem one_any (cols : Int) (w : World) (h0 : -9223372036854775808 ≤ cols) (h1 : cols ≤ 1000000) : Calls Try.prog 13 #[.int .i64 cols] w (LLPost w.heap.size (oneI cols) w) := by
  obtain ⟨i0, hi, hz0, hz1, hz2⟩ := info_parts infoI
  by_cases hc : cols < 1
  · have hP : LLPost w.heap.size (oneI cols) w (.returned (.slice none 0 0)) w := by
      have e : oneI cols = [] := by unfold oneI oneS; rw [if_pos (by omega)]
      rw [e]
      exact ⟨none, 0, rfl, Nat.le_refl _, HasLL.nil _ _ _, Below.refl _ w⟩
    generalize LLPost w.heap.size (oneI cols) w = post at hP ⊢
    have HP := Lib.hid hP
    clear hP
    go_enter Try.func13, Try.ntmps13
    go_wp2
    exact HP.out
  · obtain ⟨m, rfl⟩ : ∃ m : Nat, cols = (m : Int) := ⟨cols.toNat, by omega⟩
    have hPG := fun (w' : World) (A : Option Addr) (cp : Nat) (ww : World) (hl : HasI w' w.heap.size A (upTo m)) (hc : m ≤ cp) (hB : Below w.heap.size w w') =>
      (show LLPost w.heap.size (oneI m) w (.returned (.slice (some ⟨w'.heap.size, 0, none⟩) 1 1)) (w'.alloc (.cells #[.slice A m cp] 44)) from by
        have e : oneI m = [upTo m] := by unfold oneI oneS; rw [if_neg (by omega), Int.toNat_natCast]
        rw [e]
        refine ⟨_, 1, rfl, Nat.le_refl _, ⟨[⟨A, cp, upTo m⟩], rfl, (Li.list_of_block cellsG_len (heap_alloc_new w' _) (by unfold Li.cellsL cellsG; rw [List.flatMap_cons, upTo_len]; rfl)).lower hB.size, fun x hx => ?_⟩, hB.alloc hB.size _⟩
        rw [List.mem_singleton] at hx
        subst hx
        exact ⟨hl.below ((Below.refl w'.heap.size w').alloc (Nat.le_refl _) _) (Nat.le_refl _), by rw [upTo_len]; exact hc⟩)
    generalize LLPost w.heap.size (oneI m) w = post at hPG ⊢
    have HPG := Lib.hid hPG
    clear hPG
    go_enter Try.func13, Try.ntmps13
    go_wp2_with (at_make; go_must (refine wpList_make_full _ rfl _ _ 44 rfl w.heap.size 3 i0 (.int .i64 0) 1 Try.underlying44 hi hz0 hz1 _ _ _ _ m rfl rfl rfl rfl (by rw [hz2]; omega) (by unfold maxLen; omega) (Nat.le_refl _) ?_); intro w1 hown1 hgrow1)
    have hb1 : Below w.heap.size w w1 := (Below.refl _ _).grown hgrow1 (by simp) (fun k hk => by cases hk)
    rw [made_ints m] at hown1
    clear hgrow1
    go_wp2
    go_loopw [15] (fun i wr => ∃ (q : Nat), q ≤ m ∧ i = .int .i64 q ∧ wr.ownsRow w.heap.size 3 1 (.slice (some ⟨w.heap.size, 0, none⟩) m m) m (upZ m q) ∧ Below w.heap.size w wr) (fun i _ => m - (intOf i).toNat)
    case atStart => exact ⟨0, Nat.zero_le _, rfl, hown1, hb1⟩
    case round =>
      clear hown1 hb1
      obtain ⟨q, hq, rfl, hown, hB⟩ := hrel
      by_cases hlt : q < m
      · have i1 : (q : Int) < (m : Int) := by omega
        have i0' : (0 : Int) ≤ (q : Int) := by omega
        have s1 := hown.cellAt q (by omega)
        have s2 := hown.frozenAt q
        rw [upZ_at hlt] at s1
        have hst := hown.stored q (.int .i64 (q : Int))
        rw [upZ_set hlt] at hst
        have HST := Lib.hid (And.intro hst.1 (hB.grown hst.2 hB.size (fun k hk => (hown.lt k hk).1)))
        clear hst hown
        go_wp2
        clear s1 s2
        go_roundw
        case rel => exact ⟨q + 1, by omega, by go_num, HST.out.1, HST.out.2⟩
        case measure => simp [intOf]; omega
      · obtain rfl : q = m := by omega
        rw [upZ_all] at hown
        obtain ⟨A, c, e, hc', hl⟩ := Li.list_of_own cellsI_len hown (upTo_len q)
        injection e with e1 e2 e3
        subst e1 e3
        have HL := Lib.hid (HPG.out wr _ q w hl hc' hB)
        clear hown hl
        go_wp2
        exact HL.out

theorem cellsG_map (hs : List G) : Li.cellsL cellsG hs = hs.map (fun x => Value.slice x.A x.g.length x.cp) := by
  unfold Li.cellsL cellsG
  rw [List.map_eq_flatMap]
theorem cellsG_set (hs : List G) (q : Nat) (x : G) : (Li.cellsL cellsG hs).set q (.slice x.A x.g.length x.cp) = Li.cellsL cellsG (hs.set q x) := by
  rw [cellsG_map, cellsG_map, List.map_set]
/-- A group that is none yet. -/
def noG : G := ⟨none, 0, []⟩
theorem In1.none (w : World) (lo base : Nat) : In1 w lo base noG := ⟨fun h => absurd rfl h, Nat.le_refl _, fun b o s e => by cases e⟩
/-- One group put in its place. -/
theorem own_set {w : World} {lo base m cp g q : Nat} {hs : List G} {x : G} (hI : ∀ z ∈ hs, In1 w lo base z) (hown : w.ownsRow base 44 1 (.slice (some ⟨g, 0, none⟩) m cp) m (Li.cellsL cellsG hs)) (hx : In1 w lo base x) :
    (w.setCell ⟨g, q, none⟩ (.slice x.A x.g.length x.cp)).ownsRow base 44 1 (.slice (some ⟨g, 0, none⟩) m cp) m (Li.cellsL cellsG (hs.set q x)) ∧ (∀ z ∈ hs.set q x, In1 (w.setCell ⟨g, q, none⟩ (.slice x.A x.g.length x.cp)) lo base z) ∧ w.grownBy (w.setCell ⟨g, q, none⟩ (.slice x.A x.g.length x.cp)) (some g) := by
  have h := hown.stored q (.slice x.A x.g.length x.cp)
  rw [cellsG_set] at h
  refine ⟨h.1, fun z hz => ?_, h.2⟩
  rcases List.mem_or_eq_of_mem_set hz with hz | rfl
  · exact (hI z hz).grown hown h.2
  · exact hx.grown hown h.2
theorem fill_zero (l : List (List Int)) : (List.replicate l.length noG).map G.g = l.take 0 ++ List.replicate (l.length - 0) [] := by
  rw [List.map_replicate]
  simp [noG]
theorem fill_next {l : List (List Int)} {q : Nat} {g : List Int} (h : l[q]? = some g) : (l.take q ++ List.replicate (l.length - q) []).set q g = l.take (q + 1) ++ List.replicate (l.length - (q + 1)) [] := by
  have hq := (List.getElem?_eq_some_iff.1 h).1
  have e : l.length - q = (l.length - (q + 1)) + 1 := by omega
  rw [List.set_append_right _ _ (by rw [List.length_take]; omega), List.length_take, show q - min q l.length = 0 by omega, e, List.replicate_succ, List.set_cons_zero, List.take_add_one, h]
  simp
theorem made_groups (n : Nat) : (madeCells (Value.slice none 0 0).cells (n * 1)).toList = Li.cellsL cellsG (List.replicate n noG) := by
  rw [cellsG_map, List.map_replicate, Nat.mul_one]
  exact toList_madeCells_one _ _
theorem each_at {m q : Nat} (h : q < m) : (eachS m)[q]? = some [(q : Int)] := by
  unfold eachS upTo
  rw [List.map_map, List.getElem?_map, List.getElem?_range h]
  rfl

set_option maxRecDepth 20000 in
set_option maxHeartbeats 1600000 in
theorem each_any (cols : Int) (w : World) (h0 : -9223372036854775808 ≤ cols) (h1 : cols ≤ 1000000) : Calls Try.prog 15 #[.int .i64 cols] w (LLPost w.heap.size (eachI cols) w) := by
  obtain ⟨i0, hi, hz0, hz1, hz2⟩ := info_parts infoG
  by_cases hc : cols < 1
  · have hP : LLPost w.heap.size (eachI cols) w (.returned (.slice none 0 0)) w := by
      have e : eachI cols = [] := by
        unfold eachI
        rw [show cols.toNat = 0 by omega]
        rfl
      rw [e]
      exact ⟨none, 0, rfl, Nat.le_refl _, HasLL.nil _ _ _, Below.refl _ w⟩
    generalize LLPost w.heap.size (eachI cols) w = post at hP ⊢
    have HP := Lib.hid hP
    clear hP
    go_enter Try.func15, Try.ntmps15
    go_wp2
    exact HP.out
  · obtain ⟨m, rfl⟩ : ∃ m : Nat, cols = (m : Int) := ⟨cols.toNat, by omega⟩
    have hPG := fun (w' : World) (sv : Value) (hs : List G) (hown : w'.ownsRow w.heap.size 44 1 sv m (Li.cellsL cellsG hs)) (hn : hs.length = m) (hI : ∀ z ∈ hs, In1 w' w.heap.size w.heap.size z) (e : hs.map G.g = eachS m) (hB : Below w.heap.size w w') =>
      (show LLPost w.heap.size (eachI m) w (.returned sv) w' from by unfold eachI; rw [Int.toNat_natCast]; exact LLPost.own (Nat.le_refl _) hown hn hI e hB)
    generalize LLPost w.heap.size (eachI m) w = post at hPG ⊢
    have HPG := Lib.hid hPG
    clear hPG
    go_enter Try.func15, Try.ntmps15
    go_wp2_with (at_make; go_must (refine wpList_make_full _ rfl _ _ 22 rfl w.heap.size 44 i0 (.slice none 0 0) 1 Try.underlying22 hi hz0 hz1 _ _ _ _ m rfl rfl rfl rfl (by rw [hz2]; omega) (by unfold maxLen; omega) (Nat.le_refl _) ?_); intro w1 hown1 hgrow1)
    have hb1 : Below w.heap.size w w1 := (Below.refl _ _).grown hgrow1 (by simp) (fun k hk => by cases hk)
    rw [made_groups m] at hown1
    clear hgrow1
    go_wp2
    go_loopw [15] (fun i wr => ∃ (q : Nat) (hs : List G), q ≤ m ∧ i = .int .i64 q ∧ wr.ownsRow w.heap.size 44 1 (.slice (some ⟨w.heap.size, 0, none⟩) m m) m (Li.cellsL cellsG hs) ∧ Hid (hs.length = m ∧ (∀ z ∈ hs, In1 wr w.heap.size w.heap.size z) ∧ hs.map G.g = (eachS m).take q ++ List.replicate ((eachS m).length - q) []) ∧ Below w.heap.size w wr) (fun i _ => m - (intOf i).toNat)
    case atStart =>
      refine ⟨0, _, Nat.zero_le _, rfl, hown1, Lib.hid ⟨by simp, fun z hz => ?_, ?_⟩, hb1⟩
      · rw [List.eq_of_mem_replicate hz]
        exact In1.none _ _ _
      · have := fill_zero (eachS m)
        rwa [each_len] at this ⊢
    case round =>
      clear hown1 hb1
      obtain ⟨q, hs, hq, rfl, hown, hH, hB⟩ := hrel
      by_cases hlt : q < m
      · have i1 : (q : Int) < (m : Int) := by omega
        have i0' : (0 : Int) ≤ (q : Int) := by omega
        have hb1 := hB.alloc hB.size (.cells #[.int .i64 q] 3)
        have hy := (Below.refl wr.heap.size wr).alloc (Nat.le_refl _) (.cells #[.int .i64 q] 3)
        have hn1 := heap_alloc_new wr (.cells #[.int .i64 q] 3)
        have hownA := hown.alloc (.cells #[.int .i64 q] 3)
        obtain ⟨xg, hxg, hl0⟩ : ∃ xg, hs[q]? = some xg ∧ q < hs.length := ⟨_, List.getElem?_eq_getElem (by rw [hH.out.1]; exact hlt), by rw [hH.out.1]; exact hlt⟩
        have s1 := hownA.cellAt q (by omega)
        have s2 := hownA.frozenAt q
        rw [cellsG_map, List.getElem?_map, hxg] at s1
        have hP := own_set (q := q) (x := ⟨some ⟨wr.heap.size, 0, none⟩, 1, [(q : Int)]⟩) (fun z hz => (hH.out.2.1 z hz).below hy (Nat.le_refl _)) hownA ⟨(Li.list_of_block cellsI_len hn1 rfl).lower hB.size, Nat.le_refl _, fun b o s e _ => Or.inr ⟨_, _, by
          injection e with e
          injection e with e
          subst e
          exact hn1⟩⟩
        have HP := Lib.hid (And.intro hP (hb1.grown hP.2.2 hb1.size (fun k hk => (hownA.lt k hk).1)))
        have HF : Hid ((hs.set q ⟨some ⟨wr.heap.size, 0, none⟩, 1, [(q : Int)]⟩).map G.g = (eachS m).take (q + 1) ++ List.replicate ((eachS m).length - (q + 1)) []) := Lib.hid (by
          rw [List.map_set, hH.out.2.2]
          exact fill_next (each_at hlt))
        clear hown hB hb1 hn1 hy hP hownA hxg
        go_wp2
        clear s1 s2
        go_roundw
        case rel => exact ⟨q + 1, _, by omega, by go_num, HP.out.1.1, Lib.hid ⟨by rw [List.length_set]; exact hH.out.1, HP.out.1.2.1, HF.out⟩, HP.out.2⟩
        case measure => simp [intOf]; omega
      · obtain rfl : q = m := by omega
        have HQ := Lib.hid (HPG.out wr _ hs hown hH.out.1 hH.out.2.1 (by
          have h := hH.out.2.2
          rw [each_len, Nat.sub_self, List.take_of_length_le (by rw [each_len]; omega)] at h
          simpa using h) hB)
        clear hown
        go_wp2
        exact HQ.out
end Go.Proofs.Ytifcepjflkgbmaa.Sp
