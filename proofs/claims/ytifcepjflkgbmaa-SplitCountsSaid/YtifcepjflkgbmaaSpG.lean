/- A list of groups of one's own that grows; the plain splits: the document's, walked. -/
import Derived.Test.YtifcepjflkgbmaaSpF
namespace Go.Proofs.Ytifcepjflkgbmaa.Sp
open Go.RowKit Pac Lex

theorem infoI : (Try.prog.info? 3).map (fun i => (i.zero, i.size, i.bytes)) = some (some (.int .i64 0), 1, 8) := by kernel_rfl
theorem infoG : (Try.prog.info? 44).map (fun i => (i.zero, i.size, i.bytes)) = some (some (.slice none 0 0), 1, 24) := by kernel_rfl
/-- A group that no row of groups, from base on, lies in. -/
structure In1 (w : World) (lo base : Nat) (x : G) : Prop where
  has : HasI w lo x.A x.g
  cap : x.g.length ≤ x.cp
  tag : ∀ b o s, x.A = some ⟨b, o, s⟩ → x.g ≠ [] → b < base ∨ ∃ cs fr, w.heap[b]? = some (.cells cs 3 fr)
section
variable {w w' : World} {lo base B n : Nat} {x : G} {hs : List G} {sv sv' : Value}
theorem In1.below (h : In1 w lo base x) (hb : Below B w w') (hB : w.heap.size ≤ B) : In1 w' lo base x := by
  refine ⟨h.has.below hb hB, h.cap, fun b o s e hn => ?_⟩
  rcases h.tag b o s e hn with h1 | ⟨cs, fr, h1⟩
  · exact Or.inl h1
  · have hlt : b < w.heap.size := (Array.getElem?_eq_some_iff.1 h1).1
    exact Or.inr ⟨cs, fr, (hb.block b (Nat.lt_of_lt_of_le hlt hB)).trans h1⟩
theorem In1.grown (h : In1 w lo base x) (hown : w.ownsRow base 44 1 sv n (Li.cellsL cellsG hs)) (hg : w.grownBy w' sv.ownBlock) : In1 w' lo base x := by
  have key : ∀ b o s, x.A = some ⟨b, o, s⟩ → x.g ≠ [] → some b ≠ sv.ownBlock := fun b o s e hn hb => by
    have hlt := hown.lt b hb.symm
    rcases h.tag b o s e hn with h1 | ⟨cs, fr, h1⟩
    · omega
    · rcases hown.2 with ⟨rfl, _⟩ | ⟨g, cap, cur, rfl, _, hg2, _⟩
      · cases hb
      · injection hb with hb
        have hb : b = g := hb
        subst hb
        rw [h1] at hg2
        injection hg2 with hg2
        injection hg2 with _ e2
        cases e2
  refine ⟨fun hn => ?_, h.cap, fun b o s e hn => ?_⟩
  · obtain ⟨b, o, hA, hlo, hlt, hc⟩ := h.has hn
    refine ⟨b, o, hA, hlo, Nat.lt_of_lt_of_le hlt hg.size, fun j y hj i v hv => ?_⟩
    exact hg.cell (hc j y hj i v hv) (key b o none hA hn)
  · rcases h.tag b o s e hn with h1 | ⟨cs, fr, h1⟩
    · exact Or.inl h1
    · have hlt : b < w.heap.size := (Array.getElem?_eq_some_iff.1 h1).1
      exact Or.inr ⟨cs, fr, (hg.block b hlt (key b o s e hn)).trans h1⟩
/-- One group more. -/
theorem own_push (hI : ∀ z ∈ hs, In1 w lo base z) (hown : w.ownsRow base 44 1 sv n (Li.cellsL cellsG hs)) (hx : In1 w lo base x) (hown' : w'.ownsRow base 44 1 sv' (n + 1) (Li.cellsL cellsG hs ++ [.slice x.A x.g.length x.cp])) (hg : w.grownBy w' sv.ownBlock) :
    w'.ownsRow base 44 1 sv' (n + 1) (Li.cellsL cellsG (hs ++ [x])) ∧ ∀ z ∈ hs ++ [x], In1 w' lo base z := by
  refine ⟨by rw [Li.cellsL_snoc]; exact hown', fun z hz => ?_⟩
  rcases List.mem_append.1 hz with hz | hz
  · exact (hI z hz).grown hown hg
  · rw [List.mem_singleton] at hz
    subst hz
    exact hx.grown hown hg
end
/-- Groups of one's own, in an answer. -/
def LLPost (lo : Nat) (ls : List (List Int)) (w : World) (e : Ending) (w' : World) : Prop :=
  ∃ A cp, e = .returned (.slice A ls.length cp) ∧ ls.length ≤ cp ∧ HasLL w' lo A ls ∧ Below w.heap.size w w'
theorem LLPost.own {lo n : Nat} {ls : List (List Int)} {w w' : World} {sv : Value} {hs : List G} (hlo : lo ≤ w.heap.size) (hown : w'.ownsRow w.heap.size 44 1 sv n (Li.cellsL cellsG hs)) (hn : hs.length = n) (hI : ∀ z ∈ hs, In1 w' lo w.heap.size z) (e : hs.map G.g = ls) (hB : Below w.heap.size w w') : LLPost lo ls w (.returned sv) w' := by
  obtain ⟨A, c, rfl, hc, hl⟩ := Li.list_of_own cellsG_len hown hn
  subst e
  rw [← hn] at hc
  refine ⟨A, c, by rw [List.length_map, hn], by rw [List.length_map]; exact hc, ⟨hs, rfl, hl.lower hlo, fun x hx => ⟨(hI x hx).has, (hI x hx).cap⟩⟩, hB⟩
theorem upTo_snoc (q : Nat) : upTo (q + 1) = upTo q ++ [(q : Int)] := by unfold upTo; rw [List.range_succ, List.map_append]; rfl
theorem each_snoc (q : Nat) : eachS (q + 1) = eachS q ++ [[(q : Int)]] := by unfold eachS; rw [upTo_snoc, List.map_append]; rfl
theorem each_len (q : Nat) : (eachS q).length = q := by unfold eachS; rw [List.length_map, upTo_len]
def oneI (cols : Int) : List (List Int) := oneS cols.toNat
def eachI (cols : Int) : List (List Int) := eachS cols.toNat

set_option maxRecDepth 20000 in
set_option maxHeartbeats 1600000 in
theorem refOne_any (cols : Int) (w : World) (h0 : -9223372036854775808 ≤ cols) (h1 : cols ≤ 1000000) : Calls Try.prog 14 #[.int .i64 cols] w (LLPost w.heap.size (oneI cols) w) := by
  obtain ⟨i0, hi, hz0, hz1, hz2⟩ := info_parts infoI
  by_cases hc : cols < 1
  · have hP : LLPost w.heap.size (oneI cols) w (.returned (.slice none 0 0)) w := by
      have e : oneI cols = [] := by unfold oneI oneS; rw [if_pos (by omega)]
      rw [e]
      exact ⟨none, 0, rfl, Nat.le_refl _, HasLL.nil _ _ _, Below.refl _ w⟩
    generalize LLPost w.heap.size (oneI cols) w = post at hP ⊢
    have HP := Lib.hid hP
    clear hP
    go_enter Try.func14, Try.ntmps14
    go_wp2
    go_loopw [3, 4] (fun x i wr => x = .slice none 0 0 ∧ i = .int .i64 0 ∧ wr = w) (fun _ i _ => 0)
    case atStart => exact ⟨rfl, rfl, rfl⟩
    case round =>
      obtain ⟨rfl, rfl, rfl⟩ := hrel
      go_wp2
      exact HP.out
  · obtain ⟨m, rfl⟩ : ∃ m : Nat, cols = (m : Int) := ⟨cols.toNat, by omega⟩
    have hPG := fun (w' : World) (A : Option Addr) (cp : Nat) (ww : World) (hl : HasI w' w.heap.size A (upTo m)) (hc : m ≤ cp) (hB : Below w.heap.size w w') =>
      (show LLPost w.heap.size (oneI m) w (.returned (.slice (some ⟨w'.heap.size, 0, none⟩) 1 1)) (w'.alloc (.cells #[.slice A m cp] 44)) from by
        have e : oneI m = [upTo m] := by unfold oneI oneS; rw [if_neg (by omega), Int.toNat_natCast]
        rw [e]
        refine ⟨_, 1, rfl, Nat.le_refl _, ⟨[⟨A, cp, upTo m⟩], rfl, (Li.list_of_block cellsG_len (heap_alloc_new w' _) (by unfold Li.cellsL cellsG; rw [List.flatMap_cons, upTo_len]; rfl)).lower hB.size, fun x hx => ?_⟩, hB.alloc hB.size _⟩
        rw [List.mem_singleton] at hx
        subst hx
        exact ⟨hl.below ((Below.refl w'.heap.size w').alloc (Nat.le_refl _) _) (Nat.le_refl _), by rw [upTo_len]; exact hc⟩)
    generalize LLPost w.heap.size (oneI m) w = post at hPG ⊢
    have HPG := Lib.hid hPG
    clear hPG
    go_enter Try.func14, Try.ntmps14
    go_wp2
    go_loopw [3, 4] (fun x i wr => ∃ (q : Nat) (sv : Value), q ≤ m ∧ i = .int .i64 q ∧ x = sv ∧ wr.ownsRow w.heap.size 3 1 sv q (Li.cellsL cellsI (upTo q)) ∧ Below w.heap.size w wr) (fun _ i _ => m - (intOf i).toNat)
    case atStart => exact ⟨0, _, Nat.zero_le _, rfl, rfl, World.ownsRow_nil _ _ _ _, Below.refl _ w⟩
    case round =>
      obtain ⟨q, sv, hq, rfl, rfl, hown, hB⟩ := hrel
      by_cases hlt : q < m
      · have i1 : (q : Int) < (m : Int) := by omega
        have HW := Lib.hid (And.intro (hown.alloc (.cells #[.int .i64 q] 3)) (And.intro (hB.alloc hB.size (.cells #[.int .i64 q] 3)) (heap_alloc_new wr (.cells #[.int .i64 q] 3))))
        clear hown hB
        go_wp2_with (at_builtin; go_must (refine wpList_append_own _ rfl _ _ 44 rfl w.heap.size 3 i0 (.int .i64 0) 1 8 Try.underlying44 hi hz0 hz1 hz2 rfl (by decide) u3 q (Li.cellsL cellsI (upTo q)) rfl HW.out.1 ⟨wr.heap.size, 0, none⟩ 1 1 [.int .i64 q] rfl rfl (World.news_of_block HW.out.2.2) (by simp [Value.oneCell']) (by unfold maxLen; omega) (by omega) HW.out.2.1.size ?_))
        intro v5 y5 hown5 hgrow5 _
        obtain ⟨hownW, hbW, hnW⟩ := HW.out
        have hB := hbW.grown hgrow5 hbW.size (fun k hk => (hownW.lt k hk).1)
        clear hownW hbW hnW hgrow5 HW
        go_wp2
        go_roundw
        case rel =>
          refine ⟨q + 1, _, by omega, by go_num, rfl, ?_, hB⟩
          rw [upTo_snoc, Li.cellsL_snoc]
          exact hown5
        case measure => simp [intOf]; omega
      · obtain rfl : q = m := by omega
        obtain ⟨A, c, rfl, hc', hl⟩ := Li.list_of_own cellsI_len hown (upTo_len q)
        have HL := Lib.hid (HPG.out wr A c w hl hc' hB)
        have hq0 : ((q : Int) == 0) = false := beq_eq_false_iff_ne.2 (by omega)
        go_wp2
        exact HL.out

set_option maxRecDepth 20000 in
set_option maxHeartbeats 1600000 in
theorem refEach_any (cols : Int) (w : World) (h0 : -9223372036854775808 ≤ cols) (h1 : cols ≤ 1000000) : Calls Try.prog 16 #[.int .i64 cols] w (LLPost w.heap.size (eachI cols) w) := by
  obtain ⟨i0, hi, hz0, hz1, hz2⟩ := info_parts infoG
  obtain ⟨m, hm⟩ : ∃ m : Nat, cols.toNat = m := ⟨_, rfl⟩
  have hPG := fun (w' : World) (sv : Value) (hs : List G) (hown : w'.ownsRow w.heap.size 44 1 sv m (Li.cellsL cellsG hs)) (hn : hs.length = m) (hI : ∀ z ∈ hs, In1 w' w.heap.size w.heap.size z) (e : hs.map G.g = eachS m) (hB : Below w.heap.size w w') =>
    (show LLPost w.heap.size (eachI cols) w (.returned sv) w' from by unfold eachI; rw [hm]; exact LLPost.own (Nat.le_refl _) hown hn hI e hB)
  generalize LLPost w.heap.size (eachI cols) w = post at hPG ⊢
  have HPG := Lib.hid hPG
  clear hPG
  go_enter Try.func16, Try.ntmps16
  go_wp2
  go_loopw [3, 4] (fun x i wr => ∃ (q : Nat) (sv : Value) (hs : List G), q ≤ m ∧ i = .int .i64 q ∧ x = sv ∧ wr.ownsRow w.heap.size 44 1 sv q (Li.cellsL cellsG hs) ∧ Hid (hs.length = q ∧ (∀ z ∈ hs, In1 wr w.heap.size w.heap.size z) ∧ hs.map G.g = eachS q) ∧ Below w.heap.size w wr) (fun _ i _ => m - (intOf i).toNat)
  case atStart => exact ⟨0, _, [], Nat.zero_le _, rfl, rfl, World.ownsRow_nil _ _ _ _, Lib.hid ⟨rfl, fun z hz => by simp at hz, rfl⟩, Below.refl _ w⟩
  case round =>
    obtain ⟨q, sv, hs, hq, rfl, rfl, hown, hH, hB⟩ := hrel
    by_cases hlt : q < m
    · have i1 : (q : Int) < cols := by omega
      have hb1 := hB.alloc hB.size (.cells #[.int .i64 q] 3)
      have hb2 := hb1.alloc hb1.size (.cells #[.slice (some ⟨wr.heap.size, 0, none⟩) 1 1] 44)
      have hy := ((Below.refl wr.heap.size wr).alloc (Nat.le_refl _) (.cells #[.int .i64 q] 3)).alloc (by simp) (.cells #[.slice (some ⟨wr.heap.size, 0, none⟩) 1 1] 44)
      have hn1 : ((wr.alloc (.cells #[.int .i64 q] 3)).alloc (.cells #[.slice (some ⟨wr.heap.size, 0, none⟩) 1 1] 44)).heap[wr.heap.size]? = some (.cells #[.int .i64 q] 3 (0, 0)) :=
        (((Below.refl (wr.alloc (.cells #[.int .i64 q] 3)).heap.size (wr.alloc (.cells #[.int .i64 q] 3))).alloc (Nat.le_refl _) (.cells #[.slice (some ⟨wr.heap.size, 0, none⟩) 1 1] 44)).block wr.heap.size (by simp)).trans (heap_alloc_new wr _)
      have hn2 := heap_alloc_new (wr.alloc (.cells #[.int .i64 q] 3)) (.cells #[.slice (some ⟨wr.heap.size, 0, none⟩) 1 1] 44)
      rw [show (wr.alloc (.cells #[.int .i64 q] 3)).heap.size = wr.heap.size + 1 by simp] at hn2
      have HI : Hid ((∀ z ∈ hs, In1 ((wr.alloc (.cells #[.int .i64 q] 3)).alloc (.cells #[.slice (some ⟨wr.heap.size, 0, none⟩) 1 1] 44)) w.heap.size w.heap.size z) ∧ In1 ((wr.alloc (.cells #[.int .i64 q] 3)).alloc (.cells #[.slice (some ⟨wr.heap.size, 0, none⟩) 1 1] 44)) w.heap.size w.heap.size ⟨some ⟨wr.heap.size, 0, none⟩, 1, [(q : Int)]⟩) :=
        Lib.hid ⟨fun z hz => (hH.out.2.1 z hz).below hy (Nat.le_refl _), ⟨(Li.list_of_block cellsI_len hn1 rfl).lower hB.size, Nat.le_refl _, fun b o s e _ => Or.inr ⟨_, _, by
          injection e with e
          injection e with e
          subst e
          exact hn1⟩⟩⟩
      have HW := Lib.hid (And.intro ((hown.alloc (.cells #[.int .i64 q] 3)).alloc (.cells #[.slice (some ⟨wr.heap.size, 0, none⟩) 1 1] 44)) (And.intro hb2 hn2))
      clear hown hB hb1 hb2 hn1 hn2 hy
      go_wp2_with (at_builtin; go_must (refine wpList_append_own _ rfl _ _ 22 rfl w.heap.size 44 i0 (.slice none 0 0) 1 24 Try.underlying22 hi hz0 hz1 hz2 rfl (by decide) u3 q (Li.cellsL cellsG hs) rfl HW.out.1 ⟨wr.heap.size + 1, 0, none⟩ 1 1 [.slice (some ⟨wr.heap.size, 0, none⟩) 1 1] rfl rfl (World.news_of_block HW.out.2.2) (by simp [Value.oneCell']) (by unfold maxLen; omega) (by omega) HW.out.2.1.size ?_))
      intro v5 y5 hown5 hgrow5 _
      obtain ⟨hownW, hbW, hnW⟩ := HW.out
      have hB := hbW.grown hgrow5 hbW.size (fun k hk => (hownW.lt k hk).1)
      have hP := own_push (x := ⟨some ⟨wr.heap.size, 0, none⟩, 1, [(q : Int)]⟩) HI.out.1 hownW HI.out.2 hown5 hgrow5
      have HP := Lib.hid hP.2
      have hown5 := hP.1
      clear hownW hbW hnW hgrow5 HW hP HI
      go_wp2
      go_roundw
      case rel =>
        refine ⟨q + 1, _, hs ++ [⟨some ⟨wr.heap.size, 0, none⟩, 1, [(q : Int)]⟩], by omega, by go_num, rfl, hown5, Lib.hid ⟨by rw [List.length_append, hH.out.1]; rfl, HP.out, by rw [List.map_append, hH.out.2.2, each_snoc]; rfl⟩, hB⟩
      case measure => simp [intOf]; omega
    · obtain rfl : q = m := by omega
      have i1 : ¬ (q : Int) < cols := by omega
      go_wp2
      exact HPG.out wr _ hs hown hH.out.1 hH.out.2.1 hH.out.2.2 hB
end Go.Proofs.Ytifcepjflkgbmaa.Sp
