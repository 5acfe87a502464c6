/- A group without any cell: the document's, walked. -/
import Derived.Test.YtabgbhilbnchnaaMiB
namespace Go.Proofs.Ytabgbhilbnchnaa.Mi
open Go.RowKit Pac Va Sc Ro Lex

def vZ : V := ⟨0, 0, ⟨#[]⟩⟩
def emptyM (m : Nat) : List (List V) := List.replicate 8 (List.replicate m vZ)
theorem made_vals : ∀ m : Nat, (madeCells #[.int .i64 0, .int .i64 0, .string ⟨#[]⟩] (m * 3)).toList = Li.cellsL cellsV (List.replicate m vZ)
  | 0 => by simp [madeCells, Li.cellsL]
  | m + 1 => by
    have h := made_vals m
    unfold madeCells at h ⊢
    rw [Array.toList_map, Array.toList_range] at h ⊢
    rw [show (m + 1) * 3 = m * 3 + 1 + 1 + 1 by omega, List.range_succ, List.range_succ, List.range_succ, List.map_append, List.map_append, List.map_append, h, List.replicate_succ', Li.cellsL_snoc, List.append_assoc, List.append_assoc]
    congr 1
    have e0 : (m * 3) % 3 = 0 := by omega
    have e1 : (m * 3 + 1) % 3 = 1 := by omega
    have e2 : (m * 3 + 2) % 3 = 2 := by omega
    show [(#[Value.int .i64 0, .int .i64 0, .string ⟨#[]⟩] : Array Value)[(m * 3) % 3]!] ++ ([(#[Value.int .i64 0, .int .i64 0, .string ⟨#[]⟩] : Array Value)[(m * 3 + 1) % 3]!] ++ [(#[Value.int .i64 0, .int .i64 0, .string ⟨#[]⟩] : Array Value)[(m * 3 + 2) % 3]!]) = cellsV vZ
    rw [e0, e1, e2]
    rfl
theorem empty_snoc (m q : Nat) : List.replicate (q + 1) (List.replicate m vZ) = List.replicate q (List.replicate m vZ) ++ [List.replicate m vZ] := List.replicate_succ'
theorem infoRow : (Try.prog.info? 34).map (fun i => (i.zero, i.size, i.bytes)) = some (some (.slice none 0 0), 1, 24) := by kernel_rfl

set_option maxRecDepth 20000 in
set_option maxHeartbeats 3200000 in
theorem refEmpty_any (A2 : Option Addr) (cp2 m : Nat) (w : World) (hm : m ≤ 1000000) :
    Calls Try.prog 13 #[.slice A2 m cp2] w (Li.LsPost cellsV 3 w.heap.size (emptyM m) w) := by
  obtain ⟨i0, hi, hz0, hz1, hz2⟩ := info_parts infoV
  obtain ⟨i2, hi2, hy0, hy1, hy2⟩ := info_parts infoRow
  have hPG := fun (w' : World) (sv : Value) (hs : List (Li.Gr V)) (hown : w'.ownsRow w.heap.size 34 1 sv 8 (Li.cellsL Li.cellsG hs)) (hn : hs.length = 8) (hI : ∀ z ∈ hs, Li.In1 cellsV 3 36 w' w.heap.size w.heap.size z) (e : hs.map Li.Gr.l = emptyM m) (hB : Below w.heap.size w w') =>
    Li.LsPost.own (Nat.le_refl _) hown hn hI e hB
  generalize Li.LsPost cellsV 3 w.heap.size (emptyM m) w = post at hPG ⊢
  have HPG := Lib.hid hPG
  clear hPG
  go_enter Try.func13, Try.ntmps13
  go_wp2
  go_loopw [3, 4] (fun x i wr => ∃ (q : Nat) (sv : Value) (hs : List (Li.Gr V)), q ≤ 8 ∧ i = .int .i64 q ∧ x = sv ∧ wr.ownsRow w.heap.size 34 1 sv q (Li.cellsL Li.cellsG hs) ∧ Hid (hs.length = q ∧ (∀ z ∈ hs, Li.In1 cellsV 3 36 wr w.heap.size w.heap.size z) ∧ hs.map Li.Gr.l = List.replicate q (List.replicate m vZ)) ∧ Below w.heap.size w wr) (fun _ i _ => 8 - (intOf i).toNat)
  case atStart => exact ⟨0, _, [], Nat.zero_le _, rfl, rfl, World.ownsRow_nil _ _ _ _, Lib.hid ⟨rfl, fun z hz => by simp at hz, rfl⟩, Below.refl _ w⟩
  case round =>
    obtain ⟨q, sv, hs, hq, rfl, rfl, hown, hH, hB⟩ := hrel
    by_cases hlt : q < 8
    · have i1 : (q : Int) < 8 := by omega
      go_wp2_with (at_make; go_must (refine wpList_make_full _ rfl _ _ 34 rfl wr.heap.size 36 i0 (.agg #[.int .i64 0, .int .i64 0, .string ⟨#[]⟩]) 3 Try.underlying34 hi hz0 hz1 _ _ _ _ m rfl rfl rfl rfl (by rw [hz2]; omega) (by unfold maxLen; omega) (Nat.le_refl _) ?_))
      intro w1 hown1 hgrow1
      rw [made_vals] at hown1
      have hy1 : Below wr.heap.size wr w1 := (Below.refl _ _).grown hgrow1 (Nat.le_refl _) (fun k hk => by cases hk)
      have hy : Below wr.heap.size wr (w1.alloc (.cells #[.slice (some ⟨wr.heap.size, 0, none⟩) m m] 34)) := hy1.alloc hy1.size _
      have hx : Li.In1 cellsV 3 36 (w1.alloc (.cells #[.slice (some ⟨wr.heap.size, 0, none⟩) m m] 34)) w.heap.size w.heap.size ⟨some ⟨wr.heap.size, 0, none⟩, m, List.replicate m vZ⟩ :=
        (Li.In1.of_own cellsV_len hown1 (by simp) hB.size).below ((Below.refl w1.heap.size w1).alloc (Nat.le_refl _) _) (Nat.le_refl _)
      have hn2 := heap_alloc_new w1 (.cells #[.slice (some ⟨wr.heap.size, 0, none⟩) m m] 34)
      have hown2 := (Li.own_below hown hy1 (Nat.le_refl _)).alloc (.cells #[.slice (some ⟨wr.heap.size, 0, none⟩) m m] 34)
      have HI := Lib.hid (And.intro (fun z hz => (hH.out.2.1 z hz).below hy (Nat.le_refl _)) hx)
      have HW := Lib.hid (And.intro hown2 (And.intro (hB.trans (hy.mono hB.size)) hn2))
      clear hown hown1 hown2 hgrow1 hy hy1 hx hn2 hB
      go_wp2_with (at_builtin; go_must (refine wpList_append_own _ rfl _ _ 26 rfl w.heap.size 34 i2 (.slice none 0 0) 1 24 Try.underlying26 hi2 hy0 hy1 hy2 rfl (by decide) u3 q (Li.cellsL Li.cellsG hs) rfl HW.out.1 ⟨w1.heap.size, 0, none⟩ 1 1 [.slice (some ⟨wr.heap.size, 0, none⟩) m m] rfl rfl (World.news_of_block HW.out.2.2) (by simp [Value.oneCell']) (by unfold maxLen; omega) (by omega) HW.out.2.1.size ?_))
      intro v5 y5 hown5 hgrow5 _
      obtain ⟨hownW, hbW, hnW⟩ := HW.out
      have hB := hbW.grown hgrow5 hbW.size (fun k hk => (hownW.lt k hk).1)
      have hP := Li.own_push (t := 36) (x := ⟨some ⟨wr.heap.size, 0, none⟩, m, List.replicate m vZ⟩) (by decide) HI.out.1 hownW HI.out.2 (by simpa using hown5) hgrow5
      have HP := Lib.hid hP.2
      have hown5 := hP.1
      clear hownW hbW hnW hgrow5 HW hP HI
      go_wp2
      go_roundw
      case rel =>
        refine ⟨q + 1, _, hs ++ [⟨some ⟨wr.heap.size, 0, none⟩, m, List.replicate m vZ⟩], by omega, by go_num, rfl, hown5, Lib.hid ⟨by rw [List.length_append, hH.out.1]; rfl, HP.out, by rw [List.map_append, hH.out.2.2, empty_snoc]; rfl⟩, hB⟩
      case measure => simp [intOf]; omega
    · obtain rfl : q = 8 := by omega
      go_wp2
      exact HPG.out wr _ hs hown hH.out.1 hH.out.2.1 hH.out.2.2 hB
end Go.Proofs.Ytabgbhilbnchnaa.Mi
