/- Rows: what the program's Pick says, in a row of its own. -/
import Derived.Test.YtpnnkhpokangfaaDoorRoE
import Derived.Test.YtpnnkhpokangfaaDoorRoD
namespace Go.Proofs.YtpnnkhpokangfaaDoor.Ro
open Go.RowKit Pac Va Sc Lex

def PickOwn (l : List V) (cols : List Int) (w : World) (e : Ending) (w' : World) : Prop :=
 ∃ (sv : Value) (ps : List V) (ok : Bool), e = .returned (.tuple #[sv, .bool ok]) ∧ ok = (pickO l cols).isSome ∧ ps = (pickO l cols).getD [] ∧ w'.ownsRow w.heap.size 37 3 sv ps.length (Li.cellsL cellsV ps) ∧ Below w.heap.size w w'
theorem PickOwn.bad {l : List V} {cols : List Int} {w w' : World} (h : pickO l cols = none) (hB : Below w.heap.size w w') : PickOwn l cols w (.returned (.tuple #[.slice none 0 0, .bool false])) w' :=
 ⟨.slice none 0 0, [], false, rfl, by rw [h]; rfl, by rw [h]; rfl, World.ownsRow_nil _ _ _ _, hB⟩
theorem PickOwn.good {l : List V} {cols : List Int} {w w' : World} {ps : List V} {sv : Value} {n : Nat} (h : pickO l cols = some ps) (hn : ps.length = n) (hown : w'.ownsRow w.heap.size 37 3 sv n (Li.cellsL cellsV ps)) (hB : Below w.heap.size w w') : PickOwn l cols w (.returned (.tuple #[sv, .bool true])) w' :=
 ⟨sv, ps, true, rfl, by rw [h]; rfl, by rw [h]; rfl, by rw [hn]; exact hown, hB⟩

set_option maxRecDepth 20000 in
set_option maxHeartbeats 4000000 in
theorem pickOwn_any (A1 A2 : Option Addr) (cp cp2 : Nat) (l : List V) (cols : List Int) (lo1 lo2 : Nat) (w : World) (h1 : HasV w lo1 A1 l) (h2 : HasI w lo2 A2 cols) (hl1 : l.length ≤ 9223372036854775807) (hl2 : cols.length ≤ 1000000) :
  Calls Tryd.prog 75 #[.slice A1 l.length cp, .slice A2 cols.length cp2] w (PickOwn l cols w) := by
 obtain ⟨i0, hi, hz0, hz1, hz2⟩ := info_parts infoV
 have hPB := fun (w' : World) (h : pickO l cols = none) => PickOwn.bad (w := w) (w' := w') h
 have hPG := fun (w' : World) (ps : List V) (sv : Value) (n : Nat) (h : pickO l cols = some ps) => PickOwn.good (w := w) (w' := w') (sv := sv) (n := n) h
 obtain ⟨m, hm⟩ : ∃ m, cols.length = m := ⟨_, rfl⟩
 obtain ⟨m2, hm2⟩ : ∃ m, l.length = m := ⟨_, rfl⟩
 rw [hm] at hl2 ⊢
 rw [hm2] at hl1 ⊢
 have HA := Lib.hid h1
 have HB := Lib.hid h2
 have HM := Lib.hid hm
 have HM2 := Lib.hid hm2
 clear h1 h2 hm hm2
 have HN : Hid (∀ (q : Nat) (c : Int), cols[q]? = some c → ¬ (0 ≤ c ∧ c < (m2 : Int)) → pickO l cols = none) := Lib.hid (fun q c hq hn => pick_none ⟨c, List.mem_of_getElem? hq, by rw [HM2.out]; exact hn⟩)
 generalize PickOwn l cols w = post at hPB hPG ⊢
 have HPB := Lib.hid hPB
 have HPG := Lib.hid hPG
 clear hPB hPG
 go_enter Tryd.func75, Tryd.ntmps75
 go_wp2
 go_loopw [6, 11] (fun x i wr => ∃ (q : Nat) (ps : List V) (sv : Value), q ≤ m ∧ i = .int .i64 q ∧ x = sv ∧ wr.ownsRow w.heap.size 37 3 sv q (Li.cellsL cellsV ps) ∧ Hid (ps.length = q ∧ pickO l (cols.take q) = some ps) ∧ Below w.heap.size w wr) (fun _ i _ => m - (intOf i).toNat)
 case atStart => exact ⟨0, [], _, Nat.zero_le _, rfl, rfl, World.ownsRow_nil _ _ _ _, Lib.hid ⟨rfl, rfl⟩, Below.refl _ w⟩
 case round =>
  obtain ⟨q, ps, sv, hq, rfl, rfl, hown, hH, hB⟩ := hrel
  by_cases hlt : q < m
  ·have hg2 : cols[q]? = some (cols[q]'(by rw [HM.out]; exact hlt)) := List.getElem?_eq_getElem _
   obtain ⟨b2, o2, rfl, hlo2, hlb2, d0⟩ := HasI.at (HB.out.below hB (Nat.le_refl _)) hg2
   generalize (cols[q]'(by rw [HM.out]; exact hlt)) = c at hg2 d0
   have i1 : (q : Int) < (m : Int) := by omega
   have i0' : (0 : Int) ≤ (q : Int) := by omega
   have HG2 := Lib.hid hg2
   clear hg2
   by_cases hc0 : c < 0
   ·have HZ := Lib.hid (HN.out q c HG2.out (by omega))
    go_wp2
    exact HPB.out _ HZ.out hB
   ·by_cases hc1 : c < (m2 : Int)
    ·have hcn : c.toNat < m2 := by omega
     have hg1 : l[c.toNat]? = some (l[c.toNat]'(by rw [HM2.out]; exact hcn)) := List.getElem?_eq_getElem _
     obtain ⟨b1, o1, rfl, hlo1, hlb1, e0, e1, e2⟩ := HasV.at (HA.out.below hB (Nat.le_refl _)) hg1
     generalize (l[c.toNat]'(by rw [HM2.out]; exact hcn)) = a at hg1 e0 e1 e2
     obtain ⟨k, n, s⟩ := a
     have HP := Lib.hid (pick_take hH.out.2 HG2.out (by omega) (by rw [HM2.out]; exact hc1) hg1)
     obtain ⟨cn, rfl⟩ : ∃ cn : Nat, c = (cn : Int) := ⟨c.toNat, by omega⟩
     simp only [Int.toNat_natCast] at e0 e1 e2 hg1
     clear hg1
     have hownW := hown.alloc (.cells #[.int .i64 k, .int .i64 n, .string s] 37)
     have hnW := heap_alloc_new wr (.cells #[.int .i64 k, .int .i64 n, .string s] 37)
     have hbW := hB.alloc hB.size (.cells #[.int .i64 k, .int .i64 n, .string s] 37)
     have HW := Lib.hid (And.intro hownW (And.intro hbW hnW))
     clear hownW hbW hnW hown hB
     go_wp2_with (at_builtin; refine wpList_append_own _ rfl _ _ 35 rfl w.heap.size 37 i0 (.agg #[.int .i64 0, .int .i64 0, .string ⟨#[]⟩]) 3 32 Tryd.underlying35 hi hz0 hz1 hz2 rfl (by decide) u6 q (Li.cellsL cellsV ps) rfl HW.out.1 ⟨wr.heap.size, 0, none⟩ 1 1 [.int .i64 k, .int .i64 n, .string s] rfl rfl (World.news_of_block HW.out.2.2) (by simp [Value.oneCell']) (by unfold maxLen; omega) (by omega) HW.out.2.1.size ?_)
     intro v5 y5 hown5 hgrow5 _
     obtain ⟨hownW, hbW, hnW⟩ := HW.out
     have hB := hbW.grown hgrow5 hbW.size (fun k hk => (hownW.lt k hk).1)
     clear hownW hbW hnW hgrow5 HW
     go_wp2
     go_roundw
     case rel =>
      refine ⟨q + 1, ps ++ [⟨k, n, s⟩], _, by omega, by go_num, rfl, ?_, Lib.hid ⟨by rw [List.length_append, hH.out.1]; rfl, HP.out⟩, hB⟩
      rw [Li.cellsL_snoc]
      exact hown5
     case measure => simp [intOf]; omega
    ·have HZ := Lib.hid (HN.out q c HG2.out (by omega))
     go_wp2
     exact HPB.out _ HZ.out hB
  ·obtain rfl : q = m := by omega
   have HQ := Lib.hid (show pickO l cols = some ps by
    have e := hH.out.2
    rw [List.take_of_length_le (by rw [HM.out]; exact Nat.le_refl _)] at e
    exact e)
   go_wp2
   exact HPG.out _ ps _ q HQ.out hH.out.1 hown hB
end Go.Proofs.YtpnnkhpokangfaaDoor.Ro
