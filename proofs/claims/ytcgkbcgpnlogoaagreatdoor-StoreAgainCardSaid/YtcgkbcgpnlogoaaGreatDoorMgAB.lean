/- Texts ClI, ClJ, LeC, LeD, Shelf, SlaA, SlaB, SlaC, SlaS, SlaD, SlaE, one behind the other. -/
import Derived.Test.YtcgkbcgpnlogoaaGreatDoorMgAA
import Derived.Lib.SliceRun
import Derived.Laws.Externs
import Derived.Shelf.Strings.Builder1
import Derived.Shelf.Strings.Builder2
import Derived.Shelf.Strings.BuilderF
import Derived.Shelf.Strings.BuilderK
import Derived.Shelf.Strings.Prefix
import Derived.Shelf.Bits.Mul64
import Derived.Shelf.Strings.Repeat
import Derived.Ground.Names2Prog
import Derived.Shelf.Slices.Clone
import Derived.Test.YtcgkbcgpnlogoaaGreatDoorProg
import Derived.WalkKit
import Derived.WalkSpells
import Derived.WalkLawsBesides
import Derived.Lib.Hide
import Derived.Laws.ResultCell
import Derived.Deep.DeepCutAuto
import Derived.Deep.DeepFit
import Derived.Deep.CutBlock
import Derived.Deep.QuietTactic
import Derived.BigQuiet
import Derived.StillTailTactics
import Derived.Deep.RegionHeld3
import Derived.Deep.RegionLaw
import Derived.Deep.RegionWith
import Derived.Deep.OwnRows
import Derived.Deep.LoopGhost
import Derived.Outline
import Derived.WalkSmall
import Derived.Deep.AppendLies
import Derived.Laws.CopyOwn
import Derived.Laws.BytesArg
import Derived.Deep.MidRow
/- Pages at hand: the program's Find (slices.IndexFunc with a closure), slices.Clone, points, Pins, walked. -/
namespace Go.Proofs.YtcgkbcgpnlogoaaGreatDoor.Cl
open Go.RowKit Pac Lex

/-- The function value answers whether a page has that number, in every world in which all below B lies as it did. -/
def PredF (kb : Nat) (no : Int) (B : Nat) (w : World) : Prop :=
 ∀ (e : P) (W : World), Below B w W → B ≤ W.heap.size → Calls Tryz.prog 219 #[.agg #[.int .i64 e.no, .string e.data, .bool e.ref, .int .i64 e.pins], .pointer (some ⟨kb, 0, none⟩)] W (fun r W' => r = .returned (.bool (e.no == no)) ∧ Below W.heap.size W W')
section
variable {A : Option Addr} {n cp : Nat} {l : List P} {w : World}
set_option maxRecDepth 20000 in
set_option maxHeartbeats 1600000 in
theorem pred_find (kb : Nat) (no : Int) (h : w.cell? ⟨kb, 0, none⟩ = some (.int .i64 no)) (B : Nat) (hkB : kb < B) : PredF kb no B w := by
 rintro ⟨en, ed, er, ep⟩ W hW hBW
 simp only
 have h := (hW.cell (p := ⟨kb, 0, none⟩) hkB).trans h
 have hx := Box4.new W (.int .i64 en) (.string ed) (.bool er) (.int .i64 ep) 195
 have hb := (Below.refl W.heap.size W).alloc (Nat.le_refl _) (.cells #[.int .i64 en, .string ed, .bool er, .int .i64 ep] 195)
 have h := cell_belowB hb h
 obtain ⟨ge, hge⟩ : ∃ ge, W.heap.size = ge := ⟨_, rfl⟩
 rw [hge] at hx
 have e0 := hx.c0
 have HB := Lib.hid hb
 clear hx hW hb
 go_enter Tryz.func219, Tryz.ntmps219
 go_wp2
 go_ret
 exact ⟨rfl, HB.out⟩
set_option maxRecDepth 20000 in
set_option maxHeartbeats 1600000 in
theorem index_find (kb : Nat) (no : Int) (lo B : Nat) (hl : HasP w lo A l) (hn : l.length = n) (h9 : n ≤ 100000) (hB9 : B ≤ w.heap.size) (hp : PredF kb no B w) :
  Calls Tryz.prog 218 #[.slice A n cp, .func (.func 219) #[] #[.pointer (some ⟨kb, 0, none⟩)]] w fun e w' => e = .returned (.int .i64 (resI (findL l no))) ∧ Below w.heap.size w w' := by
 have HL := Lib.hid (And.intro hl (And.intro hn hp))
 clear hl hn hp
 go_enter Tryz.func218, Tryz.ntmps218
 go_wp2
 go_loopw [5, 8] (fun _ i wr => ∃ q : Nat, q ≤ n ∧ i = .int .i64 q ∧ Hid (∀ p ∈ l.take q, p.no ≠ no) ∧ Below w.heap.size w wr) (fun _ i _ => n - (intOf i).toNat)
 case atStart => exact ⟨0, Nat.zero_le _, rfl, Lib.hid (fun x hx => by simp at hx), Below.refl _ w⟩
 case round =>
  obtain ⟨q, hq, rfl, hI, hB⟩ := hrel
  by_cases hlt : q < n
  ·have hgt := List.getElem?_eq_getElem (l := l) (i := q) (by rw [HL.out.2.1]; exact hlt)
   generalize (l[q]'(by rw [HL.out.2.1]; exact hlt)) = x at hgt
   obtain ⟨b, o, rfl, hlb, d0, d1, d2, d3⟩ := HasP.at (HL.out.1.below hB (Nat.le_refl _)) hgt
   have hcall := HL.out.2.2 x wr (hB.mono hB9) (Nat.le_trans hB9 hB.size)
   have HG := Lib.hid hgt
   have i1 : (q : Int) < (n : Int) := by omega
   have i0 : (0 : Int) ≤ (q : Int) := by omega
   clear hgt
   by_cases hno : x.no = no
   ·have HR : Hid (resI (findL l no) = (q : Int)) := Lib.hid (by
     rw [(find_some (l := l) (n := no) (i := q)).2 ⟨⟨x, HG.out, hno⟩, fun j hj p hp => hI.out p (List.mem_of_getElem? (i := j) (by rw [List.getElem?_take, if_pos hj]; exact hp))⟩]
     rfl)
    have e1 : (x.no == no) = true := by rw [beq_iff_eq]; exact hno
    rw [e1] at hcall
    obtain ⟨en, ed, er, ep⟩ := x
    simp only at d0 d1 d2 d3 hcall
    clear hno e1
    go_wp2_with fail
    refine hcall.mono ?_
    rintro e w' ⟨rfl, hy⟩
    have HB := Lib.hid (hB.trans (hy.mono hB.size))
    clear hcall hy
    go_wp2
    go_ret
    exact ⟨by rw [HR.out]; rfl, HB.out⟩
   ·have HI : Hid (∀ p ∈ l.take (q + 1), p.no ≠ no) := Lib.hid (fun p hp => by
     rw [take_snoc HG.out] at hp
     rcases List.mem_append.1 hp with h | h
     ·exact hI.out p h
     ·obtain rfl := List.mem_singleton.1 h
      exact hno)
    have e1 : (x.no == no) = false := by rw [beq_eq_false_iff_ne]; exact hno
    rw [e1] at hcall
    obtain ⟨en, ed, er, ep⟩ := x
    simp only at d0 d1 d2 d3 hcall
    clear hno e1
    go_wp2_with fail
    refine hcall.mono ?_
    rintro e w' ⟨rfl, hy⟩
    go_wp2
    go_roundw
    case rel => exact ⟨q + 1, by omega, by go_num, HI, hB.trans (hy.mono hB.size)⟩
    case measure => simp [intOf]; omega
  ·obtain rfl : q = n := by omega
   have HR : Hid (resI (findL l no) = -1) := Lib.hid (by
    have h := hI.out
    rw [List.take_of_length_le (by rw [HL.out.2.1]; exact Nat.le_refl _)] at h
    rw [find_none.2 h]
    rfl)
   have HB := Lib.hid hB
   clear hB
   go_wp2
   go_ret
   exact ⟨by rw [HR.out]; rfl, HB.out⟩
set_option maxRecDepth 20000 in
set_option maxHeartbeats 1600000 in
theorem pfind_any (h no : Int) (lo : Nat) (hl : HasP w lo A l) (hn : l.length = n) (h9 : n ≤ 100000) :
  Calls Tryz.prog 160 #[.agg #[.slice A n cp, .int .i64 h], .int .i64 no] w fun e w' => e = .returned (.int .i64 (resI (findL l no))) ∧ Below w.heap.size w w' := by
 have hB := (Below.refl w.heap.size w).alloc (Nat.le_refl _) (.cells #[.slice A n cp, .int .i64 h] 35)
 have hx := Box2.new w (.slice A n cp) (.int .i64 h) 35
 obtain ⟨g, hg⟩ : ∃ g, w.heap.size = g := ⟨_, rfl⟩
 have hz : (w.alloc (.cells #[.slice A n cp, .int .i64 h] 35)).heap.size = g + 1 := by simp [hg]
 rw [hg] at hx
 generalize hw0 : w.alloc (.cells #[.slice A n cp, .int .i64 h] 35) = wa at hB hx hz
 have hBb := (Below.refl wa.heap.size wa).alloc (Nat.le_refl _) (.cells #[.int .i64 no] 3)
 have a0 : (wa.alloc (.cells #[.int .i64 no] 3)).cell? ⟨wa.heap.size, 0, none⟩ = some (.int .i64 no) := by simp [go_sem]
 have hz2 : (wa.alloc (.cells #[.int .i64 no] 3)).heap.size = g + 2 := by simp [hz]
 rw [hz] at a0
 have hx := hx.below hBb hx.lt
 have hB := hB.trans (hBb.mono hB.size)
 generalize hw1 : wa.alloc (.cells #[.int .i64 no] 3) = wb at hB hx a0 hz2
 have hp := pred_find (g + 1) no a0 (g + 2) (by omega)
 have hc := index_find (cp := cp) (g + 1) no lo (g + 2) (hl.below hB (Nat.le_refl _)) hn h9 (Nat.le_of_eq hz2.symm) hp
 have x0 := hx.c0
 clear hp hl hn hBb hx a0
 go_enter Tryz.func160, Tryz.ntmps160
 go_wp2_with fail
 clear hw0 hw1 hz hz2 hg
 refine hc.mono ?_
 rintro e w1 ⟨rfl, hb⟩
 have HB := Lib.hid (hB.trans (hb.mono hB.size))
 clear hc hB hb x0
 go_wp2
 go_ret
 exact ⟨rfl, HB.out⟩
end
end Go.Proofs.YtcgkbcgpnlogoaaGreatDoor.Cl

/- Pages at hand: the program's slices.Clone, points, with, walked. -/
namespace Go.Proofs.YtcgkbcgpnlogoaaGreatDoor.Cl
open Go.RowKit Pac Lex

section
variable {A : Option Addr} {n cp : Nat} {l : List P} {w : World}
/-- A row of the call's own that holds these pages. -/
def OwnPost (n : Nat) (l : List P) (w : World) (e : Ending) (w' : World) : Prop := ∃ v, e = .returned v ∧ w'.ownsRow w.heap.size 195 4 v n (Li.cellsL cellsP l) ∧ Below w.heap.size w w'
set_option maxRecDepth 20000 in
set_option maxHeartbeats 1600000 in
theorem clone_some (b o : Nat) (hl : HasP w 0 (some ⟨b, o, none⟩) l) (hn : l.length = n) (h9 : n ≤ 100000) :
  Calls Tryz.prog 166 #[.slice (some ⟨b, o, none⟩) n cp] w (OwnPost n l w) := by
 obtain ⟨iE, hiE, hv0, hv1, hv2⟩ := info_parts infoP
 have hE := Lib.run_eql_slice_nil (P := Tryz.prog) w 33 195 (some ⟨b, o, none⟩) n cp 0 0 Tryz.underlying33
 have hownW := World.ownsRow_lit (e := 195) (size := 4) (base := w.heap.size) w #[] 0 (Nat.le_refl _) (by unfold maxLen; omega) rfl
 have hy6 := (Below.refl w.heap.size w).alloc (Nat.le_refl _) (.cells #[] 195)
 have HW := Lib.hid (And.intro hownW hy6)
 unfold OwnPost
 by_cases hn0 : n = 0
 ·subst hn0
  have hl0 : l = [] := List.eq_nil_of_length_eq_zero hn
  subst hl0
  clear hl hn hownW hy6
  go_enter Tryz.func166, Tryz.ntmps166
  go_wp2
  go_ret
  exact ⟨_, rfl, HW.out.1, HW.out.2⟩
 have hnw := news_of (by decide) cellsP_len (hl.below hy6 (Nat.le_refl _))
 have HLN : Hid ((Li.cellsL cellsP l).length = n * 4) := Lib.hid (by rw [Li.cellsL_len cellsP_len, hn])
 have HON : Hid (∀ v ∈ Li.cellsL cellsP l, v.oneCell' = true) := Lib.hid (cellsP_one l)
 have HW := Lib.hid (And.intro hownW (And.intro hnw hy6))
 generalize Li.cellsL cellsP l = cs at HLN HON HW ⊢
 clear hownW hnw hy6 hl hn
 go_enter Tryz.func166, Tryz.ntmps166
 go_wp2_with (at_builtin; go_must (refine wpList_append_own _ rfl _ _ 33 rfl w.heap.size 195 iE (.agg #[.int .i64 0, .string ⟨#[]⟩, .bool false, .int .i64 0]) 4 40 Tryz.underlying33 hiE hv0 hv1 hv2 rfl (by decide) (.slice (some ⟨w.heap.size, 0, none⟩) 0 0) 0 [] rfl HW.out.1 ⟨b, o, none⟩ n cp cs rfl HLN.out HW.out.2.1 HON.out (by unfold maxLen; omega) (by omega) HW.out.2.2.size ?_))
 intro v6 y6 hown hgrow6 _
 have hB5 := HW.out.2.2.grown hgrow6 HW.out.2.2.size (fun k hk => (HW.out.1.lt k hk).1)
 have HF := Lib.hid (And.intro hown hB5)
 clear hown hB5 hgrow6 HW
 go_wp2
 go_ret
 obtain ⟨h1, h2⟩ := HF.out
 exact ⟨_, rfl, (by simpa using h1), h2⟩
set_option maxRecDepth 20000 in
set_option maxHeartbeats 1600000 in
theorem clone_none (cp : Nat) : Calls Tryz.prog 166 #[.slice none 0 cp] w (fun e w' => e = .returned (.slice none 0 0) ∧ w' = w) := by
 have hE := Lib.run_eql_slice_nil (P := Tryz.prog) w 33 195 none 0 cp 0 0 Tryz.underlying33
 go_enter Tryz.func166, Tryz.ntmps166
 go_wp2
 go_ret
 exact ⟨rfl, rfl⟩
set_option maxRecDepth 20000 in
set_option maxHeartbeats 1600000 in
theorem points_any (h : Int) :
  Calls Tryz.prog 221 #[.agg #[.slice A n cp, .int .i64 h]] w (BoolPost (0 ≤ h ∧ h < (n : Int)) w) := by
 have hB := (Below.refl w.heap.size w).alloc (Nat.le_refl _) (.cells #[.slice A n cp, .int .i64 h] 35)
 have hx := Box2.new w (.slice A n cp) (.int .i64 h) 35
 have x0 := hx.c0
 have x1 := hx.c1
 have HB := Lib.hid hB
 clear hx hB
 generalize hP : (0 ≤ h ∧ h < (n : Int)) = MP
 have HP := Lib.hid hP
 clear hP
 by_cases h0 : 0 ≤ h
 ·by_cases h1 : h < (n : Int)
  ·have b0 : decide (0 ≤ h) = true := decide_eq_true h0
   have b1 : decide (h < (n : Int)) = true := decide_eq_true h1
   have HQ : Hid MP := Lib.hid (by rw [← HP.out]; exact ⟨h0, h1⟩)
   go_enter Tryz.func221, Tryz.ntmps221
   go_wp2
   go_ret
   exact ⟨true, by (try rw [b1]); rfl, ⟨fun _ => HQ.out, fun _ => rfl⟩, HB.out⟩
  ·have b0 : decide (0 ≤ h) = true := decide_eq_true h0
   have b1 : decide (h < (n : Int)) = false := decide_eq_false h1
   have HQ : Hid (¬ MP) := Lib.hid (by rw [← HP.out]; exact fun e => h1 e.2)
   go_enter Tryz.func221, Tryz.ntmps221
   go_wp2
   go_ret
   exact ⟨false, by (try rw [b1]); rfl, ⟨fun e => (by cases e), fun e => absurd e HQ.out⟩, HB.out⟩
 ·have b0 : decide (0 ≤ h) = false := decide_eq_false h0
  have HQ : Hid (¬ MP) := Lib.hid (by rw [← HP.out]; exact fun e => h0 e.1)
  go_enter Tryz.func221, Tryz.ntmps221
  go_wp2
  go_ret
  exact ⟨false, rfl, ⟨fun e => (by cases e), fun e => absurd e HQ.out⟩, HB.out⟩
/-- What with answers: the row is its own. -/
def WithPost (h : Int) (n : Nat) (l : List P) (w : World) (e : Ending) (w' : World) : Prop := ∃ g5 c5, e = .returned (.agg #[.slice (some ⟨g5, 0, none⟩) n c5, .int .i64 h]) ∧ w'.ownsRow w.heap.size 195 4 (.slice (some ⟨g5, 0, none⟩) n c5) n (Li.cellsL cellsP l) ∧ Below w.heap.size w w'
set_option maxRecDepth 20000 in
set_option maxHeartbeats 6400000 in
theorem with_own (h : Int) (i : Nat) (x : P) (b o : Nat) (hl : HasP w 0 (some ⟨b, o, none⟩) l) (hn : l.length = n) (h9 : n ≤ 100000) (hi : i < n) :
  Calls Tryz.prog 161 #[.agg #[.slice (some ⟨b, o, none⟩) n cp, .int .i64 h], .int .i64 i, .agg #[.int .i64 x.no, .string x.data, .bool x.ref, .int .i64 x.pins]] w (WithPost h n (l.set i x) w) := by
 obtain ⟨post, hpe⟩ : ∃ post, WithPost h n (l.set i x) w = post := ⟨_, rfl⟩
 have HPE := Lib.hid hpe
 rw [hpe]
 clear hpe
 obtain ⟨xn, xd, xr, xp⟩ := x
 simp only
 have hB := (Below.refl w.heap.size w).alloc (Nat.le_refl _) (.cells #[.slice (some ⟨b, o, none⟩) n cp, .int .i64 h] 35)
 have hx := Box2.new w (.slice (some ⟨b, o, none⟩) n cp) (.int .i64 h) 35
 obtain ⟨g, hg⟩ : ∃ g, w.heap.size = g := ⟨_, rfl⟩
 have hz : (w.alloc (.cells #[.slice (some ⟨b, o, none⟩) n cp, .int .i64 h] 35)).heap.size = g + 1 := by simp [hg]
 rw [hg] at hx
 generalize hw0 : w.alloc (.cells #[.slice (some ⟨b, o, none⟩) n cp, .int .i64 h] 35) = wa at hB hx hz
 have hBb := (Below.refl wa.heap.size wa).alloc (Nat.le_refl _) (.cells #[.int .i64 xn, .string xd, .bool xr, .int .i64 xp] 195)
 have hp := Box4.new wa (.int .i64 xn) (.string xd) (.bool xr) (.int .i64 xp) 195
 have hz2 : (wa.alloc (.cells #[.int .i64 xn, .string xd, .bool xr, .int .i64 xp] 195)).heap.size = g + 2 := by simp [hz]
 rw [hz] at hp
 have hx := hx.below hBb hx.lt
 have hB := hB.trans (hBb.mono hB.size)
 generalize hw1 : wa.alloc (.cells #[.int .i64 xn, .string xd, .bool xr, .int .i64 xp] 195) = wb at hB hx hp hz2
 have hBc := (Below.refl wb.heap.size wb).alloc (Nat.le_refl _) (.cells #[.slice none 0 0, .int .i64 0] 35)
 have hy := Box2.new wb (.slice none 0 0) (.int .i64 0) 35
 have hz3 : (wb.alloc (.cells #[.slice none 0 0, .int .i64 0] 35)).heap.size = g + 3 := by simp [hz2]
 rw [hz2] at hy
 have hx := hx.below hBc hx.lt
 have hp := hp.below hBc hp.lt
 have hB := hB.trans (hBc.mono hB.size)
 generalize hw2 : wb.alloc (.cells #[.slice none 0 0, .int .i64 0] 35) = wq at hB hx hp hy hz3
 have hCl := clone_some (cp := cp) b o (hl.below hB (Nat.le_refl _)) hn h9
 have x0 := hx.c0
 have HX := Lib.hid (And.intro hx (And.intro hp (And.intro hy (And.intro hB (And.intro hz3 (And.intro hg hn))))))
 clear hx hp hy hB hl hBb hBc hn hz3
 go_enter Tryz.func161, Tryz.ntmps161
 go_wp2_with fail
 clear hw0 hw1 hw2 hz hz2 hg
 refine hCl.mono ?_
 rintro e y6 ⟨v6, rfl, hown, hb6⟩
 clear hCl x0
 obtain ⟨hx, hp, hy, hB, hz3, hg, hn⟩ := HX.out
 obtain ⟨g5, c5, rfl, hg5, hgl⟩ := hown.form (by omega)
 have hB := hB.trans (hb6.mono hB.size)
 have hx := hx.below hb6 hx.lt
 have hp := hp.below hb6 hp.lt
 have hy := hy.below hb6 hy.lt
 have x0 := hx.c0
 have xf := hx.f 0
 rw [hz3] at hown hg5
 have hpi := List.getElem?_eq_getElem (l := l) (i := i) (by omega)
 generalize (l[i]'(by omega)) = p at hpi
 have hbar := (Bar.refl g y6).setCell 0 (.slice (some ⟨g5, 0, none⟩) n c5)
 have hx7 := hx.set0 (.slice (some ⟨g5, 0, none⟩) n c5)
 have hp7 := hp.bar hbar (by omega)
 have hy7 := hy.bar hbar (by omega)
 have hB7 := hB.trans (hbar.below (B := w.heap.size) (by omega) hB.size)
 have hown7 := Li.own_bar hown hbar (by omega)
 have df := hown7.frozenAt
 have q0 := hx7.c0
 have e0 := hp7.c0
 have e1 := hp7.c1
 have e2 := hp7.c2
 have e3 := hp7.c3
 have hown8 := own_whole hown7 hpi ⟨xn, xd, xr, xp⟩
 have hbar2 := ((((Bar.refl g5 (y6.setCell ⟨g, 0, none⟩ (.slice (some ⟨g5, 0, none⟩) n c5))).setCell (i * 4) (.int .i64 xn)).setCell (i * 4 + 1) (.string xd)).setCell (i * 4 + 2) (.bool xr)).setCell (i * 4 + 3) (.int .i64 xp)
 have hx8 := hx7.bar hbar2 (by omega)
 have hy8 := hy7.bar hbar2 (by omega)
 have hB8 := hB7.trans (hbar2.below (B := w.heap.size) (by omega) hB7.size)
 have d0 : (y6.setCell ⟨g, 0, none⟩ (.slice (some ⟨g5, 0, none⟩) n c5)).cell? ⟨g5, i * 4, none⟩ = some (.int .i64 p.no) := by
  have h1 := hown7.cellAt (i * 4 + 0) (by omega)
  rw [Li.cellsL_at cellsP_len l i p hpi 0 (.int .i64 p.no) rfl] at h1
  exact h1
 have d1 : (y6.setCell ⟨g, 0, none⟩ (.slice (some ⟨g5, 0, none⟩) n c5)).cell? ⟨g5, i * 4 + 1, none⟩ = some (.string p.data) := by
  have h1 := hown7.cellAt (i * 4 + 1) (by omega)
  rw [Li.cellsL_at cellsP_len l i p hpi 1 (.string p.data) rfl] at h1
  exact h1
 have d2 : (y6.setCell ⟨g, 0, none⟩ (.slice (some ⟨g5, 0, none⟩) n c5)).cell? ⟨g5, i * 4 + 2, none⟩ = some (.bool p.ref) := by
  have h1 := hown7.cellAt (i * 4 + 2) (by omega)
  rw [Li.cellsL_at cellsP_len l i p hpi 2 (.bool p.ref) rfl] at h1
  exact h1
 have d3 : (y6.setCell ⟨g, 0, none⟩ (.slice (some ⟨g5, 0, none⟩) n c5)).cell? ⟨g5, i * 4 + 3, none⟩ = some (.int .i64 p.pins) := by
  have h1 := hown7.cellAt (i * 4 + 3) (by omega)
  rw [Li.cellsL_at cellsP_len l i p hpi 3 (.int .i64 p.pins) rfl] at h1
  exact h1
 have r0 := hx8.c0
 have r1 := hx8.c1
 have s0 := hy8.c0
 have s1 := hy8.c1
 have sf0 := hy8.f 0
 have sf1 := hy8.f 1
 have hbar3 := ((Bar.refl (g + 2) (((((y6.setCell ⟨g, 0, none⟩ (.slice (some ⟨g5, 0, none⟩) n c5)).setCell ⟨g5, i * 4, none⟩ (.int .i64 xn)).setCell ⟨g5, i * 4 + 1, none⟩ (.string xd)).setCell ⟨g5, i * 4 + 2, none⟩ (.bool xr)).setCell ⟨g5, i * 4 + 3, none⟩ (.int .i64 xp))).setCell 0 (.slice (some ⟨g5, 0, none⟩) n c5)).setCell 1 (.int .i64 h)
 have hB9 := hB8.trans (hbar3.below (B := w.heap.size) (by omega) hB8.size)
 have hown9 := Li.own_bar hown8 hbar3 (by omega)
 have H9 := Lib.hid ((hy8.set0 (.slice (some ⟨g5, 0, none⟩) n c5)).set1 (.int .i64 h))
 have HE := Lib.hid (show WithPost h n (l.set i ⟨xn, xd, xr, xp⟩) w (.returned (.agg #[.slice (some ⟨g5, 0, none⟩) n c5, .int .i64 h])) _ from ⟨g5, c5, rfl, Li.own_base hown9 (by omega), hB9⟩)
 rw [HPE.out] at HE
 have n1 : ¬ g5 = g := by omega
 have n2 : ¬ g5 = g + 1 := by omega
 have n3 : ¬ g5 = g + 2 := by omega
 have n1' : ¬ g = g5 := by omega
 have n2' : ¬ g + 1 = g5 := by omega
 have n3' : ¬ g + 2 = g5 := by omega
 have i1 : (i : Int) < (n : Int) := by omega
 have i0 : (0 : Int) ≤ (i : Int) := by omega
 clear hx hp hy hB hown hb6 hz3 hx7 hp7 hy7 hB7 hown7 hbar hbar2 hx8 hy8 hB8 hown8 hbar3 hB9 hown9 hn HX hg hg5 hpi hgl
 go_wp2
 refine bodyPost_ret (results_clock rfl _ _ (g + 2) _ _ rfl H9.out.c0 H9.out.c1) rfl ?_
 exact HE.out
end
end Go.Proofs.YtcgkbcgpnlogoaaGreatDoor.Cl

/- A region that draws its order, cut in two: what all that is behind waits for is walked first. No program. -/
namespace Go.Proofs.YtcgkbcgpnlogoaaGreatDoor.Lex
open Go

/-- Of the whole region's marks: those of the first part, and none. -/
def extL (L : Array Bool) (N : Nat) : Array Bool := L ++ Array.replicate (N - L.size) false
theorem extL_low {L : Array Bool} {N i : Nat} (h : i < L.size) (d : Bool) : (extL L N).getD i d = L.getD i d := by
 unfold extL
 rw [Array.getD_eq_getD_getElem?, Array.getD_eq_getD_getElem?, Array.getElem?_append_left h]
theorem extL_set {L : Array Bool} {N i : Nat} (h : i < L.size) : (extL L N).setIfInBounds i true = extL (L.setIfInBounds i true) N := by
 unfold extL
 rw [Array.size_setIfInBounds]
 apply Array.ext_getElem?
 intro j
 rw [Array.getElem?_setIfInBounds, Array.size_append]
 by_cases hj : i = j
 ·subst hj
  rw [if_pos rfl, if_pos (by omega), Array.getElem?_append_left (by rw [Array.size_setIfInBounds]; exact h), Array.getElem?_setIfInBounds, if_pos rfl, if_pos h]
 ·rw [if_neg hj]
  by_cases hjl : j < L.size
  ·rw [Array.getElem?_append_left hjl, Array.getElem?_append_left (by rw [Array.size_setIfInBounds]; exact hjl), Array.getElem?_setIfInBounds, if_neg hj]
  ·rw [Array.getElem?_append_right (by omega), Array.getElem?_append_right (by rw [Array.size_setIfInBounds]; omega), Array.size_setIfInBounds]
/-- What waits for i, by whatever way. -/
def reaches (md : Region.Mode) (ops : Array Oper) : Nat → Nat → Nat → Bool
 | 0, _, _ => false
 | f + 1, j, i => ((ops[j]?).map (fun o => o.after.any (fun e => Region.binds md e && (e.on == i || reaches md ops f e.on i)))).getD false
/-- Whatever is marked, all that it waits for is marked. -/
def Closed (md : Region.Mode) (ops : Array Oper) (L : Nat → Bool) : Prop := ∀ (i : Nat) (o : Oper), ops[i]? = some o → L i = true → ∀ e ∈ o.after, Region.binds md e = true → L e.on = true
theorem reaches_out {md : Region.Mode} {ops : Array Oper} {L : Nat → Bool} (hc : Closed md ops L) : ∀ (f j i : Nat) (o : Oper), ops[j]? = some o → (∀ e ∈ o.after, Region.binds md e = true → L e.on = true) → reaches md ops f j i = true → L i = true
 | 0, _, _, _, _, _, h => by simp [reaches] at h
 | f + 1, j, i, o, ho, hd, h => by
  unfold reaches at h
  rw [ho] at h
  simp only [Option.map_some, Option.getD_some] at h
  rw [Array.any_eq_true] at h
  obtain ⟨k, hk, hk2⟩ := h
  simp only [Bool.and_eq_true, Bool.or_eq_true, beq_iff_eq] at hk2
  have hm := hd _ (Array.getElem_mem hk) hk2.1
  rcases hk2.2 with he | hr
  ·rw [← he]
   exact hm
  ·cases ho2 : ops[(o.after[k]).on]? with
   | none =>
    cases f with
    | zero => simp [reaches] at hr
    | succ f =>
     unfold reaches at hr
     rw [ho2] at hr
     cases hr
   | some o2 => exact reaches_out hc f _ i o2 ho2 (fun e he hb => hc _ o2 ho2 hm e he hb) hr
section
variable {P : Program} {ops ops1 : Array Oper} {Q : Exit → Act → World → Prop} {n : Nat} {md : Region.Mode}
theorem cut_op (h1 : ops1 = ops.extract 0 n) {i : Nat} (hi : i < n) : ops1[i]? = ops[i]? := by
 subst h1
 by_cases hs : i < ops.size
 ·rw [Array.getElem?_extract, if_pos (by omega), Nat.zero_add]
 ·rw [Array.getElem?_eq_none (by rw [Array.size_extract]; omega), Array.getElem?_eq_none (by omega)]
theorem cut_wpOp {K next : Act → World → Prop} (h1 : ops1 = ops.extract 0 n) (hgd : ∀ (i : Nat) (o : Oper), i < n → ops[i]? = some o → ∀ g b, o.guard = some (g, b) → g < n) {i : Nat} (hi : i < n) {a : Act} {w : World} (h : wpOp P ops1 (Exit.then K Q) i next a w) : wpOp P ops Q i next a w := by
 unfold wpOp at h ⊢
 rw [cut_op h1 hi] at h
 cases h2 : ops[i]? with
 | none => rw [h2] at h; exact h
 | some o =>
  rw [h2] at h
  have hw : Region.wanted o (yielded ops1 a.tmps) = Region.wanted o (yielded ops a.tmps) := by
   unfold Region.wanted
   cases hg : o.guard with
   | none => rfl
   | some p =>
    obtain ⟨g, b⟩ := p
    have hgn := hgd i o hi h2 g b hg
    show (yielded ops1 a.tmps g == some b) = (yielded ops a.tmps g == some b)
    unfold yielded
    rw [cut_op h1 hgn]
  simp only at h ⊢
  rw [hw] at h
  split
  ·rename_i hw
   rw [if_pos hw] at h
   rcases h with h | h
   ·exact Or.inl (upon_then h)
   ·exact Or.inr h
  ·rename_i hw
   rw [if_neg hw] at h
   exact h
theorem cut_any (h1 : ops1 = ops.extract 0 n) (hn : n ≤ ops.size) (hacy : ∀ (i : Nat) (o : Oper), i < n → ops[i]? = some o → ∀ e ∈ o.after, e.on < i)
  (hgd : ∀ (i : Nat) (o : Oper), i < n → ops[i]? = some o → ∀ g b, o.guard = some (g, b) → g < n)
  (hdep : ∀ (j : Nat) (o : Oper), n ≤ j → ops[j]? = some o → ∀ i, i < n → reaches md ops ops.size j i = true) :
  ∀ (fuel : Nat) (L : Array Bool) (a : Act) (w : World), L.size = n → Closed md ops (fun i => (extL L ops.size).getD i false) →
   wpAny P md ops1 (Exit.then (fun a w => ∀ m, ops.size - n ≤ m → wpAny P md ops Q m (extL (Array.replicate n true) ops.size) a w) Q) fuel L a w →
   ∀ m, ops.size - n ≤ m → wpAny P md ops Q (fuel + m) (extL L ops.size) a w := by
 have hs1 : ops1.size = n := by rw [h1, Array.size_extract]; omega
 have hacy1 : ∀ (i : Nat) (o : Oper), ops1[i]? = some o → ∀ e ∈ o.after, e.on < i := fun i o ho => by
  have hi : i < n := by rw [← hs1]; exact (Array.getElem?_eq_some_iff.1 ho).1
  rw [cut_op h1 hi] at ho
  exact hacy i o hi ho
 have hfull : ∀ L : Array Bool, L.size = n → Region.ready md ops1 L = [] → L = Array.replicate n true := fun L hL hr => by
  apply Array.ext_getElem?
  intro i
  rw [Array.getElem?_replicate]
  by_cases hi : i < n
  ·rw [if_pos hi]
   have e : L[i]? = some L[i] := Array.getElem?_eq_getElem (by omega)
   rw [e]
   cases hb : L[i] with
   | true => rfl
   | false =>
    exfalso
    obtain ⟨j, hj⟩ := ready_some (md := md) (ops := ops1) hacy1 (listed := L) (by omega) i (by omega) (by
     rw [Array.getD_eq_getD_getElem?, e, hb]
     rfl)
    rw [hr] at hj
    cases hj
  ·rw [if_neg hi, Array.getElem?_eq_none (by omega)]
 have hsup : ∀ (L : Array Bool) (i : Nat), L.size = n → i ∈ Region.ready md ops1 L → i < n ∧ i ∈ Region.ready md ops (extL L ops.size) := fun L i hL hi => by
  obtain ⟨hl, o, ho, hall⟩ := mem_ready.1 hi
  have hin : i < n := by rw [← hs1]; exact (Array.getElem?_eq_some_iff.1 ho).1
  rw [cut_op h1 hin] at ho
  refine ⟨hin, mem_ready.2 ⟨by rw [extL_low (by omega)]; exact hl, o, ho, fun e he hb => ?_⟩⟩
  have := hacy i o hin ho e he
  rw [extL_low (by omega)]
  exact hall e he hb
 have hsub : ∀ (L : Array Bool) (i u : Nat), L.size = n → Closed md ops (fun i => (extL L ops.size).getD i false) → u < n → L.getD u true = false → i ∈ Region.ready md ops (extL L ops.size) → i ∈ Region.ready md ops1 L := fun L i u hL hcl hu hul hi => by
  obtain ⟨hl, o, ho, hall⟩ := mem_ready.1 hi
  by_cases hin : i < n
  ·refine mem_ready.2 ⟨by rw [extL_low (by omega)] at hl; exact hl, o, by rw [cut_op h1 hin]; exact ho, fun e he hb => ?_⟩
   have h := hall e he hb
   have := hacy i o hin ho e he
   rw [extL_low (by omega)] at h
   exact h
  ·exfalso
   have h : (extL L ops.size).getD u false = true := reaches_out hcl ops.size i u o ho hall (hdep i o (by omega) ho u hu)
   rw [extL_low (by omega)] at h
   have e2 : L[u]? = some L[u] := Array.getElem?_eq_getElem (by omega)
   rw [Array.getD_eq_getD_getElem?, e2] at h hul
   simp only [Option.getD_some] at h hul
   rw [h] at hul
   cases hul
 intro fuel
 induction fuel with
 | zero =>
  intro L a w hL _ h m hm
  rw [hfull L hL h.1, Nat.zero_add]
  exact h.2 m hm
 | succ fuel ih =>
  intro L a w hL hcl h m hm
  obtain ⟨ha, hb⟩ := h
  by_cases hr : Region.ready md ops1 L = []
  ·rw [hfull L hL hr]
   have h := ha hr
   exact h (fuel + 1 + m) (by omega)
  ·obtain ⟨u, hu⟩ := List.exists_mem_of_ne_nil _ hr
   obtain ⟨hun, hu2⟩ := hsup L u hL hu
   have hul := (mem_ready.1 hu).1
   rw [show fuel + 1 + m = fuel + m + 1 by omega]
   refine ⟨fun e => ?_, fun i hi => ?_⟩
   ·rw [e] at hu2
    cases hu2
   ·have hi1 := hsub L i u hL hcl hun hul hi
    have hin := (hsup L i hL hi1).1
    refine wpOp_mono (fun a' w' hq => ?_) (cut_wpOp h1 hgd hin (hb i hi1))
    rw [extL_set (by omega)]
    refine ih _ a' w' (by rw [Array.size_setIfInBounds]; exact hL) ?_ hq m hm
    obtain ⟨_, oi, hoi, hall⟩ := mem_ready.1 hi
    rw [← extL_set (by omega)]
    have hsz : (extL L ops.size).size = ops.size := by unfold extL; rw [Array.size_append, Array.size_replicate]; omega
    have hset : ∀ k, (extL L ops.size).getD k false = true → ((extL L ops.size).setIfInBounds i true).getD k false = true := fun k hk => getD_set_true hk
    intro k o hk hl e he hbd
    by_cases hki : k = i
    ·subst hki
     obtain rfl : oi = o := Option.some.inj (hoi.symm.trans hk)
     exact hset _ (hall e he hbd)
    ·refine hset _ (hcl k o hk ?_ e he hbd)
     have hl : ((extL L ops.size).setIfInBounds i true).getD k false = true := hl
     rw [getD_set_ne false (Ne.symm hki)] at hl
     exact hl
end
section
variable {P : Program} {ops ops1 : Array Oper} {Q : Exit → Act → World → Prop} {calls : List Nat}
/-- The first part in an order of its own; the rest behind it. -/
theorem region_parts {id : Nat} {l : Array Oper} {a : Act} {w : World} (n : Nat) (ord : List Nat) (S : World → Prop) (he : l = ops) (h1 : ops1 = ops.extract 0 n) (hn : n ≤ ops.size)
  (hacy : (List.range n).all (fun i => ((ops[i]?).map (fun o => o.after.all (fun e => decide (e.on < i)) && (o.guard.map (fun g => decide (g.1 < n))).getD true)).getD true) = true)
  (hdep : (List.range (ops.size - n)).all (fun j => (List.range n).all (fun i => reaches .any ops ops.size (n + j) i)) = true)
  (hm : P.follows .mixedOrders = true) (hs : Region.noSelect ops1 = true) (hsz : ord.length = ops1.size) (hk : ord.all (fun k => decide (k < ops1.size)) = true) (hL : lexH ops1 calls ord (Array.replicate ops1.size false) = true) (hS : S w.drew)
  (h : walkH P ops1 (Exit.then (fun a w => ∀ m, ops.size - n ≤ m → wpAny P .any ops (NoPanic Q) m (extL (Array.replicate n true) ops.size) a w) (NoPanic Q)) calls ord S a w.drew) : (Code.region id l true).wp P Q a w := by
 subst he
 have hs1 : ops1.size = n := by rw [h1, Array.size_extract]; omega
 refine wp_region_noPanic (wp_region_any hm ?_)
 have hA : ∀ (i : Nat) (o : Oper), i < n → l[i]? = some o → (∀ e ∈ o.after, e.on < i) ∧ ∀ g b, o.guard = some (g, b) → g < n := fun i o hi ho => by
  have := List.all_eq_true.1 hacy i (List.mem_range.2 hi)
  rw [ho] at this
  simp only [Option.map_some, Option.getD_some, Bool.and_eq_true] at this
  refine ⟨fun e he => of_decide_eq_true (Array.all_eq_true_iff_forall_mem.1 this.1 e he), fun g b hg => ?_⟩
  rw [hg] at this
  simpa using this.2
 have hD : ∀ (j : Nat) (o : Oper), n ≤ j → l[j]? = some o → ∀ i, i < n → reaches .any l l.size j i = true := fun j o hj ho i hi => by
  have hlt := (Array.getElem?_eq_some_iff.1 ho).1
  have := List.all_eq_true.1 hdep (j - n) (List.mem_range.2 (by omega))
  rw [show n + (j - n) = j by omega] at this
  exact List.all_eq_true.1 this i (List.mem_range.2 hi)
 have e1 : n + (l.size - n) = l.size := by omega
 have e2 : extL (Array.replicate n false) l.size = Array.replicate l.size false := by
  unfold extL
  rw [Array.size_replicate, Array.replicate_append_replicate, e1]
 have hmain := cut_any (P := P) (Q := NoPanic Q) (md := .any) h1 hn (fun i o hi ho => (hA i o hi ho).1) (fun i o hi ho => (hA i o hi ho).2) hD n (Array.replicate n false) a w.drew (by simp) (by
  rw [e2]
  intro k o _ hl
  have hl : (Array.replicate l.size false).getD k false = true := hl
  rw [Array.getD_eq_getD_getElem?, Array.getElem?_replicate] at hl
  split at hl <;> cases hl) (wpAny_of_held (S := S) _ _ _ _ (by
  have := of_walk hs (fun _ _ _ _ _ h => h) ord S (Array.replicate ops1.size false) a _ (fun k h => by simpa using List.all_eq_true.1 hk k h) hL hS h
  rw [hsz, hs1] at this
  exact this)) (l.size - n) (Nat.le_refl _)
 rw [e1, e2] at hmain
 exact hmain
end
section
variable {P : Program} {ops : Array Oper} {Q : Exit → Act → World → Prop} {n : Nat} {on : Oper}
end
end Go.Proofs.YtcgkbcgpnlogoaaGreatDoor.Lex

/- A region that draws its order, cut in two: what is left, walked in an order of its own. No program. -/
namespace Go.Proofs.YtcgkbcgpnlogoaaGreatDoor.Lex
open Go

section
variable {P : Program} {ops : Array Oper} {Q : Exit → Act → World → Prop} {md : Region.Mode}
theorem wpAny_more : ∀ (k j : Nat) (listed : Array Bool) (a : Act) (w : World), wpAny P md ops Q k listed a w → wpAny P md ops Q (k + j) listed a w
 | 0, j, _, _, _, h => by rw [Nat.zero_add]; exact wpAny_done h.1 h.2 j
 | k + 1, j, listed, a, w, h => by
  rw [show k + 1 + j = (k + j) + 1 by omega]
  exact ⟨h.1, fun i hi => wpOp_mono (fun a' w' h' => wpAny_more k j _ a' w' h') (h.2 i hi)⟩
theorem tail_lex {calls : List Nat} {n : Nat} {a : Act} {w : World} (ord : List Nat) (S : World → Prop) (hs : Region.noSelect ops = true) (hn : ord.length = ops.size - n)
  (hk : ord.all (fun k => decide (k < ops.size)) = true) (hL : lexH ops calls ord (extL (Array.replicate n true) ops.size) = true) (hS : S w)
  (h : walkH P ops (NoPanic Q) calls ord S a w) : ∀ m, ops.size - n ≤ m → wpAny P .any ops (NoPanic Q) m (extL (Array.replicate n true) ops.size) a w := by
 intro m hm
 obtain ⟨j, rfl⟩ : ∃ j, m = ops.size - n + j := ⟨m - (ops.size - n), by omega⟩
 refine wpAny_more _ j _ a w ?_
 rw [← hn]
 exact wpAny_of_held _ _ _ _ (of_walk hs (fun _ _ _ _ _ h => h) ord S _ a w (fun k h => by simpa using List.all_eq_true.1 hk k h) hL hS h)
end
end Go.Proofs.YtcgkbcgpnlogoaaGreatDoor.Lex

/-
 DERIVED: THE SHELF's CONTRACTS AT THIS DUMP, IN PLAIN WORDS (tools/lay-plain.mjs out of 'TryzShelf.lean', which tools/lay-shelf.mjs wrote): THE SAME DECLARATIONS UNDER THE SAME NAMES: 'import', 'namespace', 'open', 'def', 'theorem' AND NOTHING ELSE: no command of the shelf's: FOR A HAND-IN. Each laying: the table of numbers ('.._ren') and one theorem, a field a fact of the dump's own or the kernel's comparison; each contract: ONE APPLICATION.
-/
namespace Go.Proofs
open Go.Shelf
def Tryz.lays212_ren : Go.Shelf.Ren := ⟨fun | 212 => 203 | 263 => 249 | 264 => 250 | n => n, fun | 46 => 142 | 51 => 261 | 146 => 262 | 53 => 44 | 148 => 264 | n => n, fun | n => n⟩
theorem Tryz.lays212 : Go.Proofs.Lays.n212 Tryz.prog Tryz.lays212_ren := {
 mixed := by kernel_rfl
 f212 := Tryz.func203.trans (congrArg some (by kernel_rfl))
 f263 := Tryz.func249.trans (congrArg some (by kernel_rfl))
 f264 := Tryz.func250.trans (congrArg some (by kernel_rfl))
 t46 := Tryz.underlying142
 a46 := Tryz.isAgg142
 z46 := Tryz.sizeOf142
 v46 := Tryz.zeroValue142
 t51 := Tryz.underlying261
 a51 := Tryz.isAgg261
 z51 := Tryz.sizeOf261
 v51 := Tryz.zeroValue261
 t53 := Tryz.underlying44
 a53 := Tryz.isAgg44
 z53 := Tryz.sizeOf44
 v53 := Tryz.zeroValue44
 t146 := Tryz.underlying262
 a146 := Tryz.isAgg262
 z146 := Tryz.sizeOf262
 v146 := Tryz.zeroValue262
 t148 := Tryz.underlying264
 a148 := Tryz.isAgg264
 z148 := Tryz.sizeOf264
 v148 := Tryz.zeroValue264 }
open Go.RowKit Go.Lib in
/-- math/bits.Mul: "Mul returns the full-width product of x and y": on a machine of 64 bits: Mul64's. (LAID: no walk: one application.) -/
theorem Tryz.bits_Mul (x y : Nat) (hx : x < 18446744073709551616) (hy : y < 18446744073709551616) (w : World) :
  Calls Tryz.prog 203 #[.int .u64 x, .int .u64 y] w fun e w' => e = .returned (.tuple #[.int .u64 ((x * y / 18446744073709551616 : Nat) : Int), .int .u64 ((x * y % 18446744073709551616 : Nat) : Int)]) ∧ w' = w := Any.bits_Mul Tryz.lays212 x y hx hy w
def Tryz.lays105_ren : Go.Shelf.Ren := ⟨fun | 105 => 199 | 212 => 203 | 99 => 245 | 165 => 246 | 166 => 103 | 170 => 247 | 169 => 104 | 263 => 249 | 264 => 250 | 206 => 266 | 240 => 178 | 241 => 267 | 276 => 231 | 277 => 272 | n => n, fun | 9 => 9 | 3 => 3 | 4 => 4 | 20 => 20 | 0 => 0 | 46 => 142 | 109 => 229 | 5 => 5 | 72 => 156 | 76 => 161 | 51 => 261 | 146 => 262 | 53 => 44 | 148 => 264 | 70 => 154 | 37 => 118 | 75 => 160 | 127 => 219 | 164 => 245 | 80 => 53 | n => n, fun | n => n⟩
theorem Tryz.lays105 : Go.Proofs.Lays.n105 Tryz.prog Tryz.lays105_ren := {
 mixed := by kernel_rfl
 f99 := Tryz.func245.trans (congrArg some (by kernel_rfl))
 f105 := Tryz.func199.trans (congrArg some (by kernel_rfl))
 f165 := Tryz.func246.trans (congrArg some (by kernel_rfl))
 f166 := Tryz.func103.trans (congrArg some (by kernel_rfl))
 f169 := Tryz.func104.trans (congrArg some (by kernel_rfl))
 f170 := Tryz.func247.trans (congrArg some (by kernel_rfl))
 f206 := Tryz.func266.trans (congrArg some (by kernel_rfl))
 f212 := Tryz.func203.trans (congrArg some (by kernel_rfl))
 f240 := Tryz.func178.trans (congrArg some (by kernel_rfl))
 f241 := Tryz.func267.trans (congrArg some (by kernel_rfl))
 f263 := Tryz.func249.trans (congrArg some (by kernel_rfl))
 f264 := Tryz.func250.trans (congrArg some (by kernel_rfl))
 f276 := Tryz.func231.trans (congrArg some (by kernel_rfl))
 f277 := Tryz.func272.trans (congrArg some (by kernel_rfl))
 t0 := Tryz.underlying0
 a0 := Tryz.isAgg0
 z0 := Tryz.sizeOf0
 v0 := Tryz.zeroValue0
 t3 := Tryz.underlying3
 a3 := Tryz.isAgg3
 z3 := Tryz.sizeOf3
 v3 := Tryz.zeroValue3
 t4 := Tryz.underlying4
 a4 := Tryz.isAgg4
 z4 := Tryz.sizeOf4
 v4 := Tryz.zeroValue4
 t5 := Tryz.underlying5
 a5 := Tryz.isAgg5
 z5 := Tryz.sizeOf5
 v5 := Tryz.zeroValue5
 t9 := Tryz.underlying9
 a9 := Tryz.isAgg9
 z9 := Tryz.sizeOf9
 v9 := Tryz.zeroValue9
 t20 := Tryz.underlying20
 a20 := Tryz.isAgg20
 z20 := Tryz.sizeOf20
 v20 := Tryz.zeroValue20
 t37 := Tryz.underlying118
 a37 := Tryz.isAgg118
 z37 := Tryz.sizeOf118
 v37 := Tryz.zeroValue118
 t46 := Tryz.underlying142
 a46 := Tryz.isAgg142
 z46 := Tryz.sizeOf142
 v46 := Tryz.zeroValue142
 t51 := Tryz.underlying261
 a51 := Tryz.isAgg261
 z51 := Tryz.sizeOf261
 v51 := Tryz.zeroValue261
 t53 := Tryz.underlying44
 a53 := Tryz.isAgg44
 z53 := Tryz.sizeOf44
 v53 := Tryz.zeroValue44
 t70 := Tryz.underlying154
 a70 := Tryz.isAgg154
 z70 := Tryz.sizeOf154
 v70 := Tryz.zeroValue154
 t72 := Tryz.underlying156
 a72 := Tryz.isAgg156
 z72 := Tryz.sizeOf156
 v72 := Tryz.zeroValue156
 t75 := Tryz.underlying160
 a75 := Tryz.isAgg160
 z75 := Tryz.sizeOf160
 v75 := Tryz.zeroValue160
 t76 := Tryz.underlying161
 a76 := Tryz.isAgg161
 z76 := Tryz.sizeOf161
 v76 := Tryz.zeroValue161
 t109 := Tryz.underlying229
 a109 := Tryz.isAgg229
 z109 := Tryz.sizeOf229
 v109 := Tryz.zeroValue229
 t127 := Tryz.underlying219
 a127 := Tryz.isAgg219
 z127 := Tryz.sizeOf219
 v127 := Tryz.zeroValue219
 t146 := Tryz.underlying262
 a146 := Tryz.isAgg262
 z146 := Tryz.sizeOf262
 v146 := Tryz.zeroValue262
 t148 := Tryz.underlying264
 a148 := Tryz.isAgg264
 z148 := Tryz.sizeOf264
 v148 := Tryz.zeroValue264
 t164 := Tryz.underlying245
 a164 := Tryz.isAgg245
 z164 := Tryz.sizeOf245
 v164 := Tryz.zeroValue245 }
theorem Tryz.Builder_Extra_105 : Builder.Extra Tryz.prog Tryz.lays105_ren := {
 sizeBuilder := by kernel_rfl
 liesBuilder := by kernel_rfl
 t5 := Tryz.underlying5
 a5 := Tryz.isAgg5
 z5 := Tryz.sizeOf5
 v5 := Tryz.zeroValue5
 infoByte := by kernel_rfl
 cellsByte := by kernel_rfl
 sizeByte := by kernel_rfl
 neB5 := by decide }
open Go.RowKit Go.Lib in
/-- **strings.Repeat: count ≥ 0, the result within one allocation: count copies of s.** (LAID: no walk: one application.) -/
theorem Tryz.strings_Repeat (s : ByteArray) (c : Nat) (w : World) (hc : c ≤ 9223372036854775807) (hlen : s.size * c ≤ 140737488355328) :
  Calls Tryz.prog 199 #[.string s, .int .i64 c] w fun e w' => e = .returned (.string ⟨(Lib.repeatL s.data.toList c).toArray⟩) ∧ Below w.heap.size w w' := Any.strings_Repeat Tryz.lays105 Tryz.Builder_Extra_105 s c w hc hlen
def Tryz.laysNm216_ren : Go.Shelf.Ren := ⟨fun | 16 => 210 | n => n, fun | 24 => 25 | 9 => 9 | 4 => 4 | n => n, fun | n => n⟩
theorem Tryz.laysNm216 : Go.Proofs.Lays2.n16 Tryz.prog Tryz.laysNm216_ren := {
 mixed := by kernel_rfl
 f16 := Tryz.func210.trans (congrArg some (by kernel_rfl))
 t4 := Tryz.underlying4
 a4 := Tryz.isAgg4
 z4 := Tryz.sizeOf4
 v4 := Tryz.zeroValue4
 t9 := Tryz.underlying9
 a9 := Tryz.isAgg9
 z9 := Tryz.sizeOf9
 v9 := Tryz.zeroValue9
 t24 := Tryz.underlying25
 a24 := Tryz.isAgg25
 z24 := Tryz.sizeOf25
 v24 := Tryz.zeroValue25
 i9 := by kernel_rfl }
open Go.RowKit Go.Lib in
/-- slices.Clone at []string: "Clone returns a copy of the slice. The elements are copied using assignment, so this is a shallow clone. The result may have additional unused capacity. The result preserves the nilness of s.": OF A SLICE THAT IS NOT nil IT RETURNS A SLICE THAT IS NOT nil, OF THE SAME ELEMENTS, IN MEMORY OF THE CALL's OWN: in the how-to's words (6f): 'w'.ownsRow B e 1 v' n cells': v' begins at the head of a row among the blocks from B on (B: the heap's size at the call), not frozen, whose first cells are the elements · 'Below B w w'': below B all is as it was. The capacity is whatever the run-time gives. 'zs': what the cells behind the slice's address hold; 'zs.take n': its elements. (LAID: no walk: one application.) -/
theorem Tryz.slices_Clone_string (b off n c : Nat) (zs : List ByteArray) (w : World) (hz : n ≤ zs.length) (hbig : n * 16 ≤ 140737488355328) (hc : ∀ j, j < zs.length → w.cell? ⟨b, off + j, none⟩ = some (.string (zs.getD j ByteArray.empty))) :
  Calls Tryz.prog 210 #[.slice (some ⟨b, off, none⟩) n c] w fun e w' => ∃ v', e = .returned v' ∧ w'.ownsRow w.heap.size 9 1 v' n ((zs.take n).map (Value.string)) ∧ v' ≠ .slice none 0 0 ∧ Below w.heap.size w w' := Any.slices_Clone_string Tryz.laysNm216 b off n c zs w hz hbig hc
end Go.Proofs

/- The leaf functions of package slab: what each call gives, and that memory below stays. -/
namespace Go.Proofs.YtcgkbcgpnlogoaaGreatDoor.Sla
open Go.RowKit Go.Shelf

set_option maxHeartbeats 400000 in
theorem deed_no (A B : Option Addr) (n c m k : Nat) (dead : Bool) (left deeds : Int) (w : World) (h : dead = true ∨ left = 0) :
  Calls Tryz.prog 205 #[.agg #[.slice A n c, .slice B m k, .bool dead, .int .i64 left, .int .i64 deeds]] w fun e w' =>
   e = .returned (.tuple #[.agg #[.slice A n c, .slice B m k, .bool true, .int .i64 left, .int .i64 deeds], .bool false]) ∧ Below w.heap.size w w' := by
 cases dead with
 | true =>
  clear h
  go_enter Tryz.func205, Tryz.ntmps205
  go_wp2
  exact bodyPost_ret (v := .tuple #[.agg #[.slice A n c, .slice B m k, .bool true, .int .i64 left, .int .i64 deeds], .bool false]) (by simp [results, Tryz.results205, go_sem]) rfl ⟨rfl, ((Below.refl _ _).alloc (by simp) _).alloc (by simp) _⟩
 | false =>
  obtain rfl : left = 0 := by simpa using h
  clear h
  go_enter Tryz.func205, Tryz.ntmps205
  go_wp2
  exact bodyPost_ret (v := .tuple #[.agg #[.slice A n c, .slice B m k, .bool true, .int .i64 0, .int .i64 deeds], .bool false]) (by simp [results, Tryz.results205, go_sem]) rfl ⟨rfl, ((Below.refl _ _).alloc (by simp) _).alloc (by simp) _⟩

def lessLeft (left : Int) : Int := if 0 < left then left - 1 else left

set_option maxHeartbeats 400000 in
theorem deed_yes (A B : Option Addr) (n c m k : Nat) (left deeds : Int) (w : World) (h0 : left ≠ 0) (h1 : -9223372036854775808 ≤ left) (h2 : left ≤ 9223372036854775807) (h3 : 0 ≤ deeds) (h4 : deeds ≤ 1000000) :
  Calls Tryz.prog 205 #[.agg #[.slice A n c, .slice B m k, .bool false, .int .i64 left, .int .i64 deeds]] w fun e w' =>
   e = .returned (.tuple #[.agg #[.slice A n c, .slice B m k, .bool false, .int .i64 (lessLeft left), .int .i64 (deeds + 1)], .bool true]) ∧ Below w.heap.size w w' := by
 by_cases hl : 0 < left
 ·have hf : lessLeft left = left - 1 := by unfold lessLeft; rw [if_pos hl]
  rw [hf]
  clear hf
  have hb : (left == 0) = false := by simpa using h0
  clear h0 h1
  go_enter Tryz.func205, Tryz.ntmps205
  go_wp2
  exact bodyPost_ret (v := .tuple #[.agg #[.slice A n c, .slice B m k, .bool false, .int .i64 (left - 1), .int .i64 (deeds + 1)], .bool true]) (by simp [results, Tryz.results205, go_sem]) rfl ⟨rfl, ((Below.refl _ _).alloc (by simp) _).alloc (by simp) _⟩
 ·have hf : lessLeft left = left := by unfold lessLeft; rw [if_neg hl]
  rw [hf]
  clear hf
  have hb : (left == 0) = false := by simpa using h0
  have hl2 : left < 0 := by omega
  clear h0 h2 hl
  go_enter Tryz.func205, Tryz.ntmps205
  go_wp2
  exact bodyPost_ret (v := .tuple #[.agg #[.slice A n c, .slice B m k, .bool false, .int .i64 left, .int .i64 (deeds + 1)], .bool true]) (by simp [results, Tryz.results205, go_sem]) rfl ⟨rfl, ((Below.refl _ _).alloc (by simp) _).alloc (by simp) _⟩

set_option maxHeartbeats 400000 in
theorem has_any (A B : Option Addr) (n c m k : Nat) (dead : Bool) (left deeds at_ : Int) (w : World) (b : Bool) (hb : b = decide (0 ≤ at_ ∧ at_ < n)) :
  Calls Tryz.prog 204 #[.agg #[.slice A n c, .slice B m k, .bool dead, .int .i64 left, .int .i64 deeds], .int .i64 at_] w fun e w' =>
   e = .returned (.bool b) ∧ Below w.heap.size w w' := by
 have HB := Lib.hid hb
 clear hb
 by_cases h0 : 0 ≤ at_
 ·by_cases h1 : at_ < n
  ·go_enter Tryz.func204, Tryz.ntmps204
   go_wp2
   go_ret
   exact ⟨by rw [HB.out]; simp [h0, h1], ((Below.refl _ _).alloc (by simp) _)⟩
  ·have h1' : (n : Int) ≤ at_ := by omega
   clear h1
   go_enter Tryz.func204, Tryz.ntmps204
   go_wp2
   go_ret
   exact ⟨by rw [HB.out]; simp; omega, ((Below.refl _ _).alloc (by simp) _)⟩
 ·have h0' : at_ < 0 := by omega
  clear h0
  go_enter Tryz.func204, Tryz.ntmps204
  go_wp2
  go_ret
  exact ⟨by rw [HB.out]; simp; omega, ((Below.refl _ _).alloc (by simp) _)⟩

def laidB (o d : ByteArray) : ByteArray := if o.size ≤ d.size then d else d ++ o.extract d.size o.size

def keptI (stay torn bytes : Int) (i : Nat) (size : Nat) : Int :=
 if (i : Int) = torn then min (min (max bytes 0) 256) size
 else if (stay / 2 ^ (i % 64)) % 2 = 1 then size else 0

end Go.Proofs.YtcgkbcgpnlogoaaGreatDoor.Sla

/- The writes that are not sure, as a list in memory; slab.with. -/
namespace Go.Proofs.YtcgkbcgpnlogoaaGreatDoor.Sla
open Go.RowKit Go.Shelf

theorem info41 : (Tryz.prog.info? 120).map (fun i => (i.zero, i.size, i.bytes)) = some (some (.agg #[.int .i64 0, .string ⟨#[]⟩]), 2, 24) := by kernel_rfl

def lateCells (LA : Nat → Int) (LD : Nat → ByteArray) : Nat → List Value
  | 0 => []
  | m + 1 => lateCells LA LD m ++ [.int .i64 (LA m), .string (LD m)]
theorem lateCells_length (LA : Nat → Int) (LD : Nat → ByteArray) (m : Nat) : (lateCells LA LD m).length = m * 2 := by
  induction m with
  | zero => rfl
  | succ m ih => simp [lateCells, ih]; omega
theorem lateCells_at (LA : Nat → Int) (LD : Nat → ByteArray) (m j : Nat) (h : j < m) :
    (lateCells LA LD m)[j * 2]? = some (.int .i64 (LA j)) ∧ (lateCells LA LD m)[j * 2 + 1]? = some (.string (LD j)) := by
  induction m with
  | zero => omega
  | succ m ih =>
    have hl := lateCells_length LA LD m
    by_cases hj : j < m
    · obtain ⟨h1, h2⟩ := ih hj
      simp only [lateCells]
      rw [List.getElem?_append_left (by omega), List.getElem?_append_left (by omega)]
      exact ⟨h1, h2⟩
    · obtain rfl : j = m := by omega
      simp only [lateCells]
      rw [List.getElem?_append_right (by omega), List.getElem?_append_right (by omega)]
      have e1 : j * 2 - (lateCells LA LD j).length = 0 := by omega
      have e2 : j * 2 + 1 - (lateCells LA LD j).length = 1 := by omega
      rw [e1, e2]
      exact ⟨rfl, rfl⟩
theorem lateCells_one (LA : Nat → Int) (LD : Nat → ByteArray) (m : Nat) : ∀ u ∈ lateCells LA LD m, u.oneCell' = true := by
  induction m with
  | zero => intro u hu; cases hu
  | succ m ih =>
    intro u hu
    simp only [lateCells, List.mem_append, List.mem_cons, List.not_mem_nil, or_false] at hu
    rcases hu with hu | rfl | rfl
    · exact ih u hu
    · rfl
    · rfl
theorem lateCells_congr (LA LA' : Nat → Int) (LD LD' : Nat → ByteArray) (m : Nat) (h : ∀ j, j < m → LA j = LA' j ∧ LD j = LD' j) : lateCells LA LD m = lateCells LA' LD' m := by
  induction m with
  | zero => rfl
  | succ m ih => simp only [lateCells]; rw [ih (fun j hj => h j (by omega)), (h m (by omega)).1, (h m (by omega)).2]

/-- The list at this address holds these writes. -/
def HasLate (w : World) (A : Option Addr) (m : Nat) (LA : Nat → Int) (LD : Nat → ByteArray) : Prop :=
  0 < m → ∃ b, A = some ⟨b, 0, none⟩ ∧ b < w.heap.size ∧ ∀ j, j < m → w.cell? ⟨b, j * 2, none⟩ = some (.int .i64 (LA j)) ∧ w.cell? ⟨b, j * 2 + 1, none⟩ = some (.string (LD j))
theorem HasLate.below {w w' : World} {A : Option Addr} {m : Nat} {LA : Nat → Int} {LD : Nat → ByteArray} {B : Nat} (h : HasLate w A m LA LD) (hb : Below B w w') (hB : w.heap.size ≤ B) : HasLate w' A m LA LD := by
  intro hm
  obtain ⟨b, hA, hlt, hc⟩ := h hm
  refine ⟨b, hA, Nat.lt_of_lt_of_le hlt hb.size, fun j hj => ?_⟩
  rw [hb.cell (p := ⟨b, j * 2, none⟩) (Nat.lt_of_lt_of_le hlt hB), hb.cell (p := ⟨b, j * 2 + 1, none⟩) (Nat.lt_of_lt_of_le hlt hB)]
  exact hc j hj

theorem add_zero_off (b j : Nat) : (⟨b, 0, none⟩ : Addr).add j = ⟨b, j, none⟩ := by unfold Addr.add; split <;> simp_all

theorem news_of_late {w : World} {b m : Nat} {LA : Nat → Int} {LD : Nat → ByteArray} (hc : ∀ j, j < m → w.cell? ⟨b, j * 2, none⟩ = some (.int .i64 (LA j)) ∧ w.cell? ⟨b, j * 2 + 1, none⟩ = some (.string (LD j))) :
    ∀ j u, (lateCells LA LD m)[j]? = some u → w.cell? ((⟨b, 0, none⟩ : Addr).add j) = some u := by
  intro j u hu
  rw [add_zero_off]
  have hlt : j < m * 2 := by
    have := (List.getElem?_eq_some_iff.1 hu).1
    rw [lateCells_length] at this
    exact this
  have hj : j / 2 < m := by omega
  obtain ⟨h1, h2⟩ := lateCells_at LA LD m (j / 2) hj
  obtain ⟨c1, c2⟩ := hc (j / 2) hj
  rcases Nat.mod_two_eq_zero_or_one j with h | h
  · have e : j / 2 * 2 = j := by omega
    rw [e] at h1 c1
    rw [h1] at hu
    rw [c1, hu]
  · have e : j / 2 * 2 + 1 = j := by omega
    rw [e] at h2 c2
    rw [h2] at hu
    rw [c2, hu]

def snocI (L : Nat → Int) (m : Nat) (x : Int) : Nat → Int := fun j => if j = m then x else L j
def snocD (L : Nat → ByteArray) (m : Nat) (x : ByteArray) : Nat → ByteArray := fun j => if j = m then x else L j

theorem late_of_own {w : World} {base g cap m : Nat} {LA : Nat → Int} {LD : Nat → ByteArray} {xs : List Value} (h : w.ownsRow base 120 2 (.slice (some ⟨g, 0, none⟩) m cap) m xs) (hx : xs = lateCells LA LD m) (hlt : g < w.heap.size) :
    HasLate w (some ⟨g, 0, none⟩) m LA LD := by
  subst hx
  intro _
  refine ⟨g, rfl, hlt, fun j hj => ?_⟩
  obtain ⟨h1, h2⟩ := lateCells_at LA LD m j hj
  exact ⟨(h.cellAt (j * 2) (by omega)).trans h1, (h.cellAt (j * 2 + 1) (by omega)).trans h2⟩

theorem snoc_cells (LA : Nat → Int) (LD : Nat → ByteArray) (m : Nat) (x : Int) (d : ByteArray) : lateCells LA LD m ++ [.int .i64 x, .string d] = lateCells (snocI LA m x) (snocD LD m d) (m + 1) := by
  simp only [lateCells, snocI, snocD, if_true]
  rw [lateCells_congr LA (snocI LA m x) LD (snocD LD m d) m (fun j hj => by simp only [snocI, snocD]; rw [if_neg (by omega), if_neg (by omega)]; exact ⟨rfl, rfl⟩)]

def WithPost (m : Nat) (LA : Nat → Int) (LD : Nat → ByteArray) (w : World) (e : Ending) (w' : World) : Prop :=
  ∃ g cap, e = .returned (.slice (some ⟨g, 0, none⟩) (m + 1) cap) ∧ HasLate w' (some ⟨g, 0, none⟩) (m + 1) LA LD ∧ w.heap.size ≤ g ∧ Below w.heap.size w w'

set_option maxHeartbeats 1000000 in
theorem with_pos (b m c : Nat) (LA : Nat → Int) (LD : Nat → ByteArray) (x : Int) (d : ByteArray) (w : World) (hm : m ≤ 100000) (h0 : 0 < m) (hb : b < w.heap.size)
    (hc : ∀ j, j < m → w.cell? ⟨b, j * 2, none⟩ = some (.int .i64 (LA j)) ∧ w.cell? ⟨b, j * 2 + 1, none⟩ = some (.string (LD j))) :
    Calls Tryz.prog 206 #[.slice (some ⟨b, 0, none⟩) m c, .agg #[.int .i64 x, .string d]] w (WithPost m (snocI LA m x) (snocD LD m d) w) := by
  obtain ⟨i0, hi, hz0, hz1, hz2⟩ := info_parts info41
  have HN := Lib.hid (news_of_late hc)
  have HL := Lib.hid (lateCells_length LA LD m)
  have HO := Lib.hid (lateCells_one LA LD m)
  have HS := Lib.hid (snoc_cells LA LD m x d)
  generalize hxs : lateCells LA LD m = xs at HN HL HO HS
  clear hxs hc
  go_enter Tryz.func206, Tryz.ntmps206
  go_wp2_with (at_make; go_must (refine wpList_make_own _ rfl _ _ 26 rfl (w.heap.size + 1) 120 i0 _ 2 Tryz.underlying26 hi hz0 hz1 _ _ _ (m + 1) rfl rfl (by omega) (by rw [hz2]; omega) (by unfold maxLen; omega) (by simp) ?_); intro w1 hown hgrow)
  have hb0 : Below (w.heap.size + 1) (w.alloc (Obj.cells #[Value.int IntKind.i64 x, Value.string d] 120)) w1 := (Below.refl _ _).grown hgrow (by simp) (fun k hk => by cases hk)
  have hb1 : Below w.heap.size w w1 := ((Below.refl _ _).alloc (Nat.le_refl _) _).trans (hb0.mono (by omega))
  have hs1 : w.heap.size + 1 < w1.heap.size := (hown.lt (w.heap.size + 1) (by simp [Value.ownBlock])).2
  have hc0 : w1.cell? ⟨w.heap.size, 0, none⟩ = some (.int .i64 x) := (hb0.cell (p := ⟨w.heap.size, 0, none⟩) (by simp)).trans (by simp)
  have hc1 : w1.cell? ⟨w.heap.size, 1, none⟩ = some (.string d) := (hb0.cell (p := ⟨w.heap.size, 1, none⟩) (by simp)).trans (by simp)
  have HN1 : Hid (∀ (W : World), Below w.heap.size w W → ∀ (j : Nat) (u : Value), xs[j]? = some u → W.cell? ((⟨b, 0, none⟩ : Addr).add j) = some u) := fun W hW j u hu =>
    (hW.cell (p := (⟨b, 0, none⟩ : Addr).add j) (by rw [add_zero_off]; exact hb)).trans (HN.out j u hu)
  clear HN hgrow
  simp only [World.size_alloc] at hown
  go_region_held3 (fun w' => w'.cell? ⟨w.heap.size, 0, none⟩ = some (.int .i64 x) ∧ w'.cell? ⟨w.heap.size, 1, none⟩ = some (.string d))
    (first
      | go_keep
      | (go_split_ands
         refine ⟨?_, ?_⟩
         · (rw [hgrow3.cell_far _ (by simp; omega) (by simp [Value.ownBlock]; omega)]; simp [*])
         · (rw [hgrow3.cell_far _ (by simp; omega) (by simp [Value.ownBlock]; omega)]; simp [*]))
      | (go_split_ands
         refine ⟨?_, ?_⟩
         · (rw [hgrow2.cell_far _ (by simp; omega) (by simp [Value.ownBlock])]; simp [*])
         · (rw [hgrow2.cell_far _ (by simp; omega) (by simp [Value.ownBlock])]; simp [*])))
    (first
      | (refine step_append_lies _ (by rfl) (.tmp 10) (.tmp 11) 26 (by rfl) (w.heap.size + 1) 120 i0 _ 2 24 Tryz.underlying26 hi hz0 hz1 hz2 rfl (by omega) (.slice (some ⟨w.heap.size + 1, 0, none⟩) 0 (m + 1)) 0 [] (by rfl) (by first | exact hown | exact hown.alloc _)
          ⟨b, 0, none⟩ m c xs (by rfl) HL.out (HN1.out _ (by first | exact hb1.drew | exact hb1.drew.alloc (by simp; omega) _)) HO.out h0 (by unfold maxLen; omega) (by omega) (by simp; omega) _ rfl ?_
         intro g cap w2 hown2 hgrow2 hat2 hlt2
         simp only [Nat.zero_add, List.nil_append] at hown2
         have hg2 := (hown2.lt g (by simp [Value.ownBlock])).1)
      | (refine step_append_lies _ (by rfl) (.tmp 12) (.tmp 14) 26 (by rfl) (w.heap.size + 1) 120 i0 _ 2 24 Tryz.underlying26 hi hz0 hz1 hz2 rfl (by omega) (.slice (some ⟨g, 0, none⟩) m cap) m xs (by first | rfl | (simp only [Nat.zero_add]; rfl)) (hown2.alloc _)
          ⟨w2.heap.size, 0, none⟩ 1 1 [.int .i64 x, .string d] (by rfl) (by rfl) (World.news_of_block (cs := #[.int .i64 x, .string d]) (t := 120) (fr := (0, 0)) (heap_alloc_new w2 _)) (by simp [Value.oneCell']) (by omega) (by unfold maxLen; omega) (by omega) (by simp; omega) _ rfl ?_
         intro g3 cap3 w3 hown3 hgrow3 hat3 hlt3)
      | (refine step_append_lies _ (by rfl) (.tmp 12) (.tmp 14) 26 (by rfl) (w.heap.size + 1) 120 i0 _ 2 24 Tryz.underlying26 hi hz0 hz1 hz2 rfl (by omega) (.slice (some ⟨g, 0, none⟩) m cap) m xs (by first | rfl | (simp only [Nat.zero_add]; rfl)) hown2
          ⟨w1.heap.size, 0, none⟩ 1 1 [.int .i64 x, .string d] (by rfl) (by rfl) (World.news_of_block (cs := #[.int .i64 x, .string d]) (t := 120) (fr := (0, 0)) ((hgrow2.block _ (by simp) (by simp [Value.ownBlock]; omega)).trans (heap_alloc_new _ _))) (by simp [Value.oneCell']) (by omega) (by unfold maxLen; omega) (by omega) (by omega) _ rfl ?_
         intro g3 cap3 w3 hown3 hgrow3 hat3 hlt3))
  · go_wp2
    go_ret
    exact ⟨g3, cap3, rfl, late_of_own hown3 HS.out hlt3, by have := (hown3.lt g3 (by simp [Value.ownBlock])).1; omega, ((hb1.drew.grown hgrow2 (by simp; omega) (fun k hk => by simp [Value.ownBlock] at hk; omega)).alloc (by omega) _).grown hgrow3 (by simp; omega) (fun k hk => by simp [Value.ownBlock] at hk; omega)⟩
  · go_wp2
    go_ret
    exact ⟨g3, cap3, rfl, late_of_own hown3 HS.out hlt3, by have := (hown3.lt g3 (by simp [Value.ownBlock])).1; omega, ((hb1.alloc (by omega) _).drew.grown hgrow2 (by simp; omega) (fun k hk => by simp [Value.ownBlock] at hk; omega)).grown hgrow3 (by omega) (fun k hk => by simp [Value.ownBlock] at hk; omega)⟩

set_option maxHeartbeats 1000000 in
theorem with_zero (LA : Nat → Int) (LD : Nat → ByteArray) (x : Int) (d : ByteArray) (w : World) :
    Calls Tryz.prog 206 #[.slice none 0 0, .agg #[.int .i64 x, .string d]] w (WithPost 0 (snocI LA 0 x) (snocD LD 0 d) w) := by
  obtain ⟨i0, hi, hz0, hz1, hz2⟩ := info_parts info41
  have hmk : ∀ w, (Instr.makeSlice 26 (.int .i64 0) (.int .i64 1)).run Tryz.prog w = .ok (.slice (some ⟨w.heap.size, 0, none⟩) 0 1) (w.alloc (.cells #[.int .i64 0, .string ⟨#[]⟩] 120)) := fun _ => by kernel_rfl
  go_enter Tryz.func206, Tryz.ntmps206
  go_wp2
  go_region
  go_wp2
  go_ret
  refine ⟨w.heap.size + 1, 1, rfl, ?_, by omega, ?_⟩
  · intro _
    refine ⟨w.heap.size + 1, rfl, by simp, fun j hj => ?_⟩
    obtain rfl : j = 0 := by omega
    constructor <;> simp [snocI, snocD, World.cell?_alloc_old, go_sem]
  · repeat (first | exact Below.refl _ _ | refine Below.alloc ?_ (by simp; try omega) _ | refine Below.setCell ?_ (by simp; try omega) _ | refine Below.drew ?_)

theorem with_any (B : Option Addr) (m k : Nat) (LA : Nat → Int) (LD : Nat → ByteArray) (x : Int) (d : ByteArray) (w : World) (hm : m ≤ 100000) (hl : HasLate w B m LA LD) (h0 : m = 0 → B = none ∧ k = 0) :
    Calls Tryz.prog 206 #[.slice B m k, .agg #[.int .i64 x, .string d]] w (WithPost m (snocI LA m x) (snocD LD m d) w) := by
  rcases Nat.eq_zero_or_pos m with h | h
  · obtain ⟨rfl, rfl⟩ := h0 h
    subst h
    exact with_zero LA LD x d w
  · obtain ⟨b, rfl, hb, hc⟩ := hl h
    exact with_pos b m k LA LD x d w hm h hb hc
end Go.Proofs.YtcgkbcgpnlogoaaGreatDoor.Sla

/- Padding with noughts, repeating one string, and making a device. -/
namespace Go.Proofs.YtcgkbcgpnlogoaaGreatDoor.Sla
open Go.RowKit Go.Shelf

/-- These bytes, and noughts up to 256. -/
def padB (d : ByteArray) : ByteArray := d ++ ⟨(List.replicate (256 - d.size) 0).toArray⟩
theorem padB_size (d : ByteArray) (h : d.size ≤ 256) : (padB d).size = 256 := by
  unfold padB
  rw [ByteArray.size_append]
  have : (ByteArray.mk (List.replicate (256 - d.size) (0 : UInt8)).toArray).size = 256 - d.size := by
    show (List.replicate (256 - d.size) (0 : UInt8)).toArray.size = _
    rw [List.size_toArray, List.length_replicate]
  rw [this]
  omega

theorem repeatL_one (c : Nat) : Lib.repeatL [0] c = List.replicate c 0 := by
  induction c with
  | zero => rfl
  | succ c ih => simp [Lib.repeatL, ih, List.replicate_succ]

theorem noughts_any (k : Int) (w : World) (h0 : 0 ≤ k) (h1 : k ≤ 1000000) :
    Calls Tryz.prog 199 #[.string ⟨#[0]⟩, .int .i64 k] w fun e w' => e = .returned (.string ⟨(List.replicate k.toNat 0).toArray⟩) ∧ Below w.heap.size w w' := by
  obtain ⟨n, rfl⟩ := Int.eq_ofNat_of_zero_le h0
  refine (Tryz.strings_Repeat ⟨#[0]⟩ n w (by omega) (by show 1 * n ≤ _; omega)).mono ?_
  rintro e w' ⟨rfl, hb⟩
  refine ⟨?_, hb⟩
  have e0 : (ByteArray.mk #[0]).data.toList = [0] := rfl
  rw [e0, repeatL_one, Int.toNat_natCast]

set_option maxHeartbeats 400000 in
theorem padded_any (d : ByteArray) (w : World) (h : d.size ≤ 256) :
    Calls Tryz.prog 138 #[.string d] w fun e w' => e = .returned (.string (padB d)) ∧ Below w.heap.size w w' := by
  have HF := Lib.hid (show padB d = d ++ ⟨(List.replicate ((256 : Int) - d.size).toNat 0).toArray⟩ by
    unfold padB
    have : ((256 : Int) - d.size).toNat = 256 - d.size := by omega
    rw [this])
  go_enter Tryz.func138, Tryz.ntmps138
  go_wp2_with (go_at_call 199; refine (noughts_any _ _ (by omega) (by omega)).mono ?_; rintro e w1 ⟨rfl, hb⟩; have hrs : (List.replicate ((256 : Int) - d.size).toNat (0 : UInt8)).toArray.size ≤ 256 := (by rw [List.size_toArray, List.length_replicate]; omega); generalize hr : (List.replicate ((256 : Int) - d.size).toNat (0 : UInt8)).toArray = r at HF hrs ⊢; clear hr)
  go_ret
  exact ⟨by rw [HF.out]; rfl, hb⟩

theorem info9 : (Tryz.prog.info? 9).map (fun i => (i.zero, i.size, i.bytes)) = some (some (.string ⟨#[]⟩), 1, 16) := by kernel_rfl

theorem mul_one_any (n : Int) (w : World) (h0 : 0 ≤ n) (h : n ≤ 1000000) :
    Calls Tryz.prog 203 #[.int .u64 1, .int .u64 n] w fun e w' => e = .returned (.tuple #[.int .u64 0, .int .u64 n]) ∧ w = w' := by
  obtain ⟨k, rfl⟩ := Int.eq_ofNat_of_zero_le h0
  refine (Tryz.bits_Mul 1 k (by omega) (by omega) w).mono ?_
  rintro e w' ⟨rfl, rfl⟩
  refine ⟨?_, rfl⟩
  have e1 : 1 * k / 18446744073709551616 = 0 := by omega
  have e2 : 1 * k % 18446744073709551616 = k := by omega
  rw [e1, e2]
  rfl

theorem row_of_own {w : World} {base g n : Nat} {e : TypeId} {xs : List Value} (h : w.ownsRow base e 1 (.slice (some ⟨g, 0, none⟩) n n) n xs) :
    ∃ cur : List Value, w.heap[g]? = some (.cells cur.toArray e (0, 0)) ∧ cur.length = n := by
  rcases h.2 with ⟨h0, _⟩ | ⟨g', cap, cur, hv, _, hg, _, _, hs, _⟩
  · cases h0
  · injection hv with h1 h2 h3
    injection h1 with h1
    injection h1 with h1
    subst h1
    subst h3
    exact ⟨cur.toList, by simpa using hg, by simpa using hs⟩

def RepPost (n : Nat) (s : ByteArray) (w : World) (e : Ending) (w' : World) : Prop :=
  ∃ g cap, e = .returned (.slice (some ⟨g, 0, none⟩) n cap) ∧ n ≤ cap ∧ g < w'.heap.size ∧ (∀ j, j < n → w'.cell? ⟨g, j, none⟩ = some (.string s)) ∧ w.heap.size ≤ g ∧ Below w.heap.size w w'

theorem cell_one {w : World} {b : Nat} {s : Value} (hc : w.cell? ⟨b, 0, none⟩ = some s) : ∀ (j : Nat) (v : Value), [s][j]? = some v → w.cell? ((⟨b, 0, none⟩ : Addr).add j) = some v := by
  intro j v hj
  match j, hj with
  | 0, hj => simp at hj; subst hj; rw [add_zero_off]; exact hc

set_option maxRecDepth 20000 in
set_option maxHeartbeats 1000000 in
theorem repeat_slice (b c n : Nat) (s : ByteArray) (w : World) (h1 : 1 ≤ n) (h2 : n ≤ 2000) (hb : b < w.heap.size) (hc : w.cell? ⟨b, 0, none⟩ = some (.string s)) :
    Calls Tryz.prog 137 #[.slice (some ⟨b, 0, none⟩) 1 c, .int .i64 n] w (RepPost n s w) := by
  obtain ⟨i0, hi, hz0, hz1, hz2⟩ := info_parts info9
  have HC := Lib.hid hc
  clear hc
  have hd1 : decide ((n : Int) < 0) = false := by simp
  have hd2 : decide (9223372036854775807 < (n : Int)) = false := by simp; omega
  go_enter Tryz.func137, Tryz.ntmps137
  go_wp2_with (first
    | (go_at_call 203; refine (mul_one_any _ _ (by omega) (by omega)).mono ?_; rintro e w' ⟨rfl, rfl⟩)
    | (at_make
       go_must (refine wpList_make_full _ rfl _ _ 25 rfl (w.heap.size) 9 i0 _ 1 Tryz.underlying25 hi hz0 hz1 _ _ _ _ n rfl rfl (by omega) (by omega) (by rw [hz2]; omega) (by unfold maxLen; omega) (by simp) ?_)
       intro w1 hown hgrow
       obtain ⟨cur, hcur, hlen⟩ := row_of_own hown
       have hb1 : Below w.heap.size w w1 := (Below.refl _ _).grown hgrow (Nat.le_refl _) (fun k hk => by cases hk)
       have HC1 : Hid (w1.cell? ⟨b, 0, none⟩ = some (.string s)) := (hb1.cell (p := ⟨b, 0, none⟩) hb).trans HC.out
       have HCur := Lib.hid hcur
       have HLen := Lib.hid hlen
       clear hcur hlen hown hgrow)
    | (refine wpList_copy_splice rfl (.tmp 31) (.tmp 32) 25 25 rfl 9 Tryz.underlying25 (by rw [hi]; exact congrArg some hz1) (some ⟨w.heap.size, 0, none⟩) (some ⟨b, 0, none⟩) n n 1 c rfl rfl w.heap.size 0 cur 9 HCur.out [.string s] (by simp [Nat.min_def]; omega) (fun _ => ⟨rfl, ⟨b, 0, none⟩, rfl, cell_one HC1.out⟩) (by simp [HLen.out]; omega) (by simp [Value.oneCell']) w.heap.size w hb1 (Nat.le_refl _) ?_
       intro w2 hg2 hb2))
  have hL2 : (splice cur 0 [Value.string s]).length = n := by rw [length_splice _ _ _ (by simp [HLen.out]; omega)]; exact HLen.out
  have hF2 : ∀ j, j < 1 → (splice cur 0 [Value.string s])[j]? = some (.string s) := by
    intro j hj
    obtain rfl : j = 0 := by omega
    simp [splice]
  have HL2 := Lib.hid hL2
  have HF2 := Lib.hid hF2
  generalize splice cur 0 [Value.string s] = cur2 at hg2 HL2 HF2
  have hs1 : w.heap.size < w2.heap.size := by
    have := Array.getElem?_eq_some_iff.1 hg2.out
    exact this.1
  clear hL2 hF2 HCur HLen HC1 hb1
  go_loopw [8] (fun v wr => ∃ k : Nat, 1 ≤ k ∧ k ≤ n ∧ v = .int .i64 k ∧ Below w.heap.size w wr ∧ w.heap.size < wr.heap.size ∧ ∃ cur : List Value, Hid (wr.heap[w.heap.size]? = some (.cells cur.toArray 9 (0, 0))) ∧ Hid (cur.length = n) ∧ Hid (∀ j, j < k → cur[j]? = some (.string s))) (fun v _ => n - (intOf v).toNat)
  case atStart => exact ⟨1, Nat.le_refl _, h1, rfl, hb2, hs1, cur2, hg2, HL2, HF2⟩
  case round =>
    obtain ⟨k, hk1, hk2, rfl, hbr, hsr, cur3, hg3, HL3, HF3⟩ := hrel
    by_cases hlt : k < n
    · have i1 : (k : Int) < n := by omega
      have i2 : (0 : Int) ≤ k := by omega
      have i3 : (k : Int) ≤ n := by omega
      have i4 : ¬ n = k := by omega
      go_wp2
      have hmm : (List.replicate (min k (n - k)) (Value.string s)).length = min k (n - k) := List.length_replicate
      have HM := Lib.hid hmm
      have HSrc : Hid (∀ (W : World), W.heap[w.heap.size]? = some (.cells cur3.toArray 9 (0, 0)) → ∀ (j : Nat) (v : Value), (List.replicate (min k (n - k)) (Value.string s))[j]? = some v → W.cell? ((⟨w.heap.size, 0, none⟩ : Addr).add j) = some v) := by
        intro W hW j v hj
        have hjl := (List.getElem?_eq_some_iff.1 hj).1
        rw [hmm] at hjl
        rw [List.getElem?_replicate, if_pos hjl] at hj
        injection hj with hj
        subst hj
        rw [add_zero_off, cell_of_row W _ j _ _ _ hW]
        simpa using HF3.out j (by omega)
      have HOne : Hid (∀ v ∈ List.replicate (min k (n - k)) (Value.string s), v.oneCell' = true) := by
        intro v hv
        rw [(List.mem_replicate.1 hv).2]
        rfl
      clear hmm
      generalize hcs : List.replicate (min k (n - k)) (Value.string s) = cs at HM HSrc HOne
      have HCS := Lib.hid hcs
      clear hcs
      have hl1 : cs.length + k ≤ n := by rw [HM.out]; omega
      have hl2 : 1 ≤ cs.length := by rw [HM.out]; omega
      have hwr : IntKind.i64.wrap ((k : Int) + (cs.length : Int)) = (k : Int) + (cs.length : Int) := IntWalk.i64_in _ (by omega)
      go_region_law ((refine step_copy_splice rfl (.tmp 41) (.tmp 44) 25 25 rfl 9 Tryz.underlying25 (by rw [hi]; exact congrArg some hz1) (some ⟨w.heap.size, k, none⟩) (some ⟨w.heap.size, 0, none⟩) (n - k) (n - k) k n (by simp [Act.eval, Act.put]) (by simp [Act.eval, Act.put]) w.heap.size k cur3 9 hg3.out cs (by rw [HM.out]; first | done | rfl | simp [Nat.min_def]) (fun _ => ⟨rfl, ⟨w.heap.size, 0, none⟩, rfl, HSrc.out _ hg3.out⟩) (by rw [HM.out, HL3.out]; omega) HOne.out w.heap.size w hbr.drew (Nat.le_refl _) ?_; intro w4 hg4 hb4))
      simp only [Act.put, List.getElem_toArray, List.getElem_cons_succ, List.getElem_cons_zero, List.setIfInBounds_toArray, List.set_cons_succ, List.set_cons_zero]
      go_roundw
      case rel =>
        refine ⟨_, _, _, _, _, _, _, _, _, _, _, _, _, _, ⟨k + cs.length, by omega, by omega, ?_, hb4, ?_, splice cur3 k cs, hg4, ?_, ?_⟩, rfl⟩
        · go_num
        · have := Array.getElem?_eq_some_iff.1 hg4.out
          exact this.1
        · show (splice cur3 k cs).length = n
          rw [length_splice _ _ _ (by rw [HL3.out]; omega)]
          exact HL3.out
        · intro j hj
          have h3 : cur3.length = n := HL3.out
          unfold splice
          by_cases hjk : j < k
          · rw [List.getElem?_append_left (by rw [List.length_take]; omega), List.getElem?_take_of_lt hjk]
            exact HF3.out j hjk
          · rw [List.getElem?_append_right (by rw [List.length_take]; omega), List.length_take, List.getElem?_append_left (by omega), ← HCS.out, List.getElem?_replicate, if_pos (by have := HM.out; omega)]
      case measure => simp [intOf]; omega
    · obtain rfl : k = n := by omega
      go_wp2
      go_ret
      refine ⟨w.heap.size, k, rfl, Nat.le_refl _, hsr, fun j hj => ?_, Nat.le_refl _, hbr⟩
      rw [cell_of_row wr w.heap.size j _ _ _ hg3.out]
      simpa using HF3.out j hj
end Go.Proofs.YtcgkbcgpnlogoaaGreatDoor.Sla

/- Storing a struct of five cells, in a world that is not written out. -/
namespace Go.Proofs.YtcgkbcgpnlogoaaGreatDoor.Sla
open Go.RowKit Go.Shelf

/-- A variable of five cells. -/
structure Box5 (w : World) (g : Nat) (v0 v1 v2 v3 v4 : Value) : Prop where
 c0 : w.cell? ⟨g, 0, none⟩ = some v0
 c1 : w.cell? ⟨g, 1, none⟩ = some v1
 c2 : w.cell? ⟨g, 2, none⟩ = some v2
 c3 : w.cell? ⟨g, 3, none⟩ = some v3
 c4 : w.cell? ⟨g, 4, none⟩ = some v4
 f : ∀ i, w.frozen? ⟨g, i, none⟩ = false

/-- All blocks but one are as they were. -/
structure But (g : Nat) (w w' : World) : Prop where
 os : w'.os = w.os
 tape : w'.tape = w.tape
 output : w'.output = w.output
 size : w'.heap.size = w.heap.size
 block : ∀ k, k ≠ g → w'.heap[k]? = w.heap[k]?

theorem But.refl (g : Nat) (w : World) : But g w w := ⟨rfl, rfl, rfl, rfl, fun _ _ => rfl⟩
theorem But.setCell {g : Nat} {a w : World} (h : But g a w) (i : Nat) (u : Value) : But g a (w.setCell ⟨g, i, none⟩ u) :=
 ⟨h.os, h.tape, h.output, by simpa using h.size, fun k hk => (Below.heap_setCell w ⟨g, i, none⟩ u k hk).trans (h.block k hk)⟩
theorem But.below {g B : Nat} {w w' : World} (h : But g w w') (hB : B ≤ g) : Below B w w' :=
 ⟨h.os, h.tape, h.output, by rw [h.size]; exact Nat.le_refl _, fun k hk => h.block k (by omega)⟩
theorem But.cell {g : Nat} {w w' : World} (h : But g w w') {p : Addr} (hp : p.block ≠ g) : w'.cell? p = w.cell? p := World.cell?_of_block (w := w) (h.block p.block hp)
theorem But.frozen {g : Nat} {w w' : World} (h : But g w w') {p : Addr} (hp : p.block ≠ g) : w'.frozen? p = w.frozen? p := World.frozen?_of_block (w := w) (h.block p.block hp)
theorem Box5.but {g g' : Nat} {w w' : World} {v0 v1 v2 v3 v4 : Value} (h : Box5 w g v0 v1 v2 v3 v4) (hb : But g' w w') (hne : g ≠ g') : Box5 w' g v0 v1 v2 v3 v4 :=
 ⟨(hb.cell hne).trans h.c0, (hb.cell hne).trans h.c1, (hb.cell hne).trans h.c2, (hb.cell hne).trans h.c3, (hb.cell hne).trans h.c4, fun i => (hb.frozen hne).trans (h.f i)⟩
theorem Box5.below {g B : Nat} {w w' : World} {v0 v1 v2 v3 v4 : Value} (h : Box5 w g v0 v1 v2 v3 v4) (hb : Below B w w') (hB : g < B) : Box5 w' g v0 v1 v2 v3 v4 :=
 ⟨(hb.cell (p := ⟨g, 0, none⟩) hB).trans h.c0, (hb.cell (p := ⟨g, 1, none⟩) hB).trans h.c1, (hb.cell (p := ⟨g, 2, none⟩) hB).trans h.c2, (hb.cell (p := ⟨g, 3, none⟩) hB).trans h.c3, (hb.cell (p := ⟨g, 4, none⟩) hB).trans h.c4, fun i => (hb.frozen (p := ⟨g, i, none⟩) hB).trans (h.f i)⟩
theorem Box5.new (w : World) (v0 v1 v2 v3 v4 : Value) (t : TypeId) : Box5 (w.alloc (.cells #[v0, v1, v2, v3, v4] t)) w.heap.size v0 v1 v2 v3 v4 := by
 constructor <;> simp [go_sem]
theorem Box5.alloc {g : Nat} {w : World} {v0 v1 v2 v3 v4 : Value} (h : Box5 w g v0 v1 v2 v3 v4) (o : Obj) : Box5 (w.alloc o) g v0 v1 v2 v3 v4 := by
 have hlt : g < w.heap.size := World.block_lt_of_cell? w _ h.c0
 exact h.below ((Below.refl (g + 1) w).alloc hlt o) (by omega)
theorem Box5.set {g : Nat} {w : World} {v0 v1 v2 v3 v4 : Value} (h : Box5 w g v0 v1 v2 v3 v4) (u0 u1 u2 u3 u4 : Value) :
  Box5 (((((w.setCell ⟨g, 0, none⟩ u0).setCell ⟨g, 1, none⟩ u1).setCell ⟨g, 2, none⟩ u2).setCell ⟨g, 3, none⟩ u3).setCell ⟨g, 4, none⟩ u4) g u0 u1 u2 u3 u4 := by
 obtain ⟨h0, h1, h2, h3, h4, hf⟩ := h
 have o : ∀ (W : World) (i j : Nat) (u : Value), i ≠ j → (W.setCell ⟨g, i, none⟩ u).cell? ⟨g, j, none⟩ = W.cell? ⟨g, j, none⟩ := fun W i j u hij => World.cell?_setCell_other W _ _ u (fun e => hij (by injection e))
 refine ⟨?_, ?_, ?_, ?_, ?_, fun i => by simp [hf]⟩
 ·rw [o _ _ _ _ (by decide), o _ _ _ _ (by decide), o _ _ _ _ (by decide), o _ _ _ _ (by decide)]
  exact World.cell?_setCell_same _ _ _ h0
 ·rw [o _ _ _ _ (by decide), o _ _ _ _ (by decide), o _ _ _ _ (by decide)]
  exact World.cell?_setCell_same _ _ _ ((o _ _ _ _ (by decide)).trans h1)
 ·rw [o _ _ _ _ (by decide), o _ _ _ _ (by decide)]
  exact World.cell?_setCell_same _ _ _ (((o _ _ _ _ (by decide)).trans (o _ _ _ _ (by decide))).trans h2)
 ·rw [o _ _ _ _ (by decide)]
  exact World.cell?_setCell_same _ _ _ ((((o _ _ _ _ (by decide)).trans (o _ _ _ _ (by decide))).trans (o _ _ _ _ (by decide))).trans h3)
 ·exact World.cell?_setCell_same _ _ _ (((((o _ _ _ _ (by decide)).trans (o _ _ _ _ (by decide))).trans (o _ _ _ _ (by decide))).trans (o _ _ _ _ (by decide))).trans h4)

/-- A struct of five cells is stored into its variable. -/
theorem wpList_store5 {P : Program} {ops : Array Oper} {rest : List Oper} {op : Oper} {a : Act} {w : World} {Q : Exit → Act → World → Prop} (hgd : op.guard = none) (ty : TypeId) (x y : Operand) (ho : op.op = .store ty x y)
  (g : Nat) (v0 v1 v2 v3 v4 u0 u1 u2 u3 u4 : Value) (hx : a.eval x = .pointer (some ⟨g, 0, none⟩)) (hy : a.eval y = .agg #[u0, u1, u2, u3, u4])
  (hb : Box5 w g v0 v1 v2 v3 v4) (hi : (P.info? ty).map (·.size) = some 5) (h1 : (#[u0, u1, u2, u3, u4] : Array Value).all (·.oneCell') = true)
  (h : ∀ w', Box5 w' g u0 u1 u2 u3 u4 → But g w w' → wpList P ops Q rest (a.put op.dst undef) w') : wpList P ops Q (op :: rest) a w := by
 refine wpList_store_mid hgd ty x y ho g 0 #[u0, u1, u2, u3, u4] hx hy ?_ hi h1 (h _ (hb.set u0 u1 u2 u3 u4) ((((((But.refl g w).setCell 0 u0).setCell 1 u1).setCell 2 u2).setCell 3 u3).setCell 4 u4))
 intro j hj
 have hj' : j < 5 := hj
 refine ⟨?_, hb.f _⟩
 rw [Nat.zero_add]
 have e : j = 0 ∨ j = 1 ∨ j = 2 ∨ j = 3 ∨ j = 4 := by omega
 rcases e with rfl | rfl | rfl | rfl | rfl
 ·rw [hb.c0]; rfl
 ·rw [hb.c1]; rfl
 ·rw [hb.c2]; rfl
 ·rw [hb.c3]; rfl
 ·rw [hb.c4]; rfl

theorem size31 : (Tryz.prog.info? 28).map (·.size) = some 5 := by kernel_rfl
end Go.Proofs.YtcgkbcgpnlogoaaGreatDoor.Sla

/- Devices: what a value in memory says of one; New, Arm, Put. -/
namespace Go.Proofs.YtcgkbcgpnlogoaaGreatDoor.Sla
open Go.RowKit Go.Shelf

/-- A device, told plainly: n sectors that are sure, m writes that are not. -/
structure Dev where
  n : Nat
  S : Nat → ByteArray
  m : Nat
  LA : Nat → Int
  LD : Nat → ByteArray
  dead : Bool
  left : Int
  deeds : Int

/-- The value v tells the device D; its sectors lie in block b, its writes at B. -/
def DevAt (w : World) (b : Nat) (B : Option Addr) (v : Value) (D : Dev) : Prop :=
  ∃ (c k : Nat), v = .agg #[.slice (some ⟨b, 0, none⟩) D.n c, .slice B D.m k, .bool D.dead, .int .i64 D.left, .int .i64 D.deeds] ∧
    b < w.heap.size ∧ D.n ≤ c ∧ (∀ j, j < D.n → w.cell? ⟨b, j, none⟩ = some (.string (D.S j))) ∧ HasLate w B D.m D.LA D.LD ∧ (D.m = 0 → B = none ∧ k = 0)
def IsDev (w : World) (v : Value) (D : Dev) : Prop := ∃ b B, DevAt w b B v D

theorem HasLate.block_lt {w : World} {A : Option Addr} {m : Nat} {LA : Nat → Int} {LD : Nat → ByteArray} (h : HasLate w A m LA LD) (h0 : m = 0 → A = none) : ∀ a, A = some a → a.block < w.heap.size := by
  intro a ha
  rcases Nat.eq_zero_or_pos m with hm | hm
  · rw [h0 hm] at ha; cases ha
  · obtain ⟨b, hA, hlt, _⟩ := h hm
    rw [hA] at ha
    injection ha with ha
    subst ha
    exact hlt
theorem HasLate.setCell {w : World} {A : Option Addr} {m : Nat} {LA : Nat → Int} {LD : Nat → ByteArray} (h : HasLate w A m LA LD) {p : Addr} (hne : ∀ a, A = some a → p.block ≠ a.block) (u : Value) : HasLate (w.setCell p u) A m LA LD := by
  intro hm
  obtain ⟨b, hA, hlt, hc⟩ := h hm
  have hn := hne _ hA
  refine ⟨b, hA, by simpa using hlt, fun j hj => ?_⟩
  rw [World.cell?_setCell_other _ _ _ _ (fun e => hn (by rw [e])), World.cell?_setCell_other _ _ _ _ (fun e => hn (by rw [e]))]
  exact hc j hj
theorem DevAt.setCell {w : World} {b : Nat} {B : Option Addr} {v : Value} {D : Dev} (h : DevAt w b B v D) {p : Addr} (h1 : p.block ≠ b) (h2 : ∀ a, B = some a → p.block ≠ a.block) (u : Value) : DevAt (w.setCell p u) b B v D := by
  obtain ⟨c, k, hv, hlt, hnc, hc, hl, h0⟩ := h
  refine ⟨c, k, hv, by simpa using hlt, hnc, fun j hj => ?_, hl.setCell h2 u, h0⟩
  rw [World.cell?_setCell_other _ _ _ _ (fun e => h1 (by rw [e]))]
  exact hc j hj
theorem DevAt.lt {w : World} {b : Nat} {B : Option Addr} {v : Value} {D : Dev} (h : DevAt w b B v D) : b < w.heap.size ∧ ∀ a, B = some a → a.block < w.heap.size := by
  obtain ⟨c, k, hv, hlt, hnc, hc, hl, h0⟩ := h
  exact ⟨hlt, hl.block_lt fun hm => (h0 hm).1⟩
theorem DevAt.below {w w' : World} {b : Nat} {A : Option Addr} {v : Value} {D : Dev} {B : Nat} (h : DevAt w b A v D) (hb : Below B w w') (hB : w.heap.size ≤ B) : DevAt w' b A v D := by
  obtain ⟨c, k, hv, hlt, hnc, hc, hl, h0⟩ := h
  refine ⟨c, k, hv, Nat.lt_of_lt_of_le hlt hb.size, hnc, fun j hj => ?_, hl.below hb hB, h0⟩
  rw [hb.cell (p := ⟨b, j, none⟩) (Nat.lt_of_lt_of_le hlt hB)]
  exact hc j hj
theorem IsDev.below {w w' : World} {v : Value} {D : Dev} {B : Nat} (h : IsDev w v D) (hb : Below B w w') (hB : w.heap.size ≤ B) : IsDev w' v D := by
  obtain ⟨b, A, h⟩ := h
  exact ⟨b, A, h.below hb hB⟩

/-- A device as the calls make them: K bounds its writes and its deeds. -/
structure Dev.Ok (D : Dev) (K : Nat) : Prop where
  n1 : 1 ≤ D.n
  n2 : D.n ≤ 2000
  m2 : D.m ≤ K
  d1 : 0 ≤ D.deeds
  d2 : D.deeds ≤ K
  l1 : -9223372036854775808 ≤ D.left
  l2 : D.left ≤ 9223372036854775807
  sz : ∀ j, j < D.n → (D.S j).size = 256
  lz : ∀ j, j < D.m → (D.LD j).size = 256
  la : ∀ j, j < D.m → 0 ≤ D.LA j ∧ D.LA j < D.n

theorem bcell {W w1 : World} {B : Nat} (hb : Below B W w1) : (∀ b o, b < B → w1.cell? ⟨b, o, none⟩ = W.cell? ⟨b, o, none⟩) ∧ (∀ b o, b < B → w1.frozen? ⟨b, o, none⟩ = W.frozen? ⟨b, o, none⟩) :=
  ⟨fun b o h => hb.cell (p := ⟨b, o, none⟩) h, fun b o h => hb.frozen (p := ⟨b, o, none⟩) h⟩

def DevErr (D : Dev) (err : Int) (w : World) (e : Ending) (w' : World) : Prop :=
  ∃ v, e = .returned (.tuple #[v, .int .i64 err]) ∧ IsDev w' v D ∧ Below w.heap.size w w'

def fresh (n : Nat) : Dev := { n := n, S := fun _ => padB ⟨#[]⟩, m := 0, LA := fun _ => 0, LD := fun _ => ⟨#[]⟩, dead := false, left := -1, deeds := 0 }

theorem fresh_ok (n : Nat) (h1 : 1 ≤ n) (h2 : n ≤ 2000) : (fresh n).Ok 0 :=
  ⟨h1, h2, Nat.le_refl _, by simp [fresh], by simp [fresh], by simp [fresh], by simp [fresh], fun j _ => padB_size _ (by simp [ByteArray.size]), fun j hj => absurd hj (by simp [fresh]), fun j hj => absurd hj (by simp [fresh])⟩

set_option maxHeartbeats 1000000 in
theorem new_any (n : Nat) (w : World) (h1 : 1 ≤ n) (h2 : n ≤ 2000) : Calls Tryz.prog 66 #[.int .i64 n] w (DevErr (fresh n) 0 w) := by
  have hd1 : decide ((n : Int) < 1) = false := by simp; omega
  have hd2 : decide (2000 < (n : Int)) = false := by simp; omega
  go_enter Tryz.func66, Tryz.ntmps66
  go_wp2_with (first
    | (go_at_call 138
       refine (padded_any _ _ (by simp [ByteArray.size])).mono ?_
       rintro e w1 ⟨rfl, hb1⟩
       simp only [World.size_alloc] at hb1
       generalize hp : padB _ = p)
    | (go_at_call 137
       refine (repeat_slice _ _ n p _ (by omega) (by omega) (by simp) (by simp)).mono ?_
       rintro e w2 ⟨g, cap, rfl, hncap, hg, hc, hgw, hb2⟩
       simp only [World.size_alloc] at hb2
       have hs1 := hb1.size
       simp only [World.size_alloc] at hs1
       have hb3 := (hb1.alloc hs1 _).trans (hb2.mono (by omega))
       obtain ⟨hcc, hff⟩ := bcell hb3
       have HC := Lib.hid hc
       clear hc))
  have HB := Lib.hid hb3
  refine bodyPost_ret (v := .tuple #[.agg #[.slice (some ⟨g, 0, none⟩) n cap, .slice none 0 0, .bool false, .int .i64 (-1), .int .i64 0], .int .i64 0]) (by simp [results, Tryz.results66, go_sem, hcc]) rfl ?_
  simp only [World.size_alloc] at hgw
  have hne : w.heap.size ≠ g := by omega
  have hd : DevAt w2 g none (.agg #[.slice (some ⟨g, 0, none⟩) n cap, .slice none 0 0, .bool false, .int .i64 (-1), .int .i64 0]) (fresh n) :=
    ⟨cap, 0, rfl, hg, hncap, fun j hj => by rw [HC.out j hj, ← hp]; rfl, fun h => absurd h (by simp [fresh]), fun _ => ⟨rfl, rfl⟩⟩
  refine ⟨_, rfl, ⟨g, none, ?_⟩, ?_⟩
  · repeat (first | (with_reducible exact hd) | (with_reducible refine DevAt.setCell ?_ hne (fun a h => by cases h) _))
  · have hb4 : Below w.heap.size w w2 := ((Below.refl w.heap.size w).alloc (Nat.le_refl _) _).trans (HB.out.mono (by omega))
    repeat (first | (with_reducible exact hb4) | refine Below.setCell ?_ (by simp) _)

def armed (D : Dev) (x : Int) : Dev := { D with left := max x (-1) }

/-- Is there that sector? -/
def Dev.has (D : Dev) (x : Int) : Bool := decide (0 ≤ x ∧ x < D.n)
/-- Has it power? -/
def Dev.pow (D : Dev) : Bool := !D.dead && !(D.left == 0)
def Dev.down (D : Dev) : Dev := { D with dead := true }
def Dev.up (D : Dev) : Dev := { D with left := lessLeft D.left, deeds := D.deeds + 1 }
def Dev.putAt (D : Dev) (x : Int) (d : ByteArray) : Dev := { D.up with m := D.m + 1, LA := snocI D.LA D.m x, LD := snocD D.LD D.m (padB d) }

theorem pow_no {D : Dev} (hp : D.pow = false) : D.dead = true ∨ D.left = 0 := by
  unfold Dev.pow at hp
  cases hd : D.dead
  · rw [hd] at hp
    right
    simpa using hp
  · left; rfl
theorem pow_yes {D : Dev} (hp : D.pow = true) : D.dead = false ∧ D.left ≠ 0 := by
  unfold Dev.pow at hp
  have h1 : D.dead = false := by cases hd : D.dead <;> simp_all
  exact ⟨h1, by intro e; rw [h1, e] at hp; simp at hp⟩

theorem devErr_of {w W : World} {b : Nat} {B : Option Addr} {v : Value} {D : Dev} {err : Int} (h : DevAt w b B v D) (hb : Below w.heap.size w W) : DevErr D err w (.returned (.tuple #[v, .int .i64 err])) W :=
  ⟨v, rfl, ⟨b, B, h.below hb (Nat.le_refl _)⟩, hb⟩

theorem DevAt.down {w : World} {b c k : Nat} {B : Option Addr} {D : Dev} (h : DevAt w b B (.agg #[.slice (some ⟨b, 0, none⟩) D.n c, .slice B D.m k, .bool D.dead, .int .i64 D.left, .int .i64 D.deeds]) D) :
    DevAt w b B (.agg #[.slice (some ⟨b, 0, none⟩) D.n c, .slice B D.m k, .bool true, .int .i64 D.left, .int .i64 D.deeds]) D.down := by
  obtain ⟨c', k', hv, hlt, hnc, hc, hl, h0⟩ := h
  simp only [Value.agg.injEq, Array.mk.injEq, List.cons.injEq, Value.slice.injEq, true_and, and_true] at hv
  obtain ⟨rfl, rfl⟩ := hv
  exact ⟨c, k, rfl, hlt, hnc, hc, hl, h0⟩

set_option maxHeartbeats 1000000 in
theorem put_down (v : Value) (D : Dev) (x : Int) (d : ByteArray) (w : World) (h : IsDev w v D) (hs : d.size ≤ 256) (ha : D.has x = true) (hp : D.pow = false) :
    Calls Tryz.prog 139 #[v, .int .i64 x, .string d] w (DevErr D.down 10 w) := by
  obtain ⟨b, B, c, k, rfl, hlt, hnc, hc, hl, h0⟩ := h
  have hd : DevAt w b B _ D := ⟨c, k, rfl, hlt, hnc, hc, hl, h0⟩
  have HD := Lib.hid hd.down
  have HH := Lib.hid ha
  have HQ := Lib.hid (pow_no hp)
  clear hd hc hl h0 ha hp
  obtain ⟨n, S, m, LA, LD, dead, left, deeds⟩ := D
  have HQ2 : Hid (dead = true ∨ left = 0) := HQ
  clear HQ
  go_enter Tryz.func139, Tryz.ntmps139
  go_wp2_with (first
    | (go_at_call 204
       refine (has_any _ _ _ _ _ _ _ _ _ _ _ true HH.out.symm).mono ?_
       rintro e w1 ⟨rfl, hb1⟩
       simp only [World.size_alloc] at hb1
       obtain ⟨hcc, hff⟩ := bcell hb1
       have hs1 := hb1.size
       simp only [World.size_alloc] at hs1)
    | (go_at_call 205
       refine (deed_no _ _ _ _ _ _ _ _ _ _ HQ2.out).mono ?_
       rintro e w2 ⟨rfl, hb2⟩
       have hb3 := hb1.trans (hb2.mono (by simpa using hs1))
       clear hcc hff
       have HX := Lib.hid (((Box5.new w _ _ _ _ _ 28).alloc _).below hb3 (by omega))
       have HY := Lib.hid ((Box5.new _ _ _ _ _ _ 28).below hb3 (by simp)))
    | (refine wpList_store5 rfl 28 (.tmp 3) (.tmp 22) rfl w.heap.size _ _ _ _ _ _ _ _ _ _ rfl rfl HX.out size31 (by simp [Value.oneCell']) ?_
       intro w3 hx3 hbut3
       have hy3 := HY.out.but hbut3 (by simp)
       simp only [World.size_alloc] at hy3
       have hcx0 := hx3.c0
       have hcx1 := hx3.c1
       have hcx2 := hx3.c2
       have hcx3 := hx3.c3
       have hcx4 := hx3.c4
       have hcy0 := hy3.c0
       have hcy1 := hy3.c1
       have hcy2 := hy3.c2
       have hcy3 := hy3.c3
       have hcy4 := hy3.c4
       have hfy := hy3.f))
  refine bodyPost_ret (v := .tuple #[.agg #[.slice (some ⟨b, 0, none⟩) n c, .slice B m k, .bool true, .int .i64 left, .int .i64 deeds], .int .i64 10]) (by simp [results, Tryz.results139, go_sem, hcy0, hcy1, hcy2, hcy3, hcy4]) rfl (devErr_of HD.out ?_)
  have hb4 : Below w.heap.size w w3 := ((((Below.refl w.heap.size w).alloc (by simp) _).alloc (by simp) _).trans (hb3.mono (by omega))).trans (hbut3.below (Nat.le_refl _))
  repeat (first | (with_reducible exact hb4) | refine Below.setCell ?_ (by simp) _)
end Go.Proofs.YtcgkbcgpnlogoaaGreatDoor.Sla

/- slab.Put where the write is taken. -/
namespace Go.Proofs.YtcgkbcgpnlogoaaGreatDoor.Sla
open Go.RowKit Go.Shelf

set_option maxHeartbeats 2000000 in
theorem put_ok {K : Nat} (v : Value) (D : Dev) (x : Int) (d : ByteArray) (w : World) (h : IsDev w v D) (hok : D.Ok K) (hK : K ≤ 100000) (hs : d.size ≤ 256) (ha : D.has x = true) (hp : D.pow = true) :
    Calls Tryz.prog 139 #[v, .int .i64 x, .string d] w (DevErr (D.putAt x d) 0 w) := by
  obtain ⟨b, B, c, k, rfl, hlt, hnc, hc, hl, h0⟩ := h
  have HH := Lib.hid ha
  have HQ := Lib.hid (pow_yes hp)
  have hm := hok.m2
  have hd2 := hok.d2
  have hl1 := hok.l1
  have hl2 := hok.l2
  have hd1 := hok.d1
  have HC := Lib.hid hc
  have HL := Lib.hid hl
  have H0 := Lib.hid h0
  clear hc hl h0 ha hp hok
  obtain ⟨n, S, m, LA, LD, dead, left, deeds⟩ := D
  have HQ2 : Hid (dead = false ∧ left ≠ 0) := HQ
  simp only at hm hd2 hl1 hl2 hd1 hnc
  clear HQ
  obtain rfl : dead = false := HQ2.out.1
  have HQ3 := Lib.hid HQ2.out.2
  clear HQ2
  have HLE : Hid (lessLeft left = lessLeft left) := rfl
  go_enter Tryz.func139, Tryz.ntmps139
  go_wp2_with (first
    | (go_at_call 204
       refine (has_any _ _ _ _ _ _ _ _ _ _ _ true HH.out.symm).mono ?_
       rintro e w1 ⟨rfl, hb1⟩
       simp only [World.size_alloc] at hb1
       obtain ⟨hcc, hff⟩ := bcell hb1
       have hs1 := hb1.size
       simp only [World.size_alloc] at hs1)
    | (go_at_call 205
       refine (deed_yes _ _ _ _ _ _ _ _ _ HQ3.out (by omega) (by omega) (by omega) (by omega)).mono ?_
       rintro e w2 ⟨rfl, hb2⟩
       generalize hle : lessLeft left = left2
       have hb3 := hb1.trans (hb2.mono (by simpa using hs1))
       clear hcc hff
       have HX := Lib.hid (((Box5.new w _ _ _ _ _ 28).alloc _).below hb3 (by omega))
       have HY := Lib.hid ((Box5.new _ _ _ _ _ _ 28).below hb3 (by simp)))
    | (refine wpList_store5 rfl 28 (.tmp 3) (.tmp 22) rfl w.heap.size _ _ _ _ _ _ _ _ _ _ rfl rfl HX.out size31 (by simp [Value.oneCell']) ?_
       intro w3 hx3 hbut3
       have hy3 := HY.out.but hbut3 (by simp)
       simp only [World.size_alloc] at hy3
       have hb4 : Below w.heap.size w w3 := ((((Below.refl w.heap.size w).alloc (by simp) _).alloc (by simp) _).trans (hb3.mono (by omega))).trans (hbut3.below (Nat.le_refl _))
       have hs3 : w.heap.size + 1 < w3.heap.size := (World.block_lt_of_cell? w3 _ hy3.c0)
       have hcx1 := hx3.c1))
  have HLE2 := Lib.hid hle
  have hl3 : HasLate w3.drew B m LA LD := HL.out.below hb4.drew (Nat.le_refl _)
  have HL3 := Lib.hid hl3
  clear hl3 HL hle hb1 hb3 HX HY hbut3
  go_region_with (first
      | (go_at_call 138
         refine (padded_any _ _ hs).mono ?_
         rintro e w5 ⟨rfl, hb5⟩
         have hs5 : w3.heap.size ≤ w5.heap.size := hb5.size
         have hq5 : w5.cell? ⟨w.heap.size, 1, none⟩ = some (.slice B m k) := (hb5.cell (p := ⟨w.heap.size, 1, none⟩) (by simp; omega)).trans (by simp [*]))
      | (go_at_call 206
         refine (with_any _ _ _ LA LD _ _ _ (by omega) (HL3.out.below hb5 (Nat.le_refl _)) H0.out).mono ?_
         rintro e w6 ⟨g, cap, rfl, hl6, hg6, hb6⟩
         have hq6 : w6.cell? ⟨w.heap.size, 1, none⟩ = some (.slice B m k) := (hb6.cell (p := ⟨w.heap.size, 1, none⟩) (by simp; omega)).trans hq5
         have hf6 : w6.frozen? ⟨w.heap.size, 1, none⟩ = false := (hb6.frozen (p := ⟨w.heap.size, 1, none⟩) (by simp; omega)).trans ((hb5.frozen (p := ⟨w.heap.size, 1, none⟩) (by simp; omega)).trans (hx3.f 1))))
  all_goals
    have hb36 : Below w3.heap.size w3 w6 := ((Below.refl _ w3).drew.trans hb5).trans (hb6.mono hs5)
    have hb46 : Below w.heap.size w w6 := hb4.trans (hb36.mono (by omega))
    have hx6 := hx3.below hb36 (by omega)
    have hy6 := hy3.below hb36 (by omega)
    have hd6 : DevAt w6 b (some ⟨g, 0, none⟩) (.agg #[.slice (some ⟨b, 0, none⟩) n c, .slice (some ⟨g, 0, none⟩) (m + 1) cap, .bool false, .int .i64 left2, .int .i64 (deeds + 1)]) (Dev.putAt { n := n, S := S, m := m, LA := LA, LD := LD, dead := false, left := left, deeds := deeds } x d) :=
      ⟨c, cap, (by rw [← HLE2.out]; rfl), Nat.lt_of_lt_of_le hlt hb46.size, hnc, fun j hj => (hb46.cell (p := ⟨b, j, none⟩) hlt).trans (HC.out j hj), hl6, fun h => absurd h (by simp [Dev.putAt])⟩
    have n1 : w.heap.size ≠ b := by omega
    have n2 : w.heap.size + 1 ≠ b := by omega
    have n3 : w.heap.size ≠ g := by omega
    have n4 : w.heap.size + 1 ≠ g := by omega
    have hfx := hx6.f
    have hfy := hy6.f
    have kx0 := hx6.c0
    have kx2 := hx6.c2
    have kx3 := hx6.c3
    have kx4 := hx6.c4
    have ky0 := hy6.c0
    have ky1 := hy6.c1
    have ky2 := hy6.c2
    have ky3 := hy6.c3
    have ky4 := hy6.c4
    clear hb5 hb6 hb4 HL3 hcx1 hl6 hq5
    go_wp2
    refine bodyPost_ret (v := .tuple #[.agg #[.slice (some ⟨b, 0, none⟩) n c, .slice (some ⟨g, 0, none⟩) (m + 1) cap, .bool false, .int .i64 left2, .int .i64 (deeds + 1)], .int .i64 0]) (by simp [results, Tryz.results139, go_sem, ky0, ky1, ky2, ky3, ky4]) rfl ⟨_, rfl, ⟨b, some ⟨g, 0, none⟩, ?_⟩, ?_⟩
    · repeat (first | (with_reducible exact hd6) | refine DevAt.setCell ?_ (by simp; omega) (fun a h => by injection h with h; subst h; simp; omega) _)
    · repeat (first | (with_reducible exact hb46) | refine Below.setCell ?_ (by simp) _)
end Go.Proofs.YtcgkbcgpnlogoaaGreatDoor.Sla
