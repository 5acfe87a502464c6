/- Pages at hand: the program's slices.Clone, points, with, walked. -/
import Derived.Test.YtjjedadhkdpceaaClI
namespace Go.Proofs.Ytjjedadhkdpceaa.Cl
open Go.RowKit Pac Lex

section
variable {A : Option Addr} {n cp : Nat} {l : List P} {w : World}
/-- A row of the call's own that holds these pages. -/
def OwnPost (n : Nat) (l : List P) (w : World) (e : Ending) (w' : World) : Prop := ∃ v, e = .returned v ∧ w'.ownsRow w.heap.size 36 4 v n (Li.cellsL cellsP l) ∧ Below w.heap.size w w'
set_option maxRecDepth 20000 in
set_option maxHeartbeats 1600000 in
theorem clone_some (b o : Nat) (hl : HasP w 0 (some ⟨b, o, none⟩) l) (hn : l.length = n) (h9 : n ≤ 100000) :
    Calls Try.prog 21 #[.slice (some ⟨b, o, none⟩) n cp] w (OwnPost n l w) := by
  obtain ⟨iE, hiE, hv0, hv1, hv2⟩ := info_parts infoP
  have hE := Lib.run_eql_slice_nil (P := Try.prog) w 22 36 (some ⟨b, o, none⟩) n cp 0 0 Try.underlying22
  have hownW := World.ownsRow_lit (e := 36) (size := 4) (base := w.heap.size) w #[] 0 (Nat.le_refl _) (by unfold maxLen; omega) rfl
  have hy6 := (Below.refl w.heap.size w).alloc (Nat.le_refl _) (.cells #[] 36)
  have HW := Lib.hid (And.intro hownW hy6)
  unfold OwnPost
  by_cases hn0 : n = 0
  · subst hn0
    have hl0 : l = [] := List.eq_nil_of_length_eq_zero hn
    subst hl0
    clear hl hn hownW hy6
    go_enter Try.func21, Try.ntmps21
    go_wp2
    go_ret
    exact ⟨_, rfl, HW.out.1, HW.out.2⟩
  have hnw := news_of (by decide) cellsP_len (hl.below hy6 (Nat.le_refl _))
  have HLN : Hid ((Li.cellsL cellsP l).length = n * 4) := Lib.hid (by rw [Li.cellsL_len cellsP_len, hn])
  have HON : Hid (∀ v ∈ Li.cellsL cellsP l, v.oneCell' = true) := Lib.hid (cellsP_one l)
  have HW := Lib.hid (And.intro hownW (And.intro hnw hy6))
  generalize Li.cellsL cellsP l = cs at HLN HON HW ⊢
  clear hownW hnw hy6 hl hn
  go_enter Try.func21, Try.ntmps21
  go_wp2_with (at_builtin; go_must (refine wpList_append_own _ rfl _ _ 22 rfl w.heap.size 36 iE (.agg #[.int .i64 0, .string ⟨#[]⟩, .bool false, .int .i64 0]) 4 40 Try.underlying22 hiE hv0 hv1 hv2 rfl (by decide) (.slice (some ⟨w.heap.size, 0, none⟩) 0 0) 0 [] rfl HW.out.1 ⟨b, o, none⟩ n cp cs rfl HLN.out HW.out.2.1 HON.out (by unfold maxLen; omega) (by omega) HW.out.2.2.size ?_))
  intro v6 y6 hown hgrow6 _
  have hB5 := HW.out.2.2.grown hgrow6 HW.out.2.2.size (fun k hk => (HW.out.1.lt k hk).1)
  have HF := Lib.hid (And.intro hown hB5)
  clear hown hB5 hgrow6 HW
  go_wp2
  go_ret
  obtain ⟨h1, h2⟩ := HF.out
  exact ⟨_, rfl, (by simpa using h1), h2⟩
set_option maxRecDepth 20000 in
set_option maxHeartbeats 1600000 in
theorem clone_none (cp : Nat) : Calls Try.prog 21 #[.slice none 0 cp] w (fun e w' => e = .returned (.slice none 0 0) ∧ w' = w) := by
  have hE := Lib.run_eql_slice_nil (P := Try.prog) w 22 36 none 0 cp 0 0 Try.underlying22
  go_enter Try.func21, Try.ntmps21
  go_wp2
  go_ret
  exact ⟨rfl, rfl⟩
set_option maxRecDepth 20000 in
set_option maxHeartbeats 1600000 in
theorem points_any (h : Int) :
    Calls Try.prog 16 #[.agg #[.slice A n cp, .int .i64 h]] w (BoolPost (0 ≤ h ∧ h < (n : Int)) w) := by
  have hB := (Below.refl w.heap.size w).alloc (Nat.le_refl _) (.cells #[.slice A n cp, .int .i64 h] 24)
  have hx := Box2.new w (.slice A n cp) (.int .i64 h) 24
  have x0 := hx.c0
  have x1 := hx.c1
  have HB := Lib.hid hB
  clear hx hB
  generalize hP : (0 ≤ h ∧ h < (n : Int)) = MP
  have HP := Lib.hid hP
  clear hP
  by_cases h0 : 0 ≤ h
  · by_cases h1 : h < (n : Int)
    · have b0 : decide (0 ≤ h) = true := decide_eq_true h0
      have b1 : decide (h < (n : Int)) = true := decide_eq_true h1
      have HQ : Hid MP := Lib.hid (by rw [← HP.out]; exact ⟨h0, h1⟩)
      go_enter Try.func16, Try.ntmps16
      go_wp2
      go_ret
      exact ⟨true, by (try rw [b1]); rfl, ⟨fun _ => HQ.out, fun _ => rfl⟩, HB.out⟩
    · have b0 : decide (0 ≤ h) = true := decide_eq_true h0
      have b1 : decide (h < (n : Int)) = false := decide_eq_false h1
      have HQ : Hid (¬ MP) := Lib.hid (by rw [← HP.out]; exact fun e => h1 e.2)
      go_enter Try.func16, Try.ntmps16
      go_wp2
      go_ret
      exact ⟨false, by (try rw [b1]); rfl, ⟨fun e => (by cases e), fun e => absurd e HQ.out⟩, HB.out⟩
  · have b0 : decide (0 ≤ h) = false := decide_eq_false h0
    have HQ : Hid (¬ MP) := Lib.hid (by rw [← HP.out]; exact fun e => h0 e.1)
    go_enter Try.func16, Try.ntmps16
    go_wp2
    go_ret
    exact ⟨false, rfl, ⟨fun e => (by cases e), fun e => absurd e HQ.out⟩, HB.out⟩
/-- What with answers: the row is its own. -/
def WithPost (h : Int) (n : Nat) (l : List P) (w : World) (e : Ending) (w' : World) : Prop := ∃ g5 c5, e = .returned (.agg #[.slice (some ⟨g5, 0, none⟩) n c5, .int .i64 h]) ∧ w'.ownsRow w.heap.size 36 4 (.slice (some ⟨g5, 0, none⟩) n c5) n (Li.cellsL cellsP l) ∧ Below w.heap.size w w'
set_option maxRecDepth 20000 in
set_option maxHeartbeats 6400000 in
theorem with_own (h : Int) (i : Nat) (x : P) (b o : Nat) (hl : HasP w 0 (some ⟨b, o, none⟩) l) (hn : l.length = n) (h9 : n ≤ 100000) (hi : i < n) :
    Calls Try.prog 20 #[.agg #[.slice (some ⟨b, o, none⟩) n cp, .int .i64 h], .int .i64 i, .agg #[.int .i64 x.no, .string x.data, .bool x.ref, .int .i64 x.pins]] w (WithPost h n (l.set i x) w) := by
  obtain ⟨post, hpe⟩ : ∃ post, WithPost h n (l.set i x) w = post := ⟨_, rfl⟩
  have HPE := Lib.hid hpe
  rw [hpe]
  clear hpe
  obtain ⟨xn, xd, xr, xp⟩ := x
  simp only
  have hB := (Below.refl w.heap.size w).alloc (Nat.le_refl _) (.cells #[.slice (some ⟨b, o, none⟩) n cp, .int .i64 h] 24)
  have hx := Box2.new w (.slice (some ⟨b, o, none⟩) n cp) (.int .i64 h) 24
  obtain ⟨g, hg⟩ : ∃ g, w.heap.size = g := ⟨_, rfl⟩
  have hz : (w.alloc (.cells #[.slice (some ⟨b, o, none⟩) n cp, .int .i64 h] 24)).heap.size = g + 1 := by simp [hg]
  rw [hg] at hx
  generalize hw0 : w.alloc (.cells #[.slice (some ⟨b, o, none⟩) n cp, .int .i64 h] 24) = wa at hB hx hz
  have hBb := (Below.refl wa.heap.size wa).alloc (Nat.le_refl _) (.cells #[.int .i64 xn, .string xd, .bool xr, .int .i64 xp] 36)
  have hp := Box4.new wa (.int .i64 xn) (.string xd) (.bool xr) (.int .i64 xp) 36
  have hz2 : (wa.alloc (.cells #[.int .i64 xn, .string xd, .bool xr, .int .i64 xp] 36)).heap.size = g + 2 := by simp [hz]
  rw [hz] at hp
  have hx := hx.below hBb hx.lt
  have hB := hB.trans (hBb.mono hB.size)
  generalize hw1 : wa.alloc (.cells #[.int .i64 xn, .string xd, .bool xr, .int .i64 xp] 36) = wb at hB hx hp hz2
  have hBc := (Below.refl wb.heap.size wb).alloc (Nat.le_refl _) (.cells #[.slice none 0 0, .int .i64 0] 24)
  have hy := Box2.new wb (.slice none 0 0) (.int .i64 0) 24
  have hz3 : (wb.alloc (.cells #[.slice none 0 0, .int .i64 0] 24)).heap.size = g + 3 := by simp [hz2]
  rw [hz2] at hy
  have hx := hx.below hBc hx.lt
  have hp := hp.below hBc hp.lt
  have hB := hB.trans (hBc.mono hB.size)
  generalize hw2 : wb.alloc (.cells #[.slice none 0 0, .int .i64 0] 24) = wq at hB hx hp hy hz3
  have hCl := clone_some (cp := cp) b o (hl.below hB (Nat.le_refl _)) hn h9
  have x0 := hx.c0
  have HX := Lib.hid (And.intro hx (And.intro hp (And.intro hy (And.intro hB (And.intro hz3 (And.intro hg hn))))))
  clear hx hp hy hB hl hBb hBc hn hz3
  go_enter Try.func20, Try.ntmps20
  go_wp2_with fail
  clear hw0 hw1 hw2 hz hz2 hg
  refine hCl.mono ?_
  rintro e y6 ⟨v6, rfl, hown, hb6⟩
  clear hCl x0
  obtain ⟨hx, hp, hy, hB, hz3, hg, hn⟩ := HX.out
  obtain ⟨g5, c5, rfl, hg5, hgl⟩ := hown.form (by omega)
  have hB := hB.trans (hb6.mono hB.size)
  have hx := hx.below hb6 hx.lt
  have hp := hp.below hb6 hp.lt
  have hy := hy.below hb6 hy.lt
  have x0 := hx.c0
  have xf := hx.f 0
  rw [hz3] at hown hg5
  have hpi := List.getElem?_eq_getElem (l := l) (i := i) (by omega)
  generalize (l[i]'(by omega)) = p at hpi
  have hbar := (Bar.refl g y6).setCell 0 (.slice (some ⟨g5, 0, none⟩) n c5)
  have hx7 := hx.set0 (.slice (some ⟨g5, 0, none⟩) n c5)
  have hp7 := hp.bar hbar (by omega)
  have hy7 := hy.bar hbar (by omega)
  have hB7 := hB.trans (hbar.below (B := w.heap.size) (by omega) hB.size)
  have hown7 := Li.own_bar hown hbar (by omega)
  have df := hown7.frozenAt
  have q0 := hx7.c0
  have e0 := hp7.c0
  have e1 := hp7.c1
  have e2 := hp7.c2
  have e3 := hp7.c3
  have hown8 := own_whole hown7 hpi ⟨xn, xd, xr, xp⟩
  have hbar2 := ((((Bar.refl g5 (y6.setCell ⟨g, 0, none⟩ (.slice (some ⟨g5, 0, none⟩) n c5))).setCell (i * 4) (.int .i64 xn)).setCell (i * 4 + 1) (.string xd)).setCell (i * 4 + 2) (.bool xr)).setCell (i * 4 + 3) (.int .i64 xp)
  have hx8 := hx7.bar hbar2 (by omega)
  have hy8 := hy7.bar hbar2 (by omega)
  have hB8 := hB7.trans (hbar2.below (B := w.heap.size) (by omega) hB7.size)
  have d0 : (y6.setCell ⟨g, 0, none⟩ (.slice (some ⟨g5, 0, none⟩) n c5)).cell? ⟨g5, i * 4, none⟩ = some (.int .i64 p.no) := by
    have h1 := hown7.cellAt (i * 4 + 0) (by omega)
    rw [Li.cellsL_at cellsP_len l i p hpi 0 (.int .i64 p.no) rfl] at h1
    exact h1
  have d1 : (y6.setCell ⟨g, 0, none⟩ (.slice (some ⟨g5, 0, none⟩) n c5)).cell? ⟨g5, i * 4 + 1, none⟩ = some (.string p.data) := by
    have h1 := hown7.cellAt (i * 4 + 1) (by omega)
    rw [Li.cellsL_at cellsP_len l i p hpi 1 (.string p.data) rfl] at h1
    exact h1
  have d2 : (y6.setCell ⟨g, 0, none⟩ (.slice (some ⟨g5, 0, none⟩) n c5)).cell? ⟨g5, i * 4 + 2, none⟩ = some (.bool p.ref) := by
    have h1 := hown7.cellAt (i * 4 + 2) (by omega)
    rw [Li.cellsL_at cellsP_len l i p hpi 2 (.bool p.ref) rfl] at h1
    exact h1
  have d3 : (y6.setCell ⟨g, 0, none⟩ (.slice (some ⟨g5, 0, none⟩) n c5)).cell? ⟨g5, i * 4 + 3, none⟩ = some (.int .i64 p.pins) := by
    have h1 := hown7.cellAt (i * 4 + 3) (by omega)
    rw [Li.cellsL_at cellsP_len l i p hpi 3 (.int .i64 p.pins) rfl] at h1
    exact h1
  have r0 := hx8.c0
  have r1 := hx8.c1
  have s0 := hy8.c0
  have s1 := hy8.c1
  have sf0 := hy8.f 0
  have sf1 := hy8.f 1
  have hbar3 := ((Bar.refl (g + 2) (((((y6.setCell ⟨g, 0, none⟩ (.slice (some ⟨g5, 0, none⟩) n c5)).setCell ⟨g5, i * 4, none⟩ (.int .i64 xn)).setCell ⟨g5, i * 4 + 1, none⟩ (.string xd)).setCell ⟨g5, i * 4 + 2, none⟩ (.bool xr)).setCell ⟨g5, i * 4 + 3, none⟩ (.int .i64 xp))).setCell 0 (.slice (some ⟨g5, 0, none⟩) n c5)).setCell 1 (.int .i64 h)
  have hB9 := hB8.trans (hbar3.below (B := w.heap.size) (by omega) hB8.size)
  have hown9 := Li.own_bar hown8 hbar3 (by omega)
  have H9 := Lib.hid ((hy8.set0 (.slice (some ⟨g5, 0, none⟩) n c5)).set1 (.int .i64 h))
  have HE := Lib.hid (show WithPost h n (l.set i ⟨xn, xd, xr, xp⟩) w (.returned (.agg #[.slice (some ⟨g5, 0, none⟩) n c5, .int .i64 h])) _ from ⟨g5, c5, rfl, Li.own_base hown9 (by omega), hB9⟩)
  rw [HPE.out] at HE
  have n1 : ¬ g5 = g := by omega
  have n2 : ¬ g5 = g + 1 := by omega
  have n3 : ¬ g5 = g + 2 := by omega
  have n1' : ¬ g = g5 := by omega
  have n2' : ¬ g + 1 = g5 := by omega
  have n3' : ¬ g + 2 = g5 := by omega
  have i1 : (i : Int) < (n : Int) := by omega
  have i0 : (0 : Int) ≤ (i : Int) := by omega
  clear hx hp hy hB hown hb6 hz3 hx7 hp7 hy7 hB7 hown7 hbar hbar2 hx8 hy8 hB8 hown8 hbar3 hB9 hown9 hn HX hg hg5 hpi hgl
  go_wp2
  refine bodyPost_ret (results_clock rfl _ _ (g + 2) _ _ rfl H9.out.c0 H9.out.c1) rfl ?_
  exact HE.out
end
end Go.Proofs.Ytjjedadhkdpceaa.Cl
