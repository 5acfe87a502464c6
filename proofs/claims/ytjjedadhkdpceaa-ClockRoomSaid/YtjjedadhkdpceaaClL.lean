/- Pages at hand: the program's turn: the hand goes round about, walked. -/
import Derived.Test.YtjjedadhkdpceaaClK
namespace Go.Proofs.Ytjjedadhkdpceaa.Cl
open Go.RowKit Pac Lex

/-- What holds while the hand goes round: the pages are in a row of the call's own; the new one is in a variable. -/
structure TurnM (w : World) (g n base : Nat) (z : P) (l : List P) (h g5 c5 : Nat) (W : World) : Prop where
  own : W.ownsRow base 36 4 (.slice (some ⟨g5, 0, none⟩) n c5) n (Li.cellsL cellsP l)
  x : Box2 W g (.slice (some ⟨g5, 0, none⟩) n c5) (.int .i64 h)
  p : Box4 W (g + 1) (.int .i64 z.no) (.string z.data) (.bool z.ref) (.int .i64 z.pins)
  y : Box2 W (g + 2) (.slice none 0 0) (.int .i64 0)
  B : Below w.heap.size w W
  bs : base ≤ W.heap.size
section
variable {w W W' : World} {g n base h h2 g5 c5 i : Nat} {z p : P} {l : List P}
theorem TurnM.below (m : TurnM w g n base z l h g5 c5 W) (hb : Below W.heap.size W W') : TurnM w g n base z l h g5 c5 W' :=
  ⟨Li.own_below m.own hb (Nat.le_refl _), m.x.below hb m.x.lt, m.p.below hb m.p.lt, m.y.below hb m.y.lt, m.B.trans (hb.mono m.B.size), Nat.le_trans m.bs hb.size⟩
theorem TurnM.lt (m : TurnM w g n base z l h g5 c5 W) : base ≤ g5 ∧ g5 < W.heap.size := m.own.lt g5 rfl
theorem TurnM.at (m : TurnM w g n base z l h g5 c5 W) {i : Nat} {p : P} (hp : l[i]? = some p) : W.cell? ⟨g5, i * 4, none⟩ = some (.int .i64 p.no) ∧ W.cell? ⟨g5, i * 4 + 1, none⟩ = some (.string p.data) ∧ W.cell? ⟨g5, i * 4 + 2, none⟩ = some (.bool p.ref) ∧ W.cell? ⟨g5, i * 4 + 3, none⟩ = some (.int .i64 p.pins) := by
  have hlt := (List.getElem?_eq_some_iff.1 hp).1
  have hl := m.own.1
  rw [Li.cellsL_len cellsP_len] at hl
  have key : ∀ t (ht : t < 4) v, (cellsP p)[t]? = some v → W.cell? ⟨g5, i * 4 + t, none⟩ = some v := fun t ht v hv => by
    have h1 := m.own.cellAt (i * 4 + t) (by omega)
    rw [Li.cellsL_at cellsP_len l i p hp t v hv] at h1
    exact h1
  exact ⟨key 0 (by decide) _ rfl, key 1 (by decide) _ rfl, key 2 (by decide) _ rfl, key 3 (by decide) _ rfl⟩
theorem TurnM.hand (m : TurnM w g n base z l h g5 c5 W) (hg : w.heap.size = g) (hb : g + 3 ≤ base) (h2 : Nat) : TurnM w g n base z l h2 g5 c5 (W.setCell ⟨g, 1, none⟩ (.int .i64 h2)) :=
  have hbar := (Bar.refl g W).setCell 1 (.int .i64 h2)
  ⟨Li.own_bar m.own hbar (by omega), m.x.set1 _, m.p.bar hbar (by omega), m.y.bar hbar (by omega), m.B.trans (hbar.below (B := w.heap.size) (Nat.le_of_eq hg) m.B.size), Nat.le_trans m.bs hbar.size⟩
theorem TurnM.noref (m : TurnM w g n base z l h g5 c5 W) (hg : w.heap.size = g) (hb : g + 3 ≤ base) (hp : l[i]? = some p) : TurnM w g n base z (l.set i (setRef false p)) h g5 c5 (W.setCell ⟨g5, i * 4 + 2, none⟩ (.bool false)) := by
  have hbar := (Bar.refl g5 W).setCell (i * 4 + 2) (.bool false)
  have h5 := m.lt
  have h1 := (m.own.stored (i * 4 + 2) (.bool false)).1
  rw [cells_modify (f := setRef false) cellsP_len (by decide) hp rfl, modify_set hp] at h1
  exact ⟨h1, m.x.bar hbar (by omega), m.p.bar hbar (by omega), m.y.bar hbar (by omega), m.B.trans (hbar.below (B := w.heap.size) (by omega) m.B.size), Nat.le_trans m.bs hbar.size⟩
end
/-- What turn answers: the row is its own. -/
def TurnPost (R : List P × Nat) (w : World) (e : Ending) (w' : World) : Prop := WithPost (R.2 : Int) 8 R.1 w e w'
section
variable {n cp m : Nat} {w : World}
set_option maxRecDepth 20000 in
set_option maxHeartbeats 6400000 in
theorem turn_any (l : List P) (h : Nat) (z : P) (b o : Nat) (hl : HasP w 0 (some ⟨b, o, none⟩) l) (hn : l.length = 8) (hh8 : h < 8) :
    Calls Try.prog 22 #[.agg #[.slice (some ⟨b, o, none⟩) 8 cp, .int .i64 h], .agg #[.int .i64 z.no, .string z.data, .bool z.ref, .int .i64 z.pins]] w (TurnPost (spinL z 16 l h) w) := by
  obtain ⟨R, hR⟩ : ∃ R, spinL z 16 l h = R := ⟨_, rfl⟩
  rw [hR]
  obtain ⟨post, hpe⟩ : ∃ post, TurnPost R w = post := ⟨_, rfl⟩
  have HPE := Lib.hid hpe
  rw [hpe]
  have HRR := Lib.hid hR
  clear hpe hR
  have hB := (Below.refl w.heap.size w).alloc (Nat.le_refl _) (.cells #[.slice (some ⟨b, o, none⟩) 8 cp, .int .i64 h] 24)
  have hx := Box2.new w (.slice (some ⟨b, o, none⟩) 8 cp) (.int .i64 h) 24
  obtain ⟨g, hg⟩ : ∃ g, w.heap.size = g := ⟨_, rfl⟩
  have hz : (w.alloc (.cells #[.slice (some ⟨b, o, none⟩) 8 cp, .int .i64 h] 24)).heap.size = g + 1 := by simp [hg]
  rw [hg] at hx
  generalize hw0 : w.alloc (.cells #[.slice (some ⟨b, o, none⟩) 8 cp, .int .i64 h] 24) = wa at hB hx hz
  have hBb := (Below.refl wa.heap.size wa).alloc (Nat.le_refl _) (.cells #[.int .i64 z.no, .string z.data, .bool z.ref, .int .i64 z.pins] 36)
  have hp := Box4.new wa (.int .i64 z.no) (.string z.data) (.bool z.ref) (.int .i64 z.pins) 36
  have hz2 : (wa.alloc (.cells #[.int .i64 z.no, .string z.data, .bool z.ref, .int .i64 z.pins] 36)).heap.size = g + 2 := by simp [hz]
  rw [hz] at hp
  have hx := hx.below hBb hx.lt
  have hB := hB.trans (hBb.mono hB.size)
  generalize hw1 : wa.alloc (.cells #[.int .i64 z.no, .string z.data, .bool z.ref, .int .i64 z.pins] 36) = wb at hB hx hp hz2
  have hBc := (Below.refl wb.heap.size wb).alloc (Nat.le_refl _) (.cells #[.slice none 0 0, .int .i64 0] 24)
  have hy := Box2.new wb (.slice none 0 0) (.int .i64 0) 24
  have hz3 : g + 3 ≤ (wb.alloc (.cells #[.slice none 0 0, .int .i64 0] 24)).heap.size := by simp [hz2]
  rw [hz2] at hy
  have hx := hx.below hBc hx.lt
  have hp := hp.below hBc hp.lt
  have hB := hB.trans (hBc.mono hB.size)
  generalize hw2 : wb.alloc (.cells #[.slice none 0 0, .int .i64 0] 24) = wq at hB hx hp hy hz3
  have hCl := clone_some (cp := cp) b o (hl.below hB (Nat.le_refl _)) hn (by omega)
  have x0 := hx.c0
  have HX := Lib.hid (And.intro hx (And.intro hp (And.intro hy (And.intro hB (And.intro hz3 (And.intro hg hn))))))
  clear hx hp hy hB hl hBb hBc hn hz3
  obtain ⟨zn, zd, zr, zp⟩ := z
  go_enter Try.func22, Try.ntmps22
  go_wp2_with fail
  clear hw0 hw1 hw2 hz hz2 hg
  refine hCl.mono ?_
  rintro e y6 ⟨v6, rfl, hown, hb6⟩
  clear hCl x0
  obtain ⟨hx, hp, hy, hB, hz3, hg, hn⟩ := HX.out
  obtain ⟨g5, c5, rfl, hg5, hgl⟩ := hown.form (by omega)
  have hB := hB.trans (hb6.mono hB.size)
  have hx := hx.below hb6 hx.lt
  have hp := hp.below hb6 hp.lt
  have hy := hy.below hb6 hy.lt
  have hbs := hb6.size
  obtain ⟨base, hbase⟩ : ∃ base, wq.heap.size = base := ⟨_, rfl⟩
  rw [hbase] at hown hz3 hbs hg5
  have x0 := hx.c0
  have x1 := hx.c1
  have xf := hx.f 0
  have hbar := (Bar.refl g y6).setCell 0 (.slice (some ⟨g5, 0, none⟩) 8 c5)
  have hM : TurnM w g 8 base ⟨zn, zd, zr, zp⟩ l h g5 c5 (y6.setCell ⟨g, 0, none⟩ (.slice (some ⟨g5, 0, none⟩) 8 c5)) := ⟨Li.own_bar hown hbar (by omega), hx.set0 _, hp.bar hbar (by omega), hy.bar hbar (by omega), hB.trans (hbar.below (B := w.heap.size) (by omega) hB.size), Nat.le_trans hbs hbar.size⟩
  have hcP := points_any (A := some ⟨g5, 0, none⟩) (n := 8) (cp := c5) (w := y6.setCell ⟨g, 0, none⟩ (.slice (some ⟨g5, 0, none⟩) 8 c5)) h
  have HG := Lib.hid (And.intro hg hz3)
  have HN := Lib.hid hn
  have HM := Lib.hid hM
  have z0 := hM.x.c0
  have z1 := hM.x.c1
  clear hx hp hy hB hown hbar hM HX hg hn hb6 hbase hz3 hbs
  go_wp2_with fail
  refine hcP.mono ?_
  rintro e y7 ⟨bb, rfl, hbb, hv⟩
  obtain rfl : bb = true := hbb.2 ⟨by omega, by omega⟩
  have hM := HM.out.below hv
  have z0 := hM.x.c0
  have HM := Lib.hid hM
  clear hcP hbb hv x0 x1 xf hM z1
  go_wp2
  clear z0
  go_loopw [5, 6, 19] (fun _ _ i wr => ∃ (k hk : Nat) (lk : List P), k ≤ 16 ∧ i = .int .i64 k ∧ hk < 8 ∧ Hid (lk.length = 8 ∧ spinL ⟨zn, zd, zr, zp⟩ (16 - k) lk hk = R) ∧ TurnM w g 8 base ⟨zn, zd, zr, zp⟩ lk hk g5 c5 wr) (fun _ _ i _ => 16 - (intOf i).toNat)
  case atStart => exact ⟨0, h, l, Nat.zero_le _, rfl, hh8, Lib.hid ⟨HN.out, HRR.out⟩, HM.out⟩
  case round =>
    obtain ⟨k, hk, lk, hk16, rfl, hk8, HS, hM⟩ := hrel
    have hgw := HG.out.1
    have hgb := HG.out.2
    by_cases hlt : k < 16
    · have hp := List.getElem?_eq_getElem (l := lk) (i := hk) (by rw [HS.out.1]; exact hk8)
      generalize (lk[hk]'(by rw [HS.out.1]; exact hk8)) = p at hp
      obtain ⟨h2, hh2⟩ : ∃ h2, (hk + 1) % 8 = h2 := ⟨_, rfl⟩
      have hh28 : h2 < 8 := by omega
      have t1 : ((hk : Int) + 1).tmod 8 = (h2 : Int) := by rw [Int.tmod_eq_emod_of_nonneg (by omega)]; omega
      have e9 : IntKind.i64.wrap ((hk : Int) + 1) = (hk : Int) + 1 := IntWalk.i64_in _ (by omega)
      obtain ⟨pn, pd, pr, pp⟩ := p
      obtain ⟨d0, d1, d2, d3⟩ := hM.at hp
      simp only at d0 d1 d2 d3
      have hg5' := hM.lt
      have hnew := (Below.refl wr.heap.size wr).alloc (Nat.le_refl _) (.cells #[.int .i64 pn, .string pd, .bool pr, .int .i64 pp] 36)
      have hb4 := Box4.new wr (.int .i64 pn) (.string pd) (.bool pr) (.int .i64 pp) 36
      obtain ⟨go, hgo⟩ : ∃ go, wr.heap.size = go := ⟨_, rfl⟩
      rw [hgo] at hb4 hg5'
      have hMa := hM.below hnew
      have hM2 := hMa.hand hgw hgb h2
      have hgo2 : g + 3 ≤ go := by have := hM.bs; omega
      have hb42 := hb4.bar ((Bar.refl g (wr.alloc (.cells #[.int .i64 pn, .string pd, .bool pr, .int .i64 pp] 36))).setCell 1 (.int .i64 h2)) (by omega)
      have x0 := hM.x.c0
      have x1 := hM.x.c1
      have xa0 := hMa.x.c0
      have xa1 := hMa.x.c1
      have xf1 := hMa.x.f 1
      have o3 := hb42.c3
      have i1 : (hk : Int) < 8 := by omega
      have i0 : (0 : Int) ≤ (hk : Int) := by omega
      have HP := Lib.hid (And.intro hp hh2)
      have HM2 := Lib.hid (And.intro hM2 hb42)
      have H16 : Hid (16 - k = (16 - (k + 1)) + 1) := Lib.hid (by omega)
      clear hp hh2 hM2 hb42 hM hb4 hMa hnew
      go_upto_region 9 with fail
      obtain ⟨hM2, hb42⟩ := HM2.out
      clear x0 x1 xa0 xa1 xf1 o3 HM2 t1 e9 d0 d1 d2 d3 hgo
      generalize (wr.alloc (.cells #[.int .i64 pn, .string pd, .bool pr, .int .i64 pp] 36)).setCell ⟨g, 1, none⟩ (.int .i64 h2) = ws at hM2 hb42 ⊢
      obtain ⟨d0, d1, d2, d3⟩ := hM2.at HP.out.1
      simp only at d0 d1 d2 d3
      have z0 := hM2.x.c0
      have z1 := hM2.x.c1
      have df := hM2.own.frozenAt
      have o2 := hb42.c2
      have o3 := hb42.c3
      have HM2 := Lib.hid (And.intro hM2 hb42)
      clear hM2 hb42
      by_cases c1 : 0 < pp
      · have HS2 : Hid (lk.length = 8 ∧ spinL ⟨zn, zd, zr, zp⟩ (16 - (k + 1)) lk h2 = R) := Lib.hid ⟨HS.out.1, by
          have h := HS.out.2
          rw [H16.out, spin_pass HP.out.1 c1, HS.out.1, HP.out.2] at h
          exact h⟩
        go_wp2
        go_roundw
        case rel => exact ⟨k + 1, h2, lk, by omega, by go_num, hh28, HS2, HM2.out.1⟩
        case measure => simp [intOf]; omega
      · have c1' : ¬ (0 : Int) < pp := c1
        cases pr
        · have HV : Hid (R = (lk.set hk ⟨zn, zd, zr, zp⟩, h2)) := Lib.hid (by
            have h := HS.out.2
            rw [H16.out, spin_take HP.out.1 c1 rfl, HS.out.1, HP.out.2] at h
            exact h.symm)
          have hown8 := own_whole HM2.out.1.own HP.out.1 ⟨zn, zd, zr, zp⟩
          have hbar2 := ((((Bar.refl g5 ws).setCell (hk * 4) (.int .i64 zn)).setCell (hk * 4 + 1) (.string zd)).setCell (hk * 4 + 2) (.bool zr)).setCell (hk * 4 + 3) (.int .i64 zp)
          have hx8 := HM2.out.1.x.bar hbar2 (by omega)
          have hy8 := HM2.out.1.y.bar hbar2 (by omega)
          have hB8 := HM2.out.1.B.trans (hbar2.below (B := w.heap.size) (by omega) HM2.out.1.B.size)
          have e0 := HM2.out.1.p.c0
          have e1 := HM2.out.1.p.c1
          have e2 := HM2.out.1.p.c2
          have e3 := HM2.out.1.p.c3
          have q0 := hx8.c0
          have q1 := hx8.c1
          have r0 := hy8.c0
          have r1 := hy8.c1
          have rf0 := hy8.f 0
          have rf1 := hy8.f 1
          have hbar3 := ((Bar.refl (g + 2) (((((ws.setCell ⟨g5, hk * 4, none⟩ (.int .i64 zn)).setCell ⟨g5, hk * 4 + 1, none⟩ (.string zd)).setCell ⟨g5, hk * 4 + 2, none⟩ (.bool zr)).setCell ⟨g5, hk * 4 + 3, none⟩ (.int .i64 zp)))).setCell 0 (.slice (some ⟨g5, 0, none⟩) 8 c5)).setCell 1 (.int .i64 h2)
          have hB9 := hB8.trans (hbar3.below (B := w.heap.size) (by omega) hB8.size)
          have H9 := Lib.hid ((hy8.set0 (.slice (some ⟨g5, 0, none⟩) 8 c5)).set1 (.int .i64 h2))
          have hown9 := Li.own_bar hown8 hbar3 (by omega)
          have HE := Lib.hid (show TurnPost R w (.returned (.agg #[.slice (some ⟨g5, 0, none⟩) 8 c5, .int .i64 h2])) _ from by rw [HV.out]; exact ⟨g5, c5, rfl, Li.own_base hown9 (by omega), hB9⟩)
          rw [HPE.out] at HE
          clear hown8 hbar2 hx8 hy8 hB8 hbar3 hB9 hown9 hg5'
          go_wp2
          refine bodyPost_ret (results_clock rfl _ _ (g + 2) _ _ rfl H9.out.c0 H9.out.c1) rfl ?_
          exact HE.out
        · have HS2 : Hid ((lk.set hk (setRef false ⟨pn, pd, true, pp⟩)).length = 8 ∧ spinL ⟨zn, zd, zr, zp⟩ (16 - (k + 1)) (lk.set hk (setRef false ⟨pn, pd, true, pp⟩)) h2 = R) := Lib.hid ⟨by rw [List.length_set]; exact HS.out.1, by
            have h := HS.out.2
            rw [H16.out, spin_clear HP.out.1 c1 rfl, HS.out.1, HP.out.2] at h
            exact h⟩
          have HM3 := Lib.hid (HM2.out.1.noref hgw hgb HP.out.1)
          go_wp2
          go_roundw
          case rel => exact ⟨k + 1, h2, lk.set hk (setRef false ⟨pn, pd, true, pp⟩), by omega, by go_num, hh28, HS2, HM3.out⟩
          case measure => simp [intOf]; omega
    · obtain rfl : k = 16 := by omega
      have HV : Hid (R = (lk, hk)) := Lib.hid HS.out.2.symm
      have x0 := hM.x.c0
      have x1 := hM.x.c1
      have r0 := hM.y.c0
      have r1 := hM.y.c1
      have rf0 := hM.y.f 0
      have rf1 := hM.y.f 1
      have hlt5 := hM.lt
      have hbar3 := ((Bar.refl (g + 2) wr).setCell 0 (.slice (some ⟨g5, 0, none⟩) 8 c5)).setCell 1 (.int .i64 hk)
      have hB9 := hM.B.trans (hbar3.below (B := w.heap.size) (by omega) hM.B.size)
      have H9 := Lib.hid ((hM.y.set0 (.slice (some ⟨g5, 0, none⟩) 8 c5)).set1 (.int .i64 hk))
      have hown9 := Li.own_bar hM.own hbar3 (by omega)
      have HE := Lib.hid (show TurnPost R w (.returned (.agg #[.slice (some ⟨g5, 0, none⟩) 8 c5, .int .i64 hk])) _ from by rw [HV.out]; exact ⟨g5, c5, rfl, Li.own_base hown9 (by omega), hB9⟩)
      rw [HPE.out] at HE
      clear hM hbar3 hB9 hown9 hlt5
      go_wp2
      refine bodyPost_ret (results_clock rfl _ _ (g + 2) _ _ rfl H9.out.c0 H9.out.c1) rfl ?_
      exact HE.out
end
end Go.Proofs.Ytjjedadhkdpceaa.Cl
