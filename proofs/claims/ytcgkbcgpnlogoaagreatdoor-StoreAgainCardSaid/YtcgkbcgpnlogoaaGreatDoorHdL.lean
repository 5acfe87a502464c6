/- Heads on devices: Newest of the program (762697a) and of the document, walked. -/
import Derived.Test.YtcgkbcgpnlogoaaGreatDoorMgAF
import Derived.Test.YtcgkbcgpnlogoaaGreatDoorMgAE
namespace Go.Proofs.YtcgkbcgpnlogoaaGreatDoor.Hd
open Go.RowKit Go.Shelf Tal Sla Fr Lex
/-- The device behind q sectors that were got, what they hold, the errors, and what counts. -/
def DQ (D : Dev) : Nat → Dev
 | 0 => D
 | q + 1 => (getR (DQ D q) q).1
def ERq (D : Dev) (q : Nat) : Int := (getR (DQ D q) q).2.2
def TXq (D : Dev) (q : Nat) : ByteArray := (getR (DQ D q) q).2.1
noncomputable def CUR (D : Dev) : Nat → H
 | 0 => noH
 | q + 1 => stepH (CUR D q) (TXq D q)
noncomputable def newestR (D : Dev) : Dev × H × Int :=
 if ERq D 0 = 10 then (DQ D 1, noH, 10) else if ERq D 1 = 10 then (DQ D 2, noH, 10) else if (CUR D 2).e = 0 then (DQ D 2, noH, 2) else (DQ D 2, CUR D 2, 0)
def NewPost (R : Dev × H × Int) (w : World) (e : Ending) (w' : World) : Prop := ∃ v, e = .returned (.tuple #[v, .agg (cellsH R.2.1), .int .i64 R.2.2]) ∧ IsDev w' v R.1 ∧ Below w.heap.size w w'
section
variable {K : Nat} {D : Dev}
theorem DQ_n (D : Dev) : ∀ q, (DQ D q).n = D.n
 | 0 => rfl
 | q + 1 => (getR_n _ _).trans (DQ_n D q)
theorem DQ_ok (h : D.Ok K) : ∀ q, (DQ D q).Ok (K + q)
 | 0 => h
 | q + 1 => getR_ok (DQ_ok h q) q
theorem getR_err (D : Dev) (q : Nat) : (getR D q).2.2 = 0 ∨ (getR D q).2.2 = 10 := by
 unfold getR
 split
 ·exact Or.inl rfl
 ·exact Or.inr rfl
theorem look_size {LA : Nat → Int} {LD : Nat → ByteArray} {x : Int} {d : ByteArray} (hd : d.size = 256) : ∀ m, (∀ j, j < m → (LD j).size = 256) → (Sla.look LA LD x d m).size = 256
 | 0, _ => hd
 | m + 1, h => by
  simp only [Sla.look]
  split
  ·exact h m (by omega)
  ·exact look_size hd m fun j hj => h j (by omega)
theorem TX_size (h : D.Ok K) {q : Nat} (hq : (DQ D q).has (q : Nat) = true) (he : ERq D q ≠ 10) : (TXq D q).size ≤ 300000 := by
 have hk := DQ_ok h q
 unfold ERq at he
 unfold TXq
 unfold getR at he ⊢
 split
 ·have hlt : q < (DQ D q).n := by
   have := of_decide_eq_true hq
   omega
  show (Sla.look _ _ _ _ _).size ≤ 300000
  rw [look_size (hk.sz q hlt) _ hk.lz]
  decide
 ·rename_i hp
  rw [if_neg hp] at he
  exact absurd rfl he
theorem newestR_err {q : Nat} (h : ∀ j, j < q → ERq D j ≠ 10) (he : ERq D q = 10) (hq : q < 2) : newestR D = (DQ D (q + 1), noH, 10) := by
 unfold newestR
 match q, hq with
 | 0, _ => rw [if_pos he]
 | 1, _ => rw [if_neg (h 0 (by decide)), if_pos he]
theorem newestR_form (h0 : ERq D 0 ≠ 10) (h1 : ERq D 1 ≠ 10) (hz : (CUR D 2).e = 0) : newestR D = (DQ D 2, noH, 2) := by
 unfold newestR
 rw [if_neg h0, if_neg h1, if_pos hz]
theorem newestR_good (h0 : ERq D 0 ≠ 10) (h1 : ERq D 1 ≠ 10) (hz : (CUR D 2).e ≠ 0) : newestR D = (DQ D 2, CUR D 2, 0) := by
 unfold newestR
 rw [if_neg h0, if_neg h1, if_neg hz]
theorem stepH_eq (cur : H) (t : ByteArray) : stepH cur t = if (parseH t).isSome = true ∧ cur.e < ((parseH t).getD noH).e then (parseH t).getD noH else cur := by
 unfold stepH
 cases parseH t with
 | none => rw [if_neg (fun h => by cases h.1)]
 | some h =>
  by_cases hl : cur.e < h.e
  ·rw [if_pos ⟨rfl, hl⟩]
   exact if_pos hl
  ·rw [if_neg (fun h => hl h.2)]
   exact if_neg hl
end
theorem results_d3 {fn : Func} {p r q : Tmp} (h : fn.results = #[.cell p 28, .cell r 30, .tmp q]) (tmps : Array Value) (w : World) (g g2 : Nat) (v0 v1 v2 v3 v4 u0 u1 u2 : Value)
  (hp : tmps.getD p undef = .pointer (some ⟨g, 0, none⟩)) (hr : tmps.getD r undef = .pointer (some ⟨g2, 0, none⟩)) (c0 : w.cell? ⟨g, 0, none⟩ = some v0) (c1 : w.cell? ⟨g, 1, none⟩ = some v1) (c2 : w.cell? ⟨g, 2, none⟩ = some v2) (c3 : w.cell? ⟨g, 3, none⟩ = some v3) (c4 : w.cell? ⟨g, 4, none⟩ = some v4)
  (k0 : w.cell? ⟨g2, 0, none⟩ = some u0) (k1 : w.cell? ⟨g2, 1, none⟩ = some u1) (k2 : w.cell? ⟨g2, 2, none⟩ = some u2) :
  (results fn tmps).run Tryz.prog w = .ok (.tuple #[.agg #[v0, v1, v2, v3, v4], .agg #[u0, u1, u2], tmps.getD q undef]) w := by
 have hp' : tmps[p]?.getD undef = .pointer (some ⟨g, 0, none⟩) := by simpa using hp
 have hr' : tmps[r]?.getD undef = .pointer (some ⟨g2, 0, none⟩) := by simpa using hr
 clear hp hr
 simp only [results, h]
 go_simp
section
variable {w w' : World} {g g2 : Nat} {v : Value} {D : Dev} {h : H}
theorem BoxH.but (k : BoxH w g h) (hb : But g2 w w') (hne : g ≠ g2) : BoxH w' g h :=
 ⟨(hb.cell (p := ⟨g, 0, none⟩) hne).trans k.c0, (hb.cell (p := ⟨g, 1, none⟩) hne).trans k.c1, (hb.cell (p := ⟨g, 2, none⟩) hne).trans k.c2, fun i => (hb.frozen (p := ⟨g, i, none⟩) hne).trans (k.f i)⟩
theorem but3 (w : World) (g : Nat) (u : H) : But g w (((w.setCell ⟨g, 0, none⟩ (.int .i64 u.p)).setCell ⟨g, 1, none⟩ (.int .i64 u.l)).setCell ⟨g, 2, none⟩ (.int .i64 u.e)) :=
 (((But.refl g w).setCell 0 _).setCell 1 _).setCell 2 _
theorem Box5.offH {v0 v1 v2 v3 v4 : Value} (k : Box5 w g v0 v1 v2 v3 v4) (hne : g ≠ g2) (u : H) : Box5 (((w.setCell ⟨g2, 0, none⟩ (.int .i64 u.p)).setCell ⟨g2, 1, none⟩ (.int .i64 u.l)).setCell ⟨g2, 2, none⟩ (.int .i64 u.e)) g v0 v1 v2 v3 v4 :=
 k.but (but3 w g2 u) hne
/-- A head's variable holds none of a device's cells. -/
theorem dev_put (hd : IsDev w v D) (hn : 1 ≤ D.n) (k : BoxH w g h) (u : H) : IsDev (((w.setCell ⟨g, 0, none⟩ (.int .i64 u.p)).setCell ⟨g, 1, none⟩ (.int .i64 u.l)).setCell ⟨g, 2, none⟩ (.int .i64 u.e)) v D := by
 obtain ⟨b, B, hd⟩ := hd
 refine ⟨b, B, hd.but (but3 w g u) ?_ ?_⟩
 ·rintro rfl
  obtain ⟨c, m, _, _, _, hc, _⟩ := hd
  have := (hc 0 hn).symm.trans k.c0
  cases this
 ·intro a ha
  obtain ⟨c, m, _, _, _, _, hl, h0⟩ := hd
  rintro rfl
  rcases Nat.eq_zero_or_pos D.m with hm | hm
  ·rw [(h0 hm).1] at ha
   cases ha
  ·obtain ⟨bl, hB, _, hc⟩ := hl hm
   rw [hB] at ha
   injection ha with ha
   subst ha
   have := (hc 0 hm).2.symm.trans k.c1
   cases this
theorem dev_box (hd : IsDev w v D) (hn : 1 ≤ D.n) {A : Option Addr} {n c : Nat} {v1 v2 v3 v4 : Value} (k : Box5 w g (.slice A n c) v1 v2 v3 v4) (u0 u1 u2 u3 u4 : Value) : IsDev (((((w.setCell ⟨g, 0, none⟩ u0).setCell ⟨g, 1, none⟩ u1).setCell ⟨g, 2, none⟩ u2).setCell ⟨g, 3, none⟩ u3).setCell ⟨g, 4, none⟩ u4) v D :=
 hd.but hn k.c0 (but5 w g u0 u1 u2 u3 u4)
end
/-- What holds within: the device and what counts so far in their variables. -/
structure NewM (D : Dev) (w : World) (gx gy gz gm qd qm : Nat) (A0 : Option Addr) (n0 c0 : Nat) (B0 : Option Addr) (m0 k0 : Nat) (dd0 : Bool) (lf0 ds0 : Int) (W : World) : Prop where
 x : Box5 W gx (.slice A0 n0 c0) (.slice B0 m0 k0) (.bool dd0) (.int .i64 lf0) (.int .i64 ds0)
 d : IsDev W (.agg #[.slice A0 n0 c0, .slice B0 m0 k0, .bool dd0, .int .i64 lf0, .int .i64 ds0]) (DQ D qd)
 y : Box5 W gy (.slice none 0 0) (.slice none 0 0) (.bool false) (.int .i64 0) (.int .i64 0)
 z : BoxH W gz noH
 m : BoxH W gm (CUR D qm)
 e : ∀ j, j < qm → ERq D j ≠ 10
 B : Below w.heap.size w W
section
variable {D : Dev} {w W W' : World} {gx gy gz gm q qd qm n0 c0 m0 k0 : Nat} {A0 B0 : Option Addr} {dd0 : Bool} {lf0 ds0 : Int}
theorem NewM.below (h : NewM D w gx gy gz gm qd qm A0 n0 c0 B0 m0 k0 dd0 lf0 ds0 W) (hv : Below W.heap.size W W') : NewM D w gx gy gz gm qd qm A0 n0 c0 B0 m0 k0 dd0 lf0 ds0 W' :=
 ⟨h.x.below hv h.x.lt5, h.d.below hv (Nat.le_refl _), h.y.below hv h.y.lt5, h.z.below hv h.z.lt, h.m.below hv h.m.lt, h.e, h.B.trans (hv.mono h.B.size)⟩
theorem NewM.turn (h : NewM D w gx gy gz gm q qm A0 n0 c0 B0 m0 k0 dd0 lf0 ds0 W) (h1 : gx < gy) (h2 : gy < gz) (h3 : gz < gm) (hw : w.heap.size ≤ gx) (A1 : Option Addr) (n1 c1 : Nat) (B1 : Option Addr) (m1 k1 : Nat) (dd1 : Bool) (lf1 ds1 : Int) (hn : 1 ≤ (DQ D (q + 1)).n)
  (hd : IsDev W (.agg #[.slice A1 n1 c1, .slice B1 m1 k1, .bool dd1, .int .i64 lf1, .int .i64 ds1]) (DQ D (q + 1))) :
  NewM D w gx gy gz gm (q + 1) qm A1 n1 c1 B1 m1 k1 dd1 lf1 ds1 (((((W.setCell ⟨gx, 0, none⟩ (.slice A1 n1 c1)).setCell ⟨gx, 1, none⟩ (.slice B1 m1 k1)).setCell ⟨gx, 2, none⟩ (.bool dd1)).setCell ⟨gx, 3, none⟩ (.int .i64 lf1)).setCell ⟨gx, 4, none⟩ (.int .i64 ds1)) := by
 have hb := but5 W gx (.slice A1 n1 c1) (.slice B1 m1 k1) (.bool dd1) (.int .i64 lf1) (.int .i64 ds1)
 exact ⟨h.x.set _ _ _ _ _, hd.but hn h.x.c0 hb, h.y.but hb (by omega), h.z.but hb (by omega), h.m.but hb (by omega), h.e, below_box5 h.B hw _ _ _ _ _⟩
theorem NewM.next (h : NewM D w gx gy gz gm (q + 1) q A0 n0 c0 B0 m0 k0 dd0 lf0 ds0 W) (he : ERq D q ≠ 10) (hc : CUR D (q + 1) = CUR D q) : NewM D w gx gy gz gm (q + 1) (q + 1) A0 n0 c0 B0 m0 k0 dd0 lf0 ds0 W :=
 ⟨h.x, h.d, h.y, h.z, hc ▸ h.m, fun j hj => (Nat.lt_or_eq_of_le (Nat.le_of_lt_succ hj)).elim (h.e j) (fun e => e ▸ he), h.B⟩
theorem NewM.newer (h : NewM D w gx gy gz gm (q + 1) q A0 n0 c0 B0 m0 k0 dd0 lf0 ds0 W) (he : ERq D q ≠ 10) (h1 : gx < gy) (h2 : gy < gz) (h3 : gz < gm) (hw : w.heap.size ≤ gm) (hn : 1 ≤ (DQ D (q + 1)).n) {u : H} (hc : CUR D (q + 1) = u) :
  NewM D w gx gy gz gm (q + 1) (q + 1) A0 n0 c0 B0 m0 k0 dd0 lf0 ds0 (((W.setCell ⟨gm, 0, none⟩ (.int .i64 u.p)).setCell ⟨gm, 1, none⟩ (.int .i64 u.l)).setCell ⟨gm, 2, none⟩ (.int .i64 u.e)) := by
 subst hc
 have hb := but3 W gm (CUR D (q + 1))
 exact ⟨h.x.but hb (by omega), dev_put h.d hn h.m _, h.y.but hb (by omega), h.z.but hb (by omega), h.m.put _, fun j hj => (Nat.lt_or_eq_of_le (Nat.le_of_lt_succ hj)).elim (h.e j) (fun e => e ▸ he), below_putH h.B hw _⟩
end
set_option maxRecDepth 20000 in
set_option maxHeartbeats 12800000 in
theorem newest_any {K : Nat} (v : Value) (D : Dev) (w : World) (ht : Tab w) (hD : IsDev w v D) (hok : D.Ok K) (hK : K ≤ 99990) (hn : 2 ≤ D.n) :
  Calls Tryz.prog 90 #[v] w (NewPost (newestR D) w) := by
 have HT := Lib.hid ht
 clear ht
 obtain ⟨A0, n0, c0, B0, m0, k0, dd0, lf0, ds0, rfl⟩ := dev_form hD
 have HN := Lib.hid (And.intro hok (And.intro hK hn))
 clear hok hK hn
 have hx := Box5.new w (.slice A0 n0 c0) (.slice B0 m0 k0) (.bool dd0) (.int .i64 lf0) (.int .i64 ds0) 28
 have hB := (Below.refl w.heap.size w).alloc (Nat.le_refl _) (.cells #[.slice A0 n0 c0, .slice B0 m0 k0, .bool dd0, .int .i64 lf0, .int .i64 ds0] 28)
 obtain ⟨gx, hgx⟩ : ∃ x, w.heap.size = x := ⟨_, rfl⟩
 have hwx : w.heap.size ≤ gx := by omega
 rw [hgx] at hx
 generalize hwa : w.alloc (.cells #[.slice A0 n0 c0, .slice B0 m0 k0, .bool dd0, .int .i64 lf0, .int .i64 ds0] 28) = wa at hB hx
 have hy := Box5.new wa (.slice none 0 0) (.slice none 0 0) (.bool false) (.int .i64 0) (.int .i64 0) 28
 have hv := (Below.refl wa.heap.size wa).alloc (Nat.le_refl _) (.cells #[.slice none 0 0, .slice none 0 0, .bool false, .int .i64 0, .int .i64 0] 28)
 have hl1 := hx.lt5
 have hx := hx.below hv hx.lt5
 have hwy : w.heap.size ≤ wa.heap.size := hB.size
 have hB := hB.trans (hv.mono hB.size)
 clear hv
 obtain ⟨gy, hgy⟩ : ∃ x, wa.heap.size = x := ⟨_, rfl⟩
 rw [hgy] at hy hwy hl1
 generalize hwb : wa.alloc (.cells #[.slice none 0 0, .slice none 0 0, .bool false, .int .i64 0, .int .i64 0] 28) = wb at hB hx hy
 have hz := BoxH.new wb noH 30
 have hv := (Below.refl wb.heap.size wb).alloc (Nat.le_refl _) (.cells (cellsH noH) 30)
 have hl2 := hy.lt5
 have hx := hx.below hv hx.lt5
 have hy := hy.below hv hy.lt5
 have hwz : w.heap.size ≤ wb.heap.size := hB.size
 have hB := hB.trans (hv.mono hB.size)
 clear hv
 obtain ⟨gz, hgz⟩ : ∃ x, wb.heap.size = x := ⟨_, rfl⟩
 rw [hgz] at hz hwz hl2
 generalize hwc : wb.alloc (.cells (cellsH noH) 30) = wc at hB hx hy hz
 have hm := BoxH.new wc noH 30
 have hv := (Below.refl wc.heap.size wc).alloc (Nat.le_refl _) (.cells (cellsH noH) 30)
 have hl3 := hz.lt
 have hx := hx.below hv hx.lt5
 have hy := hy.below hv hy.lt5
 have hz := hz.below hv hz.lt
 have hwm : w.heap.size ≤ wc.heap.size := hB.size
 have hB := hB.trans (hv.mono hB.size)
 clear hv
 obtain ⟨gm, hgm⟩ : ∃ x, wc.heap.size = x := ⟨_, rfl⟩
 rw [hgm] at hm hwm hl3
 generalize hwd : wc.alloc (.cells (cellsH noH) 30) = wd at hB hx hy hz hm
 unfold cellsH noH at hwc hwd
 simp only at hwc hwd
 have hI : NewM D w gx gy gz gm 0 0 A0 n0 c0 B0 m0 k0 dd0 lf0 ds0 wd := ⟨hx, hD.below hB (Nat.le_refl _), hy, hz, hm, fun j hj => absurd hj (Nat.not_lt_zero j), hB⟩
 clear hx hy hz hm hB hD
 go_enter Tryz.func90, Tryz.ntmps90
 go_wp2
 clear hwa hwb hwc hwd hgx hgy hgz hgm
 go_loopw [12] (fun i wr => ∃ (q : Nat) (A0 : Option Addr) (n0 c0 : Nat) (B0 : Option Addr) (m0 k0 : Nat) (dd0 : Bool) (lf0 ds0 : Int), q ≤ 2 ∧ i = .int .i64 q ∧ NewM D w gx gy gz gm q q A0 n0 c0 B0 m0 k0 dd0 lf0 ds0 wr) (fun i _ => 2 - (intOf i).toNat)
 case atStart => exact ⟨0, _, _, _, _, _, _, _, _, _, Nat.zero_le _, rfl, hI⟩
 case round =>
  clear hI
  obtain ⟨q, A0, n0, c0, B0, m0, k0, dd0, lf0, ds0, hq, rfl, hI⟩ := hrel
  by_cases hlt : q < 2
  ·have i0 : (q : Int) < 2 := by omega
   have x0 := hI.x.c0
   have x1 := hI.x.c1
   have x2 := hI.x.c2
   have x3 := hI.x.c3
   have x4 := hI.x.c4
   have hokq := DQ_ok HN.out.1 q
   have hnq := DQ_n D q
   have hhas : (DQ D q).has (q : Nat) = true := by
    have := HN.out.2.2
    unfold Dev.has
    exact decide_eq_true ⟨by omega, by omega⟩
   have HG := Lib.hid (fun W (hd : IsDev W (.agg #[.slice A0 n0 c0, .slice B0 m0 k0, .bool dd0, .int .i64 lf0, .int .i64 ds0]) (DQ D q)) => slabGet (.agg #[.slice A0 n0 c0, .slice B0 m0 k0, .bool dd0, .int .i64 lf0, .int .i64 ds0]) (DQ D q) q W hd hokq (by have := HN.out.2.1; omega) hhas)
   have htxs := TX_size HN.out.1 hhas
   go_wp2_with fail
   clear x0 x1 x2 x3 x4
   refine (HG.out _ hI.d).mono ?_
   rintro e w1 ⟨v1, rfl, hd1, hv⟩
   obtain ⟨A1, n1, c1, B1, m1, k1, dd1, lf1, ds1, rfl⟩ := dev_form hd1
   have hI := hI.below hv
   clear hv HG
   have hd1 : IsDev w1 (.agg #[.slice A1 n1 c1, .slice B1 m1 k1, .bool dd1, .int .i64 lf1, .int .i64 ds1]) (DQ D (q + 1)) := hd1
   have hER : (getR (DQ D q) q).2.2 = ERq D q := rfl
   have hTX : (getR (DQ D q) q).2.1 = TXq D q := rfl
   have hCU : CUR D (q + 1) = stepH (CUR D q) (TXq D q) := rfl
   have her2 : ERq D q = 0 ∨ ERq D q = 10 := getR_err (DQ D q) q
   rw [hER, hTX]
   clear hER hTX
   go_upto_region 6 with fail
   have hn6 := (Below.refl w1.heap.size w1).alloc (Nat.le_refl _) (.cells #[.slice A1 n1 c1, .slice B1 m1 k1, .bool dd1, .int .i64 lf1, .int .i64 ds1] 28)
   have hb6 : Box5 (w1.alloc (.cells #[.slice A1 n1 c1, .slice B1 m1 k1, .bool dd1, .int .i64 lf1, .int .i64 ds1] 28)) w1.heap.size (.slice A1 n1 c1) (.slice B1 m1 k1) (.bool dd1) (.int .i64 lf1) (.int .i64 ds1) := Box5.new w1 (.slice A1 n1 c1) (.slice B1 m1 k1) (.bool dd1) (.int .i64 lf1) (.int .i64 ds1) 28
   have hI := hI.below hn6
   have hd1 := hd1.below hn6 (Nat.le_refl _)
   generalize w1.alloc (.cells #[.slice A1 n1 c1, .slice B1 m1 k1, .bool dd1, .int .i64 lf1, .int .i64 ds1] 28) = w2 at hb6 hI hd1 ⊢
   generalize w1.heap.size = gd at hb6 ⊢
   clear hn6
   have x0 := hI.x.c0
   have x1 := hI.x.c1
   have x2 := hI.x.c2
   have x3 := hI.x.c3
   have x4 := hI.x.c4
   have xf := hI.x.f
   have d0 := hb6.c0
   have d1 := hb6.c1
   have d2 := hb6.c2
   have d3 := hb6.c3
   have d4 := hb6.c4
   go_upto_region 7 with fail
   have hI3 := hI.turn hl1 hl2 hl3 hwx A1 n1 c1 B1 m1 k1 dd1 lf1 ds1 (by rw [DQ_n]; have := HN.out.2.2; omega) hd1
   clear x0 x1 x2 x3 x4 xf d0 d1 d2 d3 d4 hb6 hI hd1
   generalize (((((w2).setCell ⟨gx, 0, none⟩ (.slice A1 n1 c1)).setCell ⟨gx, 1, none⟩ (.slice B1 m1 k1)).setCell ⟨gx, 2, none⟩ (.bool dd1)).setCell ⟨gx, 3, none⟩ (.int .i64 lf1)).setCell ⟨gx, 4, none⟩ (.int .i64 ds1) = w3 at hI3 ⊢
   generalize htx : TXq D q = tx at hCU htxs ⊢
   by_cases he : ERq D q = 10
   ·have HE := Lib.hid (newestR_err hI3.e he hlt)
    rw [he]
    clear her2
    have x0 := hI3.x.c0
    have x1 := hI3.x.c1
    have x2 := hI3.x.c2
    have x3 := hI3.x.c3
    have x4 := hI3.x.c4
    have xf := hI3.x.f
    have y0 := hI3.y.c0
    have y1 := hI3.y.c1
    have y2 := hI3.y.c2
    have y3 := hI3.y.c3
    have y4 := hI3.y.c4
    have yf := hI3.y.f
    have z0 := hI3.z.c0
    have z1 := hI3.z.c1
    have z2 := hI3.z.c2
    have zf := hI3.z.f
    have hB3 := hI3.B
    have hWd := hI3.d
    have HW := Lib.hid (below_putH (below_box5 hB3 hwy (.slice A1 n1 c1) (.slice B1 m1 k1) (.bool dd1) (.int .i64 lf1) (.int .i64 ds1)) hwz noH)
    have HDV := Lib.hid (dev_put (dev_box (hWd) (by rw [DQ_n]; have := HN.out.2.2; omega) hI3.y (.slice A1 n1 c1) (.slice B1 m1 k1) (.bool dd1) (.int .i64 lf1) (.int .i64 ds1)) (by rw [DQ_n]; have := HN.out.2.2; omega) (hI3.z.but (but5 w3 gy (.slice A1 n1 c1) (.slice B1 m1 k1) (.bool dd1) (.int .i64 lf1) (.int .i64 ds1)) (by omega)) noH)
    have HF := Lib.hid (Box5.offH (hI3.y.set (.slice A1 n1 c1) (.slice B1 m1 k1) (.bool dd1) (.int .i64 lf1) (.int .i64 ds1)) (by omega : gy ≠ gz) noH)
    have HF2 := Lib.hid ((hI3.z.but (but5 w3 gy (.slice A1 n1 c1) (.slice B1 m1 k1) (.bool dd1) (.int .i64 lf1) (.int .i64 ds1)) (by omega : gz ≠ gy)).put noH)
    clear hI3 hB3 hWd
    go_wp2
    refine bodyPost_ret (results_d3 rfl _ _ gy gz _ _ _ _ _ _ _ _ rfl rfl HF.out.c0 HF.out.c1 HF.out.c2 HF.out.c3 HF.out.c4 HF2.out.c0 HF2.out.c1 HF2.out.c2) rfl ?_
    rw [HE.out]
    exact ⟨_, rfl, HDV.out, HW.out⟩
   ·have he0 : ERq D q = 0 := her2.resolve_right he
    have HE := Lib.hid he
    rw [he0]
    clear he he0 her2
    have htx : tx.size ≤ 300000 := htxs HE.out
    clear htxs
    go_wp2_with fail
    have hB := hI3.B
    refine (parse_any tx _ (HT.out.below hB) htx).mono ?_
    rintro e w4 ⟨rfl, hv⟩
    have hI4 := hI3.below hv
    clear hv hI3 hB
    have hst : stepH (CUR D q) tx = if (parseH tx).isSome = true ∧ (CUR D q).e < ((parseH tx).getD noH).e then (parseH tx).getD noH else CUR D q := stepH_eq _ _
    rw [hst] at hCU
    clear hst
    generalize (parseH tx).isSome = is at hCU ⊢
    generalize (parseH tx).getD noH = hh at hCU ⊢
    obtain ⟨hp, hl, he⟩ := hh
    unfold cellsH
    simp only at hCU ⊢
    go_upto_region 10 with fail
    have hn6 := (Below.refl w4.heap.size w4).alloc (Nat.le_refl _) (.cells #[.int .i64 hp, .int .i64 hl, .int .i64 he] 30)
    have hb6 : BoxH (w4.alloc (.cells #[.int .i64 hp, .int .i64 hl, .int .i64 he] 30)) w4.heap.size ⟨hp, hl, he⟩ := BoxH.new w4 ⟨hp, hl, he⟩ 30
    have hI4 := hI4.below hn6
    generalize w4.alloc (.cells #[.int .i64 hp, .int .i64 hl, .int .i64 he] 30) = w5 at hb6 hI4 ⊢
    generalize w4.heap.size = gh at hb6 ⊢
    clear hn6
    have HI := Lib.hid hI4
    have s0 := hb6.c0
    have s1 := hb6.c1
    have s2 := hb6.c2
    have t0 := hI4.m.c0
    have t1 := hI4.m.c1
    have t2 := hI4.m.c2
    have tf := hI4.m.f
    obtain ⟨up, ul, ue, hcu⟩ : ∃ a b c, CUR D q = ⟨a, b, c⟩ := ⟨_, _, _, rfl⟩
    rw [hcu] at hCU t0 t1 t2
    simp only at hCU s0 s1 s2 t0 t1 t2
    have HCQ := Lib.hid hcu
    clear hcu
    have HCU := Lib.hid hCU
    clear hCU hI4 hb6
    cases is
    ·have HI2 := Lib.hid (HI.out.next HE.out (by rw [HCU.out, HCQ.out, if_neg (fun h => by cases h.1)]))
     clear HI
     go_wp2
     go_roundw
     case rel => exact ⟨q + 1, _, _, _, _, _, _, _, _, _, by omega, by go_num, HI2.out⟩
     case measure => simp [intOf]; omega
    ·by_cases hlt2 : ue < he
     ·have HI2 := Lib.hid (HI.out.newer HE.out hl1 hl2 hl3 hwm (by rw [DQ_n]; have := HN.out.2.2; omega) (show CUR D (q + 1) = ⟨hp, hl, he⟩ by rw [HCU.out, if_pos ⟨rfl, hlt2⟩]))
      clear HI
      go_wp2
      go_roundw
      case rel => exact ⟨q + 1, _, _, _, _, _, _, _, _, _, by omega, by go_num, HI2.out⟩
      case measure => simp [intOf]; omega
     ·have HI2 := Lib.hid (HI.out.next HE.out (by rw [HCU.out, HCQ.out, if_neg (fun h => hlt2 h.2)]))
      clear HI
      go_wp2
      go_roundw
      case rel => exact ⟨q + 1, _, _, _, _, _, _, _, _, _, by omega, by go_num, HI2.out⟩
      case measure => simp [intOf]; omega
  ·obtain rfl : q = 2 := by omega
   have i0 : ¬ (2 : Int) < 2 := by omega
   have x0 := hI.x.c0
   have x1 := hI.x.c1
   have x2 := hI.x.c2
   have x3 := hI.x.c3
   have x4 := hI.x.c4
   have xf := hI.x.f
   have y0 := hI.y.c0
   have y1 := hI.y.c1
   have y2 := hI.y.c2
   have y3 := hI.y.c3
   have y4 := hI.y.c4
   have yf := hI.y.f
   have z0 := hI.z.c0
   have z1 := hI.z.c1
   have z2 := hI.z.c2
   have zf := hI.z.f
   obtain ⟨up, ul, ue, hcu⟩ : ∃ a b c, CUR D 2 = ⟨a, b, c⟩ := ⟨_, _, _, rfl⟩
   have t0 := hI.m.c0
   have t1 := hI.m.c1
   have t2 := hI.m.c2
   rw [hcu] at t0 t1 t2
   simp only at t0 t1 t2
   by_cases hz : ue = 0
   ·subst hz
    have HE := Lib.hid (newestR_form (hI.e 0 (by decide)) (hI.e 1 (by decide)) (show (CUR D 2).e = 0 by rw [hcu]))
    have HW := Lib.hid (below_putH (below_box5 hI.B hwy (.slice A0 n0 c0) (.slice B0 m0 k0) (.bool dd0) (.int .i64 lf0) (.int .i64 ds0)) hwz noH)
    have HDV := Lib.hid (dev_put (dev_box hI.d (by rw [DQ_n]; have := HN.out.2.2; omega) hI.y (.slice A0 n0 c0) (.slice B0 m0 k0) (.bool dd0) (.int .i64 lf0) (.int .i64 ds0)) (by rw [DQ_n]; have := HN.out.2.2; omega) (hI.z.but (but5 wr gy (.slice A0 n0 c0) (.slice B0 m0 k0) (.bool dd0) (.int .i64 lf0) (.int .i64 ds0)) (by omega)) noH)
    have HF := Lib.hid (Box5.offH (hI.y.set (.slice A0 n0 c0) (.slice B0 m0 k0) (.bool dd0) (.int .i64 lf0) (.int .i64 ds0)) (by omega : gy ≠ gz) noH)
    have HF2 := Lib.hid ((hI.z.but (but5 wr gy (.slice A0 n0 c0) (.slice B0 m0 k0) (.bool dd0) (.int .i64 lf0) (.int .i64 ds0)) (by omega : gz ≠ gy)).put noH)
    clear hI hcu
    go_wp2
    refine bodyPost_ret (results_d3 rfl _ _ gy gz _ _ _ _ _ _ _ _ rfl rfl HF.out.c0 HF.out.c1 HF.out.c2 HF.out.c3 HF.out.c4 HF2.out.c0 HF2.out.c1 HF2.out.c2) rfl ?_
    rw [HE.out]
    exact ⟨_, rfl, HDV.out, HW.out⟩
   ·have hz1 : (ue == 0) = false := beq_eq_false_iff_ne.2 hz
    have HE := Lib.hid ((newestR_good (hI.e 0 (by decide)) (hI.e 1 (by decide)) (show (CUR D 2).e ≠ 0 by rw [hcu]; exact hz)).trans (by rw [hcu]))
    clear hz
    go_upto_region 15 with fail
    have hdr := (Below.refl wr.heap.size wr).drew
    have hI := hI.below hdr
    clear hdr x0 x1 x2 x3 x4 xf y0 y1 y2 y3 y4 yf z0 z1 z2 zf t0 t1 t2
    have hmz := hI.m
    rw [hcu] at hmz
    have hdn : 1 ≤ (DQ D 2).n := by rw [DQ_n]; have := HN.out.2.2; omega
    refine Lex.region_lex (ops := nlops) (calls := nlcalls) nlord (fun W => W.cell? ⟨gx, 0, none⟩ = some (.slice A0 n0 c0) ∧ W.cell? ⟨gx, 1, none⟩ = some (.slice B0 m0 k0) ∧ W.cell? ⟨gx, 2, none⟩ = some (.bool dd0) ∧ W.cell? ⟨gx, 3, none⟩ = some (.int .i64 lf0) ∧ W.cell? ⟨gx, 4, none⟩ = some (.int .i64 ds0) ∧ W.cell? ⟨gm, 0, none⟩ = some (.int .i64 up) ∧ W.cell? ⟨gm, 1, none⟩ = some (.int .i64 ul) ∧ W.cell? ⟨gm, 2, none⟩ = some (.int .i64 ue)) (by kernel_rfl) (by kernel_rfl) nlsel (by kernel_rfl) (by kernel_rfl) nllex (⟨hI.x.c0, hI.x.c1, hI.x.c2, hI.x.c3, hI.x.c4, hmz.c0, hmz.c1, hmz.c2⟩) ?_
    unfold nlord
    generalize wr.drew = wz at hI hmz ⊢
    refine Lex.step_take (.agg #[.slice A0 n0 c0, .slice B0 m0 k0, .bool dd0, .int .i64 lf0, .int .i64 ds0]) nl0 rfl (Lex.want_none rfl) (by intro Wx hSw; (try dsimp only at hSw); go_simp; (try (first | (with_reducible rfl) | assumption | rfl))) ?_
    simp only [Act.put, List.setIfInBounds_toArray, List.set_cons_zero, List.set_cons_succ]
    refine Lex.step_take (.agg #[.int .i64 up, .int .i64 ul, .int .i64 ue]) nl1 rfl (Lex.want_none rfl) (by intro Wx hSw; (try dsimp only at hSw); go_simp; (try (first | (with_reducible rfl) | assumption | rfl))) ?_
    simp only [Act.put, List.setIfInBounds_toArray, List.set_cons_zero, List.set_cons_succ]
    refine Lex.step_call nl2 rfl (Lex.want_none rfl) (fun K hK => ?_)
    go_simp
    have y0 := hI.y.c0
    have y1 := hI.y.c1
    have y2 := hI.y.c2
    have y3 := hI.y.c3
    have y4 := hI.y.c4
    have yf := hI.y.f
    go_simp
    clear y0 y1 y2 y3 y4 yf
    have hb := but5 wz gy (.slice A0 n0 c0) (.slice B0 m0 k0) (.bool dd0) (.int .i64 lf0) (.int .i64 ds0)
    have hx2 := hI.x.but hb (by omega)
    have hm2 := hmz.but hb (by omega)
    have hz2 := hI.z.but hb (by omega)
    have hy2 := hI.y.set (.slice A0 n0 c0) (.slice B0 m0 k0) (.bool dd0) (.int .i64 lf0) (.int .i64 ds0)
    have hd2 := dev_box hI.d hdn hI.y (.slice A0 n0 c0) (.slice B0 m0 k0) (.bool dd0) (.int .i64 lf0) (.int .i64 ds0)
    have hB2 := below_box5 hI.B hwy (.slice A0 n0 c0) (.slice B0 m0 k0) (.bool dd0) (.int .i64 lf0) (.int .i64 ds0)
    clear hb hI
    generalize (((((wz).setCell ⟨gy, 0, none⟩ (.slice A0 n0 c0)).setCell ⟨gy, 1, none⟩ (.slice B0 m0 k0)).setCell ⟨gy, 2, none⟩ (.bool dd0)).setCell ⟨gy, 3, none⟩ (.int .i64 lf0)).setCell ⟨gy, 4, none⟩ (.int .i64 ds0) = w2 at hx2 hm2 hz2 hy2 hd2 hB2 ⊢
    refine hK.out _ _ _ (fun _ h => h) ⟨hx2.c0, hx2.c1, hx2.c2, hx2.c3, hx2.c4, hm2.c0, hm2.c1, hm2.c2⟩ ?_
    clear hK K
    try simp only [Act.put, List.setIfInBounds_toArray, List.set_cons_zero, List.set_cons_succ]
    refine Lex.step_call nl3 rfl (Lex.want_none rfl) (fun K hK => ?_)
    go_simp
    have z0 := hz2.c0
    have z1 := hz2.c1
    have z2 := hz2.c2
    have zf := hz2.f
    go_simp
    clear z0 z1 z2 zf
    have hb := but3 w2 gz ⟨up, ul, ue⟩
    have hx3 := hx2.but hb (by omega)
    have hm3 := hm2.but hb (by omega)
    have hy3 := hy2.but hb (by omega)
    have hz3 := hz2.put ⟨up, ul, ue⟩
    have hd3 := dev_put hd2 hdn hz2 ⟨up, ul, ue⟩
    have hB3 := below_putH hB2 hwz ⟨up, ul, ue⟩
    clear hb hx2 hm2 hy2 hz2 hd2 hB2
    generalize (((w2).setCell ⟨gz, 0, none⟩ (.int .i64 up)).setCell ⟨gz, 1, none⟩ (.int .i64 ul)).setCell ⟨gz, 2, none⟩ (.int .i64 ue) = w3 at hx3 hm3 hz3 hy3 hd3 hB3 ⊢
    refine hK.out _ _ _ (fun _ h => h) ⟨hx3.c0, hx3.c1, hx3.c2, hx3.c3, hx3.c4, hm3.c0, hm3.c1, hm3.c2⟩ ?_
    clear hK K
    try simp only [Act.put, List.setIfInBounds_toArray, List.set_cons_zero, List.set_cons_succ]
    refine Lex.step_take (.int .i64 0) nl4 rfl (Lex.want_none rfl) (by intro Wx hSw; (try dsimp only at hSw); go_simp; (try (first | (with_reducible rfl) | assumption | rfl))) ?_
    simp only [Act.put, List.setIfInBounds_toArray, List.set_cons_zero, List.set_cons_succ]
    refine NoPanic.normal ?_
    go_wp2
    refine bodyPost_ret (results_d3 rfl _ _ gy gz _ _ _ _ _ _ _ _ rfl rfl hy3.c0 hy3.c1 hy3.c2 hy3.c3 hy3.c4 hz3.c0 hz3.c1 hz3.c2) rfl ?_
    rw [HE.out]
    exact ⟨_, rfl, hd3, hB3⟩
end Go.Proofs.YtcgkbcgpnlogoaaGreatDoor.Hd
