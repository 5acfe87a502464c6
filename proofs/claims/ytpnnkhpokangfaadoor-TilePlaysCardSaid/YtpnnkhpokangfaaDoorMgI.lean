/- Texts TiI, TiJ, TiW, one behind the other. -/
import Derived.Test.YtpnnkhpokangfaaDoorTiH
import Derived.Laws.OwnMore
/- Tiles, the document's calls: a row. -/
namespace Go.Proofs.YtpnnkhpokangfaaDoor.Ti
open Go.RowKit Pac Va Sc Mi Sp Ro Lex

theorem rowPost_none {w w' : World} (hB : Below w.heap.size w w') : RowPost (none : Option (List V)) w (.returned (.tuple #[.slice none 0 0, .bool false])) w' := ⟨none, 0, 0, rfl, rfl, Li.HasL.nil _ _ _, hB⟩
theorem rowPost_some {x : List V} {w w' : World} {sv : Value} {base : Nat} (hown : w'.ownsRow base 37 3 sv x.length (Li.cellsL cellsV x)) (hB : Below w.heap.size w w') : RowPost (some x) w (.returned (.tuple #[sv, .bool true])) w' := by
 obtain ⟨A, c, rfl, _, hl⟩ := Li.list_of_own cellsV_len hown rfl
 exact ⟨A, x.length, c, rfl, rfl, hl.lower (Nat.zero_le _), hB⟩
set_option maxRecDepth 20000 in
set_option maxHeartbeats 3200000 in
theorem refRow_any {nm : ByteArray} {cs : List C} {A : Option Addr} {mc cp : Nat} {w : World} {X : Nat → Prop} {t : TV} {r : R} (s : Int) (hS : HasSch w A mc cp nm cs) (hT : HasU cs w X t r) (h0 : -9223372036854775808 ≤ s) (h1 : s ≤ 9223372036854775807) :
  Calls Tryd.prog 21 #[.agg #[.string nm, .slice A mc cp], t.v, .int .i64 s] w (RowPost (rowR r s) w) := by
 obtain ⟨iV, hiV, hv0, hv1, hv2⟩ := info_parts infoV
 have hb1 := (Below.refl w.heap.size w).alloc (Nat.le_refl _) (.cells #[.string nm, .slice A mc cp] 24)
 have hx0 := Box2.new w (.string nm) (.slice A mc cp) 24
 have hb2 := hb1.alloc hb1.size (.cells #[.slice t.A t.n t.c, .int .i64 t.m, .slice t.B t.n t.d] 32)
 have hx1 := Sc.Box3.new (w.alloc (.cells #[.string nm, .slice A mc cp] 24)) (.slice t.A t.n t.c) (.int .i64 t.m) (.slice t.B t.n t.d) 32
 have hx0 := hx0.alloc (.cells #[.slice t.A t.n t.c, .int .i64 t.m, .slice t.B t.n t.d] 32)
 rw [show (w.alloc (.cells #[.string nm, .slice A mc cp] 24)).heap.size = w.heap.size + 1 by simp] at hx1
 have hS0 := hS.below hb2 (Nat.le_refl _)
 have hT0 := hT.below hb2 (Nat.le_refl _)
 have HN := Lib.hid (fun (W : World) (h : rowR r s = none) => (show Below w.heap.size w W → RowPost (rowR r s) w (.returned (.tuple #[.slice none 0 0, .bool false])) W from by rw [h]; exact rowPost_none))
 have HP := Lib.hid (fun (x : List V) (sv : Value) (base : Nat) (W : World) (h : rowR r s = some x) => (show W.ownsRow base 37 3 sv x.length (Li.cellsL cellsV x) → Below w.heap.size w W → RowPost (rowR r s) w (.returned (.tuple #[sv, .bool true])) W from by rw [h]; exact rowPost_some))
 generalize RowPost (rowR r s) w = post at HP HN ⊢
 have hcC := fun (W : World) (hS : HasSch W A mc cp nm cs) (h : HasU cs W X t r) (c : Int) h2 h3 => refCell_any (w := W) (t := t) s c hS h h0 h1 h2 h3
 have hn8 := hT.s.n8
 have hn1 := hT.s.n1
 rw [hS.n] at hn8 hn1
 obtain ⟨tA, n, c0, m, tB, d0⟩ := t
 unfold TV.v at hcC ⊢
 simp only at hcC hx0 hx1 hb2 hS0 hT0 ⊢
 have HT := Lib.hid hT0
 have HS := Lib.hid hS0
 clear hT hS hT0 hS0 hb1
 go_enter Tryd.func21, Tryd.ntmps21
 go_wp2
 generalize (w.alloc (.cells #[.string nm, .slice A mc cp] 24)).alloc (.cells #[.slice tA n c0, .int .i64 m, .slice tB n d0] 32) = w3 at hx0 hx1 hb2 HT HS ⊢
 cases htk : takenB r s with
 | false =>
  have HR : Hid (rowR r s = none) := Lib.hid (by unfold rowR; rw [if_neg (by rw [htk]; decide)])
  have hc := hcC w3 HS.out HT.out 0 (by decide) (by decide)
  have hcn : cellR cs r s 0 = none := by unfold cellR; rw [if_neg (fun h => by rw [htk] at h; cases h.1)]
  rw [hcn] at hc
  clear htk hcn
  go_loopw [8, 9] (fun x i wr => x = .slice none 0 0 ∧ i = .int .i64 0 ∧ w3 = wr) (fun _ _ _ => 0)
  case atStart => exact ⟨rfl, rfl, rfl⟩
  case round =>
   obtain ⟨rfl, rfl, rfl⟩ := hrel
   have x01 := hx0.c1
   have x00 := hx0.c0
   have x10 := hx1.c0
   have x11 := hx1.c1
   have x12 := hx1.c2
   have i1 : (0 : Int) < (mc : Int) := by omega
   go_wp2_with fail
   refine hc.mono ?_
   rintro e w4 ⟨rfl, hw4⟩
   have HB := Lib.hid (HN.out (w4.alloc (.cells #[.int .i64 0, .int .i64 0, .string ⟨#[]⟩] 37)) HR.out ((hb2.trans (hw4.mono hb2.size)).alloc (Nat.le_trans hb2.size hw4.size) _))
   clear hc hw4 x01 x00 x10 x11 x12
   go_wp2
   exact HB.out
 | true =>
  obtain ⟨s0, s8, hsf⟩ := taken_in htk
  obtain ⟨j, rfl⟩ : ∃ j : Nat, s = (j : Int) := ⟨s.toNat, by omega⟩
  obtain ⟨xr, hxr⟩ : ∃ xr, r.M[j]? = some xr := ⟨_, List.getElem?_eq_getElem (by rw [HT.out.rm.len]; omega)⟩
  have hxl : xr.length = cs.length := by rw [HT.out.rm.row xr (List.mem_of_getElem? hxr), allK_len]
  rw [HS.out.n] at hxl
  have HR : Hid (rowR r (j : Int) = some xr) := Lib.hid (by unfold rowR; rw [if_pos htk, Int.toNat_natCast]; exact hxr)
  have HC : Hid (∀ (q : Nat) (v : V), xr[q]? = some v → cellR cs r (j : Int) (q : Int) = some v) := Lib.hid (fun q v hq => by
   have hql := (List.getElem?_eq_some_iff.1 hq).1
   have hcl := HS.out.n
   unfold cellR
   rw [if_pos ⟨htk, by omega, by omega⟩, Int.toNat_natCast, Int.toNat_natCast, hxr, Option.getD_some, hq]
   rfl)
  have HXL := Lib.hid hxl
  clear htk hsf hxr hxl
  go_loopw [8, 9] (fun x i wr => ∃ (q : Nat) (sv : Value), q ≤ mc ∧ i = .int .i64 q ∧ x = sv ∧ wr.ownsRow w3.heap.size 37 3 sv q (Li.cellsL cellsV (xr.take q)) ∧ Below w3.heap.size w3 wr) (fun _ i _ => mc - (intOf i).toNat)
  case atStart => exact ⟨0, _, Nat.zero_le _, rfl, rfl, by simpa [Li.cellsL] using World.ownsRow_nil _ _ _ _, Below.refl _ _⟩
  case round =>
   obtain ⟨q, sv, hq, rfl, rfl, hown, hB⟩ := hrel
   have hx0q := hx0.below hB hx0.lt
   have hx1q := hx1.below hB hx1.lt
   have x01 := hx0q.c1
   have x00 := hx0q.c0
   have x10 := hx1q.c0
   have x11 := hx1q.c1
   have x12 := hx1q.c2
   by_cases hlt : q < mc
   ·have i1 : (q : Int) < (mc : Int) := by omega
    have hxq : xr[q]? = some (xr[q]'(by rw [HXL.out]; exact hlt)) := List.getElem?_eq_getElem _
    generalize (xr[q]'(by rw [HXL.out]; exact hlt)) = v at hxq
    have hc := hcC wr (HS.out.below hB (Nat.le_refl _)) (HT.out.below hB (Nat.le_refl _)) (q : Int) (by omega) (by omega)
    rw [HC.out q v hxq] at hc
    have HTK : Hid (xr.take (q + 1) = xr.take q ++ [v]) := Lib.hid (by rw [List.take_add_one, hxq]; rfl)
    obtain ⟨vk, vn, vs⟩ := v
    clear hxq
    go_wp2_with fail
    refine hc.mono ?_
    rintro e w4 ⟨rfl, hw4⟩
    have hB4 := hB.trans (hw4.mono hB.size)
    have hown4 := Li.own_below hown hw4 (Nat.le_refl _)
    have HW := Lib.hid (And.intro ((hown4.alloc (.cells #[.int .i64 vk, .int .i64 vn, .string vs] 37)).alloc (.cells #[.int .i64 vk, .int .i64 vn, .string vs] 37)) (And.intro ((hB4.alloc hB4.size (.cells #[.int .i64 vk, .int .i64 vn, .string vs] 37)).alloc (Nat.le_trans hB4.size (by simp)) (.cells #[.int .i64 vk, .int .i64 vn, .string vs] 37)) (heap_alloc_new (w4.alloc (.cells #[.int .i64 vk, .int .i64 vn, .string vs] 37)) (.cells #[.int .i64 vk, .int .i64 vn, .string vs] 37))))
    clear hc hw4 hown hown4 hB hB4 x01 x00 x10 x11 x12 hx0q hx1q
    go_wp2_with (at_builtin; go_must (refine wpList_append_own _ rfl _ _ 35 rfl w3.heap.size 37 iV (.agg #[.int .i64 0, .int .i64 0, .string ⟨#[]⟩]) 3 32 Tryd.underlying35 hiV hv0 hv1 hv2 rfl (by decide) u8 q (Li.cellsL cellsV (xr.take q)) rfl HW.out.1 ⟨(w4.alloc (.cells #[.int .i64 vk, .int .i64 vn, .string vs] 37)).heap.size, 0, none⟩ 1 1 [.int .i64 vk, .int .i64 vn, .string vs] (by go_simp) rfl (World.news_of_block HW.out.2.2) (by simp [Value.oneCell']) (by unfold maxLen; omega) (by omega) HW.out.2.1.size ?_))
    intro v5 y5 hown5 hgrow5 _
    obtain ⟨hownW, hbW, hnW⟩ := HW.out
    have hB5 := hbW.grown hgrow5 hbW.size (fun k hk => (hownW.lt k hk).1)
    clear hownW hbW hnW hgrow5 HW
    go_wp2
    go_roundw
    case rel =>
     refine ⟨q + 1, _, by omega, by go_num, rfl, ?_, hB5⟩
     rw [HTK.out, Li.cellsL_snoc]
     exact hown5
    case measure => simp [intOf]; omega
   ·obtain rfl : q = mc := by omega
    rw [List.take_of_length_le (by rw [HXL.out]; exact Nat.le_refl _)] at hown
    have HE := Lib.hid (HP.out xr _ w3.heap.size wr HR.out (by rw [HXL.out]; exact hown) (hb2.trans (hB.mono hb2.size)))
    clear hown
    go_wp2
    exact HE.out
end Go.Proofs.YtpnnkhpokangfaaDoor.Ti

/- Rows that lie apart, one cell of them set; texts in a row, one of them set; a tile's box given back. -/
namespace Go.Proofs.YtpnnkhpokangfaaDoor.Ti
open Go.RowKit Pac Va Sc Mi Sp Ro Lex

/-- A value stored, cell by cell. -/
def putV (w : World) (b o : Nat) (v : V) : World := ((w.setCell ⟨b, o, none⟩ (.int .i64 v.k)).setCell ⟨b, o + 1, none⟩ (.int .i64 v.n)).setCell ⟨b, o + 2, none⟩ (.string v.s)
theorem putV_size (w : World) (b o : Nat) (v : V) : (putV w b o v).heap.size = w.heap.size := by unfold putV; simp
theorem putV_other {w : World} {b o : Nat} {v : V} {b' o' : Nat} (h : b' ≠ b ∨ o' < o ∨ o + 3 ≤ o') : (putV w b o v).cell? ⟨b', o', none⟩ = w.cell? ⟨b', o', none⟩ := by
 have hne : ∀ i, i < 3 → (⟨b, o + i, none⟩ : Addr) ≠ ⟨b', o', none⟩ := fun i hi e => by
  injection e with e1 e2
  rcases h with h | h
  ·exact h e1.symm
  ·omega
 unfold putV
 rw [World.cell?_setCell_other _ _ _ _ (hne 2 (by omega)), World.cell?_setCell_other _ _ _ _ (hne 1 (by omega))]
 exact World.cell?_setCell_other _ _ _ _ (hne 0 (by omega))
theorem putV_at {w : World} {b o : Nat} {v : V} {u0 u1 u2 : Value} (h0 : w.cell? ⟨b, o, none⟩ = some u0) (h1 : w.cell? ⟨b, o + 1, none⟩ = some u1) (h2 : w.cell? ⟨b, o + 2, none⟩ = some u2) : ∀ (i : Nat) (u : Value), (cellsV v)[i]? = some u → (putV w b o v).cell? ⟨b, o + i, none⟩ = some u := fun i u hi => by
 have n01 : (⟨b, o, none⟩ : Addr) ≠ ⟨b, o + 1, none⟩ := fun e => by injection e with _ e2; omega
 have n02 : (⟨b, o, none⟩ : Addr) ≠ ⟨b, o + 2, none⟩ := fun e => by injection e with _ e2; omega
 have n12 : (⟨b, o + 1, none⟩ : Addr) ≠ ⟨b, o + 2, none⟩ := fun e => by injection e with _ e2; omega
 unfold putV
 match i, hi with
 | 0, hi =>
  injection hi with hi
  subst hi
  show World.cell? _ ⟨b, o, none⟩ = _
  rw [World.cell?_setCell_other _ _ _ _ n02.symm, World.cell?_setCell_other _ _ _ _ n01.symm]
  exact World.cell?_setCell_same _ _ _ h0
 | 1, hi =>
  injection hi with hi
  subst hi
  rw [World.cell?_setCell_other _ _ _ _ n12.symm]
  exact World.cell?_setCell_same _ _ _ ((World.cell?_setCell_other _ _ _ _ n01).trans h1)
 | 2, hi =>
  injection hi with hi
  subst hi
  exact World.cell?_setCell_same _ _ _ ((World.cell?_setCell_other _ _ _ _ n12).trans ((World.cell?_setCell_other _ _ _ _ n02).trans h2))
 | i + 3, hi => exact absurd hi (by simp [cellsV])
theorem putV_below {B b : Nat} {w w' : World} (h : Below B w w') (hb : B ≤ b) (o : Nat) (v : V) : Below B w (putV w' b o v) :=
 ((h.setCell (p := ⟨b, o, none⟩) hb _).setCell (p := ⟨b, o + 1, none⟩) hb _).setCell (p := ⟨b, o + 2, none⟩) hb _
/-- One cell set of rows that lie apart. -/
theorem free_set {w : World} {lo m j k b o : Nat} {A : Option Addr} {hs : List (Li.Gr V)} {x : Li.Gr V} {v : V} (h : Li.HasL Li.cellsG 1 w lo A hs) (hI : ∀ x ∈ hs, HasV w lo x.A x.l ∧ x.l.length ≤ x.cp) (hF : FreeM w A m hs) (hm : ∀ x ∈ hs, x.l.length = m) (hx : hs[j]? = some x) (hA : x.A = some ⟨b, o, none⟩) (hk : k < m) :
  HasVV (putV w b (o + k * 3) v) lo A ((hs.map Li.Gr.l).set j (x.l.set k v)) := by
 have hxm := hm x (List.mem_of_getElem? hx)
 have hjl := (List.getElem?_eq_some_iff.1 hx).1
 obtain ⟨bt, ot, hAt, hfr⟩ := hF
 obtain ⟨b1, o1, e1, hbt, _, hap⟩ := hfr j x hx
 rw [hA] at e1
 injection e1 with e1
 injection e1 with e1 e2
 subst e1 e2
 refine ⟨hs.set j ⟨x.A, x.cp, x.l.set k v⟩, by rw [List.map_set], fun hn => ?_, fun y hy => ?_⟩
 ·obtain ⟨b', o', hA', hlo, hlt, hc⟩ := h (fun e => by rw [e] at hx; simp at hx)
  rw [hAt] at hA'
  injection hA' with hA'
  injection hA' with e1 e2
  subst e1 e2
  refine ⟨bt, ot, hAt, hlo, by rw [putV_size]; exact hlt, fun q y hq i u hu => ?_⟩
  rw [putV_other (Or.inl (Ne.symm hbt))]
  by_cases hqj : q = j
  ·subst hqj
   rw [List.getElem?_set_self hjl] at hq
   injection hq with hq
   subst hq
   refine hc q x hx i u ?_
   rw [← hu]
   unfold Li.cellsG
   simp
  ·rw [List.getElem?_set_ne (Ne.symm hqj)] at hq
   exact hc q y hq i u hu
 ·obtain ⟨q, hq⟩ := List.mem_iff_getElem?.1 hy
  by_cases hqj : q = j
  ·subst hqj
   rw [List.getElem?_set_self hjl] at hq
   injection hq with hq
   subst hq
   have hxi := hI x (List.mem_of_getElem? hx)
   refine ⟨fun hn => ?_, by rw [List.length_set]; exact hxi.2⟩
   obtain ⟨b', o', hA', hlo, hlt, hc⟩ := hxi.1 (fun e => by rw [e] at hxm; simp at hxm; omega)
   rw [hA] at hA'
   injection hA' with hA'
   injection hA' with e1 e2
   subst e1 e2
   refine ⟨b, o, hA, hlo, by rw [putV_size]; exact hlt, fun q' y hq' i u hu => ?_⟩
   have hi3 : i < 3 := by
    have := (List.getElem?_eq_some_iff.1 hu).1
    rw [cellsV_len] at this
    exact this
   by_cases hqk : q' = k
   ·subst hqk
    rw [List.getElem?_set_self (by omega)] at hq'
    injection hq' with hq'
    subst hq'
    have hxk : x.l[q']? = some (x.l[q']'(by omega)) := List.getElem?_eq_getElem _
    have g0 := hc q' _ hxk 0 _ rfl
    have g1 := hc q' _ hxk 1 _ rfl
    have g2 := hc q' _ hxk 2 _ rfl
    exact putV_at g0 g1 g2 i u hu
   ·rw [List.getElem?_set_ne (Ne.symm hqk)] at hq'
    rw [putV_other (Or.inr (by rcases Nat.lt_or_gt_of_ne hqk with h1 | h1 <;> omega))]
    exact hc q' y hq' i u hu
  ·rw [List.getElem?_set_ne (Ne.symm hqj)] at hq
   have hyi := hI y (List.mem_of_getElem? hq)
   have hym := hm y (List.mem_of_getElem? hq)
   refine ⟨fun hn => ?_, hyi.2⟩
   obtain ⟨b', o', hA', hlo, hlt, hc⟩ := hyi.1 hn
   refine ⟨b', o', hA', hlo, by rw [putV_size]; exact hlt, fun q' z hq' i u hu => ?_⟩
   have hq'l := (List.getElem?_eq_some_iff.1 hq').1
   have hi3 : i < 3 := by
    have := (List.getElem?_eq_some_iff.1 hu).1
    rw [cellsV_len] at this
    exact this
   rw [putV_other (by
    rcases hap q y hq (Ne.symm hqj) b' o' hA' with h1 | h1 | h1
    ·exact Or.inl (Ne.symm h1)
    ·exact Or.inr (by omega)
    ·exact Or.inr (by omega))]
   exact hc q' z hq' i u hu
/-- One text set. -/
theorem HasS.set {w : World} {b o : Nat} {l : List ByteArray} (h : HasS w (some ⟨b, o, none⟩) l) {i : Nat} (s : ByteArray) : HasS (w.setCell ⟨b, o + i, none⟩ (.string s)) (some ⟨b, o, none⟩) (l.set i s) := fun hn => by
 obtain ⟨b', o', hA, hlo, hlt, hc⟩ := h (fun e => hn (by rw [e]; rfl))
 injection hA with hA
 injection hA with e1 e2
 subst e1 e2
 refine ⟨b, o, rfl, hlo, by simpa using hlt, fun j x hj q u hu => ?_⟩
 have hq0 : q = 0 := by
  have := (List.getElem?_eq_some_iff.1 hu).1
  rw [cellsS_len] at this
  omega
 subst hq0
 rw [Nat.mul_one, Nat.add_zero]
 by_cases hji : j = i
 ·subst hji
  have hjl := (List.getElem?_eq_some_iff.1 hj).1
  rw [List.length_set] at hjl
  rw [List.getElem?_set_self hjl] at hj
  injection hj with hj
  subst hj
  have h1 := hc j _ (List.getElem?_eq_getElem hjl) 0 _ rfl
  rw [Nat.mul_one, Nat.add_zero] at h1
  rw [World.cell?_setCell_same _ _ _ h1]
  exact hu
 ·rw [List.getElem?_set_ne (Ne.symm hji)] at hj
  have h1 := hc j x hj 0 u hu
  rw [Nat.mul_one, Nat.add_zero] at h1
  rw [World.cell?_setCell_other _ _ _ _ (fun e => by injection e with _ e2; omega)]
  exact h1
theorem news_of {α : Type} {R : α → List Value} {k : Nat} (hk : 0 < k) (hR : ∀ x, (R x).length = k) {W : World} {lo b o : Nat} {l : List α} (h : Li.HasL R k W lo (some ⟨b, o, none⟩) l) : ∀ (t : Nat) (u : Value), (Li.cellsL R l)[t]? = some u → W.cell? ((⟨b, o, none⟩ : Addr).add t) = some u := fun t u hu => by
 have ht := (List.getElem?_eq_some_iff.1 hu).1
 rw [Li.cellsL_len hR] at ht
 have htk : t / k < l.length := Nat.div_lt_of_lt_mul (by rw [Nat.mul_comm]; exact ht)
 have hx : l[t / k]? = some (l[t / k]'htk) := List.getElem?_eq_getElem _
 generalize (l[t / k]'htk) = x at hx
 have hmk : t % k < (R x).length := by rw [hR]; exact Nat.mod_lt _ hk
 have hi : (R x)[t % k]? = some ((R x)[t % k]'hmk) := List.getElem?_eq_getElem _
 generalize ((R x)[t % k]'hmk) = y at hi
 have e : t / k * k + t % k = t := by rw [Nat.mul_comm]; exact Nat.div_add_mod t k
 have h1 := Li.cellsL_at hR l _ x hx _ y hi
 rw [e, hu] at h1
 injection h1 with h1
 subst h1
 obtain ⟨b', o', hA, _, _, hc⟩ := h (fun e => by rw [e] at hx; simp at hx)
 injection hA with hA
 injection hA with e1 e2
 subst e1 e2
 have h2 := hc _ x hx _ u hi
 rw [Nat.add_assoc, e] at h2
 have hadd : (⟨b, o, none⟩ : Addr).add t = ⟨b, o + t, none⟩ := by unfold Addr.add; split <;> simp_all
 rw [hadd]
 exact h2
theorem cellsS_one (l : List ByteArray) : ∀ u ∈ Li.cellsL cellsS l, u.oneCell' = true := fun u hu => by
 unfold Li.cellsL at hu
 obtain ⟨x, _, hx⟩ := List.mem_flatMap.1 hu
 unfold cellsS at hx
 rw [List.mem_singleton] at hx
 subst hx
 rfl
theorem minis_len (cs : List C) (r : R) : (minis cs r).length = r.l.length := by unfold minis; simp
theorem results_tile2 {fn : Func} {p q : Tmp} (h : fn.results = #[.cell p 32, .tmp q]) (tmps : Array Value) (w : World) (g : Nat) (v0 v1 v2 : Value)
  (hp : tmps.getD p undef = .pointer (some ⟨g, 0, none⟩)) (c0 : w.cell? ⟨g, 0, none⟩ = some v0) (c1 : w.cell? ⟨g, 1, none⟩ = some v1) (c2 : w.cell? ⟨g, 2, none⟩ = some v2) :
  (results fn tmps).run Tryd.prog w = .ok (.tuple #[.agg #[v0, v1, v2], tmps.getD q undef]) w := by
 have hp' : tmps[p]?.getD undef = .pointer (some ⟨g, 0, none⟩) := by simpa using hp
 clear hp
 simp only [results, h]
 go_simp
/-- A tile with one text set, in a row of its own. -/
theorem HasU.put {cs : List C} {w w' : World} {X : Nat → Prop} {t : TV} {r : R} {i k s c b d : Nat} {kd : Int} {g : List Int} {x : List V} {v : V} (h : HasU cs w X t r) (hw : Below w.heap.size w w') (hg : r.l[i]? = some g) (hk : g[k]? = some (c : Int)) (hx : r.M[s]? = some x) (hkd : (allK cs)[c]? = some kd) (hv : CellOk (kd, v))
  (hm : HasS w' (some ⟨b, 0, none⟩) ((minis cs r).set i (printM (kindsL cs g) ((gcells g r.M).set s ((g.map (cellAt x)).set k v))))) (hX : X b) (hd : t.n ≤ d) :
  HasU cs w' X ⟨t.A, t.n, t.c, t.m, some ⟨b, 0, none⟩, d⟩ { r with M := setM r.M s c v } := by
 have hmi := minis_set (v := v) h.s h.rm hg hk hx
 refine ⟨h.sp.below hw (Nat.le_refl _), by rw [hmi]; exact hm, fun _ b' o' s' e => ?_, h.n, h.c, hd, h.m, h.s, setM_right h.rm hkd hv⟩
 injection e with e
 injection e with e1 _ _
 subst e1
 exact hX
end Go.Proofs.YtpnnkhpokangfaaDoor.Ti

/- Tiles, the document's calls: a cell set. -/
namespace Go.Proofs.YtpnnkhpokangfaaDoor.Ti
open Go.RowKit Pac Va Sc Mi Sp Ro Lex

theorem infoS : (Tryd.prog.info? 9).map (fun i => (i.zero, i.size, i.bytes)) = some (some (.string ⟨#[]⟩), 1, 16) := by kernel_rfl
/-- A tile of these cells, and that it could be. -/
def PutPost (cs : List C) (X : Nat → Prop) (r : R) (w : World) (e : Ending) (w' : World) : Prop :=
 ∃ t : TV, e = .returned (.tuple #[t.v, .bool true]) ∧ HasU cs w' X t r ∧ Below w.heap.size w w'
set_option maxRecDepth 20000 in
set_option maxHeartbeats 6400000 in
theorem refPut_any {nm : ByteArray} {cs : List C} {A : Option Addr} {mc cp j cn : Nat} {kd : Int} {v : V} {w : World} {X : Nat → Prop} {t : TV} {r : R} (hX : ∀ b, w.heap.size ≤ b → X b) (hS : HasSch w A mc cp nm cs) (hT : HasU cs w X t r) (hj : j < 8) (hkd : (allK cs)[cn]? = some kd) (hv : CellOk (kd, v)) :
  Calls Tryd.prog 42 #[.agg #[.string nm, .slice A mc cp], t.v, .int .i64 (j : Int), .int .i64 (cn : Int), v.v] w (PutPost cs X { r with M := setM r.M j cn v } w) := by
 obtain ⟨iS, hiS, hs0, hs1, hs2⟩ := info_parts infoS
 obtain ⟨vk, vn, vs⟩ := v
 have hcn : cn < cs.length := by have := (List.getElem?_eq_some_iff.1 hkd).1; rwa [allK_len] at this
 have hcs8 : cs.length ≤ 8 := hT.s.n8
 have hb1 := (Below.refl w.heap.size w).alloc (Nat.le_refl _) (.cells #[.string nm, .slice A mc cp] 24)
 have hx0 := Box2.new w (.string nm) (.slice A mc cp) 24
 generalize hw1 : w.alloc (.cells #[.string nm, .slice A mc cp] 24) = w1 at hb1 hx0
 have hz1 : w1.heap.size = w.heap.size + 1 := by rw [← hw1]; simp
 have hb2 := hb1.alloc hb1.size (.cells #[.slice t.A t.n t.c, .int .i64 t.m, .slice t.B t.n t.d] 32)
 have hx1 := Sc.Box3.new w1 (.slice t.A t.n t.c) (.int .i64 t.m) (.slice t.B t.n t.d) 32
 have hx0 := hx0.alloc (.cells #[.slice t.A t.n t.c, .int .i64 t.m, .slice t.B t.n t.d] 32)
 generalize hw2 : w1.alloc (.cells #[.slice t.A t.n t.c, .int .i64 t.m, .slice t.B t.n t.d] 32) = w2 at hb2 hx0 hx1
 have hz2 : w2.heap.size = w.heap.size + 1 + 1 := by rw [← hw2, ← hz1]; simp
 have hb3 := hb2.alloc hb2.size (.cells #[.int .i64 vk, .int .i64 vn, .string vs] 37)
 have hx2 := Sc.Box3.new w2 (.int .i64 vk) (.int .i64 vn) (.string vs) 37
 have hx0 := hx0.alloc (.cells #[.int .i64 vk, .int .i64 vn, .string vs] 37)
 have hx1 := hx1.alloc (.cells #[.int .i64 vk, .int .i64 vn, .string vs] 37)
 generalize hw3 : w2.alloc (.cells #[.int .i64 vk, .int .i64 vn, .string vs] 37) = w3 at hb3 hx0 hx1 hx2
 have hz3 : w3.heap.size = w.heap.size + 1 + 1 + 1 := by rw [← hw3, ← hz2]; simp
 have hb4 := hb3.alloc hb3.size (.cells #[.slice none 0 0, .int .i64 0, .slice none 0 0] 32)
 have hx3 := Sc.Box3.new w3 (.slice none 0 0) (.int .i64 0) (.slice none 0 0) 32
 have hx0 := hx0.alloc (.cells #[.slice none 0 0, .int .i64 0, .slice none 0 0] 32)
 have hx1 := hx1.alloc (.cells #[.slice none 0 0, .int .i64 0, .slice none 0 0] 32)
 have hx2 := hx2.alloc (.cells #[.slice none 0 0, .int .i64 0, .slice none 0 0] 32)
 generalize hw4 : w3.alloc (.cells #[.slice none 0 0, .int .i64 0, .slice none 0 0] 32) = w4 at hb4 hx0 hx1 hx2 hx3
 rw [hz1] at hx1
 rw [hz2] at hx2
 rw [hz3] at hx3
 have hPP : ∀ (u : TV) (W : World), HasU cs W X u { r with M := setM r.M j cn ⟨vk, vn, vs⟩ } → Below w.heap.size w W → PutPost cs X { r with M := setM r.M j cn ⟨vk, vn, vs⟩ } w (.returned (.tuple #[.agg #[.slice u.A u.n u.c, .int .i64 u.m, .slice u.B u.n u.d], .bool true])) W := fun u W h hB => ⟨u, rfl, h, hB⟩
 have HP := Lib.hid hPP
 have HO := Lib.hid (And.intro hT (And.intro hS (And.intro hX (And.intro hkd hv))))
 clear hPP hb1 hb2 hb3 hX hv
 generalize PutPost cs X { r with M := setM r.M j cn ⟨vk, vn, vs⟩ } w = post at HP ⊢
 have hlen8 : r.l.length ≤ 8 := by have := hT.s.few; have := hT.s.n8; omega
 have hcF := refFind_any t.A t.c r.l (cn : Int) 0 _ (hT.below hb4 (Nat.le_refl _)).sp.ll (by omega) (fun g hg => by have := grp_len hT.s hg; omega)
 rw [hT.n] at hcF
 obtain ⟨tA, n, c0, m, tB, d0⟩ := t
 show Calls Tryd.prog 42 #[.agg #[.string nm, .slice A mc cp], .agg #[.slice tA n c0, .int .i64 m, .slice tB n d0], .int .i64 (j : Int), .int .i64 (cn : Int), .agg #[.int .i64 vk, .int .i64 vn, .string vs]] w post
 simp only at hcF hx0 hx1 hx2 hx3 hb4 hw2
 have c0' := hx1.c0
 have s8 : (j : Int) < 8 := by omega
 have s0 : (0 : Int) ≤ (j : Int) := by omega
 clear hT hS
 go_enter Tryd.func42, Tryd.ntmps42
 go_wp2_with fail
 refine hcF.mono ?_
 rintro e wx ⟨i, k, bb, rfl, hF1, hF0, hw5⟩
 have hx0 := hx0.below hw5 hx0.lt
 have hx1 := hx1.below hw5 hx1.lt
 have hx2 := hx2.below hw5 hx2.lt
 have hx3 := hx3.below hw5 hx3.lt
 have hB := hb4.trans (hw5.mono hb4.size)
 clear hcF hw5 hb4 c0' hw1 hw2 hw3 hw4 hz1 hz2 hz3
 obtain ⟨hT, hS, hX, hkd, hv⟩ := HO.out
 have hbt : bb = true := by
  cases bb with
  | true => rfl
  | false => exact absurd ⟨by omega, by omega⟩ (col_none hT.s (hF0 rfl).1)
 subst hbt
 obtain ⟨gg, hgi, hgk⟩ := atG_get (hF1 rfl)
 clear hF1 hF0
 have hgm := List.mem_of_getElem? hgi
 have hil : i < n := by
  have := (List.getElem?_eq_some_iff.1 hgi).1
  have := hT.n
  simp only at this
  omega
 have hml := hT.rm.len
 have hxr : r.M[j]? = some (r.M[j]'(by omega)) := List.getElem?_eq_getElem _
 generalize (r.M[j]'(by omega)) = xr at hxr
 obtain ⟨ba, oa, A2, cp2, hAe, _, _, f5w, hI, hcp2⟩ := hT.sp.ll.at hgi
 have hAe : tA = some ⟨ba, oa, none⟩ := hAe
 subst hAe
 have hI : Ro.HasI w 0 A2 gg := hI
 have hmi : (minis cs r)[i]? = some (printM (kindsL cs gg) (gcells gg r.M)) := by unfold minis; rw [List.getElem?_map, hgi]; rfl
 obtain ⟨bm, om, hBe, _, f6w⟩ := hT.mi.at' hmi
 have hBe : tB = some ⟨bm, om, none⟩ := hBe
 subst hBe
 have hG := grp_in hS.r hT.s hgm
 have hRM := gcells_right hT.rm hG.at'
 have hkl8 : (kindsL cs gg).length ≤ 8 := by rw [kinds_len]; exact hG.g8
 have hsz := (printM_le hRM hkl8).2
 have HRD : Hid (readM (kindsL cs gg) (printM (kindsL cs gg) (gcells gg r.M)) = some (gcells gg r.M)) := Lib.hid (read_print hRM)
 have hcR := fun (W : World) (hB : Below w.heap.size w W) => refRead_any nm A A2 cp cp2 cs gg (printM (kindsL cs gg) (gcells gg r.M)) 0 0 W (hS.below hB (Nat.le_refl _)).c (hI.below hB (Nat.le_refl _)) (by have := hG.len; omega) hG.at' hG.g1 hG.g8 (kinds_ok hG) (by omega)
 have hxl : xr.length = cs.length := by rw [hT.rm.row xr (List.mem_of_getElem? hxr), allK_len]
 have hmis := minis_set (v := ⟨vk, vn, vs⟩) hT.s hT.rm hgi hgk hxr
 have hRM2 : RightM (kindsL cs gg) ((gcells gg r.M).set j ((gg.map (cellAt xr)).set k ⟨vk, vn, vs⟩)) := by
  have h1 := gcells_right (setM_right hT.rm hkd hv (s := j)) hG.at'
  rwa [gcells_in hxr (by omega) (fun y hy => (hG.at' y hy).1) (group_in hT.s hgm).2.1 hgk] at h1
 have hcP := fun (W : World) (A3 : Option Addr) (cp3 lo : Nat) (hB : Below w.heap.size w W) (hVV : HasVV W lo A3 ((gcells gg r.M).set j ((gg.map (cellAt xr)).set k ⟨vk, vn, vs⟩))) => refPrint_any nm A A2 A3 cp cp2 cp3 cs gg _ 0 0 lo W (hS.below hB (Nat.le_refl _)).c (hI.below hB (Nat.le_refl _)) hVV (by have := hG.len; omega) hG.at' hG.g1 hG.g8 hRM2
 obtain ⟨p, hp⟩ : ∃ p, gg.length = p := ⟨_, rfl⟩
 have hkp : k < p := by
  have := (List.getElem?_eq_some_iff.1 hgk).1
  omega
 have HCP := Lib.hid hcP
 have HQ : Hid (∀ (W : World) (b d : Nat), Below w.heap.size w W → HasS W (some ⟨b, 0, none⟩) ((minis cs r).set i (printM (kindsL cs gg) ((gcells gg r.M).set j ((gg.map (cellAt xr)).set k ⟨vk, vn, vs⟩)))) → w.heap.size ≤ b → n ≤ d → HasU cs W X ⟨some ⟨ba, oa, none⟩, n, c0, m, some ⟨b, 0, none⟩, d⟩ { r with M := setM r.M j cn ⟨vk, vn, vs⟩ }) := Lib.hid (fun W b d hB hm hb hd => HasU.put hT hB hgi hgk hxr hkd hv hm (hX b hb) hd)
 have hn8 : n ≤ 8 := by have := hT.n; simp only at this; omega
 have hmi' : HasS w (some ⟨bm, om, none⟩) (minis cs r) := hT.mi
 have hmn : (minis cs r).length = n := by rw [minis_len]; exact hT.n
 have HMI := Lib.hid (And.intro hmi' (And.intro hmn hmi))
 have hj3 : (gcells gg r.M)[j]? = some (gg.map (cellAt xr)) := gcells_at hxr
 have hglen : (gcells gg r.M).length = 8 := by rw [gcells_len]; exact hml
 have hrow8 : ∀ x ∈ gcells gg r.M, x.length = p := fun x hx => by
  unfold gcells at hx
  obtain ⟨y, _, rfl⟩ := List.mem_map.1 hx
  rw [List.length_map, hp]
 generalize hty : printM (kindsL cs gg) (gcells gg r.M) = tx at hcR HRD f6w
 rw [hS.n] at hcR
 rw [hp] at hcR f5w hcp2
 have F5 := Lib.hid f5w
 have F6 := Lib.hid f6w
 have f1 := hx0.c0
 have f2 := hx0.c1
 have f3 := hx1.c0
 have f4 := hx1.c2
 have f5 := cell_below hB f5w
 have f6 := cell_below hB f6w
 have i1 : (i : Int) < (n : Int) := by omega
 have i0 : (0 : Int) ≤ (i : Int) := by omega
 have HGL := Lib.hid (And.intro hj3 (And.intro hrow8 (And.intro hp hS.n)))
 clear hG hRM hkl8 hsz hmi hgm hT hS hX hkd hv hml hxr hxl hmis hRM2 hcP hmi' hmn f5w f6w hI hgi hgk hj3 hglen hrow8 hty hp
 go_wp2
 refine Lex.region_lex (ops := ubops) (calls := ubcalls) ubord (fun W => W.cell? ⟨w.heap.size, 0, none⟩ = some (.string nm) ∧ W.cell? ⟨w.heap.size, 1, none⟩ = some (.slice A mc cp) ∧ W.cell? ⟨w.heap.size + 1, 0, none⟩ = some (.slice (some ⟨ba, oa, none⟩) n c0) ∧ W.cell? ⟨w.heap.size + 1, 2, none⟩ = some (.slice (some ⟨bm, om, none⟩) n d0) ∧ W.cell? ⟨ba, oa + i, none⟩ = some (.slice A2 p cp2) ∧ W.cell? ⟨bm, om + i, none⟩ = some (.string tx)) (by kernel_rfl) (by kernel_rfl) ubsel (by kernel_rfl) (by kernel_rfl) ublex (⟨f1, f2, f3, f4, f5, f6⟩) ?_
 unfold ubord
 have hx0 := hx0.drew
 have hx1 := hx1.drew
 have hx2 := hx2.drew
 have hx3 := hx3.drew
 have hB := hB.drew
 generalize wx.drew = wz at hx0 hx1 hx2 hx3 hB ⊢
 refine Lex.step_take (.agg #[.string nm, .slice A mc cp]) ub0 rfl (Lex.want_none rfl) (by intro Wx hSw; (try dsimp only at hSw); go_simp; (try (first | (with_reducible rfl) | assumption | rfl))) ?_
 simp only [Act.put, List.setIfInBounds_toArray, List.set_cons_zero, List.set_cons_succ]
 refine Lex.step_take (.pointer (some ⟨w.heap.size + 1, 0, none⟩)) ub1 rfl (Lex.want_none rfl) (by intro Wx hSw; (try dsimp only at hSw); go_simp; (try (first | (with_reducible rfl) | assumption | rfl))) ?_
 simp only [Act.put, List.setIfInBounds_toArray, List.set_cons_zero, List.set_cons_succ]
 refine Lex.step_take (.slice (some ⟨ba, oa, none⟩) n c0) ub2 rfl (Lex.want_none rfl) (by intro Wx hSw; (try dsimp only at hSw); go_simp; (try (first | (with_reducible rfl) | assumption | rfl))) ?_
 simp only [Act.put, List.setIfInBounds_toArray, List.set_cons_zero, List.set_cons_succ]
 refine Lex.step_take (.int .i64 (i : Int)) ub3 rfl (Lex.want_none rfl) (by intro Wx hSw; (try dsimp only at hSw); go_simp; (try (first | (with_reducible rfl) | assumption | rfl))) ?_
 simp only [Act.put, List.setIfInBounds_toArray, List.set_cons_zero, List.set_cons_succ]
 refine Lex.step_take (.pointer (some ⟨ba, oa + i, none⟩)) ub4 rfl (Lex.want_none rfl) (by intro Wx hSw; (try dsimp only at hSw); go_simp; (try (first | (with_reducible rfl) | assumption | rfl))) ?_
 simp only [Act.put, List.setIfInBounds_toArray, List.set_cons_zero, List.set_cons_succ]
 refine Lex.step_take (.slice A2 p cp2) ub5 rfl (Lex.want_none rfl) (by intro Wx hSw; (try dsimp only at hSw); go_simp; (try (first | (with_reducible rfl) | assumption | rfl))) ?_
 simp only [Act.put, List.setIfInBounds_toArray, List.set_cons_zero, List.set_cons_succ]
 refine Lex.step_take (.pointer (some ⟨w.heap.size + 1, 2, none⟩)) ub6 rfl (Lex.want_none rfl) (by intro Wx hSw; (try dsimp only at hSw); go_simp; (try (first | (with_reducible rfl) | assumption | rfl))) ?_
 simp only [Act.put, List.setIfInBounds_toArray, List.set_cons_zero, List.set_cons_succ]
 refine Lex.step_take (.slice (some ⟨bm, om, none⟩) n d0) ub7 rfl (Lex.want_none rfl) (by intro Wx hSw; (try dsimp only at hSw); go_simp; (try (first | (with_reducible rfl) | assumption | rfl))) ?_
 simp only [Act.put, List.setIfInBounds_toArray, List.set_cons_zero, List.set_cons_succ]
 refine Lex.step_take (.int .i64 (i : Int)) ub8 rfl (Lex.want_none rfl) (by intro Wx hSw; (try dsimp only at hSw); go_simp; (try (first | (with_reducible rfl) | assumption | rfl))) ?_
 simp only [Act.put, List.setIfInBounds_toArray, List.set_cons_zero, List.set_cons_succ]
 refine Lex.step_take (.pointer (some ⟨bm, om + i, none⟩)) ub9 rfl (Lex.want_none rfl) (by intro Wx hSw; (try dsimp only at hSw); go_simp; (try (first | (with_reducible rfl) | assumption | rfl))) ?_
 simp only [Act.put, List.setIfInBounds_toArray, List.set_cons_zero, List.set_cons_succ]
 refine Lex.step_take (.string tx) ub10 rfl (Lex.want_none rfl) (by intro Wx hSw; (try dsimp only at hSw); go_simp; (try (first | (with_reducible rfl) | assumption | rfl))) ?_
 simp only [Act.put, List.setIfInBounds_toArray, List.set_cons_zero, List.set_cons_succ]
 refine Lex.step_call ub11 rfl (Lex.want_none rfl) (fun K hK => ?_)
 go_simp
 refine (hcR _ hB).mono ?_
 rintro e y4 ⟨v3, bb, rfl, hbb, hcells, hw4⟩
 rw [HRD.out] at hbb hcells
 obtain rfl : bb = true := hbb
 obtain ⟨A3, cp3, hs3, rfl, hcp3, _, hl3, hT3, hV3, bt, ot, rfl, hF3⟩ := hcells _ rfl
 have hzlt := hx3.lt
 have hB := hB.trans (hw4.mono hB.size)
 have hx0 := hx0.below hw4 hx0.lt
 have hx1 := hx1.below hw4 hx1.lt
 have hx2 := hx2.below hw4 hx2.lt
 have hx3 := hx3.below hw4 hx3.lt
 clear hw4 hcells f1 f2 f3 f4 f5 f6
 refine hK.out _ _ _ (fun _ h => h) ⟨hx0.c0, hx0.c1, hx1.c0, hx1.c2, cell_below hB F5.out, cell_below hB F6.out⟩ ?_
 clear hK K
 try simp only [Act.put, List.setIfInBounds_toArray, List.set_cons_zero, List.set_cons_succ]
 refine Lex.step_take (.tuple #[.slice (some ⟨bt, ot, none⟩) 8 cp3, .bool true]) ub12 rfl (Lex.want_none rfl) (by intro Wx hSw; (try dsimp only at hSw); go_simp; (try (first | (with_reducible rfl) | assumption | rfl))) ?_
 simp only [Act.put, List.setIfInBounds_toArray, List.set_cons_zero, List.set_cons_succ]
 refine Lex.step_take (.slice (some ⟨bt, ot, none⟩) 8 cp3) ub13 rfl (Lex.want_none rfl) (by intro Wx hSw; (try dsimp only at hSw); go_simp; (try (first | (with_reducible rfl) | assumption | rfl))) ?_
 simp only [Act.put, List.setIfInBounds_toArray, List.set_cons_zero, List.set_cons_succ]
 refine Lex.step_take (.bool true) ub14 rfl (Lex.want_none rfl) (by intro Wx hSw; (try dsimp only at hSw); go_simp; (try (first | (with_reducible rfl) | assumption | rfl))) ?_
 simp only [Act.put, List.setIfInBounds_toArray, List.set_cons_zero, List.set_cons_succ]
 refine Lex.step_take (.slice (some ⟨bt, ot, none⟩) 8 cp3) ub15 rfl (Lex.want_none rfl) (by intro Wx hSw; (try dsimp only at hSw); go_simp; (try (first | (with_reducible rfl) | assumption | rfl))) ?_
 simp only [Act.put, List.setIfInBounds_toArray, List.set_cons_zero, List.set_cons_succ]
 refine Lex.step_take (.bool true) ub16 rfl (Lex.want_none rfl) (by intro Wx hSw; (try dsimp only at hSw); go_simp; (try (first | (with_reducible rfl) | assumption | rfl))) ?_
 simp only [Act.put, List.setIfInBounds_toArray, List.set_cons_zero, List.set_cons_succ]
 obtain ⟨hj3, hrow8, hp, hmc⟩ := HGL.out
 obtain ⟨x3, hx3e, hxe⟩ : ∃ x3, hs3[j]? = some x3 ∧ x3.l = gg.map (cellAt xr) := by
  rw [← hl3, List.getElem?_map] at hj3
  exact Option.map_eq_some_iff.1 hj3
 obtain ⟨b5, o5, hA5, hb5t, hfr5, _⟩ := hF3 j x3 hx3e
 obtain ⟨b', o', eA, _, _, hce⟩ := hT3 (fun e => by rw [e] at hx3e; simp at hx3e)
 injection eA with eA
 injection eA with eA eO
 subst eA eO
 have g1 := hce j x3 hx3e 0 _ rfl
 rw [Nat.mul_one, Nat.add_zero, hA5, hxe, List.length_map, hp] at g1
 have hv3 := (hV3 x3 (List.mem_of_getElem? hx3e)).1
 have hset := free_set (v := ⟨vk, vn, vs⟩) (m := p) hT3 hV3 ⟨bt, ot, rfl, hF3⟩ (fun x hx => hrow8 x.l (by rw [← hl3]; exact List.mem_map_of_mem hx)) hx3e hA5 hkp
 rw [hl3, hxe] at hset
 rw [hA5, hxe] at hv3
 have hkx : (gg.map (cellAt xr))[k]? = some ((gg.map (cellAt xr))[k]'(by rw [List.length_map, hp]; exact hkp)) := List.getElem?_eq_getElem _
 generalize ((gg.map (cellAt xr))[k]'(by rw [List.length_map, hp]; exact hkp)) = ov at hkx
 obtain ⟨b6, o6, e6, hlo6, _, v1, v2, v3⟩ := hv3.at hkx
 injection e6 with e6
 injection e6 with e6 e6o
 subst e6 e6o
 have hb5w : w.heap.size + 1 + 1 + 1 < b5 := Nat.lt_of_lt_of_le hzlt hlo6
 have hB5 := putV_below hB (Nat.le_of_lt (show w.heap.size < b5 by omega)) (o5 + k * 3) ⟨vk, vn, vs⟩
 have hy5 := putV_below (Below.refl (w.heap.size + 1 + 1 + 1 + 1) y4) (show w.heap.size + 1 + 1 + 1 + 1 ≤ b5 by omega) (o5 + k * 3) ⟨vk, vn, vs⟩
 have HY := Lib.hid (And.intro hset (And.intro hB5 (And.intro (hx0.below hy5 (by omega)) (And.intro (hx1.below hy5 (by omega)) (hx3.below hy5 (by omega))))))
 have x0 := hx2.c0
 have x1 := hx2.c1
 have x2 := hx2.c2
 have q2 : (k : Int) < (p : Int) := by omega
 have q3 : (0 : Int) ≤ (k : Int) := by omega
 clear hl3 hT3 hV3 hF3 hx3e hxe hce hv3 hj3 hrow8 hset hB5 hy5 hx0 hx1 hx2 hx3 hB hkx
 refine NoPanic.normal ?_
 go_wp2_with fail
 go_region
 obtain ⟨hVV, hB, hx0, hx1, hx3⟩ := HY.out
 clear HY x0 x1 x2 v1 v2 v3 g1 hfr5
 unfold putV at hVV hB hx0 hx1 hx3
 simp only at hVV hB hx0 hx1 hx3
 have hVV := hVV.below (Below.refl _ _).drew (Nat.le_refl _)
 have hB := hB.drew
 have hx0 := hx0.drew
 have hx1 := hx1.drew
 have hx3 := hx3.drew
 generalize (((y4.setCell ⟨b5, o5 + k * 3, none⟩ (.int .i64 vk)).setCell ⟨b5, o5 + k * 3 + 1, none⟩ (.int .i64 vn)).setCell ⟨b5, o5 + k * 3 + 2, none⟩ (.string vs)).drew = y5 at hVV hB hx0 hx1 hx3 ⊢
 have hownW := World.ownsRow_lit (e := 9) (size := 1) (base := y5.heap.size) y5 #[] 0 (Nat.le_refl _) (by unfold maxLen; omega) rfl
 have hy6 := (Below.refl y5.heap.size y5).alloc (Nat.le_refl _) (.cells #[] 9)
 have hsW : y5.heap.size ≤ (y5.alloc (.cells #[] 9)).heap.size := by simp
 have hnw := news_of (by decide) cellsS_len ((HMI.out.1.below hB (Nat.le_refl _)).below hy6 (Nat.le_refl _))
 have f4 := (hx1.below hy6 hx1.lt).c2
 have HLN : Hid ((Li.cellsL cellsS (minis cs r)).length = n * 1) := Lib.hid (by rw [Li.cellsL_len cellsS_len, HMI.out.2.1])
 have HON := Lib.hid (cellsS_one (minis cs r))
 have HW := Lib.hid (And.intro hownW (And.intro hnw (And.intro hsW hy6)))
 have HV5 := Lib.hid (And.intro hVV (And.intro hB (And.intro hx0 (And.intro hx1 hx3))))
 clear hownW hnw hsW hy6 hVV hB hx0 hx1 hx3
 go_wp2_with (at_builtin; go_must (refine wpList_append_own _ rfl _ _ 30 rfl y5.heap.size 9 iS (.string ⟨#[]⟩) 1 16 Tryd.underlying30 hiS hs0 hs1 hs2 rfl (by decide) (.slice (some ⟨y5.heap.size, 0, none⟩) 0 0) 0 [] rfl HW.out.1 ⟨bm, om, none⟩ n d0 (Li.cellsL cellsS (minis cs r)) rfl HLN.out HW.out.2.1 HON.out (by unfold maxLen; omega) (by omega) HW.out.2.2.1 ?_))
 intro v6 y6 hown hgrow6 _
 obtain ⟨hownW, _, hsW, hy6⟩ := HW.out
 obtain ⟨hVV, hB, hx0, hx1, hx3⟩ := HV5.out
 have hb6 := hy6.grown hgrow6 hsW (fun k hk => (hownW.lt k hk).1)
 have hgs : w.heap.size + 1 + 1 + 1 < y5.heap.size := hx3.lt
 (try simp only [Nat.zero_add, List.nil_append] at hown)
 obtain ⟨g5, c5, rfl, hg5, hgl⟩ := hown.form (by omega)
 have hnc5 : n ≤ c5 := by
  obtain ⟨A', c', e', hc', _⟩ := Li.list_of_own cellsS_len hown HMI.out.2.1
  injection e' with _ _ e3
  rw [e3]
  exact hc'
 have hB := hB.trans (hb6.mono hB.size)
 have hx0 := hx0.below hb6 hx0.lt
 have hx1 := hx1.below hb6 hx1.lt
 have hx3 := hx3.below hb6 hx3.lt
 have hVV := hVV.below hb6 (Nat.le_refl _)
 have z0 := hx1.c2
 have zf := hx1.f 2
 have hbar := (Bar.refl (w.heap.size + 1) y6).setCell 2 (.slice (some ⟨g5, 0, none⟩) n c5)
 have hVV := hVV.bar hbar (Or.inl (by omega))
 have hown := Li.own_bar hown hbar (by omega)
 have hx0 := Sc.box2_setOther hx0 (p := ⟨w.heap.size + 1, 2, none⟩) (by show w.heap.size + 1 ≠ w.heap.size; omega) (.slice (some ⟨g5, 0, none⟩) n c5)
 have hx1 := hx1.set2 (.slice (some ⟨g5, 0, none⟩) n c5)
 have hx3 := hx3.setOther (p := ⟨w.heap.size + 1, 2, none⟩) (by show w.heap.size + 1 ≠ w.heap.size + 1 + 1 + 1; omega) (.slice (some ⟨g5, 0, none⟩) n c5)
 have hB := hB.setCell (p := ⟨w.heap.size + 1, 2, none⟩) (by show w.heap.size ≤ w.heap.size + 1; omega) (.slice (some ⟨g5, 0, none⟩) n c5)
 have HV6 := Lib.hid (And.intro hVV (And.intro hB (And.intro hx0 (And.intro hx1 (And.intro hx3 hown)))))
 clear hownW hsW hy6 hVV hB hx0 hx1 hx3 hgrow6 hown hb6 hbar HW HV5 HLN HON f4
 go_wp2_with fail
 obtain ⟨hVV, hB, hx0, hx1, hx3, hown⟩ := HV6.out
 clear HV6 z0 zf
 generalize y6.setCell ⟨w.heap.size + 1, 2, none⟩ (.slice (some ⟨g5, 0, none⟩) n c5) = wv at hVV hB hx0 hx1 hx3 hown ⊢
 have hcP := fun (W : World) (hB : Below w.heap.size w W) (hVV : HasVV W wz.heap.size (some ⟨bt, ot, none⟩) ((gcells gg r.M).set j ((gg.map (cellAt xr)).set k ⟨vk, vn, vs⟩))) => HCP.out W (some ⟨bt, ot, none⟩) cp3 wz.heap.size hB hVV
 rw [hmc, hp] at hcP
 generalize printM (kindsL cs gg) ((gcells gg r.M).set j ((gg.map (cellAt xr)).set k ⟨vk, vn, vs⟩)) = tz at hcP HQ
 refine Lex.region_last (ops := udraw) (ops1 := udops) (calls := udcalls) 12 _ udord (fun W => W.cell? ⟨w.heap.size, 0, none⟩ = some (.string nm) ∧ W.cell? ⟨w.heap.size, 1, none⟩ = some (.slice A mc cp) ∧ W.cell? ⟨w.heap.size + 1, 0, none⟩ = some (.slice (some ⟨ba, oa, none⟩) n c0) ∧ W.cell? ⟨w.heap.size + 1, 2, none⟩ = some (.slice (some ⟨g5, 0, none⟩) n c5) ∧ W.cell? ⟨ba, oa + i, none⟩ = some (.slice A2 p cp2)) (by kernel_rfl) udeq udlast rfl rfl (by kernel_rfl) (by kernel_rfl) (by kernel_rfl) (by kernel_rfl) udsel (by kernel_rfl) (by kernel_rfl) udlex (⟨hx0.c0, hx0.c1, hx1.c0, hx1.c2, cell_below hB F5.out⟩) ?_
 unfold udord
 have hx0 := hx0.drew
 have hx1 := hx1.drew
 have hx3 := hx3.drew
 have hB := hB.drew
 have hVV := hVV.below (Below.refl wv.heap.size wv).drew (Nat.le_refl _)
 have hown := Li.own_below hown (Below.refl wv.heap.size wv).drew (Nat.le_refl _)
 generalize wv.drew = wu at hx0 hx1 hx3 hB hVV hown ⊢
 refine Lex.step_take (.pointer (some ⟨w.heap.size + 1, 2, none⟩)) ud0 rfl (Lex.want_none rfl) (by intro Wx hSw; (try dsimp only at hSw); go_simp; (try (first | (with_reducible rfl) | assumption | rfl))) ?_
 simp only [Act.put, List.setIfInBounds_toArray, List.set_cons_zero, List.set_cons_succ]
 refine Lex.step_take (.slice (some ⟨g5, 0, none⟩) n c5) ud1 rfl (Lex.want_none rfl) (by intro Wx hSw; (try dsimp only at hSw); go_simp; (try (first | (with_reducible rfl) | assumption | rfl))) ?_
 simp only [Act.put, List.setIfInBounds_toArray, List.set_cons_zero, List.set_cons_succ]
 refine Lex.step_take (.int .i64 (i : Int)) ud2 rfl (Lex.want_none rfl) (by intro Wx hSw; (try dsimp only at hSw); go_simp; (try (first | (with_reducible rfl) | assumption | rfl))) ?_
 simp only [Act.put, List.setIfInBounds_toArray, List.set_cons_zero, List.set_cons_succ]
 refine Lex.step_take (.agg #[.string nm, .slice A mc cp]) ud3 rfl (Lex.want_none rfl) (by intro Wx hSw; (try dsimp only at hSw); go_simp; (try (first | (with_reducible rfl) | assumption | rfl))) ?_
 simp only [Act.put, List.setIfInBounds_toArray, List.set_cons_zero, List.set_cons_succ]
 refine Lex.step_take (.pointer (some ⟨w.heap.size + 1, 0, none⟩)) ud4 rfl (Lex.want_none rfl) (by intro Wx hSw; (try dsimp only at hSw); go_simp; (try (first | (with_reducible rfl) | assumption | rfl))) ?_
 simp only [Act.put, List.setIfInBounds_toArray, List.set_cons_zero, List.set_cons_succ]
 refine Lex.step_take (.slice (some ⟨ba, oa, none⟩) n c0) ud5 rfl (Lex.want_none rfl) (by intro Wx hSw; (try dsimp only at hSw); go_simp; (try (first | (with_reducible rfl) | assumption | rfl))) ?_
 simp only [Act.put, List.setIfInBounds_toArray, List.set_cons_zero, List.set_cons_succ]
 refine Lex.step_take (.int .i64 (i : Int)) ud6 rfl (Lex.want_none rfl) (by intro Wx hSw; (try dsimp only at hSw); go_simp; (try (first | (with_reducible rfl) | assumption | rfl))) ?_
 simp only [Act.put, List.setIfInBounds_toArray, List.set_cons_zero, List.set_cons_succ]
 refine Lex.step_take (.pointer (some ⟨ba, oa + i, none⟩)) ud7 rfl (Lex.want_none rfl) (by intro Wx hSw; (try dsimp only at hSw); go_simp; (try (first | (with_reducible rfl) | assumption | rfl))) ?_
 simp only [Act.put, List.setIfInBounds_toArray, List.set_cons_zero, List.set_cons_succ]
 refine Lex.step_take (.slice A2 p cp2) ud8 rfl (Lex.want_none rfl) (by intro Wx hSw; (try dsimp only at hSw); go_simp; (try (first | (with_reducible rfl) | assumption | rfl))) ?_
 simp only [Act.put, List.setIfInBounds_toArray, List.set_cons_zero, List.set_cons_succ]
 refine Lex.step_take (.slice (some ⟨bt, ot, none⟩) 8 cp3) ud9 rfl (Lex.want_none rfl) (by intro Wx hSw; (try dsimp only at hSw); go_simp; (try (first | (with_reducible rfl) | assumption | rfl))) ?_
 simp only [Act.put, List.setIfInBounds_toArray, List.set_cons_zero, List.set_cons_succ]
 refine Lex.step_call ud10 rfl (Lex.want_none rfl) (fun K hK => ?_)
 go_simp
 refine (hcP _ hB hVV).mono ?_
 rintro e y7 ⟨rfl, hw7⟩
 have hB := hB.trans (hw7.mono hB.size)
 have hx0 := hx0.below hw7 hx0.lt
 have hx1 := hx1.below hw7 hx1.lt
 have hx3 := hx3.below hw7 hx3.lt
 have hown := Li.own_below hown hw7 (Nat.le_refl _)
 clear hw7 hcP
 refine hK.out _ _ _ (fun _ h => h) ⟨hx0.c0, hx0.c1, hx1.c0, hx1.c2, cell_below hB F5.out⟩ ?_
 clear hK K
 try simp only [Act.put, List.setIfInBounds_toArray, List.set_cons_zero, List.set_cons_succ]
 refine Lex.step_take (.pointer (some ⟨g5, i, none⟩)) ud11 rfl (Lex.want_none rfl) (by intro Wx hSw; (try dsimp only at hSw); go_simp; (try (first | (with_reducible rfl) | assumption | rfl))) ?_
 simp only [Act.put, List.setIfInBounds_toArray, List.set_cons_zero, List.set_cons_succ]
 refine Lex.step_take (.bool true) ud12 rfl (Lex.want_none rfl) (by intro Wx hSw; (try dsimp only at hSw); go_simp; (try (first | (with_reducible rfl) | assumption | rfl))) ?_
 simp only [Act.put, List.setIfInBounds_toArray, List.set_cons_zero, List.set_cons_succ]
 have hk1 : (Li.cellsL cellsS (minis cs r))[i]? = some (.string (printM (kindsL cs gg) (gcells gg r.M))) := by
  have := Li.cellsL_at cellsS_len _ i _ HMI.out.2.2 0 _ rfl
  rwa [Nat.mul_one, Nat.add_zero] at this
 have k1 := hown.cellAt i (by omega)
 rw [hk1] at k1
 have kf := hown.frozenAt i
 obtain ⟨A', c', e', hc', hl'⟩ := Li.list_of_own cellsS_len hown HMI.out.2.1
 injection e' with e1 _ e3
 subst e1 e3
 have hSS := HasS.set (i := i) (hl'.lower (Nat.zero_le _)) tz
 rw [Nat.zero_add] at hSS
 have hB := hB.setCell (p := ⟨g5, i, none⟩) (by show w.heap.size ≤ g5; omega) (.string tz)
 have hx1 := hx1.setOther (p := ⟨g5, i, none⟩) (by show g5 ≠ w.heap.size + 1; omega) (.string tz)
 have hx3 := hx3.setOther (p := ⟨g5, i, none⟩) (by show g5 ≠ w.heap.size + 1 + 1 + 1; omega) (.string tz)
 have HV7 := Lib.hid (And.intro hSS (And.intro hB (And.intro hx1 hx3)))
 clear hk1 hown hl' hSS hB hx1 hx3 hx0 hVV
 refine Lex.last_op udlast rfl (fun K hK => ?_)
 go_simp
 refine hK.out _ _ ?_
 clear hK K
 obtain ⟨hSS, hB, hx1, hx3⟩ := HV7.out
 clear HV7 k1 kf
 have x0 := hx1.c0
 have x1 := hx1.c1
 have x2 := hx1.c2
 have y0 := hx3.c0
 have y1 := hx3.c1
 have y2 := hx3.c2
 have yf := hx3.f
 have HR := Lib.hid (((hx3.set0 (.slice (some ⟨ba, oa, none⟩) n c0)).set1 (.int .i64 m)).set2 (.slice (some ⟨g5, 0, none⟩) n c5))
 have hBB := ((hB.setCell (p := ⟨w.heap.size + 1 + 1 + 1, 0, none⟩) (by show w.heap.size ≤ w.heap.size + 1 + 1 + 1; omega) (.slice (some ⟨ba, oa, none⟩) n c0)).setCell (p := ⟨w.heap.size + 1 + 1 + 1, 1, none⟩) (by show w.heap.size ≤ w.heap.size + 1 + 1 + 1; omega) (.int .i64 m)).setCell (p := ⟨w.heap.size + 1 + 1 + 1, 2, none⟩) (by show w.heap.size ≤ w.heap.size + 1 + 1 + 1; omega) (.slice (some ⟨g5, 0, none⟩) n c5)
 have hSR := lbar (X := fun b => b = g5) hSS (fun _ b o s e => by injection e with e; injection e with e1 _ _; exact e1.symm) ((((Bar.refl (w.heap.size + 1 + 1 + 1) _).setCell 0 (.slice (some ⟨ba, oa, none⟩) n c0)).setCell 1 (.int .i64 m)).setCell 2 (.slice (some ⟨g5, 0, none⟩) n c5)) (by omega)
 have HU := Lib.hid (And.intro (HQ.out _ g5 c5 hBB hSR (by omega) hnc5) hBB)
 clear hSS hB hx1 hx3 hBB hSR
 go_wp2
 refine bodyPost_ret (results_tile2 rfl _ _ (w.heap.size + 1 + 1 + 1) _ _ _ rfl HR.out.c0 HR.out.c1 HR.out.c2) rfl ?_
 exact HP.out ⟨some ⟨ba, oa, none⟩, n, c0, m, some ⟨g5, 0, none⟩, c5⟩ _ HU.out.1 HU.out.2
end Go.Proofs.YtpnnkhpokangfaaDoor.Ti
