/- Heads on devices: Put of the program (762697a) and of the document, walked. -/
import Derived.Test.YtdbemkdfndjakaaDoorHdJ
import Derived.Test.YtdbemkdfndjakaaDoorMgX
import Derived.Test.YtdbemkdfndjakaaDoorMgW
namespace Go.Proofs.YtdbemkdfndjakaaDoor.Hd
open Go.RowKit Go.Shelf Tal Sla Fr Lex
/-- What a device is behind a deed, and the error. -/
def putR (D : Dev) (x : Int) (d : ByteArray) : Dev × Int := if D.pow = true then (D.putAt x d, 0) else (D.down, 10)
def flushR (D : Dev) : Dev × Int := if D.pow = true then (D.flushed, 0) else (D.down, 10)
def getR (D : Dev) (x : Nat) : Dev × ByteArray × Int := if D.pow = true then (D.up, Sla.look D.LA D.LD x (D.S x) D.m, 0) else (D.down, ⟨#[]⟩, 10)
open Classical in
noncomputable def putH (D : Dev) (h : H) : Dev × Int := if RightH h then (if (putR D (h.e % 2) (headB h)).2 = 0 then flushR (putR D (h.e % 2) (headB h)).1 else putR D (h.e % 2) (headB h)) else (D, 1)
section
variable {K : Nat} {v : Value} {D : Dev} {w : World}
theorem pow_cases (D : Dev) : D.pow = true ∨ D.pow = false := by cases D.pow <;> simp
theorem putR_n (D : Dev) (x : Int) (d : ByteArray) : (putR D x d).1.n = D.n := by unfold putR; split <;> rfl
theorem flushR_n (D : Dev) : (flushR D).1.n = D.n := by unfold flushR; split <;> rfl
theorem getR_n (D : Dev) (x : Nat) : (getR D x).1.n = D.n := by unfold getR; split <;> rfl
theorem putR_ok (h : D.Ok K) {x : Int} (d : ByteArray) (hx : D.has x = true) (hd : d.size ≤ 256) : (putR D x d).1.Ok (K + 1) := by
  unfold putR
  split
  · exact h.put x d hx hd
  · exact h.down.more (by omega)
theorem flushR_ok (h : D.Ok K) : (flushR D).1.Ok (K + 1) := by
  unfold flushR
  split
  · exact h.flushed
  · exact h.down.more (by omega)
theorem getR_ok (h : D.Ok K) (x : Nat) : (getR D x).1.Ok (K + 1) := by
  unfold getR
  split
  · exact h.up
  · exact h.down.more (by omega)
theorem slabPut (v : Value) (D : Dev) (x : Int) (d : ByteArray) (w : World) (h : IsDev w v D) (hok : D.Ok K) (hK : K ≤ 100000) (hs : d.size ≤ 256) (ha : D.has x = true) :
    Calls Tryd.prog 39 #[v, .int .i64 x, .string d] w (DevErr (putR D x d).1 (putR D x d).2 w) := by
  unfold putR
  rcases pow_cases D with hp | hp
  · rw [if_pos hp]
    exact put_ok v D x d w h hok hK hs ha hp
  · rw [if_neg (by rw [hp]; decide)]
    exact put_down v D x d w h hs ha hp
theorem refPut (v : Value) (D : Dev) (x : Int) (d : ByteArray) (w : World) (h : IsDev w v D) (hok : D.Ok K) (hK : K ≤ 100000) (hs : d.size ≤ 256) (ha : D.has x = true) :
    Calls Tryd.prog 41 #[v, .int .i64 x, .string d] w (DevErr (putR D x d).1 (putR D x d).2 w) := by
  unfold putR
  rcases pow_cases D with hp | hp
  · rw [if_pos hp]
    exact refPut_ok v D x d w h hok hK hs ha hp
  · rw [if_neg (by rw [hp]; decide)]
    exact refPut_down v D x d w h hs ha hp
theorem slabFlush (v : Value) (D : Dev) (w : World) (h : IsDev w v D) (hok : D.Ok K) (hK : K ≤ 100000) :
    Calls Tryd.prog 40 #[v] w (DevErr (flushR D).1 (flushR D).2 w) := by
  unfold flushR
  rcases pow_cases D with hp | hp
  · rw [if_pos hp]
    exact flush_ok v D w h hok hK hp
  · rw [if_neg (by rw [hp]; decide)]
    exact flush_down v D w h hp
theorem refFlush (v : Value) (D : Dev) (w : World) (h : IsDev w v D) (hok : D.Ok K) (hK : K ≤ 100000) :
    Calls Tryd.prog 42 #[v] w (DevErr (flushR D).1 (flushR D).2 w) := by
  unfold flushR
  rcases pow_cases D with hp | hp
  · rw [if_pos hp]
    exact refFlush_ok v D w h hok hK hp
  · rw [if_neg (by rw [hp]; decide)]
    exact refFlush_down v D w h hp
theorem slabGet (v : Value) (D : Dev) (x : Nat) (w : World) (h : IsDev w v D) (hok : D.Ok K) (hK : K ≤ 100000) (ha : D.has x = true) :
    Calls Tryd.prog 37 #[v, .int .i64 x] w (GetErr (getR D x).1 (getR D x).2.1 (getR D x).2.2 w) := by
  unfold getR
  rcases pow_cases D with hp | hp
  · rw [if_pos hp]
    exact get_ok v D x w h hok hK ha hp
  · rw [if_neg (by rw [hp]; decide)]
    exact get_down v D x w h ha hp
theorem refGet (v : Value) (D : Dev) (x : Nat) (w : World) (h : IsDev w v D) (hok : D.Ok K) (hK : K ≤ 100000) (ha : D.has x = true) :
    Calls Tryd.prog 38 #[v, .int .i64 x] w (GetErr (getR D x).1 (getR D x).2.1 (getR D x).2.2 w) := by
  unfold getR
  rcases pow_cases D with hp | hp
  · rw [if_pos hp]
    exact refGet_ok v D x w h hok hK ha hp
  · rw [if_neg (by rw [hp]; decide)]
    exact refGet_down v D x w h ha hp
theorem dev_form (h : IsDev w v D) : ∃ (A : Option Addr) (n c : Nat) (B : Option Addr) (m k : Nat) (dd : Bool) (lf ds : Int), v = .agg #[.slice A n c, .slice B m k, .bool dd, .int .i64 lf, .int .i64 ds] := by
  obtain ⟨b, B, c, k, rfl, _⟩ := h
  exact ⟨_, _, _, _, _, _, _, _, _, rfl⟩
theorem below_box5 {B g : Nat} {W : World} (hB : Below B w W) (hg : B ≤ g) (u0 u1 u2 u3 u4 : Value) : Below B w (((((W.setCell ⟨g, 0, none⟩ u0).setCell ⟨g, 1, none⟩ u1).setCell ⟨g, 2, none⟩ u2).setCell ⟨g, 3, none⟩ u3).setCell ⟨g, 4, none⟩ u4) :=
  ((((hB.setCell (p := ⟨g, 0, none⟩) hg _).setCell (p := ⟨g, 1, none⟩) hg _).setCell (p := ⟨g, 2, none⟩) hg _).setCell (p := ⟨g, 3, none⟩) hg _).setCell (p := ⟨g, 4, none⟩) hg _
end
theorem results_d2 {fn : Func} {p q : Tmp} (h : fn.results = #[.cell p 39, .tmp q]) (tmps : Array Value) (w : World) (g : Nat) (v0 v1 v2 v3 v4 : Value)
    (hp : tmps.getD p undef = .pointer (some ⟨g, 0, none⟩)) (c0 : w.cell? ⟨g, 0, none⟩ = some v0) (c1 : w.cell? ⟨g, 1, none⟩ = some v1) (c2 : w.cell? ⟨g, 2, none⟩ = some v2) (c3 : w.cell? ⟨g, 3, none⟩ = some v3) (c4 : w.cell? ⟨g, 4, none⟩ = some v4) :
    (results fn tmps).run Tryd.prog w = .ok (.tuple #[.agg #[v0, v1, v2, v3, v4], tmps.getD q undef]) w := by
  have hp' : tmps[p]?.getD undef = .pointer (some ⟨g, 0, none⟩) := by simpa using hp
  clear hp
  simp only [results, h]
  go_simp
set_option maxRecDepth 20000 in
set_option maxHeartbeats 6400000 in
theorem headPut {K : Nat} (v : Value) (D : Dev) (h : H) (w : World) (ht : Tab w) (hD : IsDev w v D) (hok : D.Ok K) (hK : K ≤ 99999) (hn : 2 ≤ D.n) :
    Calls Tryd.prog 24 #[v, .agg (cellsH h)] w (DevErr (putH D h).1 (putH D h).2 w) := by
  have HT := Lib.hid ht
  clear ht
  obtain ⟨A0, n0, c0, B0, m0, k0, dd0, lf0, ds0, rfl⟩ := dev_form hD
  have HD := Lib.hid (And.intro hD (And.intro hok (And.intro hK hn)))
  clear hD hok hK hn
  have hx := Box5.new w (.slice A0 n0 c0) (.slice B0 m0 k0) (.bool dd0) (.int .i64 lf0) (.int .i64 ds0) 39
  have hB := (Below.refl w.heap.size w).alloc (Nat.le_refl _) (.cells #[.slice A0 n0 c0, .slice B0 m0 k0, .bool dd0, .int .i64 lf0, .int .i64 ds0] 39)
  obtain ⟨gx, hgx⟩ : ∃ x, w.heap.size = x := ⟨_, rfl⟩
  have hwx : w.heap.size ≤ gx := by omega
  rw [hgx] at hx
  generalize hwa : w.alloc (.cells #[.slice A0 n0 c0, .slice B0 m0 k0, .bool dd0, .int .i64 lf0, .int .i64 ds0] 39) = wa at hB hx
  have hq := BoxH.new wa h 23
  have hv := (Below.refl wa.heap.size wa).alloc (Nat.le_refl _) (.cells (cellsH h) 23)
  have hx := hx.below hv hx.lt5
  have hwq : w.heap.size ≤ wa.heap.size := hB.size
  have hB := hB.trans (hv.mono hB.size)
  clear hv
  obtain ⟨gq, hgq⟩ : ∃ x, wa.heap.size = x := ⟨_, rfl⟩
  rw [hgq] at hq hwq
  generalize hwb : wa.alloc (.cells (cellsH h) 23) = wb at hB hx hq
  have hy := Box5.new wb (.slice none 0 0) (.slice none 0 0) (.bool false) (.int .i64 0) (.int .i64 0) 39
  have hv := (Below.refl wb.heap.size wb).alloc (Nat.le_refl _) (.cells #[.slice none 0 0, .slice none 0 0, .bool false, .int .i64 0, .int .i64 0] 39)
  have hxl := hx.lt5
  have hx := hx.below hv hx.lt5
  have hq := hq.below hv hq.lt
  have hwy : w.heap.size ≤ wb.heap.size := hB.size
  have hB := hB.trans (hv.mono hB.size)
  clear hv
  obtain ⟨gy, hgy⟩ : ∃ x, wb.heap.size = x := ⟨_, rfl⟩
  rw [hgy] at hy hwy hxl
  have hne : gy ≠ gx := by omega
  generalize hwc : wb.alloc (.cells #[.slice none 0 0, .slice none 0 0, .bool false, .int .i64 0, .int .i64 0] 39) = wc at hB hx hq hy
  have hNO : ¬ RightH h → putH D h = (D, 1) := fun hr => if_neg hr
  have hYES : RightH h → putH D h = (if (putR D (h.e % 2) (headB h)).2 = 0 then flushR (putR D (h.e % 2) (headB h)).1 else putR D (h.e % 2) (headB h)) := fun hr => if_pos hr
  generalize putH D h = PR at hNO hYES ⊢
  have HNO := Lib.hid hNO
  have HYES := Lib.hid hYES
  clear hNO hYES
  have hRt := fun W => right_any h W
  obtain ⟨hp, hl, he⟩ := h
  unfold cellsH at hwb hRt ⊢
  simp only at hwb hRt ⊢
  have q0 := hq.c0
  have q1 := hq.c1
  have q2 := hq.c2
  simp only at q0 q1 q2
  go_enter Tryd.func24, Tryd.ntmps24
  go_wp2_with fail
  clear hwa hwb hwc hgx hgq hgy
  refine (hRt _).mono ?_
  rintro e w1 ⟨is, rfl, hb, hv⟩
  clear q0 q1 q2 hRt
  have hx := hx.below hv hx.lt5
  have hy := hy.below hv hy.lt5
  have hq := hq.below hv hq.lt
  have hB := hB.trans (hv.mono hB.size)
  clear hv
  cases is
  · have HP := Lib.hid (HNO.out (fun hr => by cases hb.2 hr))
    have hW := below_box5 hB hwy (.slice A0 n0 c0) (.slice B0 m0 k0) (.bool dd0) (.int .i64 lf0) (.int .i64 ds0)
    have HF := Lib.hid (hy.set (.slice A0 n0 c0) (.slice B0 m0 k0) (.bool dd0) (.int .i64 lf0) (.int .i64 ds0))
    have HE := Lib.hid (show DevErr D 1 w (.returned (.tuple #[.agg #[.slice A0 n0 c0, .slice B0 m0 k0, .bool dd0, .int .i64 lf0, .int .i64 ds0], .int .i64 1])) _ from ⟨_, rfl, HD.out.1.below hW (Nat.le_refl _), hW⟩)
    have x0 := hx.c0
    have x1 := hx.c1
    have x2 := hx.c2
    have x3 := hx.c3
    have x4 := hx.c4
    have y0 := hy.c0
    have y1 := hy.c1
    have y2 := hy.c2
    have y3 := hy.c3
    have y4 := hy.c4
    have yf := hy.f
    clear hx hy hq hB hb hW
    go_wp2
    refine bodyPost_ret (results_d2 rfl _ _ gy _ _ _ _ _ rfl HF.out.c0 HF.out.c1 HF.out.c2 HF.out.c3 HF.out.c4) rfl ?_
    rw [HP.out]
    exact HE.out
  · have hr := hb.1 rfl
    have HP := Lib.hid (HYES.out hr)
    have HR := Lib.hid hr
    have e0 := hr.e0
    have e1 := hr.e1
    have p0 := hr.p0
    have l0 := hr.l0
    simp only at e0 e1 p0 l0
    obtain ⟨pn, rfl⟩ : ∃ n : Nat, hp = n := ⟨hp.toNat, by omega⟩
    obtain ⟨ln, rfl⟩ : ∃ n : Nat, hl = n := ⟨hl.toNat, by omega⟩
    obtain ⟨en, rfl⟩ : ∃ n : Nat, he = n := ⟨he.toNat, by omega⟩
    clear hr hb p0 l0
    have x0 := hx.c0
    have x1 := hx.c1
    have x2 := hx.c2
    have x3 := hx.c3
    have x4 := hx.c4
    have q0 := hq.c0
    have q1 := hq.c1
    have q2 := hq.c2
    simp only at q0 q1 q2
    go_upto_region 3 with fail
    have hS := fun W (ht : Tab W) => print_any ⟨pn, ln, en⟩ W ht HR.out
    have hsz := headB_size ⟨pn, ln, en⟩
    generalize headB ⟨pn, ln, en⟩ = sx at HP hS hsz
    have HS := Lib.hid hS
    have hx2 : (en : Int) % 2 < 2 := by omega
    have hx3 : 0 ≤ (en : Int) % 2 := by omega
    have hhas : D.has ((en : Int) % 2) = true := by
      have := HD.out.2.2.2
      unfold Dev.has
      exact decide_eq_true ⟨by omega, by omega⟩
    have HPUT := Lib.hid (fun W (hd : IsDev W (.agg #[.slice A0 n0 c0, .slice B0 m0 k0, .bool dd0, .int .i64 lf0, .int .i64 ds0]) D) => slabPut (.agg #[.slice A0 n0 c0, .slice B0 m0 k0, .bool dd0, .int .i64 lf0, .int .i64 ds0]) D ((en : Int) % 2) sx W hd HD.out.2.1 (Nat.le_trans HD.out.2.2.1 (by decide)) (by omega) hhas)
    have hok1 := putR_ok HD.out.2.1 sx hhas (by omega)
    have hn1 := putR_n D ((en : Int) % 2) sx
    have hN2 := HD.out.2.2.2
    have HK2 := HD.out.2.2.1
    generalize putR D ((en : Int) % 2) sx = PP at HP HPUT hok1 hn1
    obtain ⟨D1, er⟩ := PP
    have HOK := Lib.hid (show D1.Ok (K + 1) ∧ K + 1 ≤ 100000 ∧ 1 ≤ D1.n from ⟨hok1, by omega, by have : D1.n = D.n := hn1; omega⟩)
    clear hok1 hn1 hN2 HK2 hS hsz hx2 hx3 hhas
    simp only at HP
    have hdr := (Below.refl w1.heap.size w1).drew
    refine Lex.region_parts (ops := hpraw) (ops1 := hpops) (calls := hpcalls) 8 hpord (fun W => W.cell? ⟨gx, 0, none⟩ = some (.slice A0 n0 c0) ∧ W.cell? ⟨gx, 1, none⟩ = some (.slice B0 m0 k0) ∧ W.cell? ⟨gx, 2, none⟩ = some (.bool dd0) ∧ W.cell? ⟨gx, 3, none⟩ = some (.int .i64 lf0) ∧ W.cell? ⟨gx, 4, none⟩ = some (.int .i64 ds0) ∧ W.cell? ⟨gq, 0, none⟩ = some (.int .i64 (pn : Int)) ∧ W.cell? ⟨gq, 1, none⟩ = some (.int .i64 (ln : Int)) ∧ W.cell? ⟨gq, 2, none⟩ = some (.int .i64 (en : Int))) (by kernel_rfl) hpcut (by rw [hpsize]; decide) (by kernel_rfl) (by kernel_rfl) (by kernel_rfl) hpsel (by kernel_rfl) (by kernel_rfl) hplex (⟨cell_belowH hdr x0, cell_belowH hdr x1, cell_belowH hdr x2, cell_belowH hdr x3, cell_belowH hdr x4, cell_belowH hdr q0, cell_belowH hdr q1, cell_belowH hdr q2⟩) ?_
    unfold hpord
    have x0 := cell_belowH hdr x0
    have x1 := cell_belowH hdr x1
    have x2 := cell_belowH hdr x2
    have x3 := cell_belowH hdr x3
    have x4 := cell_belowH hdr x4
    have q0 := cell_belowH hdr q0
    have q1 := cell_belowH hdr q1
    have q2 := cell_belowH hdr q2
    have hx := hx.below hdr hx.lt5
    have hy := hy.below hdr hy.lt5
    have hB := hB.trans (hdr.mono hB.size)
    clear hdr
    refine Lex.step_take (.agg #[.slice A0 n0 c0, .slice B0 m0 k0, .bool dd0, .int .i64 lf0, .int .i64 ds0]) hp0 rfl (Lex.want_none rfl) (by intro Wx hSw; (try dsimp only at hSw); go_simp; (try (first | (with_reducible rfl) | assumption | rfl))) ?_
    simp only [Act.put, List.setIfInBounds_toArray, List.set_cons_zero, List.set_cons_succ]
    refine Lex.step_take (.pointer (some ⟨gq, 2, none⟩)) hp1 rfl (Lex.want_none rfl) (by intro Wx hSw; (try dsimp only at hSw); go_simp; (try (first | (with_reducible rfl) | assumption | rfl))) ?_
    simp only [Act.put, List.setIfInBounds_toArray, List.set_cons_zero, List.set_cons_succ]
    refine Lex.step_take (.int .i64 (en : Int)) hp2 rfl (Lex.want_none rfl) (by intro Wx hSw; (try dsimp only at hSw); go_simp; (try (first | (with_reducible rfl) | assumption | rfl))) ?_
    simp only [Act.put, List.setIfInBounds_toArray, List.set_cons_zero, List.set_cons_succ]
    refine Lex.step_take (.int .i64 ((en : Int) % 2)) hp3 rfl (Lex.want_none rfl) (by intro Wx hSw; (try dsimp only at hSw); go_simp; (try (first | (with_reducible rfl) | assumption | rfl))) ?_
    simp only [Act.put, List.setIfInBounds_toArray, List.set_cons_zero, List.set_cons_succ]
    refine Lex.step_take (.agg #[.int .i64 (pn : Int), .int .i64 (ln : Int), .int .i64 (en : Int)]) hp4 rfl (Lex.want_none rfl) (by intro Wx hSw; (try dsimp only at hSw); go_simp; (try (first | (with_reducible rfl) | assumption | rfl))) ?_
    simp only [Act.put, List.setIfInBounds_toArray, List.set_cons_zero, List.set_cons_succ]
    refine Lex.step_call hp5 rfl (Lex.want_none rfl) (fun K hK => ?_)
    go_simp
    refine (HS.out _ (HT.out.below hB)).mono ?_
    rintro e y1 ⟨rfl, hv⟩
    have x0 := cell_belowH hv x0
    have x1 := cell_belowH hv x1
    have x2 := cell_belowH hv x2
    have x3 := cell_belowH hv x3
    have x4 := cell_belowH hv x4
    have q0 := cell_belowH hv q0
    have q1 := cell_belowH hv q1
    have q2 := cell_belowH hv q2
    have hx := hx.below hv hx.lt5
    have hy := hy.below hv hy.lt5
    have hB := hB.trans (hv.mono hB.size)
    clear hv
    refine hK.out _ _ _ (fun _ h => h) ⟨x0, x1, x2, x3, x4, q0, q1, q2⟩ ?_
    clear hK K
    try simp only [Act.put, List.setIfInBounds_toArray, List.set_cons_zero, List.set_cons_succ]
    refine Lex.step_call hp6 rfl (Lex.want_none rfl) (fun K hK => ?_)
    go_simp
    refine (HPUT.out _ (HD.out.1.below hB (Nat.le_refl _))).mono ?_
    rintro e y2 ⟨v1, rfl, hDv, hv⟩
    obtain ⟨A1, n1, c1, B1, m1, k1, dd1, lf1, ds1, rfl⟩ := dev_form hDv
    have x0 := cell_belowH hv x0
    have x1 := cell_belowH hv x1
    have x2 := cell_belowH hv x2
    have x3 := cell_belowH hv x3
    have x4 := cell_belowH hv x4
    have q0 := cell_belowH hv q0
    have q1 := cell_belowH hv q1
    have q2 := cell_belowH hv q2
    have hx := hx.below hv hx.lt5
    have hy := hy.below hv hy.lt5
    have hB := hB.trans (hv.mono hB.size)
    clear hv
    refine hK.out _ _ _ (fun _ h => h) ⟨x0, x1, x2, x3, x4, q0, q1, q2⟩ ?_
    clear hK K
    try simp only [Act.put, List.setIfInBounds_toArray, List.set_cons_zero, List.set_cons_succ]
    refine Lex.step_take (.tuple #[.agg #[.slice A1 n1 c1, .slice B1 m1 k1, .bool dd1, .int .i64 lf1, .int .i64 ds1], .int .i64 er]) hp7 rfl (Lex.want_none rfl) (by intro Wx hSw; (try dsimp only at hSw); go_simp; (try (first | (with_reducible rfl) | assumption | rfl))) ?_
    simp only [Act.put, List.setIfInBounds_toArray, List.set_cons_zero, List.set_cons_succ]
    refine Lex.tail_lex (ops := hpraw) (calls := [10]) (n := 8) [8, 9, 10, 11] (fun _ => True) hprsel (by rw [hpsize]; rfl) (by kernel_rfl) hptlex trivial ?_
    refine Lex.step_take (.agg #[.slice A1 n1 c1, .slice B1 m1 k1, .bool dd1, .int .i64 lf1, .int .i64 ds1]) hpt8 rfl (Lex.want_none rfl) (by intro Wx hSw; go_simp; (try (first | (with_reducible rfl) | assumption | rfl))) ?_
    simp only [Act.put, List.setIfInBounds_toArray, List.set_cons_zero, List.set_cons_succ]
    refine Lex.step_take (.int .i64 er) hpt9 rfl (Lex.want_none rfl) (by intro Wx hSw; go_simp; (try (first | (with_reducible rfl) | assumption | rfl))) ?_
    simp only [Act.put, List.setIfInBounds_toArray, List.set_cons_zero, List.set_cons_succ]
    refine Lex.step_call hpt10 rfl (Lex.want_none rfl) (fun K hK => ?_)
    have xf := hx.f
    go_simp
    refine hK.out _ _ _ (fun _ h => h) trivial ?_
    clear hK K
    try simp only [Act.put, List.setIfInBounds_toArray, List.set_cons_zero, List.set_cons_succ]
    refine Lex.step_take (.int .i64 er) hpt11 rfl (Lex.want_none rfl) (by intro Wx hSw; go_simp; (try (first | (with_reducible rfl) | assumption | rfl))) ?_
    simp only [Act.put, List.setIfInBounds_toArray, List.set_cons_zero, List.set_cons_succ]
    refine NoPanic.normal ?_
    have hx7 := hx.set (.slice A1 n1 c1) (.slice B1 m1 k1) (.bool dd1) (.int .i64 lf1) (.int .i64 ds1)
    have hbut := but5 y2 gx (.slice A1 n1 c1) (.slice B1 m1 k1) (.bool dd1) (.int .i64 lf1) (.int .i64 ds1)
    have hy7 := hy.but hbut hne
    have hB7 := below_box5 hB hwx (.slice A1 n1 c1) (.slice B1 m1 k1) (.bool dd1) (.int .i64 lf1) (.int .i64 ds1)
    have hD7 := hDv.but HOK.out.2.2 x0 hbut
    clear hbut hx hy hB hDv x0 x1 x2 x3 x4 q0 q1 q2 xf hq
    generalize (((((y2).setCell ⟨gx, 0, none⟩ (.slice A1 n1 c1)).setCell ⟨gx, 1, none⟩ (.slice B1 m1 k1)).setCell ⟨gx, 2, none⟩ (.bool dd1)).setCell ⟨gx, 3, none⟩ (.int .i64 lf1)).setCell ⟨gx, 4, none⟩ (.int .i64 ds1) = w7 at hx7 hy7 hB7 hD7 ⊢
    have HD7 := Lib.hid hD7
    clear hD7
    have x0 := hx7.c0
    have x1 := hx7.c1
    have x2 := hx7.c2
    have x3 := hx7.c3
    have x4 := hx7.c4
    have y0 := hy7.c0
    have y1 := hy7.c1
    have y2 := hy7.c2
    have y3 := hy7.c3
    have y4 := hy7.c4
    have yf := hy7.f
    by_cases hz : er = 0
    · subst hz
      have HP2 := Lib.hid (HP.out.trans (if_pos rfl))
      clear y0 y1 y2 y3 y4 yf
      go_wp2_with fail
      refine (slabFlush _ _ _ HD7.out HOK.out.1 HOK.out.2.1).mono ?_
      rintro e w8 ⟨v8, rfl, hD8, hv⟩
      obtain ⟨A2, n2, c2, B2, m2, k2, dd2, lf2, ds2, rfl⟩ := dev_form hD8
      have hy8 := hy7.below hv hy7.lt5
      have hB8 := hB7.trans (hv.mono hB7.size)
      clear hv x0 x1 x2 x3 x4 hx7 hy7 hB7
      generalize hfe : (flushR D1).2 = fe at HP2 ⊢
      have HFE := Lib.hid hfe
      clear hfe
      have hW := below_box5 hB8 hwy (.slice A2 n2 c2) (.slice B2 m2 k2) (.bool dd2) (.int .i64 lf2) (.int .i64 ds2)
      have HF := Lib.hid (hy8.set (.slice A2 n2 c2) (.slice B2 m2 k2) (.bool dd2) (.int .i64 lf2) (.int .i64 ds2))
      have HE := Lib.hid (And.intro (hD8.but (by rw [flushR_n]; exact HOK.out.2.2) hy8.c0 (but5 w8 gy (.slice A2 n2 c2) (.slice B2 m2 k2) (.bool dd2) (.int .i64 lf2) (.int .i64 ds2))) hW)
      have y0 := hy8.c0
      have y1 := hy8.c1
      have y2 := hy8.c2
      have y3 := hy8.c3
      have y4 := hy8.c4
      have yf := hy8.f
      clear hy8 hB8 hD8 hW
      go_wp2
      refine bodyPost_ret (results_d2 rfl _ _ gy _ _ _ _ _ rfl HF.out.c0 HF.out.c1 HF.out.c2 HF.out.c3 HF.out.c4) rfl ?_
      rw [HP2.out, HFE.out]
      exact ⟨_, rfl, HE.out.1, HE.out.2⟩
    · have hz1 : (er == 0) = false := beq_eq_false_iff_ne.2 hz
      have hz2 : (er != 0) = true := by rw [bne, hz1]; rfl
      have HP2 := Lib.hid (HP.out.trans (if_neg hz))
      have hW := below_box5 hB7 hwy (.slice A1 n1 c1) (.slice B1 m1 k1) (.bool dd1) (.int .i64 lf1) (.int .i64 ds1)
      have HF := Lib.hid (hy7.set (.slice A1 n1 c1) (.slice B1 m1 k1) (.bool dd1) (.int .i64 lf1) (.int .i64 ds1))
      have HE := Lib.hid (And.intro (HD7.out.but HOK.out.2.2 hy7.c0 (but5 w7 gy (.slice A1 n1 c1) (.slice B1 m1 k1) (.bool dd1) (.int .i64 lf1) (.int .i64 ds1))) hW)
      clear hx7 hy7 hB7 hW hz
      go_wp2
      refine bodyPost_ret (results_d2 rfl _ _ gy _ _ _ _ _ rfl HF.out.c0 HF.out.c1 HF.out.c2 HF.out.c3 HF.out.c4) rfl ?_
      rw [HP2.out]
      exact ⟨_, rfl, HE.out.1, HE.out.2⟩
set_option maxRecDepth 20000 in
set_option maxHeartbeats 6400000 in
theorem refPutH {K : Nat} (v : Value) (D : Dev) (h : H) (w : World) (hD : IsDev w v D) (hok : D.Ok K) (hK : K ≤ 99999) (hn : 2 ≤ D.n) :
    Calls Tryd.prog 25 #[v, .agg (cellsH h)] w (DevErr (putH D h).1 (putH D h).2 w) := by
  obtain ⟨A0, n0, c0, B0, m0, k0, dd0, lf0, ds0, rfl⟩ := dev_form hD
  have HD := Lib.hid (And.intro hD (And.intro hok (And.intro hK hn)))
  clear hD hok hK hn
  have hx := Box5.new w (.slice A0 n0 c0) (.slice B0 m0 k0) (.bool dd0) (.int .i64 lf0) (.int .i64 ds0) 39
  have hB := (Below.refl w.heap.size w).alloc (Nat.le_refl _) (.cells #[.slice A0 n0 c0, .slice B0 m0 k0, .bool dd0, .int .i64 lf0, .int .i64 ds0] 39)
  obtain ⟨gx, hgx⟩ : ∃ x, w.heap.size = x := ⟨_, rfl⟩
  have hwx : w.heap.size ≤ gx := by omega
  rw [hgx] at hx
  generalize hwa : w.alloc (.cells #[.slice A0 n0 c0, .slice B0 m0 k0, .bool dd0, .int .i64 lf0, .int .i64 ds0] 39) = wa at hB hx
  have hq := BoxH.new wa h 23
  have hv := (Below.refl wa.heap.size wa).alloc (Nat.le_refl _) (.cells (cellsH h) 23)
  have hx := hx.below hv hx.lt5
  have hwq : w.heap.size ≤ wa.heap.size := hB.size
  have hB := hB.trans (hv.mono hB.size)
  clear hv
  obtain ⟨gq, hgq⟩ : ∃ x, wa.heap.size = x := ⟨_, rfl⟩
  rw [hgq] at hq hwq
  generalize hwb : wa.alloc (.cells (cellsH h) 23) = wb at hB hx hq
  have hy := Box5.new wb (.slice none 0 0) (.slice none 0 0) (.bool false) (.int .i64 0) (.int .i64 0) 39
  have hv := (Below.refl wb.heap.size wb).alloc (Nat.le_refl _) (.cells #[.slice none 0 0, .slice none 0 0, .bool false, .int .i64 0, .int .i64 0] 39)
  have hxl := hx.lt5
  have hx := hx.below hv hx.lt5
  have hq := hq.below hv hq.lt
  have hwy : w.heap.size ≤ wb.heap.size := hB.size
  have hB := hB.trans (hv.mono hB.size)
  clear hv
  obtain ⟨gy, hgy⟩ : ∃ x, wb.heap.size = x := ⟨_, rfl⟩
  rw [hgy] at hy hwy hxl
  have hne : gy ≠ gx := by omega
  generalize hwc : wb.alloc (.cells #[.slice none 0 0, .slice none 0 0, .bool false, .int .i64 0, .int .i64 0] 39) = wc at hB hx hq hy
  have hNO : ¬ RightH h → putH D h = (D, 1) := fun hr => if_neg hr
  have hYES : RightH h → putH D h = (if (putR D (h.e % 2) (headB h)).2 = 0 then flushR (putR D (h.e % 2) (headB h)).1 else putR D (h.e % 2) (headB h)) := fun hr => if_pos hr
  generalize putH D h = PR at hNO hYES ⊢
  have HNO := Lib.hid hNO
  have HYES := Lib.hid hYES
  clear hNO hYES
  have hRt := fun W => refRight_any h W
  obtain ⟨hp, hl, he⟩ := h
  unfold cellsH at hwb hRt ⊢
  simp only at hwb hRt ⊢
  have q0 := hq.c0
  have q1 := hq.c1
  have q2 := hq.c2
  simp only at q0 q1 q2
  go_enter Tryd.func25, Tryd.ntmps25
  go_wp2_with fail
  clear hwa hwb hwc hgx hgq hgy
  refine (hRt _).mono ?_
  rintro e w1 ⟨is, rfl, hb, hv⟩
  clear q0 q1 q2 hRt
  have hx := hx.below hv hx.lt5
  have hy := hy.below hv hy.lt5
  have hq := hq.below hv hq.lt
  have hB := hB.trans (hv.mono hB.size)
  clear hv
  cases is
  · have HP := Lib.hid (HNO.out (fun hr => by cases hb.2 hr))
    have hW := below_box5 hB hwy (.slice A0 n0 c0) (.slice B0 m0 k0) (.bool dd0) (.int .i64 lf0) (.int .i64 ds0)
    have HF := Lib.hid (hy.set (.slice A0 n0 c0) (.slice B0 m0 k0) (.bool dd0) (.int .i64 lf0) (.int .i64 ds0))
    have HE := Lib.hid (show DevErr D 1 w (.returned (.tuple #[.agg #[.slice A0 n0 c0, .slice B0 m0 k0, .bool dd0, .int .i64 lf0, .int .i64 ds0], .int .i64 1])) _ from ⟨_, rfl, HD.out.1.below hW (Nat.le_refl _), hW⟩)
    have x0 := hx.c0
    have x1 := hx.c1
    have x2 := hx.c2
    have x3 := hx.c3
    have x4 := hx.c4
    have y0 := hy.c0
    have y1 := hy.c1
    have y2 := hy.c2
    have y3 := hy.c3
    have y4 := hy.c4
    have yf := hy.f
    clear hx hy hq hB hb hW
    go_wp2
    refine bodyPost_ret (results_d2 rfl _ _ gy _ _ _ _ _ rfl HF.out.c0 HF.out.c1 HF.out.c2 HF.out.c3 HF.out.c4) rfl ?_
    rw [HP.out]
    exact HE.out
  · have hr := hb.1 rfl
    have HP := Lib.hid (HYES.out hr)
    have HR := Lib.hid hr
    have e0 := hr.e0
    have e1 := hr.e1
    have p0 := hr.p0
    have l0 := hr.l0
    simp only at e0 e1 p0 l0
    obtain ⟨pn, rfl⟩ : ∃ n : Nat, hp = n := ⟨hp.toNat, by omega⟩
    obtain ⟨ln, rfl⟩ : ∃ n : Nat, hl = n := ⟨hl.toNat, by omega⟩
    obtain ⟨en, rfl⟩ : ∃ n : Nat, he = n := ⟨he.toNat, by omega⟩
    clear hr hb p0 l0
    have x0 := hx.c0
    have x1 := hx.c1
    have x2 := hx.c2
    have x3 := hx.c3
    have x4 := hx.c4
    have q0 := hq.c0
    have q1 := hq.c1
    have q2 := hq.c2
    simp only at q0 q1 q2
    go_upto_region 3 with fail
    have hS := fun W => refPrint_any ⟨pn, ln, en⟩ W HR.out
    have hsz := headB_size ⟨pn, ln, en⟩
    generalize headB ⟨pn, ln, en⟩ = sx at HP hS hsz
    have HS := Lib.hid hS
    have hx2 : (en : Int) % 2 < 2 := by omega
    have hx3 : 0 ≤ (en : Int) % 2 := by omega
    have hhas : D.has ((en : Int) % 2) = true := by
      have := HD.out.2.2.2
      unfold Dev.has
      exact decide_eq_true ⟨by omega, by omega⟩
    have HPUT := Lib.hid (fun W (hd : IsDev W (.agg #[.slice A0 n0 c0, .slice B0 m0 k0, .bool dd0, .int .i64 lf0, .int .i64 ds0]) D) => refPut (.agg #[.slice A0 n0 c0, .slice B0 m0 k0, .bool dd0, .int .i64 lf0, .int .i64 ds0]) D ((en : Int) % 2) sx W hd HD.out.2.1 (Nat.le_trans HD.out.2.2.1 (by decide)) (by omega) hhas)
    have hok1 := putR_ok HD.out.2.1 sx hhas (by omega)
    have hn1 := putR_n D ((en : Int) % 2) sx
    have hN2 := HD.out.2.2.2
    have HK2 := HD.out.2.2.1
    generalize putR D ((en : Int) % 2) sx = PP at HP HPUT hok1 hn1
    obtain ⟨D1, er⟩ := PP
    have HOK := Lib.hid (show D1.Ok (K + 1) ∧ K + 1 ≤ 100000 ∧ 1 ≤ D1.n from ⟨hok1, by omega, by have : D1.n = D.n := hn1; omega⟩)
    clear hok1 hn1 hN2 HK2 hS hsz hx2 hx3 hhas
    simp only at HP
    have hdr := (Below.refl w1.heap.size w1).drew
    refine Lex.region_parts (ops := hqraw) (ops1 := hqops) (calls := hqcalls) 8 hqord (fun W => W.cell? ⟨gx, 0, none⟩ = some (.slice A0 n0 c0) ∧ W.cell? ⟨gx, 1, none⟩ = some (.slice B0 m0 k0) ∧ W.cell? ⟨gx, 2, none⟩ = some (.bool dd0) ∧ W.cell? ⟨gx, 3, none⟩ = some (.int .i64 lf0) ∧ W.cell? ⟨gx, 4, none⟩ = some (.int .i64 ds0) ∧ W.cell? ⟨gq, 0, none⟩ = some (.int .i64 (pn : Int)) ∧ W.cell? ⟨gq, 1, none⟩ = some (.int .i64 (ln : Int)) ∧ W.cell? ⟨gq, 2, none⟩ = some (.int .i64 (en : Int))) (by kernel_rfl) hqcut (by rw [hqsize]; decide) (by kernel_rfl) (by kernel_rfl) (by kernel_rfl) hqsel (by kernel_rfl) (by kernel_rfl) hqlex (⟨cell_belowH hdr x0, cell_belowH hdr x1, cell_belowH hdr x2, cell_belowH hdr x3, cell_belowH hdr x4, cell_belowH hdr q0, cell_belowH hdr q1, cell_belowH hdr q2⟩) ?_
    unfold hqord
    have x0 := cell_belowH hdr x0
    have x1 := cell_belowH hdr x1
    have x2 := cell_belowH hdr x2
    have x3 := cell_belowH hdr x3
    have x4 := cell_belowH hdr x4
    have q0 := cell_belowH hdr q0
    have q1 := cell_belowH hdr q1
    have q2 := cell_belowH hdr q2
    have hx := hx.below hdr hx.lt5
    have hy := hy.below hdr hy.lt5
    have hB := hB.trans (hdr.mono hB.size)
    clear hdr
    refine Lex.step_take (.agg #[.slice A0 n0 c0, .slice B0 m0 k0, .bool dd0, .int .i64 lf0, .int .i64 ds0]) hq0 rfl (Lex.want_none rfl) (by intro Wx hSw; (try dsimp only at hSw); go_simp; (try (first | (with_reducible rfl) | assumption | rfl))) ?_
    simp only [Act.put, List.setIfInBounds_toArray, List.set_cons_zero, List.set_cons_succ]
    refine Lex.step_take (.pointer (some ⟨gq, 2, none⟩)) hq1 rfl (Lex.want_none rfl) (by intro Wx hSw; (try dsimp only at hSw); go_simp; (try (first | (with_reducible rfl) | assumption | rfl))) ?_
    simp only [Act.put, List.setIfInBounds_toArray, List.set_cons_zero, List.set_cons_succ]
    refine Lex.step_take (.int .i64 (en : Int)) hq2 rfl (Lex.want_none rfl) (by intro Wx hSw; (try dsimp only at hSw); go_simp; (try (first | (with_reducible rfl) | assumption | rfl))) ?_
    simp only [Act.put, List.setIfInBounds_toArray, List.set_cons_zero, List.set_cons_succ]
    refine Lex.step_take (.int .i64 ((en : Int) % 2)) hq3 rfl (Lex.want_none rfl) (by intro Wx hSw; (try dsimp only at hSw); go_simp; (try (first | (with_reducible rfl) | assumption | rfl))) ?_
    simp only [Act.put, List.setIfInBounds_toArray, List.set_cons_zero, List.set_cons_succ]
    refine Lex.step_take (.agg #[.int .i64 (pn : Int), .int .i64 (ln : Int), .int .i64 (en : Int)]) hq4 rfl (Lex.want_none rfl) (by intro Wx hSw; (try dsimp only at hSw); go_simp; (try (first | (with_reducible rfl) | assumption | rfl))) ?_
    simp only [Act.put, List.setIfInBounds_toArray, List.set_cons_zero, List.set_cons_succ]
    refine Lex.step_call hq5 rfl (Lex.want_none rfl) (fun K hK => ?_)
    go_simp
    refine (HS.out _).mono ?_
    rintro e y1 ⟨rfl, hv⟩
    have x0 := cell_belowH hv x0
    have x1 := cell_belowH hv x1
    have x2 := cell_belowH hv x2
    have x3 := cell_belowH hv x3
    have x4 := cell_belowH hv x4
    have q0 := cell_belowH hv q0
    have q1 := cell_belowH hv q1
    have q2 := cell_belowH hv q2
    have hx := hx.below hv hx.lt5
    have hy := hy.below hv hy.lt5
    have hB := hB.trans (hv.mono hB.size)
    clear hv
    refine hK.out _ _ _ (fun _ h => h) ⟨x0, x1, x2, x3, x4, q0, q1, q2⟩ ?_
    clear hK K
    try simp only [Act.put, List.setIfInBounds_toArray, List.set_cons_zero, List.set_cons_succ]
    refine Lex.step_call hq6 rfl (Lex.want_none rfl) (fun K hK => ?_)
    go_simp
    refine (HPUT.out _ (HD.out.1.below hB (Nat.le_refl _))).mono ?_
    rintro e y2 ⟨v1, rfl, hDv, hv⟩
    obtain ⟨A1, n1, c1, B1, m1, k1, dd1, lf1, ds1, rfl⟩ := dev_form hDv
    have x0 := cell_belowH hv x0
    have x1 := cell_belowH hv x1
    have x2 := cell_belowH hv x2
    have x3 := cell_belowH hv x3
    have x4 := cell_belowH hv x4
    have q0 := cell_belowH hv q0
    have q1 := cell_belowH hv q1
    have q2 := cell_belowH hv q2
    have hx := hx.below hv hx.lt5
    have hy := hy.below hv hy.lt5
    have hB := hB.trans (hv.mono hB.size)
    clear hv
    refine hK.out _ _ _ (fun _ h => h) ⟨x0, x1, x2, x3, x4, q0, q1, q2⟩ ?_
    clear hK K
    try simp only [Act.put, List.setIfInBounds_toArray, List.set_cons_zero, List.set_cons_succ]
    refine Lex.step_take (.tuple #[.agg #[.slice A1 n1 c1, .slice B1 m1 k1, .bool dd1, .int .i64 lf1, .int .i64 ds1], .int .i64 er]) hq7 rfl (Lex.want_none rfl) (by intro Wx hSw; (try dsimp only at hSw); go_simp; (try (first | (with_reducible rfl) | assumption | rfl))) ?_
    simp only [Act.put, List.setIfInBounds_toArray, List.set_cons_zero, List.set_cons_succ]
    refine Lex.tail_lex (ops := hqraw) (calls := [10]) (n := 8) [8, 9, 10, 11] (fun _ => True) hqrsel (by rw [hqsize]; rfl) (by kernel_rfl) hqtlex trivial ?_
    refine Lex.step_take (.agg #[.slice A1 n1 c1, .slice B1 m1 k1, .bool dd1, .int .i64 lf1, .int .i64 ds1]) hqt8 rfl (Lex.want_none rfl) (by intro Wx hSw; go_simp; (try (first | (with_reducible rfl) | assumption | rfl))) ?_
    simp only [Act.put, List.setIfInBounds_toArray, List.set_cons_zero, List.set_cons_succ]
    refine Lex.step_take (.int .i64 er) hqt9 rfl (Lex.want_none rfl) (by intro Wx hSw; go_simp; (try (first | (with_reducible rfl) | assumption | rfl))) ?_
    simp only [Act.put, List.setIfInBounds_toArray, List.set_cons_zero, List.set_cons_succ]
    refine Lex.step_call hqt10 rfl (Lex.want_none rfl) (fun K hK => ?_)
    have xf := hx.f
    go_simp
    refine hK.out _ _ _ (fun _ h => h) trivial ?_
    clear hK K
    try simp only [Act.put, List.setIfInBounds_toArray, List.set_cons_zero, List.set_cons_succ]
    refine Lex.step_take (.int .i64 er) hqt11 rfl (Lex.want_none rfl) (by intro Wx hSw; go_simp; (try (first | (with_reducible rfl) | assumption | rfl))) ?_
    simp only [Act.put, List.setIfInBounds_toArray, List.set_cons_zero, List.set_cons_succ]
    refine NoPanic.normal ?_
    have hx7 := hx.set (.slice A1 n1 c1) (.slice B1 m1 k1) (.bool dd1) (.int .i64 lf1) (.int .i64 ds1)
    have hbut := but5 y2 gx (.slice A1 n1 c1) (.slice B1 m1 k1) (.bool dd1) (.int .i64 lf1) (.int .i64 ds1)
    have hy7 := hy.but hbut hne
    have hB7 := below_box5 hB hwx (.slice A1 n1 c1) (.slice B1 m1 k1) (.bool dd1) (.int .i64 lf1) (.int .i64 ds1)
    have hD7 := hDv.but HOK.out.2.2 x0 hbut
    clear hbut hx hy hB hDv x0 x1 x2 x3 x4 q0 q1 q2 xf hq
    generalize (((((y2).setCell ⟨gx, 0, none⟩ (.slice A1 n1 c1)).setCell ⟨gx, 1, none⟩ (.slice B1 m1 k1)).setCell ⟨gx, 2, none⟩ (.bool dd1)).setCell ⟨gx, 3, none⟩ (.int .i64 lf1)).setCell ⟨gx, 4, none⟩ (.int .i64 ds1) = w7 at hx7 hy7 hB7 hD7 ⊢
    have HD7 := Lib.hid hD7
    clear hD7
    have x0 := hx7.c0
    have x1 := hx7.c1
    have x2 := hx7.c2
    have x3 := hx7.c3
    have x4 := hx7.c4
    have y0 := hy7.c0
    have y1 := hy7.c1
    have y2 := hy7.c2
    have y3 := hy7.c3
    have y4 := hy7.c4
    have yf := hy7.f
    by_cases hz : er = 0
    · subst hz
      have HP2 := Lib.hid (HP.out.trans (if_pos rfl))
      clear y0 y1 y2 y3 y4 yf
      go_wp2_with fail
      refine (refFlush _ _ _ HD7.out HOK.out.1 HOK.out.2.1).mono ?_
      rintro e w8 ⟨v8, rfl, hD8, hv⟩
      obtain ⟨A2, n2, c2, B2, m2, k2, dd2, lf2, ds2, rfl⟩ := dev_form hD8
      have hy8 := hy7.below hv hy7.lt5
      have hB8 := hB7.trans (hv.mono hB7.size)
      clear hv x0 x1 x2 x3 x4 hx7 hy7 hB7
      generalize hfe : (flushR D1).2 = fe at HP2 ⊢
      have HFE := Lib.hid hfe
      clear hfe
      have hW := below_box5 hB8 hwy (.slice A2 n2 c2) (.slice B2 m2 k2) (.bool dd2) (.int .i64 lf2) (.int .i64 ds2)
      have HF := Lib.hid (hy8.set (.slice A2 n2 c2) (.slice B2 m2 k2) (.bool dd2) (.int .i64 lf2) (.int .i64 ds2))
      have HE := Lib.hid (And.intro (hD8.but (by rw [flushR_n]; exact HOK.out.2.2) hy8.c0 (but5 w8 gy (.slice A2 n2 c2) (.slice B2 m2 k2) (.bool dd2) (.int .i64 lf2) (.int .i64 ds2))) hW)
      have y0 := hy8.c0
      have y1 := hy8.c1
      have y2 := hy8.c2
      have y3 := hy8.c3
      have y4 := hy8.c4
      have yf := hy8.f
      clear hy8 hB8 hD8 hW
      go_wp2
      refine bodyPost_ret (results_d2 rfl _ _ gy _ _ _ _ _ rfl HF.out.c0 HF.out.c1 HF.out.c2 HF.out.c3 HF.out.c4) rfl ?_
      rw [HP2.out, HFE.out]
      exact ⟨_, rfl, HE.out.1, HE.out.2⟩
    · have hz1 : (er == 0) = false := beq_eq_false_iff_ne.2 hz
      have hz2 : (er != 0) = true := by rw [bne, hz1]; rfl
      have HP2 := Lib.hid (HP.out.trans (if_neg hz))
      have hW := below_box5 hB7 hwy (.slice A1 n1 c1) (.slice B1 m1 k1) (.bool dd1) (.int .i64 lf1) (.int .i64 ds1)
      have HF := Lib.hid (hy7.set (.slice A1 n1 c1) (.slice B1 m1 k1) (.bool dd1) (.int .i64 lf1) (.int .i64 ds1))
      have HE := Lib.hid (And.intro (HD7.out.but HOK.out.2.2 hy7.c0 (but5 w7 gy (.slice A1 n1 c1) (.slice B1 m1 k1) (.bool dd1) (.int .i64 lf1) (.int .i64 ds1))) hW)
      clear hx7 hy7 hB7 hW hz
      go_wp2
      refine bodyPost_ret (results_d2 rfl _ _ gy _ _ _ _ _ rfl HF.out.c0 HF.out.c1 HF.out.c2 HF.out.c3 HF.out.c4) rfl ?_
      rw [HP2.out]
      exact ⟨_, rfl, HE.out.1, HE.out.2⟩
end Go.Proofs.YtdbemkdfndjakaaDoor.Hd
