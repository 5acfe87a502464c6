/- Texts HdK, Xsa, Xsb, Xsc, Xsd, Xse, Xsf, Xsg, Xsh, Xsj, Xsk, one behind the other. -/
import Derived.Test.YtcgkbcgpnlogoaaGreatDoorMgAE
import Derived.Test.YtcgkbcgpnlogoaaGreatDoorMgAB
import Derived.Test.YtcgkbcgpnlogoaaGreatDoorMgAA
import Derived.KernelRfl
import Derived.Test.YtcgkbcgpnlogoaaGreatDoorMgAD
/- Heads on devices: Put of the program (762697a) and of the document, walked. -/
namespace Go.Proofs.YtcgkbcgpnlogoaaGreatDoor.Hd
open Go.RowKit Go.Shelf Tal Sla Fr Lex
/-- What a device is behind a deed, and the error. -/
def putR (D : Dev) (x : Int) (d : ByteArray) : Dev × Int := if D.pow = true then (D.putAt x d, 0) else (D.down, 10)
def flushR (D : Dev) : Dev × Int := if D.pow = true then (D.flushed, 0) else (D.down, 10)
def getR (D : Dev) (x : Nat) : Dev × ByteArray × Int := if D.pow = true then (D.up, Sla.look D.LA D.LD x (D.S x) D.m, 0) else (D.down, ⟨#[]⟩, 10)
open Classical in
noncomputable def putH (D : Dev) (h : H) : Dev × Int := if RightH h then (if (putR D (h.e % 2) (headB h)).2 = 0 then flushR (putR D (h.e % 2) (headB h)).1 else putR D (h.e % 2) (headB h)) else (D, 1)
section
variable {K : Nat} {v : Value} {D : Dev} {w : World}
theorem pow_cases (D : Dev) : D.pow = true ∨ D.pow = false := by cases D.pow <;> simp
theorem putR_n (D : Dev) (x : Int) (d : ByteArray) : (putR D x d).1.n = D.n := by unfold putR; split <;> rfl
theorem flushR_n (D : Dev) : (flushR D).1.n = D.n := by unfold flushR; split <;> rfl
theorem getR_n (D : Dev) (x : Nat) : (getR D x).1.n = D.n := by unfold getR; split <;> rfl
theorem putR_ok (h : D.Ok K) {x : Int} (d : ByteArray) (hx : D.has x = true) (hd : d.size ≤ 256) : (putR D x d).1.Ok (K + 1) := by
 unfold putR
 split
 ·exact h.put x d hx hd
 ·exact h.down.more (by omega)
theorem flushR_ok (h : D.Ok K) : (flushR D).1.Ok (K + 1) := by
 unfold flushR
 split
 ·exact h.flushed
 ·exact h.down.more (by omega)
theorem getR_ok (h : D.Ok K) (x : Nat) : (getR D x).1.Ok (K + 1) := by
 unfold getR
 split
 ·exact h.up
 ·exact h.down.more (by omega)
theorem slabPut (v : Value) (D : Dev) (x : Int) (d : ByteArray) (w : World) (h : IsDev w v D) (hok : D.Ok K) (hK : K ≤ 100000) (hs : d.size ≤ 256) (ha : D.has x = true) :
  Calls Tryz.prog 139 #[v, .int .i64 x, .string d] w (DevErr (putR D x d).1 (putR D x d).2 w) := by
 unfold putR
 rcases pow_cases D with hp | hp
 ·rw [if_pos hp]
  exact put_ok v D x d w h hok hK hs ha hp
 ·rw [if_neg (by rw [hp]; decide)]
  exact put_down v D x d w h hs ha hp
theorem slabFlush (v : Value) (D : Dev) (w : World) (h : IsDev w v D) (hok : D.Ok K) (hK : K ≤ 100000) :
  Calls Tryz.prog 141 #[v] w (DevErr (flushR D).1 (flushR D).2 w) := by
 unfold flushR
 rcases pow_cases D with hp | hp
 ·rw [if_pos hp]
  exact flush_ok v D w h hok hK hp
 ·rw [if_neg (by rw [hp]; decide)]
  exact flush_down v D w h hp
theorem slabGet (v : Value) (D : Dev) (x : Nat) (w : World) (h : IsDev w v D) (hok : D.Ok K) (hK : K ≤ 100000) (ha : D.has x = true) :
  Calls Tryz.prog 168 #[v, .int .i64 x] w (GetErr (getR D x).1 (getR D x).2.1 (getR D x).2.2 w) := by
 unfold getR
 rcases pow_cases D with hp | hp
 ·rw [if_pos hp]
  exact get_ok v D x w h hok hK ha hp
 ·rw [if_neg (by rw [hp]; decide)]
  exact get_down v D x w h ha hp
theorem dev_form (h : IsDev w v D) : ∃ (A : Option Addr) (n c : Nat) (B : Option Addr) (m k : Nat) (dd : Bool) (lf ds : Int), v = .agg #[.slice A n c, .slice B m k, .bool dd, .int .i64 lf, .int .i64 ds] := by
 obtain ⟨b, B, c, k, rfl, _⟩ := h
 exact ⟨_, _, _, _, _, _, _, _, _, rfl⟩
theorem below_box5 {B g : Nat} {W : World} (hB : Below B w W) (hg : B ≤ g) (u0 u1 u2 u3 u4 : Value) : Below B w (((((W.setCell ⟨g, 0, none⟩ u0).setCell ⟨g, 1, none⟩ u1).setCell ⟨g, 2, none⟩ u2).setCell ⟨g, 3, none⟩ u3).setCell ⟨g, 4, none⟩ u4) :=
 ((((hB.setCell (p := ⟨g, 0, none⟩) hg _).setCell (p := ⟨g, 1, none⟩) hg _).setCell (p := ⟨g, 2, none⟩) hg _).setCell (p := ⟨g, 3, none⟩) hg _).setCell (p := ⟨g, 4, none⟩) hg _
end
theorem results_d2 {fn : Func} {p q : Tmp} (h : fn.results = #[.cell p 28, .tmp q]) (tmps : Array Value) (w : World) (g : Nat) (v0 v1 v2 v3 v4 : Value)
  (hp : tmps.getD p undef = .pointer (some ⟨g, 0, none⟩)) (c0 : w.cell? ⟨g, 0, none⟩ = some v0) (c1 : w.cell? ⟨g, 1, none⟩ = some v1) (c2 : w.cell? ⟨g, 2, none⟩ = some v2) (c3 : w.cell? ⟨g, 3, none⟩ = some v3) (c4 : w.cell? ⟨g, 4, none⟩ = some v4) :
  (results fn tmps).run Tryz.prog w = .ok (.tuple #[.agg #[v0, v1, v2, v3, v4], tmps.getD q undef]) w := by
 have hp' : tmps[p]?.getD undef = .pointer (some ⟨g, 0, none⟩) := by simpa using hp
 clear hp
 simp only [results, h]
 go_simp
set_option maxRecDepth 20000 in
set_option maxHeartbeats 6400000 in
theorem headPut {K : Nat} (v : Value) (D : Dev) (h : H) (w : World) (ht : Tab w) (hD : IsDev w v D) (hok : D.Ok K) (hK : K ≤ 99999) (hn : 2 ≤ D.n) :
  Calls Tryz.prog 68 #[v, .agg (cellsH h)] w (DevErr (putH D h).1 (putH D h).2 w) := by
 have HT := Lib.hid ht
 clear ht
 obtain ⟨A0, n0, c0, B0, m0, k0, dd0, lf0, ds0, rfl⟩ := dev_form hD
 have HD := Lib.hid (And.intro hD (And.intro hok (And.intro hK hn)))
 clear hD hok hK hn
 have hx := Box5.new w (.slice A0 n0 c0) (.slice B0 m0 k0) (.bool dd0) (.int .i64 lf0) (.int .i64 ds0) 28
 have hB := (Below.refl w.heap.size w).alloc (Nat.le_refl _) (.cells #[.slice A0 n0 c0, .slice B0 m0 k0, .bool dd0, .int .i64 lf0, .int .i64 ds0] 28)
 obtain ⟨gx, hgx⟩ : ∃ x, w.heap.size = x := ⟨_, rfl⟩
 have hwx : w.heap.size ≤ gx := by omega
 rw [hgx] at hx
 generalize hwa : w.alloc (.cells #[.slice A0 n0 c0, .slice B0 m0 k0, .bool dd0, .int .i64 lf0, .int .i64 ds0] 28) = wa at hB hx
 have hq := BoxH.new wa h 30
 have hv := (Below.refl wa.heap.size wa).alloc (Nat.le_refl _) (.cells (cellsH h) 30)
 have hx := hx.below hv hx.lt5
 have hwq : w.heap.size ≤ wa.heap.size := hB.size
 have hB := hB.trans (hv.mono hB.size)
 clear hv
 obtain ⟨gq, hgq⟩ : ∃ x, wa.heap.size = x := ⟨_, rfl⟩
 rw [hgq] at hq hwq
 generalize hwb : wa.alloc (.cells (cellsH h) 30) = wb at hB hx hq
 have hy := Box5.new wb (.slice none 0 0) (.slice none 0 0) (.bool false) (.int .i64 0) (.int .i64 0) 28
 have hv := (Below.refl wb.heap.size wb).alloc (Nat.le_refl _) (.cells #[.slice none 0 0, .slice none 0 0, .bool false, .int .i64 0, .int .i64 0] 28)
 have hxl := hx.lt5
 have hx := hx.below hv hx.lt5
 have hq := hq.below hv hq.lt
 have hwy : w.heap.size ≤ wb.heap.size := hB.size
 have hB := hB.trans (hv.mono hB.size)
 clear hv
 obtain ⟨gy, hgy⟩ : ∃ x, wb.heap.size = x := ⟨_, rfl⟩
 rw [hgy] at hy hwy hxl
 have hne : gy ≠ gx := by omega
 generalize hwc : wb.alloc (.cells #[.slice none 0 0, .slice none 0 0, .bool false, .int .i64 0, .int .i64 0] 28) = wc at hB hx hq hy
 have hNO : ¬ RightH h → putH D h = (D, 1) := fun hr => if_neg hr
 have hYES : RightH h → putH D h = (if (putR D (h.e % 2) (headB h)).2 = 0 then flushR (putR D (h.e % 2) (headB h)).1 else putR D (h.e % 2) (headB h)) := fun hr => if_pos hr
 generalize putH D h = PR at hNO hYES ⊢
 have HNO := Lib.hid hNO
 have HYES := Lib.hid hYES
 clear hNO hYES
 have hRt := fun W => right_any h W
 obtain ⟨hp, hl, he⟩ := h
 unfold cellsH at hwb hRt ⊢
 simp only at hwb hRt ⊢
 have q0 := hq.c0
 have q1 := hq.c1
 have q2 := hq.c2
 simp only at q0 q1 q2
 go_enter Tryz.func68, Tryz.ntmps68
 go_wp2_with fail
 clear hwa hwb hwc hgx hgq hgy
 refine (hRt _).mono ?_
 rintro e w1 ⟨is, rfl, hb, hv⟩
 clear q0 q1 q2 hRt
 have hx := hx.below hv hx.lt5
 have hy := hy.below hv hy.lt5
 have hq := hq.below hv hq.lt
 have hB := hB.trans (hv.mono hB.size)
 clear hv
 cases is
 ·have HP := Lib.hid (HNO.out (fun hr => by cases hb.2 hr))
  have hW := below_box5 hB hwy (.slice A0 n0 c0) (.slice B0 m0 k0) (.bool dd0) (.int .i64 lf0) (.int .i64 ds0)
  have HF := Lib.hid (hy.set (.slice A0 n0 c0) (.slice B0 m0 k0) (.bool dd0) (.int .i64 lf0) (.int .i64 ds0))
  have HE := Lib.hid (show DevErr D 1 w (.returned (.tuple #[.agg #[.slice A0 n0 c0, .slice B0 m0 k0, .bool dd0, .int .i64 lf0, .int .i64 ds0], .int .i64 1])) _ from ⟨_, rfl, HD.out.1.below hW (Nat.le_refl _), hW⟩)
  have x0 := hx.c0
  have x1 := hx.c1
  have x2 := hx.c2
  have x3 := hx.c3
  have x4 := hx.c4
  have y0 := hy.c0
  have y1 := hy.c1
  have y2 := hy.c2
  have y3 := hy.c3
  have y4 := hy.c4
  have yf := hy.f
  clear hx hy hq hB hb hW
  go_wp2
  refine bodyPost_ret (results_d2 rfl _ _ gy _ _ _ _ _ rfl HF.out.c0 HF.out.c1 HF.out.c2 HF.out.c3 HF.out.c4) rfl ?_
  rw [HP.out]
  exact HE.out
 ·have hr := hb.1 rfl
  have HP := Lib.hid (HYES.out hr)
  have HR := Lib.hid hr
  have e0 := hr.e0
  have e1 := hr.e1
  have p0 := hr.p0
  have l0 := hr.l0
  simp only at e0 e1 p0 l0
  obtain ⟨pn, rfl⟩ : ∃ n : Nat, hp = n := ⟨hp.toNat, by omega⟩
  obtain ⟨ln, rfl⟩ : ∃ n : Nat, hl = n := ⟨hl.toNat, by omega⟩
  obtain ⟨en, rfl⟩ : ∃ n : Nat, he = n := ⟨he.toNat, by omega⟩
  clear hr hb p0 l0
  have x0 := hx.c0
  have x1 := hx.c1
  have x2 := hx.c2
  have x3 := hx.c3
  have x4 := hx.c4
  have q0 := hq.c0
  have q1 := hq.c1
  have q2 := hq.c2
  simp only at q0 q1 q2
  go_upto_region 3 with fail
  have hS := fun W (ht : Tab W) => print_any ⟨pn, ln, en⟩ W ht HR.out
  have hsz := headB_size ⟨pn, ln, en⟩
  generalize headB ⟨pn, ln, en⟩ = sx at HP hS hsz
  have HS := Lib.hid hS
  have hx2 : (en : Int) % 2 < 2 := by omega
  have hx3 : 0 ≤ (en : Int) % 2 := by omega
  have hhas : D.has ((en : Int) % 2) = true := by
   have := HD.out.2.2.2
   unfold Dev.has
   exact decide_eq_true ⟨by omega, by omega⟩
  have HPUT := Lib.hid (fun W (hd : IsDev W (.agg #[.slice A0 n0 c0, .slice B0 m0 k0, .bool dd0, .int .i64 lf0, .int .i64 ds0]) D) => slabPut (.agg #[.slice A0 n0 c0, .slice B0 m0 k0, .bool dd0, .int .i64 lf0, .int .i64 ds0]) D ((en : Int) % 2) sx W hd HD.out.2.1 (Nat.le_trans HD.out.2.2.1 (by decide)) (by omega) hhas)
  have hok1 := putR_ok HD.out.2.1 sx hhas (by omega)
  have hn1 := putR_n D ((en : Int) % 2) sx
  have hN2 := HD.out.2.2.2
  have HK2 := HD.out.2.2.1
  generalize putR D ((en : Int) % 2) sx = PP at HP HPUT hok1 hn1
  obtain ⟨D1, er⟩ := PP
  have HOK := Lib.hid (show D1.Ok (K + 1) ∧ K + 1 ≤ 100000 ∧ 1 ≤ D1.n from ⟨hok1, by omega, by have : D1.n = D.n := hn1; omega⟩)
  clear hok1 hn1 hN2 HK2 hS hsz hx2 hx3 hhas
  simp only at HP
  have hdr := (Below.refl w1.heap.size w1).drew
  refine Lex.region_parts (ops := hpraw) (ops1 := hpops) (calls := hpcalls) 8 hpord (fun W => W.cell? ⟨gx, 0, none⟩ = some (.slice A0 n0 c0) ∧ W.cell? ⟨gx, 1, none⟩ = some (.slice B0 m0 k0) ∧ W.cell? ⟨gx, 2, none⟩ = some (.bool dd0) ∧ W.cell? ⟨gx, 3, none⟩ = some (.int .i64 lf0) ∧ W.cell? ⟨gx, 4, none⟩ = some (.int .i64 ds0) ∧ W.cell? ⟨gq, 0, none⟩ = some (.int .i64 (pn : Int)) ∧ W.cell? ⟨gq, 1, none⟩ = some (.int .i64 (ln : Int)) ∧ W.cell? ⟨gq, 2, none⟩ = some (.int .i64 (en : Int))) (by kernel_rfl) hpcut (by rw [hpsize]; decide) (by kernel_rfl) (by kernel_rfl) (by kernel_rfl) hpsel (by kernel_rfl) (by kernel_rfl) hplex (⟨cell_belowH hdr x0, cell_belowH hdr x1, cell_belowH hdr x2, cell_belowH hdr x3, cell_belowH hdr x4, cell_belowH hdr q0, cell_belowH hdr q1, cell_belowH hdr q2⟩) ?_
  unfold hpord
  have x0 := cell_belowH hdr x0
  have x1 := cell_belowH hdr x1
  have x2 := cell_belowH hdr x2
  have x3 := cell_belowH hdr x3
  have x4 := cell_belowH hdr x4
  have q0 := cell_belowH hdr q0
  have q1 := cell_belowH hdr q1
  have q2 := cell_belowH hdr q2
  have hx := hx.below hdr hx.lt5
  have hy := hy.below hdr hy.lt5
  have hB := hB.trans (hdr.mono hB.size)
  clear hdr
  refine Lex.step_take (.agg #[.slice A0 n0 c0, .slice B0 m0 k0, .bool dd0, .int .i64 lf0, .int .i64 ds0]) hp0 rfl (Lex.want_none rfl) (by intro Wx hSw; (try dsimp only at hSw); go_simp; (try (first | (with_reducible rfl) | assumption | rfl))) ?_
  simp only [Act.put, List.setIfInBounds_toArray, List.set_cons_zero, List.set_cons_succ]
  refine Lex.step_take (.pointer (some ⟨gq, 2, none⟩)) hp1 rfl (Lex.want_none rfl) (by intro Wx hSw; (try dsimp only at hSw); go_simp; (try (first | (with_reducible rfl) | assumption | rfl))) ?_
  simp only [Act.put, List.setIfInBounds_toArray, List.set_cons_zero, List.set_cons_succ]
  refine Lex.step_take (.int .i64 (en : Int)) hp2 rfl (Lex.want_none rfl) (by intro Wx hSw; (try dsimp only at hSw); go_simp; (try (first | (with_reducible rfl) | assumption | rfl))) ?_
  simp only [Act.put, List.setIfInBounds_toArray, List.set_cons_zero, List.set_cons_succ]
  refine Lex.step_take (.int .i64 ((en : Int) % 2)) hp3 rfl (Lex.want_none rfl) (by intro Wx hSw; (try dsimp only at hSw); go_simp; (try (first | (with_reducible rfl) | assumption | rfl))) ?_
  simp only [Act.put, List.setIfInBounds_toArray, List.set_cons_zero, List.set_cons_succ]
  refine Lex.step_take (.agg #[.int .i64 (pn : Int), .int .i64 (ln : Int), .int .i64 (en : Int)]) hp4 rfl (Lex.want_none rfl) (by intro Wx hSw; (try dsimp only at hSw); go_simp; (try (first | (with_reducible rfl) | assumption | rfl))) ?_
  simp only [Act.put, List.setIfInBounds_toArray, List.set_cons_zero, List.set_cons_succ]
  refine Lex.step_call hp5 rfl (Lex.want_none rfl) (fun K hK => ?_)
  go_simp
  refine (HS.out _ (HT.out.below hB)).mono ?_
  rintro e y1 ⟨rfl, hv⟩
  have x0 := cell_belowH hv x0
  have x1 := cell_belowH hv x1
  have x2 := cell_belowH hv x2
  have x3 := cell_belowH hv x3
  have x4 := cell_belowH hv x4
  have q0 := cell_belowH hv q0
  have q1 := cell_belowH hv q1
  have q2 := cell_belowH hv q2
  have hx := hx.below hv hx.lt5
  have hy := hy.below hv hy.lt5
  have hB := hB.trans (hv.mono hB.size)
  clear hv
  refine hK.out _ _ _ (fun _ h => h) ⟨x0, x1, x2, x3, x4, q0, q1, q2⟩ ?_
  clear hK K
  try simp only [Act.put, List.setIfInBounds_toArray, List.set_cons_zero, List.set_cons_succ]
  refine Lex.step_call hp6 rfl (Lex.want_none rfl) (fun K hK => ?_)
  go_simp
  refine (HPUT.out _ (HD.out.1.below hB (Nat.le_refl _))).mono ?_
  rintro e y2 ⟨v1, rfl, hDv, hv⟩
  obtain ⟨A1, n1, c1, B1, m1, k1, dd1, lf1, ds1, rfl⟩ := dev_form hDv
  have x0 := cell_belowH hv x0
  have x1 := cell_belowH hv x1
  have x2 := cell_belowH hv x2
  have x3 := cell_belowH hv x3
  have x4 := cell_belowH hv x4
  have q0 := cell_belowH hv q0
  have q1 := cell_belowH hv q1
  have q2 := cell_belowH hv q2
  have hx := hx.below hv hx.lt5
  have hy := hy.below hv hy.lt5
  have hB := hB.trans (hv.mono hB.size)
  clear hv
  refine hK.out _ _ _ (fun _ h => h) ⟨x0, x1, x2, x3, x4, q0, q1, q2⟩ ?_
  clear hK K
  try simp only [Act.put, List.setIfInBounds_toArray, List.set_cons_zero, List.set_cons_succ]
  refine Lex.step_take (.tuple #[.agg #[.slice A1 n1 c1, .slice B1 m1 k1, .bool dd1, .int .i64 lf1, .int .i64 ds1], .int .i64 er]) hp7 rfl (Lex.want_none rfl) (by intro Wx hSw; (try dsimp only at hSw); go_simp; (try (first | (with_reducible rfl) | assumption | rfl))) ?_
  simp only [Act.put, List.setIfInBounds_toArray, List.set_cons_zero, List.set_cons_succ]
  refine Lex.tail_lex (ops := hpraw) (calls := [10]) (n := 8) [8, 9, 10, 11] (fun _ => True) hprsel (by rw [hpsize]; rfl) (by kernel_rfl) hptlex trivial ?_
  refine Lex.step_take (.agg #[.slice A1 n1 c1, .slice B1 m1 k1, .bool dd1, .int .i64 lf1, .int .i64 ds1]) hpt8 rfl (Lex.want_none rfl) (by intro Wx hSw; go_simp; (try (first | (with_reducible rfl) | assumption | rfl))) ?_
  simp only [Act.put, List.setIfInBounds_toArray, List.set_cons_zero, List.set_cons_succ]
  refine Lex.step_take (.int .i64 er) hpt9 rfl (Lex.want_none rfl) (by intro Wx hSw; go_simp; (try (first | (with_reducible rfl) | assumption | rfl))) ?_
  simp only [Act.put, List.setIfInBounds_toArray, List.set_cons_zero, List.set_cons_succ]
  refine Lex.step_call hpt10 rfl (Lex.want_none rfl) (fun K hK => ?_)
  have xf := hx.f
  go_simp
  refine hK.out _ _ _ (fun _ h => h) trivial ?_
  clear hK K
  try simp only [Act.put, List.setIfInBounds_toArray, List.set_cons_zero, List.set_cons_succ]
  refine Lex.step_take (.int .i64 er) hpt11 rfl (Lex.want_none rfl) (by intro Wx hSw; go_simp; (try (first | (with_reducible rfl) | assumption | rfl))) ?_
  simp only [Act.put, List.setIfInBounds_toArray, List.set_cons_zero, List.set_cons_succ]
  refine NoPanic.normal ?_
  have hx7 := hx.set (.slice A1 n1 c1) (.slice B1 m1 k1) (.bool dd1) (.int .i64 lf1) (.int .i64 ds1)
  have hbut := but5 y2 gx (.slice A1 n1 c1) (.slice B1 m1 k1) (.bool dd1) (.int .i64 lf1) (.int .i64 ds1)
  have hy7 := hy.but hbut hne
  have hB7 := below_box5 hB hwx (.slice A1 n1 c1) (.slice B1 m1 k1) (.bool dd1) (.int .i64 lf1) (.int .i64 ds1)
  have hD7 := hDv.but HOK.out.2.2 x0 hbut
  clear hbut hx hy hB hDv x0 x1 x2 x3 x4 q0 q1 q2 xf hq
  generalize (((((y2).setCell ⟨gx, 0, none⟩ (.slice A1 n1 c1)).setCell ⟨gx, 1, none⟩ (.slice B1 m1 k1)).setCell ⟨gx, 2, none⟩ (.bool dd1)).setCell ⟨gx, 3, none⟩ (.int .i64 lf1)).setCell ⟨gx, 4, none⟩ (.int .i64 ds1) = w7 at hx7 hy7 hB7 hD7 ⊢
  have HD7 := Lib.hid hD7
  clear hD7
  have x0 := hx7.c0
  have x1 := hx7.c1
  have x2 := hx7.c2
  have x3 := hx7.c3
  have x4 := hx7.c4
  have y0 := hy7.c0
  have y1 := hy7.c1
  have y2 := hy7.c2
  have y3 := hy7.c3
  have y4 := hy7.c4
  have yf := hy7.f
  by_cases hz : er = 0
  ·subst hz
   have HP2 := Lib.hid (HP.out.trans (if_pos rfl))
   clear y0 y1 y2 y3 y4 yf
   go_wp2_with fail
   refine (slabFlush _ _ _ HD7.out HOK.out.1 HOK.out.2.1).mono ?_
   rintro e w8 ⟨v8, rfl, hD8, hv⟩
   obtain ⟨A2, n2, c2, B2, m2, k2, dd2, lf2, ds2, rfl⟩ := dev_form hD8
   have hy8 := hy7.below hv hy7.lt5
   have hB8 := hB7.trans (hv.mono hB7.size)
   clear hv x0 x1 x2 x3 x4 hx7 hy7 hB7
   generalize hfe : (flushR D1).2 = fe at HP2 ⊢
   have HFE := Lib.hid hfe
   clear hfe
   have hW := below_box5 hB8 hwy (.slice A2 n2 c2) (.slice B2 m2 k2) (.bool dd2) (.int .i64 lf2) (.int .i64 ds2)
   have HF := Lib.hid (hy8.set (.slice A2 n2 c2) (.slice B2 m2 k2) (.bool dd2) (.int .i64 lf2) (.int .i64 ds2))
   have HE := Lib.hid (And.intro (hD8.but (by rw [flushR_n]; exact HOK.out.2.2) hy8.c0 (but5 w8 gy (.slice A2 n2 c2) (.slice B2 m2 k2) (.bool dd2) (.int .i64 lf2) (.int .i64 ds2))) hW)
   have y0 := hy8.c0
   have y1 := hy8.c1
   have y2 := hy8.c2
   have y3 := hy8.c3
   have y4 := hy8.c4
   have yf := hy8.f
   clear hy8 hB8 hD8 hW
   go_wp2
   refine bodyPost_ret (results_d2 rfl _ _ gy _ _ _ _ _ rfl HF.out.c0 HF.out.c1 HF.out.c2 HF.out.c3 HF.out.c4) rfl ?_
   rw [HP2.out, HFE.out]
   exact ⟨_, rfl, HE.out.1, HE.out.2⟩
  ·have hz1 : (er == 0) = false := beq_eq_false_iff_ne.2 hz
   have hz2 : (er != 0) = true := by rw [bne, hz1]; rfl
   have HP2 := Lib.hid (HP.out.trans (if_neg hz))
   have hW := below_box5 hB7 hwy (.slice A1 n1 c1) (.slice B1 m1 k1) (.bool dd1) (.int .i64 lf1) (.int .i64 ds1)
   have HF := Lib.hid (hy7.set (.slice A1 n1 c1) (.slice B1 m1 k1) (.bool dd1) (.int .i64 lf1) (.int .i64 ds1))
   have HE := Lib.hid (And.intro (HD7.out.but HOK.out.2.2 hy7.c0 (but5 w7 gy (.slice A1 n1 c1) (.slice B1 m1 k1) (.bool dd1) (.int .i64 lf1) (.int .i64 ds1))) hW)
   clear hx7 hy7 hB7 hW hz
   go_wp2
   refine bodyPost_ret (results_d2 rfl _ _ gy _ _ _ _ _ rfl HF.out.c0 HF.out.c1 HF.out.c2 HF.out.c3 HF.out.c4) rfl ?_
   rw [HP2.out]
   exact ⟨_, rfl, HE.out.1, HE.out.2⟩
end Go.Proofs.YtcgkbcgpnlogoaaGreatDoor.Hd

/- The operations of a condition, each by its number. -/
namespace Go.Proofs.YtcgkbcgpnlogoaaGreatDoor.St
open Lex

noncomputable def faops : Array Oper := #[{ dst := some 14, op := Op.load 28 (Operand.tmp 3), type := 28, pos := "store.go:185", after := #[], guard := none },
 { dst := some 15, op := Op.load 30 (Operand.tmp 4), type := 30, pos := "store.go:185", after := #[], guard := none },
 { dst := some 16, op := Op.move (Operand.tmp 2), type := 3, pos := "store.go:185", after := #[], guard := none },
 { dst := some 17, op := Op.call { callee := Callee.value (Operand.func 201), args := #[Operand.tmp 15, Operand.tmp 16], argTypes := #[30, 3] }, type := 3, pos := "store.go:185", after := #[{ on := 1, ground := Ground.data }, { on := 2, ground := Ground.data }], guard := none },
 { dst := some 18, op := Op.call { callee := Callee.value (Operand.func 168), args := #[Operand.tmp 14, Operand.tmp 17], argTypes := #[28, 3] }, type := 137, pos := "store.go:185", after := #[{ on := 0, ground := Ground.data }, { on := 3, ground := Ground.data }, { on := 3, ground := Ground.chain }], guard := none },
 { dst := some 13, op := Op.move (Operand.tmp 18), type := 137, pos := "store.go:185", after := #[{ on := 4, ground := Ground.data }], guard := none }]
def facalls : List Nat := [3, 4]
def faord : List Nat := [0, 1, 2, 3, 4, 5]
theorem fasel : Region.noSelect faops = true := by kernel_rfl
theorem falex : lexH faops facalls faord (Array.replicate faops.size false) = true := by kernel_rfl
noncomputable def faraw : Array Oper := Lex.opsOf Tryz.f170 1
theorem facut : faops = faraw.extract 0 6 := by kernel_rfl
theorem fasize : faraw.size = 12 := by kernel_rfl
theorem farsel : Region.noSelect faraw = true := by kernel_rfl
theorem fatlex : lexH faraw [9] [6, 7, 8, 9, 10, 11] (extL (Array.replicate 6 true) faraw.size) = true := by kernel_rfl
theorem fat6 : faraw[6]? = some { dst := some 19, op := Op.extract (Operand.tmp 13) 0, type := 28, pos := "store.go:185", after := #[{ on := 5, ground := Ground.data }], guard := none } := by kernel_rfl
theorem fat7 : faraw[7]? = some { dst := some 20, op := Op.extract (Operand.tmp 13) 1, type := 9, pos := "store.go:185", after := #[{ on := 5, ground := Ground.data }, { on := 9, ground := Ground.gcOnly Departure.lateStores }], guard := none } := by kernel_rfl
theorem fat8 : faraw[8]? = some { dst := some 21, op := Op.extract (Operand.tmp 13) 2, type := 38, pos := "store.go:185", after := #[{ on := 5, ground := Ground.data }, { on := 10, ground := Ground.gcOnly Departure.lateStores }], guard := none } := by kernel_rfl
theorem fat9 : faraw[9]? = some { dst := none, op := Op.store 28 (Operand.tmp 3) (Operand.tmp 19), type := 0, pos := "store.go:185", after := #[{ on := 6, ground := Ground.data }, { on := 4, ground := Ground.chain }, { on := 0, ground := Ground.phase }, { on := 1, ground := Ground.phase }, { on := 2, ground := Ground.phase }, { on := 3, ground := Ground.phase }, { on := 4, ground := Ground.phase }, { on := 5, ground := Ground.phase }, { on := 6, ground := Ground.phase }, { on := 7, ground := Ground.textOnly Departure.lateStores }, { on := 8, ground := Ground.textOnly Departure.lateStores }], guard := none } := by kernel_rfl
theorem fat10 : faraw[10]? = some { dst := some 9, op := Op.assign (Operand.tmp 20), type := 9, pos := "store.go:185", after := #[{ on := 7, ground := Ground.data }, { on := 9, ground := Ground.chain }, { on := 0, ground := Ground.phase }, { on := 1, ground := Ground.phase }, { on := 2, ground := Ground.phase }, { on := 3, ground := Ground.phase }, { on := 4, ground := Ground.phase }, { on := 5, ground := Ground.phase }, { on := 6, ground := Ground.phase }, { on := 7, ground := Ground.phase }, { on := 8, ground := Ground.textOnly Departure.lateStores }, { on := 9, ground := Ground.phase }], guard := none } := by kernel_rfl
theorem fat11 : faraw[11]? = some { dst := some 10, op := Op.assign (Operand.tmp 21), type := 38, pos := "store.go:185", after := #[{ on := 8, ground := Ground.data }, { on := 10, ground := Ground.chain }, { on := 0, ground := Ground.phase }, { on := 1, ground := Ground.phase }, { on := 2, ground := Ground.phase }, { on := 3, ground := Ground.phase }, { on := 4, ground := Ground.phase }, { on := 5, ground := Ground.phase }, { on := 6, ground := Ground.phase }, { on := 7, ground := Ground.phase }, { on := 8, ground := Ground.phase }, { on := 9, ground := Ground.phase }, { on := 10, ground := Ground.phase }], guard := none } := by kernel_rfl
theorem fa0 : faops[0]? = some { dst := some 14, op := Op.load 28 (Operand.tmp 3), type := 28, pos := "store.go:185", after := #[], guard := none } := by kernel_rfl
theorem fa1 : faops[1]? = some { dst := some 15, op := Op.load 30 (Operand.tmp 4), type := 30, pos := "store.go:185", after := #[], guard := none } := by kernel_rfl
theorem fa2 : faops[2]? = some { dst := some 16, op := Op.move (Operand.tmp 2), type := 3, pos := "store.go:185", after := #[], guard := none } := by kernel_rfl
theorem fa3 : faops[3]? = some { dst := some 17, op := Op.call { callee := Callee.value (Operand.func 201), args := #[Operand.tmp 15, Operand.tmp 16], argTypes := #[30, 3] }, type := 3, pos := "store.go:185", after := #[{ on := 1, ground := Ground.data }, { on := 2, ground := Ground.data }], guard := none } := by kernel_rfl
theorem fa4 : faops[4]? = some { dst := some 18, op := Op.call { callee := Callee.value (Operand.func 168), args := #[Operand.tmp 14, Operand.tmp 17], argTypes := #[28, 3] }, type := 137, pos := "store.go:185", after := #[{ on := 0, ground := Ground.data }, { on := 3, ground := Ground.data }, { on := 3, ground := Ground.chain }], guard := none } := by kernel_rfl
theorem fa5 : faops[5]? = some { dst := some 13, op := Op.move (Operand.tmp 18), type := 137, pos := "store.go:185", after := #[{ on := 4, ground := Ground.data }], guard := none } := by kernel_rfl
noncomputable def frops : Array Oper := Lex.opsOf Tryz.f170 7
def frcalls : List Nat := [2, 3]
def frord : List Nat := [0, 1, 2, 3, 4]
theorem frsel : Region.noSelect frops = true := by kernel_rfl
theorem frlex : lexH frops frcalls frord (Array.replicate frops.size false) = true := by kernel_rfl
theorem fr0 : frops[0]? = some { dst := some 49, op := Op.load 28 (Operand.tmp 3), type := 28, pos := "store.go:193", after := #[], guard := none } := by kernel_rfl
theorem fr1 : frops[1]? = some { dst := some 50, op := Op.load 124 (Operand.tmp 11), type := 124, pos := "store.go:193", after := #[{ on := 2, ground := Ground.gcOnly Departure.lateStores }], guard := none } := by kernel_rfl
theorem fr2 : frops[2]? = some { dst := none, op := Op.store 28 (Operand.tmp 6) (Operand.tmp 49), type := 0, pos := "store.go:193", after := #[{ on := 0, ground := Ground.data }, { on := 0, ground := Ground.phase }, { on := 1, ground := Ground.textOnly Departure.lateStores }], guard := none } := by kernel_rfl
theorem fr3 : frops[3]? = some { dst := none, op := Op.store 124 (Operand.tmp 7) (Operand.tmp 50), type := 0, pos := "store.go:193", after := #[{ on := 1, ground := Ground.data }, { on := 2, ground := Ground.chain }, { on := 0, ground := Ground.phase }, { on := 1, ground := Ground.phase }, { on := 2, ground := Ground.phase }], guard := none } := by kernel_rfl
theorem fr4 : frops[4]? = some { dst := some 8, op := Op.assign (Operand.const (Value.int IntKind.i64 0)), type := 38, pos := "store.go:193", after := #[{ on := 3, ground := Ground.chain }, { on := 0, ground := Ground.phase }, { on := 1, ground := Ground.phase }, { on := 2, ground := Ground.phase }, { on := 3, ground := Ground.phase }], guard := none } := by kernel_rfl
end Go.Proofs.YtcgkbcgpnlogoaaGreatDoor.St

/- The operations of a condition, each by its number. -/
namespace Go.Proofs.YtcgkbcgpnlogoaaGreatDoor.St
open Lex

noncomputable def laops : Array Oper := Lex.opsOf Tryz.f164 6
def lacalls : List Nat := [3]
def laord : List Nat := [0, 1, 2, 3, 4, 5]
theorem lasel : Region.noSelect laops = true := by kernel_rfl
theorem lalex : lexH laops lacalls laord (Array.replicate laops.size false) = true := by kernel_rfl
theorem la0 : laops[0]? = some { dst := some 35, op := Op.load 28 (Operand.tmp 7), type := 28, pos := "store.go:166", after := #[], guard := none } := by kernel_rfl
theorem la1 : laops[1]? = some { dst := some 36, op := Op.fieldAddr 124 (Operand.tmp 8) 4, type := 0, pos := "store.go:166", after := #[{ on := 3, ground := Ground.gcOnly Departure.lateStores }], guard := none } := by kernel_rfl
theorem la2 : laops[2]? = some { dst := some 37, op := Op.load 9 (Operand.tmp 36), type := 9, pos := "store.go:166", after := #[{ on := 1, ground := Ground.data }, { on := 3, ground := Ground.gcOnly Departure.lateStores }], guard := none } := by kernel_rfl
theorem la3 : laops[3]? = some { dst := none, op := Op.store 28 (Operand.tmp 4) (Operand.tmp 35), type := 0, pos := "store.go:166", after := #[{ on := 0, ground := Ground.data }, { on := 0, ground := Ground.phase }, { on := 1, ground := Ground.textOnly Departure.lateStores }, { on := 2, ground := Ground.textOnly Departure.lateStores }], guard := none } := by kernel_rfl
theorem la4 : laops[4]? = some { dst := some 5, op := Op.assign (Operand.tmp 37), type := 9, pos := "store.go:166", after := #[{ on := 2, ground := Ground.data }, { on := 3, ground := Ground.chain }, { on := 0, ground := Ground.phase }, { on := 1, ground := Ground.phase }, { on := 2, ground := Ground.phase }, { on := 3, ground := Ground.phase }], guard := none } := by kernel_rfl
theorem la5 : laops[5]? = some { dst := some 6, op := Op.assign (Operand.const (Value.int IntKind.i64 0)), type := 38, pos := "store.go:166", after := #[{ on := 4, ground := Ground.chain }, { on := 0, ground := Ground.phase }, { on := 1, ground := Ground.phase }, { on := 2, ground := Ground.phase }, { on := 3, ground := Ground.phase }, { on := 4, ground := Ground.phase }], guard := none } := by kernel_rfl
end Go.Proofs.YtcgkbcgpnlogoaaGreatDoor.St

/- The operations of drawn regions, each by its number; the trees of their orders. -/
namespace Go.Proofs.YtcgkbcgpnlogoaaGreatDoor.St
open Lex

noncomputable def lhops : Array Oper := Lex.opsOf Tryz.f165 1
def lhtree : Tr := (.op 0 (.op 1 (.op 2 (.alt 3 (.alt 4 (.op 5 (.op 6 (.op 7 (.op 8 (.alt 9 (.alt 10 (.op 11 (.op 12 .fin)) .fin) .fin))))) (.alt 9 (.alt 4 (.op 5 (.op 6 (.op 7 (.op 8 (.alt 10 (.op 11 (.op 12 .fin)) .fin))))) .fin) .fin)) (.alt 9 (.alt 3 (.alt 4 (.op 5 (.op 6 (.op 7 (.op 8 (.alt 10 (.op 11 (.op 12 .fin)) .fin))))) .fin) .fin) .fin)))))
theorem lhsel : Region.noSelect lhops = true := by kernel_rfl
theorem lhlex : lexT lhops lhops.size [] lhtree (Array.replicate lhops.size false) = true := by kernel_rfl
theorem lh0 : lhops[0]? = some { dst := some 13, op := Op.fieldAddr 37 (Operand.tmp 2) 0, type := 0, pos := "store.go:171", after := #[], guard := none } := by kernel_rfl
theorem lh1 : lhops[1]? = some { dst := some 14, op := Op.load 28 (Operand.tmp 13), type := 28, pos := "store.go:171", after := #[{ on := 0, ground := Ground.data }], guard := none } := by kernel_rfl
theorem lh2 : lhops[2]? = some { dst := some 15, op := Op.move (Operand.tmp 1), type := 3, pos := "store.go:171", after := #[], guard := none } := by kernel_rfl
theorem lh3 : lhops[3]? = some { dst := some 16, op := Op.call { callee := Callee.value (Operand.func 214), args := #[Operand.tmp 15], argTypes := #[3] }, type := 3, pos := "store.go:171", after := #[{ on := 2, ground := Ground.data }], guard := none } := by kernel_rfl
theorem lh4 : lhops[4]? = some { dst := some 17, op := Op.call { callee := Callee.value (Operand.func 168), args := #[Operand.tmp 14, Operand.tmp 16], argTypes := #[28, 3] }, type := 137, pos := "store.go:171", after := #[{ on := 1, ground := Ground.data }, { on := 3, ground := Ground.data }, { on := 3, ground := Ground.chain }], guard := none } := by kernel_rfl
theorem lh5 : lhops[5]? = some { dst := some 12, op := Op.move (Operand.tmp 17), type := 137, pos := "store.go:171", after := #[{ on := 4, ground := Ground.data }], guard := none } := by kernel_rfl
theorem lh6 : lhops[6]? = some { dst := some 18, op := Op.extract (Operand.tmp 12) 0, type := 28, pos := "store.go:171", after := #[{ on := 5, ground := Ground.data }], guard := none } := by kernel_rfl
theorem lh7 : lhops[7]? = some { dst := some 19, op := Op.extract (Operand.tmp 12) 1, type := 9, pos := "store.go:171", after := #[{ on := 5, ground := Ground.data }, { on := 10, ground := Ground.gcOnly Departure.lateStores }], guard := none } := by kernel_rfl
theorem lh8 : lhops[8]? = some { dst := some 20, op := Op.extract (Operand.tmp 12) 2, type := 38, pos := "store.go:171", after := #[{ on := 5, ground := Ground.data }, { on := 11, ground := Ground.gcOnly Departure.lateStores }], guard := none } := by kernel_rfl
theorem lh9 : lhops[9]? = some { dst := some 7, op := Op.alloc 28, type := 0, pos := "store.go:171", after := #[], guard := none } := by kernel_rfl
theorem lh10 : lhops[10]? = some { dst := none, op := Op.store 28 (Operand.tmp 7) (Operand.tmp 18), type := 0, pos := "store.go:171", after := #[{ on := 9, ground := Ground.data }, { on := 6, ground := Ground.data }, { on := 4, ground := Ground.chain }, { on := 0, ground := Ground.phase }, { on := 1, ground := Ground.phase }, { on := 2, ground := Ground.phase }, { on := 3, ground := Ground.phase }, { on := 4, ground := Ground.phase }, { on := 5, ground := Ground.phase }, { on := 6, ground := Ground.phase }, { on := 7, ground := Ground.textOnly Departure.lateStores }, { on := 8, ground := Ground.textOnly Departure.lateStores }, { on := 9, ground := Ground.phase }], guard := none } := by kernel_rfl
theorem lh11 : lhops[11]? = some { dst := some 8, op := Op.assign (Operand.tmp 19), type := 9, pos := "store.go:171", after := #[{ on := 7, ground := Ground.data }, { on := 10, ground := Ground.chain }, { on := 0, ground := Ground.phase }, { on := 1, ground := Ground.phase }, { on := 2, ground := Ground.phase }, { on := 3, ground := Ground.phase }, { on := 4, ground := Ground.phase }, { on := 5, ground := Ground.phase }, { on := 6, ground := Ground.phase }, { on := 7, ground := Ground.phase }, { on := 8, ground := Ground.textOnly Departure.lateStores }, { on := 9, ground := Ground.phase }, { on := 10, ground := Ground.phase }], guard := none } := by kernel_rfl
theorem lh12 : lhops[12]? = some { dst := some 9, op := Op.assign (Operand.tmp 20), type := 38, pos := "store.go:171", after := #[{ on := 8, ground := Ground.data }, { on := 11, ground := Ground.chain }, { on := 0, ground := Ground.phase }, { on := 1, ground := Ground.phase }, { on := 2, ground := Ground.phase }, { on := 3, ground := Ground.phase }, { on := 4, ground := Ground.phase }, { on := 5, ground := Ground.phase }, { on := 6, ground := Ground.phase }, { on := 7, ground := Ground.phase }, { on := 8, ground := Ground.phase }, { on := 9, ground := Ground.phase }, { on := 10, ground := Ground.phase }, { on := 11, ground := Ground.phase }], guard := none } := by kernel_rfl
end Go.Proofs.YtcgkbcgpnlogoaaGreatDoor.St

/- The operations of a condition, each by its number. -/
namespace Go.Proofs.YtcgkbcgpnlogoaaGreatDoor.St
open Lex

noncomputable def suops : Array Oper := #[{ dst := some 18, op := Op.load 37 (Operand.tmp 2), type := 37, pos := "store.go:152", after := #[], guard := none },
 { dst := some 19, op := Op.fieldAddr 37 (Operand.tmp 2) 3, type := 0, pos := "store.go:152", after := #[], guard := none },
 { dst := some 20, op := Op.load 31 (Operand.tmp 19), type := 31, pos := "store.go:152", after := #[{ on := 1, ground := Ground.data }], guard := none },
 { dst := some 21, op := Op.move (Operand.tmp 7), type := 3, pos := "store.go:152", after := #[], guard := none },
 { dst := some 22, op := Op.indexAddr 31 (Operand.tmp 20) (Operand.tmp 21), type := 0, pos := "store.go:152", after := #[{ on := 2, ground := Ground.data }, { on := 3, ground := Ground.data }], guard := none },
 { dst := some 23, op := Op.load 116 (Operand.tmp 22), type := 116, pos := "store.go:152", after := #[{ on := 4, ground := Ground.data }], guard := none },
 { dst := some 24, op := Op.call { callee := Callee.value (Operand.func 164), args := #[Operand.tmp 18, Operand.tmp 23], argTypes := #[37, 116] }, type := 137, pos := "store.go:152", after := #[{ on := 0, ground := Ground.data }, { on := 5, ground := Ground.data }], guard := none }]
def sucalls : List Nat := [6]
def suord : List Nat := [0, 1, 2, 3, 4, 5, 6]
theorem susel : Region.noSelect suops = true := by kernel_rfl
theorem sulex : lexH suops sucalls suord (Array.replicate suops.size false) = true := by kernel_rfl
noncomputable def suraw : Array Oper := Lex.opsOf Tryz.f88 3
theorem sucut : suops = suraw.extract 0 7 := by kernel_rfl
theorem susize : suraw.size = 13 := by kernel_rfl
theorem sursel : Region.noSelect suraw = true := by kernel_rfl
theorem sutlex : lexH suraw [10] [7, 8, 9, 10, 11, 12] (extL (Array.replicate 7 true) suraw.size) = true := by kernel_rfl
theorem sut7 : suraw[7]? = some { dst := some 25, op := Op.extract (Operand.tmp 24) 0, type := 28, pos := "store.go:152", after := #[{ on := 6, ground := Ground.data }], guard := none } := by kernel_rfl
theorem sut8 : suraw[8]? = some { dst := some 26, op := Op.extract (Operand.tmp 24) 1, type := 9, pos := "store.go:152", after := #[{ on := 6, ground := Ground.data }], guard := none } := by kernel_rfl
theorem sut9 : suraw[9]? = some { dst := some 27, op := Op.extract (Operand.tmp 24) 2, type := 38, pos := "store.go:152", after := #[{ on := 6, ground := Ground.data }], guard := none } := by kernel_rfl
theorem sut10 : suraw[10]? = some { dst := none, op := Op.store 28 (Operand.tmp 4) (Operand.tmp 25), type := 0, pos := "store.go:152", after := #[{ on := 7, ground := Ground.data }, { on := 6, ground := Ground.chain }, { on := 0, ground := Ground.phase }, { on := 1, ground := Ground.phase }, { on := 2, ground := Ground.phase }, { on := 3, ground := Ground.phase }, { on := 4, ground := Ground.phase }, { on := 5, ground := Ground.phase }, { on := 6, ground := Ground.phase }, { on := 7, ground := Ground.phase }, { on := 8, ground := Ground.phase }, { on := 9, ground := Ground.phase }], guard := none } := by kernel_rfl
theorem sut11 : suraw[11]? = some { dst := some 5, op := Op.assign (Operand.tmp 26), type := 9, pos := "store.go:152", after := #[{ on := 8, ground := Ground.data }, { on := 10, ground := Ground.chain }, { on := 0, ground := Ground.phase }, { on := 1, ground := Ground.phase }, { on := 2, ground := Ground.phase }, { on := 3, ground := Ground.phase }, { on := 4, ground := Ground.phase }, { on := 5, ground := Ground.phase }, { on := 6, ground := Ground.phase }, { on := 7, ground := Ground.phase }, { on := 8, ground := Ground.phase }, { on := 9, ground := Ground.phase }, { on := 10, ground := Ground.phase }], guard := none } := by kernel_rfl
theorem sut12 : suraw[12]? = some { dst := some 6, op := Op.assign (Operand.tmp 27), type := 38, pos := "store.go:152", after := #[{ on := 9, ground := Ground.data }, { on := 11, ground := Ground.chain }, { on := 0, ground := Ground.phase }, { on := 1, ground := Ground.phase }, { on := 2, ground := Ground.phase }, { on := 3, ground := Ground.phase }, { on := 4, ground := Ground.phase }, { on := 5, ground := Ground.phase }, { on := 6, ground := Ground.phase }, { on := 7, ground := Ground.phase }, { on := 8, ground := Ground.phase }, { on := 9, ground := Ground.phase }, { on := 10, ground := Ground.phase }, { on := 11, ground := Ground.phase }], guard := none } := by kernel_rfl
theorem su0 : suops[0]? = some { dst := some 18, op := Op.load 37 (Operand.tmp 2), type := 37, pos := "store.go:152", after := #[], guard := none } := by kernel_rfl
theorem su1 : suops[1]? = some { dst := some 19, op := Op.fieldAddr 37 (Operand.tmp 2) 3, type := 0, pos := "store.go:152", after := #[], guard := none } := by kernel_rfl
theorem su2 : suops[2]? = some { dst := some 20, op := Op.load 31 (Operand.tmp 19), type := 31, pos := "store.go:152", after := #[{ on := 1, ground := Ground.data }], guard := none } := by kernel_rfl
theorem su3 : suops[3]? = some { dst := some 21, op := Op.move (Operand.tmp 7), type := 3, pos := "store.go:152", after := #[], guard := none } := by kernel_rfl
theorem su4 : suops[4]? = some { dst := some 22, op := Op.indexAddr 31 (Operand.tmp 20) (Operand.tmp 21), type := 0, pos := "store.go:152", after := #[{ on := 2, ground := Ground.data }, { on := 3, ground := Ground.data }], guard := none } := by kernel_rfl
theorem su5 : suops[5]? = some { dst := some 23, op := Op.load 116 (Operand.tmp 22), type := 116, pos := "store.go:152", after := #[{ on := 4, ground := Ground.data }], guard := none } := by kernel_rfl
theorem su6 : suops[6]? = some { dst := some 24, op := Op.call { callee := Callee.value (Operand.func 164), args := #[Operand.tmp 18, Operand.tmp 23], argTypes := #[37, 116] }, type := 137, pos := "store.go:152", after := #[{ on := 0, ground := Ground.data }, { on := 5, ground := Ground.data }], guard := none } := by kernel_rfl
noncomputable def wrops : Array Oper := #[{ dst := some 23, op := Op.fieldAddr 37 (Operand.tmp 3) 4, type := 0, pos := "store.go:68", after := #[], guard := none },
 { dst := some 24, op := Op.load 32 (Operand.tmp 23), type := 32, pos := "store.go:68", after := #[{ on := 0, ground := Ground.data }], guard := none },
 { dst := some 25, op := Op.move (Operand.tmp 1), type := 3, pos := "store.go:68", after := #[], guard := none },
 { dst := some 26, op := Op.move (Operand.tmp 2), type := 9, pos := "store.go:68", after := #[], guard := none },
 { dst := some 27, op := Op.call { callee := Callee.value (Operand.func 133), args := #[], argTypes := #[] }, type := 9, pos := "store.go:68", after := #[], guard := none },
 { dst := some 28, op := Op.move (Operand.tmp 2), type := 9, pos := "store.go:68", after := #[], guard := none },
 { dst := some 29, op := Op.call { callee := Callee.builtin Builtin.len, args := #[Operand.tmp 28], argTypes := #[9] }, type := 3, pos := "store.go:68", after := #[{ on := 5, ground := Ground.data }], guard := none },
 { dst := some 30, op := Op.slice 9 (Operand.tmp 27) (some (Operand.tmp 29)) none none, type := 9, pos := "store.go:68", after := #[{ on := 4, ground := Ground.data }, { on := 6, ground := Ground.data }], guard := none },
 { dst := some 31, op := Op.binOp BinOp.add 9 (Operand.tmp 26) (Operand.tmp 30) 9, type := 9, pos := "store.go:68", after := #[{ on := 3, ground := Ground.data }, { on := 7, ground := Ground.data }], guard := none },
 { dst := some 32, op := Op.build 133 #[(0, Operand.tmp 25), (1, Operand.tmp 31)], type := 133, pos := "store.go:68", after := #[{ on := 2, ground := Ground.data }, { on := 8, ground := Ground.data }], guard := none },
 { dst := some 33, op := Op.buildSlice 32 1 #[(0, Operand.tmp 32)], type := 32, pos := "store.go:68", after := #[{ on := 9, ground := Ground.data }], guard := none }]
def wrcalls : List Nat := [4, 10]
def wrord : List Nat := [0, 1, 2, 3, 5, 6, 4, 7, 8, 9, 10]
theorem wrsel : Region.noSelect wrops = true := by kernel_rfl
theorem wrlex : lexH wrops wrcalls wrord (Array.replicate wrops.size false) = true := by kernel_rfl
noncomputable def wrraw : Array Oper := Lex.opsOf Tryz.f63 5
theorem wrcut : wrops = wrraw.extract 0 11 := by kernel_rfl
theorem wrsize : wrraw.size = 14 := by kernel_rfl
theorem wrrsel : Region.noSelect wrraw = true := by kernel_rfl
theorem wrtlex : lexH wrraw [11, 13] [11, 12, 13] (extL (Array.replicate 11 true) wrraw.size) = true := by kernel_rfl
theorem wrt11 : wrraw[11]? = some { dst := some 34, op := Op.call { callee := Callee.value (Operand.func 132), args := #[Operand.tmp 24, Operand.func 86, Operand.tmp 33], argTypes := #[32, 134, 32] }, type := 32, pos := "store.go:68", after := #[{ on := 1, ground := Ground.data }, { on := 10, ground := Ground.data }, { on := 4, ground := Ground.chain }], guard := none } := by kernel_rfl
theorem wrt12 : wrraw[12]? = some { dst := some 35, op := Op.fieldAddr 37 (Operand.tmp 3) 4, type := 0, pos := "store.go:68", after := #[{ on := 0, ground := Ground.phase }, { on := 1, ground := Ground.phase }, { on := 2, ground := Ground.phase }, { on := 3, ground := Ground.phase }, { on := 4, ground := Ground.phase }, { on := 5, ground := Ground.phase }, { on := 6, ground := Ground.phase }, { on := 7, ground := Ground.phase }, { on := 8, ground := Ground.phase }, { on := 9, ground := Ground.phase }, { on := 10, ground := Ground.phase }, { on := 11, ground := Ground.phase }], guard := none } := by kernel_rfl
theorem wrt13 : wrraw[13]? = some { dst := none, op := Op.store 32 (Operand.tmp 35) (Operand.tmp 34), type := 0, pos := "store.go:68", after := #[{ on := 12, ground := Ground.data }, { on := 11, ground := Ground.data }, { on := 11, ground := Ground.chain }, { on := 0, ground := Ground.phase }, { on := 1, ground := Ground.phase }, { on := 2, ground := Ground.phase }, { on := 3, ground := Ground.phase }, { on := 4, ground := Ground.phase }, { on := 5, ground := Ground.phase }, { on := 6, ground := Ground.phase }, { on := 7, ground := Ground.phase }, { on := 8, ground := Ground.phase }, { on := 9, ground := Ground.phase }, { on := 10, ground := Ground.phase }, { on := 11, ground := Ground.phase }], guard := none } := by kernel_rfl
theorem wr0 : wrops[0]? = some { dst := some 23, op := Op.fieldAddr 37 (Operand.tmp 3) 4, type := 0, pos := "store.go:68", after := #[], guard := none } := by kernel_rfl
theorem wr1 : wrops[1]? = some { dst := some 24, op := Op.load 32 (Operand.tmp 23), type := 32, pos := "store.go:68", after := #[{ on := 0, ground := Ground.data }], guard := none } := by kernel_rfl
theorem wr2 : wrops[2]? = some { dst := some 25, op := Op.move (Operand.tmp 1), type := 3, pos := "store.go:68", after := #[], guard := none } := by kernel_rfl
theorem wr3 : wrops[3]? = some { dst := some 26, op := Op.move (Operand.tmp 2), type := 9, pos := "store.go:68", after := #[], guard := none } := by kernel_rfl
theorem wr4 : wrops[4]? = some { dst := some 27, op := Op.call { callee := Callee.value (Operand.func 133), args := #[], argTypes := #[] }, type := 9, pos := "store.go:68", after := #[], guard := none } := by kernel_rfl
theorem wr5 : wrops[5]? = some { dst := some 28, op := Op.move (Operand.tmp 2), type := 9, pos := "store.go:68", after := #[], guard := none } := by kernel_rfl
theorem wr6 : wrops[6]? = some { dst := some 29, op := Op.call { callee := Callee.builtin Builtin.len, args := #[Operand.tmp 28], argTypes := #[9] }, type := 3, pos := "store.go:68", after := #[{ on := 5, ground := Ground.data }], guard := none } := by kernel_rfl
theorem wr7 : wrops[7]? = some { dst := some 30, op := Op.slice 9 (Operand.tmp 27) (some (Operand.tmp 29)) none none, type := 9, pos := "store.go:68", after := #[{ on := 4, ground := Ground.data }, { on := 6, ground := Ground.data }], guard := none } := by kernel_rfl
theorem wr8 : wrops[8]? = some { dst := some 31, op := Op.binOp BinOp.add 9 (Operand.tmp 26) (Operand.tmp 30) 9, type := 9, pos := "store.go:68", after := #[{ on := 3, ground := Ground.data }, { on := 7, ground := Ground.data }], guard := none } := by kernel_rfl
theorem wr9 : wrops[9]? = some { dst := some 32, op := Op.build 133 #[(0, Operand.tmp 25), (1, Operand.tmp 31)], type := 133, pos := "store.go:68", after := #[{ on := 2, ground := Ground.data }, { on := 8, ground := Ground.data }], guard := none } := by kernel_rfl
theorem wr10 : wrops[10]? = some { dst := some 33, op := Op.buildSlice 32 1 #[(0, Operand.tmp 32)], type := 32, pos := "store.go:68", after := #[{ on := 9, ground := Ground.data }], guard := none } := by kernel_rfl
noncomputable def reops : Array Oper := Lex.opsOf Tryz.f24 7
def recalls : List Nat := [7]
def reord : List Nat := [0, 1, 2, 3, 4, 5, 6, 7, 8, 9]
theorem resel : Region.noSelect reops = true := by kernel_rfl
theorem relex : lexH reops recalls reord (Array.replicate reops.size false) = true := by kernel_rfl
theorem re0 : reops[0]? = some { dst := some 34, op := Op.load 37 (Operand.tmp 2), type := 37, pos := "store.go:45", after := #[], guard := none } := by kernel_rfl
theorem re1 : reops[1]? = some { dst := some 35, op := Op.fieldAddr 37 (Operand.tmp 2) 4, type := 0, pos := "store.go:45", after := #[{ on := 7, ground := Ground.gcOnly Departure.lateStores }], guard := none } := by kernel_rfl
theorem re2 : reops[2]? = some { dst := some 36, op := Op.load 32 (Operand.tmp 35), type := 32, pos := "store.go:45", after := #[{ on := 1, ground := Ground.data }, { on := 7, ground := Ground.gcOnly Departure.lateStores }], guard := none } := by kernel_rfl
theorem re3 : reops[3]? = some { dst := some 37, op := Op.move (Operand.tmp 7), type := 3, pos := "store.go:45", after := #[{ on := 7, ground := Ground.gcOnly Departure.lateStores }], guard := none } := by kernel_rfl
theorem re4 : reops[4]? = some { dst := some 38, op := Op.indexAddr 32 (Operand.tmp 36) (Operand.tmp 37), type := 0, pos := "store.go:45", after := #[{ on := 2, ground := Ground.data }, { on := 3, ground := Ground.data }, { on := 7, ground := Ground.gcOnly Departure.lateStores }], guard := none } := by kernel_rfl
theorem re5 : reops[5]? = some { dst := some 39, op := Op.fieldAddr 133 (Operand.tmp 38) 1, type := 0, pos := "store.go:45", after := #[{ on := 4, ground := Ground.data }, { on := 7, ground := Ground.gcOnly Departure.lateStores }], guard := none } := by kernel_rfl
theorem re6 : reops[6]? = some { dst := some 40, op := Op.load 9 (Operand.tmp 39), type := 9, pos := "store.go:45", after := #[{ on := 5, ground := Ground.data }, { on := 7, ground := Ground.gcOnly Departure.lateStores }], guard := none } := by kernel_rfl
theorem re7 : reops[7]? = some { dst := none, op := Op.store 37 (Operand.tmp 4) (Operand.tmp 34), type := 0, pos := "store.go:45", after := #[{ on := 0, ground := Ground.data }, { on := 0, ground := Ground.phase }, { on := 1, ground := Ground.textOnly Departure.lateStores }, { on := 2, ground := Ground.textOnly Departure.lateStores }, { on := 3, ground := Ground.textOnly Departure.lateStores }, { on := 4, ground := Ground.textOnly Departure.lateStores }, { on := 5, ground := Ground.textOnly Departure.lateStores }, { on := 6, ground := Ground.textOnly Departure.lateStores }], guard := none } := by kernel_rfl
theorem re8 : reops[8]? = some { dst := some 5, op := Op.assign (Operand.tmp 40), type := 9, pos := "store.go:45", after := #[{ on := 6, ground := Ground.data }, { on := 7, ground := Ground.chain }, { on := 0, ground := Ground.phase }, { on := 1, ground := Ground.phase }, { on := 2, ground := Ground.phase }, { on := 3, ground := Ground.phase }, { on := 4, ground := Ground.phase }, { on := 5, ground := Ground.phase }, { on := 6, ground := Ground.phase }, { on := 7, ground := Ground.phase }], guard := none } := by kernel_rfl
theorem re9 : reops[9]? = some { dst := some 6, op := Op.assign (Operand.const (Value.int IntKind.i64 0)), type := 38, pos := "store.go:45", after := #[{ on := 8, ground := Ground.chain }, { on := 0, ground := Ground.phase }, { on := 1, ground := Ground.phase }, { on := 2, ground := Ground.phase }, { on := 3, ground := Ground.phase }, { on := 4, ground := Ground.phase }, { on := 5, ground := Ground.phase }, { on := 6, ground := Ground.phase }, { on := 7, ground := Ground.phase }, { on := 8, ground := Ground.phase }], guard := none } := by kernel_rfl
end Go.Proofs.YtcgkbcgpnlogoaaGreatDoor.St

/- The operations of a condition, each by its number. -/
namespace Go.Proofs.YtcgkbcgpnlogoaaGreatDoor.St
open Lex

noncomputable def bhops : Array Oper := #[{ dst := some 28, op := Op.load 28 (Operand.tmp 6), type := 28, pos := "store.go:203", after := #[], guard := none },
 { dst := some 29, op := Op.fieldAddr 116 (Operand.tmp 5) 0, type := 0, pos := "store.go:203", after := #[], guard := none },
 { dst := some 30, op := Op.load 3 (Operand.tmp 29), type := 3, pos := "store.go:203", after := #[{ on := 1, ground := Ground.data }], guard := none },
 { dst := some 31, op := Op.call { callee := Callee.value (Operand.func 214), args := #[Operand.tmp 30], argTypes := #[3] }, type := 3, pos := "store.go:203", after := #[{ on := 2, ground := Ground.data }], guard := none },
 { dst := some 32, op := Op.fieldAddr 116 (Operand.tmp 5) 0, type := 0, pos := "store.go:203", after := #[], guard := none },
 { dst := some 33, op := Op.load 3 (Operand.tmp 32), type := 3, pos := "store.go:203", after := #[{ on := 4, ground := Ground.data }], guard := none },
 { dst := some 34, op := Op.move (Operand.tmp 7), type := 9, pos := "store.go:203", after := #[], guard := none },
 { dst := some 35, op := Op.build 133 #[(0, Operand.tmp 33), (1, Operand.tmp 34)], type := 133, pos := "store.go:203", after := #[{ on := 5, ground := Ground.data }, { on := 6, ground := Ground.data }], guard := none },
 { dst := some 36, op := Op.call { callee := Callee.value (Operand.func 215), args := #[Operand.tmp 35], argTypes := #[133] }, type := 9, pos := "store.go:203", after := #[{ on := 7, ground := Ground.data }, { on := 3, ground := Ground.chain }], guard := none },
 { dst := some 37, op := Op.call { callee := Callee.value (Operand.func 139), args := #[Operand.tmp 28, Operand.tmp 31, Operand.tmp 36], argTypes := #[28, 3, 9] }, type := 110, pos := "store.go:203", after := #[{ on := 0, ground := Ground.data }, { on := 3, ground := Ground.data }, { on := 8, ground := Ground.data }, { on := 8, ground := Ground.chain }], guard := none },
 { dst := some 27, op := Op.move (Operand.tmp 37), type := 110, pos := "store.go:203", after := #[{ on := 9, ground := Ground.data }], guard := none }]
def bhcalls : List Nat := [3, 8, 9]
def bhord : List Nat := [0, 1, 2, 4, 5, 6, 7, 3, 8, 9, 10]
theorem bhsel : Region.noSelect bhops = true := by kernel_rfl
theorem bhlex : lexH bhops bhcalls bhord (Array.replicate bhops.size false) = true := by kernel_rfl
noncomputable def bhraw : Array Oper := Lex.opsOf Tryz.f146 7
theorem bhcut : bhops = bhraw.extract 0 11 := by kernel_rfl
theorem bhsize : bhraw.size = 15 := by kernel_rfl
theorem bhrsel : Region.noSelect bhraw = true := by kernel_rfl
theorem bhtlex : lexH bhraw [13] [11, 12, 13, 14] (extL (Array.replicate 11 true) bhraw.size) = true := by kernel_rfl
theorem bht11 : bhraw[11]? = some { dst := some 38, op := Op.extract (Operand.tmp 27) 0, type := 28, pos := "store.go:203", after := #[{ on := 10, ground := Ground.data }], guard := none } := by kernel_rfl
theorem bht12 : bhraw[12]? = some { dst := some 39, op := Op.extract (Operand.tmp 27) 1, type := 38, pos := "store.go:203", after := #[{ on := 10, ground := Ground.data }, { on := 13, ground := Ground.gcOnly Departure.lateStores }], guard := none } := by kernel_rfl
theorem bht13 : bhraw[13]? = some { dst := none, op := Op.store 28 (Operand.tmp 6) (Operand.tmp 38), type := 0, pos := "store.go:203", after := #[{ on := 11, ground := Ground.data }, { on := 9, ground := Ground.chain }, { on := 0, ground := Ground.phase }, { on := 1, ground := Ground.phase }, { on := 2, ground := Ground.phase }, { on := 3, ground := Ground.phase }, { on := 4, ground := Ground.phase }, { on := 5, ground := Ground.phase }, { on := 6, ground := Ground.phase }, { on := 7, ground := Ground.phase }, { on := 8, ground := Ground.phase }, { on := 9, ground := Ground.phase }, { on := 10, ground := Ground.phase }, { on := 11, ground := Ground.phase }, { on := 12, ground := Ground.textOnly Departure.lateStores }], guard := none } := by kernel_rfl
theorem bht14 : bhraw[14]? = some { dst := some 8, op := Op.assign (Operand.tmp 39), type := 38, pos := "store.go:203", after := #[{ on := 12, ground := Ground.data }, { on := 13, ground := Ground.chain }, { on := 0, ground := Ground.phase }, { on := 1, ground := Ground.phase }, { on := 2, ground := Ground.phase }, { on := 3, ground := Ground.phase }, { on := 4, ground := Ground.phase }, { on := 5, ground := Ground.phase }, { on := 6, ground := Ground.phase }, { on := 7, ground := Ground.phase }, { on := 8, ground := Ground.phase }, { on := 9, ground := Ground.phase }, { on := 10, ground := Ground.phase }, { on := 11, ground := Ground.phase }, { on := 12, ground := Ground.phase }, { on := 13, ground := Ground.phase }], guard := none } := by kernel_rfl
theorem bh0 : bhops[0]? = some { dst := some 28, op := Op.load 28 (Operand.tmp 6), type := 28, pos := "store.go:203", after := #[], guard := none } := by kernel_rfl
theorem bh1 : bhops[1]? = some { dst := some 29, op := Op.fieldAddr 116 (Operand.tmp 5) 0, type := 0, pos := "store.go:203", after := #[], guard := none } := by kernel_rfl
theorem bh2 : bhops[2]? = some { dst := some 30, op := Op.load 3 (Operand.tmp 29), type := 3, pos := "store.go:203", after := #[{ on := 1, ground := Ground.data }], guard := none } := by kernel_rfl
theorem bh3 : bhops[3]? = some { dst := some 31, op := Op.call { callee := Callee.value (Operand.func 214), args := #[Operand.tmp 30], argTypes := #[3] }, type := 3, pos := "store.go:203", after := #[{ on := 2, ground := Ground.data }], guard := none } := by kernel_rfl
theorem bh4 : bhops[4]? = some { dst := some 32, op := Op.fieldAddr 116 (Operand.tmp 5) 0, type := 0, pos := "store.go:203", after := #[], guard := none } := by kernel_rfl
theorem bh5 : bhops[5]? = some { dst := some 33, op := Op.load 3 (Operand.tmp 32), type := 3, pos := "store.go:203", after := #[{ on := 4, ground := Ground.data }], guard := none } := by kernel_rfl
theorem bh6 : bhops[6]? = some { dst := some 34, op := Op.move (Operand.tmp 7), type := 9, pos := "store.go:203", after := #[], guard := none } := by kernel_rfl
theorem bh7 : bhops[7]? = some { dst := some 35, op := Op.build 133 #[(0, Operand.tmp 33), (1, Operand.tmp 34)], type := 133, pos := "store.go:203", after := #[{ on := 5, ground := Ground.data }, { on := 6, ground := Ground.data }], guard := none } := by kernel_rfl
theorem bh8 : bhops[8]? = some { dst := some 36, op := Op.call { callee := Callee.value (Operand.func 215), args := #[Operand.tmp 35], argTypes := #[133] }, type := 9, pos := "store.go:203", after := #[{ on := 7, ground := Ground.data }, { on := 3, ground := Ground.chain }], guard := none } := by kernel_rfl
theorem bh9 : bhops[9]? = some { dst := some 37, op := Op.call { callee := Callee.value (Operand.func 139), args := #[Operand.tmp 28, Operand.tmp 31, Operand.tmp 36], argTypes := #[28, 3, 9] }, type := 110, pos := "store.go:203", after := #[{ on := 0, ground := Ground.data }, { on := 3, ground := Ground.data }, { on := 8, ground := Ground.data }, { on := 8, ground := Ground.chain }], guard := none } := by kernel_rfl
theorem bh10 : bhops[10]? = some { dst := some 27, op := Op.move (Operand.tmp 37), type := 110, pos := "store.go:203", after := #[{ on := 9, ground := Ground.data }], guard := none } := by kernel_rfl
end Go.Proofs.YtcgkbcgpnlogoaaGreatDoor.St

/- The operations of drawn regions, each by its number; the trees of their orders. -/
namespace Go.Proofs.YtcgkbcgpnlogoaaGreatDoor.St
open Lex

noncomputable def loops : Array Oper := Lex.opsOf Tryz.f135 5
def lotree : Tr := (.op 0 (.op 1 (.op 2 (.op 3 (.op 4 (.op 6 (.alt 5 (.alt 7 (.alt 8 (.op 9 (.op 10 (.op 11 (.alt 12 (.alt 13 (.op 14 .fin) .fin) .fin)))) (.alt 12 (.alt 8 (.op 9 (.op 10 (.op 11 (.alt 13 (.op 14 .fin) .fin)))) .fin) .fin)) (.alt 12 (.alt 7 (.alt 8 (.op 9 (.op 10 (.op 11 (.alt 13 (.op 14 .fin) .fin)))) .fin) .fin) .fin)) (.alt 12 (.alt 5 (.alt 7 (.alt 8 (.op 9 (.op 10 (.op 11 (.alt 13 (.op 14 .fin) .fin)))) .fin) .fin) .fin) .fin))))))))
theorem losel : Region.noSelect loops = true := by kernel_rfl
theorem lolex : lexT loops loops.size [] lotree (Array.replicate loops.size false) = true := by kernel_rfl
theorem lo0 : loops[0]? = some { dst := some 19, op := Op.load 28 (Operand.tmp 4), type := 28, pos := "store.go:231", after := #[], guard := none } := by kernel_rfl
theorem lo1 : loops[1]? = some { dst := some 20, op := Op.fieldAddr 37 (Operand.tmp 1) 1, type := 0, pos := "store.go:231", after := #[], guard := none } := by kernel_rfl
theorem lo2 : loops[2]? = some { dst := some 21, op := Op.load 30 (Operand.tmp 20), type := 30, pos := "store.go:231", after := #[{ on := 1, ground := Ground.data }], guard := none } := by kernel_rfl
theorem lo3 : loops[3]? = some { dst := some 22, op := Op.fieldAddr 124 (Operand.tmp 6) 1, type := 0, pos := "store.go:231", after := #[], guard := none } := by kernel_rfl
theorem lo4 : loops[4]? = some { dst := some 23, op := Op.load 3 (Operand.tmp 22), type := 3, pos := "store.go:231", after := #[{ on := 3, ground := Ground.data }], guard := none } := by kernel_rfl
theorem lo5 : loops[5]? = some { dst := some 24, op := Op.call { callee := Callee.value (Operand.func 201), args := #[Operand.tmp 21, Operand.tmp 23], argTypes := #[30, 3] }, type := 3, pos := "store.go:231", after := #[{ on := 2, ground := Ground.data }, { on := 4, ground := Ground.data }], guard := none } := by kernel_rfl
theorem lo6 : loops[6]? = some { dst := some 25, op := Op.load 124 (Operand.tmp 6), type := 124, pos := "store.go:231", after := #[], guard := none } := by kernel_rfl
theorem lo7 : loops[7]? = some { dst := some 26, op := Op.call { callee := Callee.value (Operand.func 202), args := #[Operand.tmp 25], argTypes := #[124] }, type := 9, pos := "store.go:231", after := #[{ on := 6, ground := Ground.data }, { on := 5, ground := Ground.chain }], guard := none } := by kernel_rfl
theorem lo8 : loops[8]? = some { dst := some 27, op := Op.call { callee := Callee.value (Operand.func 139), args := #[Operand.tmp 19, Operand.tmp 24, Operand.tmp 26], argTypes := #[28, 3, 9] }, type := 110, pos := "store.go:231", after := #[{ on := 0, ground := Ground.data }, { on := 5, ground := Ground.data }, { on := 7, ground := Ground.data }, { on := 7, ground := Ground.chain }], guard := none } := by kernel_rfl
theorem lo9 : loops[9]? = some { dst := some 18, op := Op.move (Operand.tmp 27), type := 110, pos := "store.go:231", after := #[{ on := 8, ground := Ground.data }], guard := none } := by kernel_rfl
theorem lo10 : loops[10]? = some { dst := some 28, op := Op.extract (Operand.tmp 18) 0, type := 28, pos := "store.go:231", after := #[{ on := 9, ground := Ground.data }], guard := none } := by kernel_rfl
theorem lo11 : loops[11]? = some { dst := some 29, op := Op.extract (Operand.tmp 18) 1, type := 38, pos := "store.go:231", after := #[{ on := 9, ground := Ground.data }, { on := 13, ground := Ground.gcOnly Departure.lateStores }], guard := none } := by kernel_rfl
theorem lo12 : loops[12]? = some { dst := some 7, op := Op.alloc 28, type := 0, pos := "store.go:231", after := #[], guard := none } := by kernel_rfl
theorem lo13 : loops[13]? = some { dst := none, op := Op.store 28 (Operand.tmp 7) (Operand.tmp 28), type := 0, pos := "store.go:231", after := #[{ on := 12, ground := Ground.data }, { on := 10, ground := Ground.data }, { on := 8, ground := Ground.chain }, { on := 0, ground := Ground.phase }, { on := 1, ground := Ground.phase }, { on := 2, ground := Ground.phase }, { on := 3, ground := Ground.phase }, { on := 4, ground := Ground.phase }, { on := 5, ground := Ground.phase }, { on := 6, ground := Ground.phase }, { on := 7, ground := Ground.phase }, { on := 8, ground := Ground.phase }, { on := 9, ground := Ground.phase }, { on := 10, ground := Ground.phase }, { on := 11, ground := Ground.textOnly Departure.lateStores }, { on := 12, ground := Ground.phase }], guard := none } := by kernel_rfl
theorem lo14 : loops[14]? = some { dst := some 8, op := Op.assign (Operand.tmp 29), type := 38, pos := "store.go:231", after := #[{ on := 11, ground := Ground.data }, { on := 13, ground := Ground.chain }, { on := 0, ground := Ground.phase }, { on := 1, ground := Ground.phase }, { on := 2, ground := Ground.phase }, { on := 3, ground := Ground.phase }, { on := 4, ground := Ground.phase }, { on := 5, ground := Ground.phase }, { on := 6, ground := Ground.phase }, { on := 7, ground := Ground.phase }, { on := 8, ground := Ground.phase }, { on := 9, ground := Ground.phase }, { on := 10, ground := Ground.phase }, { on := 11, ground := Ground.phase }, { on := 12, ground := Ground.phase }, { on := 13, ground := Ground.phase }], guard := none } := by kernel_rfl
end Go.Proofs.YtcgkbcgpnlogoaaGreatDoor.St

/- The operations of a condition, each by its number. -/
namespace Go.Proofs.YtcgkbcgpnlogoaaGreatDoor.St
open Lex

noncomputable def seops : Array Oper := #[{ dst := some 39, op := Op.fieldAddr 37 (Operand.tmp 1) 2, type := 0, pos := "store.go:248", after := #[], guard := none },
 { dst := some 40, op := Op.load 3 (Operand.tmp 39), type := 3, pos := "store.go:248", after := #[{ on := 0, ground := Ground.data }], guard := none },
 { dst := some 41, op := Op.load 37 (Operand.tmp 1), type := 37, pos := "store.go:248", after := #[], guard := none },
 { dst := some 42, op := Op.call { callee := Callee.value (Operand.func 134), args := #[Operand.tmp 41], argTypes := #[37] }, type := 3, pos := "store.go:248", after := #[{ on := 2, ground := Ground.data }], guard := none }]
def secalls : List Nat := [3]
def seord : List Nat := [0, 1, 2, 3]
theorem sesel : Region.noSelect seops = true := by kernel_rfl
theorem selex : lexH seops secalls seord (Array.replicate seops.size false) = true := by kernel_rfl
noncomputable def seraw : Array Oper := Lex.opsOf Tryz.f136 9
theorem secut : seops = seraw.extract 0 4 := by kernel_rfl
theorem sesize : seraw.size = 7 := by kernel_rfl
theorem sersel : Region.noSelect seraw = true := by kernel_rfl
theorem setlex : lexH seraw [6] [4, 5, 6] (extL (Array.replicate 4 true) seraw.size) = true := by kernel_rfl
theorem set4 : seraw[4]? = some { dst := some 43, op := Op.binOp BinOp.add 3 (Operand.tmp 40) (Operand.tmp 42) 3, type := 3, pos := "store.go:248", after := #[{ on := 1, ground := Ground.data }, { on := 3, ground := Ground.data }], guard := none } := by kernel_rfl
theorem set5 : seraw[5]? = some { dst := some 44, op := Op.fieldAddr 37 (Operand.tmp 1) 2, type := 0, pos := "store.go:248", after := #[{ on := 0, ground := Ground.phase }, { on := 1, ground := Ground.phase }, { on := 2, ground := Ground.phase }, { on := 3, ground := Ground.phase }, { on := 4, ground := Ground.phase }], guard := none } := by kernel_rfl
theorem set6 : seraw[6]? = some { dst := none, op := Op.store 3 (Operand.tmp 44) (Operand.tmp 43), type := 0, pos := "store.go:248", after := #[{ on := 5, ground := Ground.data }, { on := 4, ground := Ground.data }, { on := 3, ground := Ground.chain }, { on := 0, ground := Ground.phase }, { on := 1, ground := Ground.phase }, { on := 2, ground := Ground.phase }, { on := 3, ground := Ground.phase }, { on := 4, ground := Ground.phase }], guard := none } := by kernel_rfl
theorem se0 : seops[0]? = some { dst := some 39, op := Op.fieldAddr 37 (Operand.tmp 1) 2, type := 0, pos := "store.go:248", after := #[], guard := none } := by kernel_rfl
theorem se1 : seops[1]? = some { dst := some 40, op := Op.load 3 (Operand.tmp 39), type := 3, pos := "store.go:248", after := #[{ on := 0, ground := Ground.data }], guard := none } := by kernel_rfl
theorem se2 : seops[2]? = some { dst := some 41, op := Op.load 37 (Operand.tmp 1), type := 37, pos := "store.go:248", after := #[], guard := none } := by kernel_rfl
theorem se3 : seops[3]? = some { dst := some 42, op := Op.call { callee := Callee.value (Operand.func 134), args := #[Operand.tmp 41], argTypes := #[37] }, type := 3, pos := "store.go:248", after := #[{ on := 2, ground := Ground.data }], guard := none } := by kernel_rfl
end Go.Proofs.YtcgkbcgpnlogoaaGreatDoor.St

/- The operations of a condition, each by its number. -/
namespace Go.Proofs.YtcgkbcgpnlogoaaGreatDoor.St
open Lex

noncomputable def oaops : Array Oper := Lex.opsOf Tryz.f26 3
def oacalls : List Nat := [3, 4]
def oaord : List Nat := [0, 1, 2, 3, 4, 5]
theorem oasel : Region.noSelect oaops = true := by kernel_rfl
theorem oalex : lexH oaops oacalls oaord (Array.replicate oaops.size false) = true := by kernel_rfl
theorem oa0 : oaops[0]? = some { dst := some 16, op := Op.build 37 #[], type := 37, pos := "store.go:129", after := #[], guard := none } := by kernel_rfl
theorem oa1 : oaops[1]? = some { dst := some 17, op := Op.load 28 (Operand.tmp 1), type := 28, pos := "store.go:129", after := #[{ on := 3, ground := Ground.gcOnly Departure.lateStores }], guard := none } := by kernel_rfl
theorem oa2 : oaops[2]? = some { dst := some 18, op := Op.move (Operand.tmp 6), type := 38, pos := "store.go:129", after := #[{ on := 4, ground := Ground.gcOnly Departure.lateStores }], guard := none } := by kernel_rfl
theorem oa3 : oaops[3]? = some { dst := none, op := Op.store 37 (Operand.tmp 2) (Operand.tmp 16), type := 0, pos := "store.go:129", after := #[{ on := 0, ground := Ground.data }, { on := 0, ground := Ground.phase }, { on := 1, ground := Ground.textOnly Departure.lateStores }, { on := 2, ground := Ground.textOnly Departure.lateStores }], guard := none } := by kernel_rfl
theorem oa4 : oaops[4]? = some { dst := none, op := Op.store 28 (Operand.tmp 3) (Operand.tmp 17), type := 0, pos := "store.go:129", after := #[{ on := 1, ground := Ground.data }, { on := 3, ground := Ground.chain }, { on := 0, ground := Ground.phase }, { on := 1, ground := Ground.phase }, { on := 2, ground := Ground.textOnly Departure.lateStores }, { on := 3, ground := Ground.phase }], guard := none } := by kernel_rfl
theorem oa5 : oaops[5]? = some { dst := some 4, op := Op.assign (Operand.tmp 18), type := 38, pos := "store.go:129", after := #[{ on := 2, ground := Ground.data }, { on := 4, ground := Ground.chain }, { on := 0, ground := Ground.phase }, { on := 1, ground := Ground.phase }, { on := 2, ground := Ground.phase }, { on := 3, ground := Ground.phase }, { on := 4, ground := Ground.phase }], guard := none } := by kernel_rfl
noncomputable def obops : Array Oper := Lex.opsOf Tryz.f26 4
def obcalls : List Nat := [4]
def obord : List Nat := [0, 1, 2, 3, 4, 5]
theorem obsel : Region.noSelect obops = true := by kernel_rfl
theorem oblex : lexH obops obcalls obord (Array.replicate obops.size false) = true := by kernel_rfl
theorem ob0 : obops[0]? = some { dst := some 19, op := Op.fieldAddr 28 (Operand.tmp 1) 0, type := 0, pos := "store.go:131", after := #[], guard := none } := by kernel_rfl
theorem ob1 : obops[1]? = some { dst := some 20, op := Op.load 25 (Operand.tmp 19), type := 25, pos := "store.go:131", after := #[{ on := 0, ground := Ground.data }], guard := none } := by kernel_rfl
theorem ob2 : obops[2]? = some { dst := some 21, op := Op.call { callee := Callee.builtin Builtin.len, args := #[Operand.tmp 20], argTypes := #[25] }, type := 3, pos := "store.go:131", after := #[{ on := 1, ground := Ground.data }], guard := none } := by kernel_rfl
theorem ob3 : obops[3]? = some { dst := some 22, op := Op.load 30 (Operand.tmp 5), type := 30, pos := "store.go:131", after := #[], guard := none } := by kernel_rfl
theorem ob4 : obops[4]? = some { dst := some 23, op := Op.call { callee := Callee.value (Operand.func 67), args := #[Operand.tmp 22], argTypes := #[30] }, type := 3, pos := "store.go:131", after := #[{ on := 3, ground := Ground.data }], guard := none } := by kernel_rfl
theorem ob5 : obops[5]? = some { dst := some 24, op := Op.binOp BinOp.neq 3 (Operand.tmp 21) (Operand.tmp 23) 3, type := 4, pos := "store.go:131", after := #[{ on := 2, ground := Ground.data }, { on := 4, ground := Ground.data }], guard := none } := by kernel_rfl
noncomputable def ocops : Array Oper := Lex.opsOf Tryz.f26 5
def occalls : List Nat := [2, 3]
def ocord : List Nat := [0, 1, 2, 3, 4]
theorem ocsel : Region.noSelect ocops = true := by kernel_rfl
theorem oclex : lexH ocops occalls ocord (Array.replicate ocops.size false) = true := by kernel_rfl
theorem oc0 : ocops[0]? = some { dst := some 25, op := Op.build 37 #[], type := 37, pos := "store.go:132", after := #[], guard := none } := by kernel_rfl
theorem oc1 : ocops[1]? = some { dst := some 26, op := Op.load 28 (Operand.tmp 1), type := 28, pos := "store.go:132", after := #[{ on := 2, ground := Ground.gcOnly Departure.lateStores }], guard := none } := by kernel_rfl
theorem oc2 : ocops[2]? = some { dst := none, op := Op.store 37 (Operand.tmp 2) (Operand.tmp 25), type := 0, pos := "store.go:132", after := #[{ on := 0, ground := Ground.data }, { on := 0, ground := Ground.phase }, { on := 1, ground := Ground.textOnly Departure.lateStores }], guard := none } := by kernel_rfl
theorem oc3 : ocops[3]? = some { dst := none, op := Op.store 28 (Operand.tmp 3) (Operand.tmp 26), type := 0, pos := "store.go:132", after := #[{ on := 1, ground := Ground.data }, { on := 2, ground := Ground.chain }, { on := 0, ground := Ground.phase }, { on := 1, ground := Ground.phase }, { on := 2, ground := Ground.phase }], guard := none } := by kernel_rfl
theorem oc4 : ocops[4]? = some { dst := some 4, op := Op.assign (Operand.const (Value.int IntKind.i64 2)), type := 38, pos := "store.go:132", after := #[{ on := 3, ground := Ground.chain }, { on := 0, ground := Ground.phase }, { on := 1, ground := Ground.phase }, { on := 2, ground := Ground.phase }, { on := 3, ground := Ground.phase }], guard := none } := by kernel_rfl
noncomputable def odops : Array Oper := Lex.opsOf Tryz.f26 10
def odcalls : List Nat := [4, 5]
def odord : List Nat := [0, 1, 2, 3, 4, 5, 6]
theorem odsel : Region.noSelect odops = true := by kernel_rfl
theorem odlex : lexH odops odcalls odord (Array.replicate odops.size false) = true := by kernel_rfl
theorem od0 : odops[0]? = some { dst := some 43, op := Op.build 37 #[], type := 37, pos := "store.go:139", after := #[], guard := none } := by kernel_rfl
theorem od1 : odops[1]? = some { dst := some 44, op := Op.fieldAddr 37 (Operand.tmp 7) 0, type := 0, pos := "store.go:139", after := #[{ on := 4, ground := Ground.gcOnly Departure.lateStores }], guard := none } := by kernel_rfl
theorem od2 : odops[2]? = some { dst := some 45, op := Op.load 28 (Operand.tmp 44), type := 28, pos := "store.go:139", after := #[{ on := 1, ground := Ground.data }, { on := 4, ground := Ground.gcOnly Departure.lateStores }], guard := none } := by kernel_rfl
theorem od3 : odops[3]? = some { dst := some 46, op := Op.move (Operand.tmp 6), type := 38, pos := "store.go:139", after := #[{ on := 5, ground := Ground.gcOnly Departure.lateStores }], guard := none } := by kernel_rfl
theorem od4 : odops[4]? = some { dst := none, op := Op.store 37 (Operand.tmp 2) (Operand.tmp 43), type := 0, pos := "store.go:139", after := #[{ on := 0, ground := Ground.data }, { on := 0, ground := Ground.phase }, { on := 1, ground := Ground.textOnly Departure.lateStores }, { on := 2, ground := Ground.textOnly Departure.lateStores }, { on := 3, ground := Ground.textOnly Departure.lateStores }], guard := none } := by kernel_rfl
theorem od5 : odops[5]? = some { dst := none, op := Op.store 28 (Operand.tmp 3) (Operand.tmp 45), type := 0, pos := "store.go:139", after := #[{ on := 2, ground := Ground.data }, { on := 4, ground := Ground.chain }, { on := 0, ground := Ground.phase }, { on := 1, ground := Ground.phase }, { on := 2, ground := Ground.phase }, { on := 3, ground := Ground.textOnly Departure.lateStores }, { on := 4, ground := Ground.phase }], guard := none } := by kernel_rfl
theorem od6 : odops[6]? = some { dst := some 4, op := Op.assign (Operand.tmp 46), type := 38, pos := "store.go:139", after := #[{ on := 3, ground := Ground.data }, { on := 5, ground := Ground.chain }, { on := 0, ground := Ground.phase }, { on := 1, ground := Ground.phase }, { on := 2, ground := Ground.phase }, { on := 3, ground := Ground.phase }, { on := 4, ground := Ground.phase }, { on := 5, ground := Ground.phase }], guard := none } := by kernel_rfl
noncomputable def oeops : Array Oper := Lex.opsOf Tryz.f26 11
def oecalls : List Nat := [3, 4]
def oeord : List Nat := [0, 1, 2, 3, 4, 5]
theorem oesel : Region.noSelect oeops = true := by kernel_rfl
theorem oelex : lexH oeops oecalls oeord (Array.replicate oeops.size false) = true := by kernel_rfl
theorem oe0 : oeops[0]? = some { dst := some 47, op := Op.load 37 (Operand.tmp 7), type := 37, pos := "store.go:141", after := #[], guard := none } := by kernel_rfl
theorem oe1 : oeops[1]? = some { dst := some 48, op := Op.fieldAddr 37 (Operand.tmp 7) 0, type := 0, pos := "store.go:141", after := #[{ on := 3, ground := Ground.gcOnly Departure.lateStores }], guard := none } := by kernel_rfl
theorem oe2 : oeops[2]? = some { dst := some 49, op := Op.load 28 (Operand.tmp 48), type := 28, pos := "store.go:141", after := #[{ on := 1, ground := Ground.data }, { on := 3, ground := Ground.gcOnly Departure.lateStores }], guard := none } := by kernel_rfl
theorem oe3 : oeops[3]? = some { dst := none, op := Op.store 37 (Operand.tmp 2) (Operand.tmp 47), type := 0, pos := "store.go:141", after := #[{ on := 0, ground := Ground.data }, { on := 0, ground := Ground.phase }, { on := 1, ground := Ground.textOnly Departure.lateStores }, { on := 2, ground := Ground.textOnly Departure.lateStores }], guard := none } := by kernel_rfl
theorem oe4 : oeops[4]? = some { dst := none, op := Op.store 28 (Operand.tmp 3) (Operand.tmp 49), type := 0, pos := "store.go:141", after := #[{ on := 2, ground := Ground.data }, { on := 3, ground := Ground.chain }, { on := 0, ground := Ground.phase }, { on := 1, ground := Ground.phase }, { on := 2, ground := Ground.phase }, { on := 3, ground := Ground.phase }], guard := none } := by kernel_rfl
theorem oe5 : oeops[5]? = some { dst := some 4, op := Op.assign (Operand.const (Value.int IntKind.i64 0)), type := 38, pos := "store.go:141", after := #[{ on := 4, ground := Ground.chain }, { on := 0, ground := Ground.phase }, { on := 1, ground := Ground.phase }, { on := 2, ground := Ground.phase }, { on := 3, ground := Ground.phase }, { on := 4, ground := Ground.phase }], guard := none } := by kernel_rfl
end Go.Proofs.YtcgkbcgpnlogoaaGreatDoor.St

/- The operations of a condition, each by its number. -/
namespace Go.Proofs.YtcgkbcgpnlogoaaGreatDoor.St
open Lex

noncomputable def raops : Array Oper := #[{ dst := some 58, op := Op.load 37 (Operand.tmp 7), type := 37, pos := "law.go:286", after := #[], guard := none },
 { dst := some 59, op := Op.move (Operand.tmp 1), type := 22, pos := "law.go:286", after := #[], guard := none },
 { dst := some 60, op := Op.move (Operand.tmp 9), type := 3, pos := "law.go:286", after := #[], guard := none },
 { dst := some 61, op := Op.indexAddr 22 (Operand.tmp 59) (Operand.tmp 60), type := 0, pos := "law.go:286", after := #[{ on := 1, ground := Ground.data }, { on := 2, ground := Ground.data }], guard := none },
 { dst := some 62, op := Op.load 48 (Operand.tmp 61), type := 48, pos := "law.go:286", after := #[{ on := 3, ground := Ground.data }], guard := none },
 { dst := some 63, op := Op.call { callee := Callee.value (Operand.func 20), args := #[Operand.tmp 58, Operand.tmp 62], argTypes := #[37, 48] }, type := 42, pos := "law.go:286", after := #[{ on := 0, ground := Ground.data }, { on := 4, ground := Ground.data }], guard := none },
 { dst := some 57, op := Op.move (Operand.tmp 63), type := 42, pos := "law.go:286", after := #[{ on := 5, ground := Ground.data }], guard := none }]
def racalls : List Nat := [5]
def raord : List Nat := [0, 1, 2, 3, 4, 5, 6]
theorem rasel : Region.noSelect raops = true := by kernel_rfl
theorem ralex : lexH raops racalls raord (Array.replicate raops.size false) = true := by kernel_rfl
noncomputable def raraw : Array Oper := Lex.opsOf Tryz.f5 10
theorem racut : raops = raraw.extract 0 7 := by kernel_rfl
theorem rasize : raraw.size = 11 := by kernel_rfl
theorem rarsel : Region.noSelect raraw = true := by kernel_rfl
theorem ratlex : lexH raraw [10] [7, 8, 9, 10] (extL (Array.replicate 7 true) raraw.size) = true := by kernel_rfl
theorem rat7 : raraw[7]? = some { dst := some 64, op := Op.extract (Operand.tmp 57) 0, type := 37, pos := "law.go:286", after := #[{ on := 6, ground := Ground.data }], guard := none } := by kernel_rfl
theorem rat8 : raraw[8]? = some { dst := some 65, op := Op.extract (Operand.tmp 57) 1, type := 9, pos := "law.go:286", after := #[{ on := 6, ground := Ground.data }, { on := 10, ground := Ground.gcOnly Departure.lateStores }], guard := none } := by kernel_rfl
theorem rat9 : raraw[9]? = some { dst := some 66, op := Op.extract (Operand.tmp 57) 2, type := 38, pos := "law.go:286", after := #[{ on := 6, ground := Ground.data }, { on := 10, ground := Ground.gcOnly Departure.lateStores }], guard := none } := by kernel_rfl
theorem rat10 : raraw[10]? = some { dst := none, op := Op.store 37 (Operand.tmp 7) (Operand.tmp 64), type := 0, pos := "law.go:286", after := #[{ on := 7, ground := Ground.data }, { on := 5, ground := Ground.chain }, { on := 0, ground := Ground.phase }, { on := 1, ground := Ground.phase }, { on := 2, ground := Ground.phase }, { on := 3, ground := Ground.phase }, { on := 4, ground := Ground.phase }, { on := 5, ground := Ground.phase }, { on := 6, ground := Ground.phase }, { on := 7, ground := Ground.phase }, { on := 8, ground := Ground.textOnly Departure.lateStores }, { on := 9, ground := Ground.textOnly Departure.lateStores }], guard := none } := by kernel_rfl
theorem ra0 : raops[0]? = some { dst := some 58, op := Op.load 37 (Operand.tmp 7), type := 37, pos := "law.go:286", after := #[], guard := none } := by kernel_rfl
theorem ra1 : raops[1]? = some { dst := some 59, op := Op.move (Operand.tmp 1), type := 22, pos := "law.go:286", after := #[], guard := none } := by kernel_rfl
theorem ra2 : raops[2]? = some { dst := some 60, op := Op.move (Operand.tmp 9), type := 3, pos := "law.go:286", after := #[], guard := none } := by kernel_rfl
theorem ra3 : raops[3]? = some { dst := some 61, op := Op.indexAddr 22 (Operand.tmp 59) (Operand.tmp 60), type := 0, pos := "law.go:286", after := #[{ on := 1, ground := Ground.data }, { on := 2, ground := Ground.data }], guard := none } := by kernel_rfl
theorem ra4 : raops[4]? = some { dst := some 62, op := Op.load 48 (Operand.tmp 61), type := 48, pos := "law.go:286", after := #[{ on := 3, ground := Ground.data }], guard := none } := by kernel_rfl
theorem ra5 : raops[5]? = some { dst := some 63, op := Op.call { callee := Callee.value (Operand.func 20), args := #[Operand.tmp 58, Operand.tmp 62], argTypes := #[37, 48] }, type := 42, pos := "law.go:286", after := #[{ on := 0, ground := Ground.data }, { on := 4, ground := Ground.data }], guard := none } := by kernel_rfl
theorem ra6 : raops[6]? = some { dst := some 57, op := Op.move (Operand.tmp 63), type := 42, pos := "law.go:286", after := #[{ on := 5, ground := Ground.data }], guard := none } := by kernel_rfl
end Go.Proofs.YtcgkbcgpnlogoaaGreatDoor.St

/- The operations of drawn regions, each by its number; the trees of their orders. -/
namespace Go.Proofs.YtcgkbcgpnlogoaaGreatDoor.St
open Lex

noncomputable def yzops : Array Oper := Lex.opsOf Tryz.f5 18
def yztree : Tr := (.op 0 (.op 1 (.alt 2 (.alt 3 (.alt 4 (.alt 5 .fin .fin) .fin) .fin) (.alt 3 (.alt 2 (.alt 4 (.alt 5 .fin .fin) .fin) .fin) .fin))))
theorem yzsel : Region.noSelect yzops = true := by kernel_rfl
theorem yzlex : lexT yzops yzops.size [] yztree (Array.replicate yzops.size false) = true := by kernel_rfl
theorem yz0 : yzops[0]? = some { dst := some 128, op := Op.load 37 (Operand.tmp 7), type := 37, pos := "law.go:295", after := #[], guard := none } := by kernel_rfl
theorem yz1 : yzops[1]? = some { dst := some 129, op := Op.load 37 (Operand.tmp 11), type := 37, pos := "law.go:295", after := #[{ on := 4, ground := Ground.gcOnly Departure.lateStores }], guard := none } := by kernel_rfl
theorem yz2 : yzops[2]? = some { dst := some 14, op := Op.alloc 37, type := 0, pos := "law.go:295", after := #[], guard := none } := by kernel_rfl
theorem yz3 : yzops[3]? = some { dst := some 15, op := Op.alloc 37, type := 0, pos := "law.go:295", after := #[], guard := none } := by kernel_rfl
theorem yz4 : yzops[4]? = some { dst := none, op := Op.store 37 (Operand.tmp 14) (Operand.tmp 128), type := 0, pos := "law.go:295", after := #[{ on := 2, ground := Ground.data }, { on := 0, ground := Ground.data }, { on := 0, ground := Ground.phase }, { on := 1, ground := Ground.textOnly Departure.lateStores }, { on := 2, ground := Ground.phase }, { on := 3, ground := Ground.phase }], guard := none } := by kernel_rfl
theorem yz5 : yzops[5]? = some { dst := none, op := Op.store 37 (Operand.tmp 15) (Operand.tmp 129), type := 0, pos := "law.go:295", after := #[{ on := 3, ground := Ground.data }, { on := 1, ground := Ground.data }, { on := 4, ground := Ground.chain }, { on := 0, ground := Ground.phase }, { on := 1, ground := Ground.phase }, { on := 2, ground := Ground.phase }, { on := 3, ground := Ground.phase }, { on := 4, ground := Ground.phase }], guard := none } := by kernel_rfl
noncomputable def uvops : Array Oper := Lex.opsOf Tryz.f5 24
def uvtree : Tr := (.op 0 (.op 1 (.alt 2 (.alt 3 .fin .fin) .fin)))
theorem uvsel : Region.noSelect uvops = true := by kernel_rfl
theorem uvlex : lexT uvops uvops.size [] uvtree (Array.replicate uvops.size false) = true := by kernel_rfl
theorem uv0 : uvops[0]? = some { dst := some 148, op := Op.load 37 (Operand.tmp 17), type := 37, pos := "law.go:299", after := #[], guard := none } := by kernel_rfl
theorem uv1 : uvops[1]? = some { dst := some 149, op := Op.load 37 (Operand.tmp 20), type := 37, pos := "law.go:299", after := #[{ on := 2, ground := Ground.gcOnly Departure.lateStores }], guard := none } := by kernel_rfl
theorem uv2 : uvops[2]? = some { dst := none, op := Op.store 37 (Operand.tmp 14) (Operand.tmp 148), type := 0, pos := "law.go:299", after := #[{ on := 0, ground := Ground.data }, { on := 0, ground := Ground.phase }, { on := 1, ground := Ground.textOnly Departure.lateStores }], guard := none } := by kernel_rfl
theorem uv3 : uvops[3]? = some { dst := none, op := Op.store 37 (Operand.tmp 15) (Operand.tmp 149), type := 0, pos := "law.go:299", after := #[{ on := 1, ground := Ground.data }, { on := 2, ground := Ground.chain }, { on := 0, ground := Ground.phase }, { on := 1, ground := Ground.phase }, { on := 2, ground := Ground.phase }], guard := none } := by kernel_rfl
end Go.Proofs.YtcgkbcgpnlogoaaGreatDoor.St
