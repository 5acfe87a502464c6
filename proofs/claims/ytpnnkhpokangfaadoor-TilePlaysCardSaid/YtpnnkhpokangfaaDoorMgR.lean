/- Texts TqA, TqB, TqC, TqD, TqE, one behind the other. -/
import Derived.Test.YtpnnkhpokangfaaDoorMgT
import Derived.Test.YtpnnkhpokangfaaDoorMgI
import Derived.Test.YtpnnkhpokangfaaDoorMgY
/- The document's Set of a tile: walked. -/
namespace Go.Proofs.YtpnnkhpokangfaaDoor.Ti
open Go.RowKit Pac Va Sc Mi Sp Ro Lex

theorem HasU.old {cs : List C} {w : World} {X Y : Nat → Prop} {t : TV} {r : R} (h : HasU cs w X t r) (hY : ∀ b, b < w.heap.size → Y b) : HasU cs w (fun b => X b ∧ Y b) t r :=
 ⟨h.sp.old hY, h.mi, h.on.and (on_of h.mi fun b _ hb => hY b hb), h.n, h.c, h.d, h.m, h.s, h.rm⟩
section
variable {nm : ByteArray} {cs : List C} {A : Option Addr} {mc cp : Nat} {w : World} {X : Nat → Prop} {t : TV} {r : R}
set_option maxRecDepth 20000 in
set_option maxHeartbeats 6400000 in
theorem refSet_any (s c : Int) (v : V) (hX : ∀ b, w.heap.size ≤ b → X b) (hS : HasSch w A mc cp nm cs) (hT : HasT cs w X t r) (h0 : -9223372036854775808 ≤ s) (h1 : s ≤ 9223372036854775807) (h2 : -9223372036854775808 ≤ c) (h3 : c ≤ 9223372036854775807) (hv : v.Ok) :
  Calls Tryd.prog 15 #[.agg #[.string nm, .slice A mc cp], t.v, .int .i64 s, .int .i64 c, v.v] w (TilePost1 cs X (setR cs r s c v) w) := by
 have _ := h2
 have _ := h3
 have hP := fun (t : TV) (W : World) (x : R × Int) (e : setR cs r s c v = x) (h1 : HasT cs W X t x.1) (h2 : Below w.heap.size w W) => (show TilePost1 cs X (setR cs r s c v) w (.returned (.tuple #[t.v, .int .i64 x.2])) W from ⟨t, by rw [e], by rw [e]; exact h1, h2⟩)
 have hTi0 := set_tile (s := s) (c := c) hS.r hT.ok hv
 generalize TilePost1 cs X (setR cs r s c v) w = post at hP ⊢
 have HP := Lib.hid hP
 clear hP
 obtain ⟨l0, f, M⟩ := r
 obtain ⟨At, n, c0, m, Bt, d⟩ := t
 obtain ⟨vk, vn, vs⟩ := v
 have hm : m = liveN f := hT.m
 unfold TV.v
 simp only
 have hcs8 : cs.length ≤ 8 := hT.ok.s.n8
 have hz1' : w.heap.size < (w.alloc (.cells #[.string nm, .slice A mc cp] 24)).heap.size := by simp
 have hb1 := (Below.refl w.heap.size w).alloc (Nat.le_refl _) (.cells #[.string nm, .slice A mc cp] 24)
 have hx0 := Box2.new w (.string nm) (.slice A mc cp) 24
 generalize hw1 : w.alloc (.cells #[.string nm, .slice A mc cp] 24) = w1 at hb1 hx0 hz1'
 have hb2 := hb1.alloc hb1.size (.cells #[.slice At n c0, .int .i64 m, .slice Bt n d] 32)
 have hx1 := Sc.Box3.new w1 (.slice At n c0) (.int .i64 m) (.slice Bt n d) 32
 have hx0 := hx0.alloc (.cells #[.slice At n c0, .int .i64 m, .slice Bt n d] 32)
 generalize hw2 : w1.alloc (.cells #[.slice At n c0, .int .i64 m, .slice Bt n d] 32) = w2 at hb2 hx0 hx1
 have hz2' := hx1.lt
 have hb3 := hb2.alloc hb2.size (.cells #[.int .i64 vk, .int .i64 vn, .string vs] 37)
 have hv2 := Sc.Box3.new w2 (.int .i64 vk) (.int .i64 vn) (.string vs) 37
 have hx0 := hx0.alloc (.cells #[.int .i64 vk, .int .i64 vn, .string vs] 37)
 have hx1 := hx1.alloc (.cells #[.int .i64 vk, .int .i64 vn, .string vs] 37)
 generalize hw3 : w2.alloc (.cells #[.int .i64 vk, .int .i64 vn, .string vs] 37) = w3 at hb3 hx0 hx1 hv2
 have hz3' := hv2.lt
 have hb4 := hb3.alloc hb3.size (.cells #[.slice none 0 0, .int .i64 0, .slice none 0 0] 32)
 have hx2 := Sc.Box3.new w3 (.slice none 0 0) (.int .i64 0) (.slice none 0 0) 32
 have hx0 := hx0.alloc (.cells #[.slice none 0 0, .int .i64 0, .slice none 0 0] 32)
 have hx1 := hx1.alloc (.cells #[.slice none 0 0, .int .i64 0, .slice none 0 0] 32)
 have hv2 := hv2.alloc (.cells #[.slice none 0 0, .int .i64 0, .slice none 0 0] 32)
 generalize hw4 : w3.alloc (.cells #[.slice none 0 0, .int .i64 0, .slice none 0 0] 32) = w4 at hb4 hx0 hx1 hv2 hx2
 have hb : Bs w w1.heap.size w3.heap.size mc cp nm A (.slice At n c0) (.int .i64 m) (.slice Bt n d) (.slice none 0 0) (.int .i64 0) (.slice none 0 0) w4 := ⟨hx0, hx1, hx2, hb4⟩
 have hgg : w.heap.size < w1.heap.size ∧ w1.heap.size < w3.heap.size := ⟨hz1', by omega⟩
 have hT' : HasT cs w (fun b => X b ∧ b ≠ w3.heap.size) ⟨At, n, c0, m, Bt, d⟩ ⟨l0, f, M⟩ := hT.old (fun b hb => by omega)
 have hcT := fun (W : World) (h : Below w.heap.size w W) => refTaken_any (w := W) s (hT.below h (Nat.le_refl _)).u h0 h1
 unfold TV.v at hcT
 simp only at hcT
 have HT := Lib.hid (And.intro hT' (And.intro hT.ok hS.n))
 have a0 := hb.b0.c0
 have a1 := hb.b0.c1
 have c0' := hb.b1.c0
 have c1' := hb.b1.c1
 have c2' := hb.b1.c2
 have HGG := Lib.hid hgg
 have HB0 := Lib.hid (And.intro hb hv2)
 have hnc := hS.n
 clear hx0 hx1 hx2 hb1 hb2 hb3 hb4 hz2'
 cases htk : takenB ⟨l0, f, M⟩ s with
 | false =>
  have HLX : Hid (setR cs ⟨l0, f, M⟩ s c ⟨vk, vn, vs⟩ = (⟨l0, f, M⟩, 3)) := Lib.hid (by unfold setR; rw [if_neg (fun h => by rw [htk] at h; cases h.1)])
  rw [htk] at hcT
  clear htk hT hT' hS hX hm hcs8 h0 h1 hb hgg hTi0 hv hv2 hz1' hz3'
  go_enter Tryd.func15, Tryd.ntmps15
  go_wp2_with fail
  clear hw1 hw2 hw3 hw4 a0 a1 c0' c1' c2'
  have hb := HB0.out.1
  clear HB0
  refine (hcT _ hb.b).mono ?_
  rintro e w5 ⟨rfl, hy⟩
  have hb := hb.below hy
  clear hcT hy
  have c0' := hb.b1.c0
  have c1' := hb.b1.c1
  have c2' := hb.b1.c2
  have q0 := hb.b2.c0
  have q1 := hb.b2.c1
  have q2 := hb.b2.c2
  have qf := hb.b2.f
  have hbs := Lib.hid (hb.put (.slice At n c0) (.int .i64 m) (.slice Bt n d) HGG.out)
  have HTT := Lib.hid (And.intro (done_tile (u0 := .slice At n c0) (u1 := .int .i64 m) (u2 := .slice Bt n d) (HT.out.1.below hb.b (Nat.le_refl _))) (hb.done HGG.out (x0 := .slice At n c0) (x1 := .int .i64 m) (x2 := .slice Bt n d)))
  clear hb
  go_wp2
  refine bodyPost_ret (p_res2 rfl _ _ w3.heap.size _ _ _ rfl hbs.out.b2.c0 hbs.out.b2.c1 hbs.out.b2.c2) rfl ?_
  exact HP.out ⟨At, n, c0, m, Bt, d⟩ _ (⟨l0, f, M⟩, 3) HLX.out HTT.out.1 HTT.out.2
 | true =>
  rw [htk] at hcT
  by_cases hc0 : c < 0
  ·have HLX : Hid (setR cs ⟨l0, f, M⟩ s c ⟨vk, vn, vs⟩ = (⟨l0, f, M⟩, 3)) := Lib.hid (by unfold setR; rw [if_neg (fun h => by have := h.2.1; omega)])
   clear htk hT hT' hS hX hm hcs8 h0 h1 hb hgg hTi0 hv hv2 hz1' hz3'
   go_enter Tryd.func15, Tryd.ntmps15
   go_wp2_with fail
   clear hw1 hw2 hw3 hw4 a0 a1 c0' c1' c2'
   have hb := HB0.out.1
   clear HB0
   refine (hcT _ hb.b).mono ?_
   rintro e w5 ⟨rfl, hy⟩
   have hb := hb.below hy
   clear hcT hy
   have c0' := hb.b1.c0
   have c1' := hb.b1.c1
   have c2' := hb.b1.c2
   have q0 := hb.b2.c0
   have q1 := hb.b2.c1
   have q2 := hb.b2.c2
   have qf := hb.b2.f
   have hbs := Lib.hid (hb.put (.slice At n c0) (.int .i64 m) (.slice Bt n d) HGG.out)
   have HTT := Lib.hid (And.intro (done_tile (u0 := .slice At n c0) (u1 := .int .i64 m) (u2 := .slice Bt n d) (HT.out.1.below hb.b (Nat.le_refl _))) (hb.done HGG.out (x0 := .slice At n c0) (x1 := .int .i64 m) (x2 := .slice Bt n d)))
   clear hb
   go_wp2
   refine bodyPost_ret (p_res2 rfl _ _ w3.heap.size _ _ _ rfl hbs.out.b2.c0 hbs.out.b2.c1 hbs.out.b2.c2) rfl ?_
   exact HP.out ⟨At, n, c0, m, Bt, d⟩ _ (⟨l0, f, M⟩, 3) HLX.out HTT.out.1 HTT.out.2
  by_cases hc1 : (mc : Int) ≤ c
  ·have HLX : Hid (setR cs ⟨l0, f, M⟩ s c ⟨vk, vn, vs⟩ = (⟨l0, f, M⟩, 3)) := Lib.hid (by unfold setR; rw [if_neg (fun h => by have := h.2.2; omega)])
   clear htk hT hT' hS hX hm hcs8 h0 h1 hb hgg hTi0 hv hv2 hz1' hz3'
   go_enter Tryd.func15, Tryd.ntmps15
   go_wp2_with fail
   clear hw1 hw2 hw3 hw4 a0 a1 c0' c1' c2'
   have hb := HB0.out.1
   clear HB0
   refine (hcT _ hb.b).mono ?_
   rintro e w5 ⟨rfl, hy⟩
   have hb := hb.below hy
   clear hcT hy
   have a1 := hb.b0.c1
   have c0' := hb.b1.c0
   have c1' := hb.b1.c1
   have c2' := hb.b1.c2
   have q0 := hb.b2.c0
   have q1 := hb.b2.c1
   have q2 := hb.b2.c2
   have qf := hb.b2.f
   have hbs := Lib.hid (hb.put (.slice At n c0) (.int .i64 m) (.slice Bt n d) HGG.out)
   have HTT := Lib.hid (And.intro (done_tile (u0 := .slice At n c0) (u1 := .int .i64 m) (u2 := .slice Bt n d) (HT.out.1.below hb.b (Nat.le_refl _))) (hb.done HGG.out (x0 := .slice At n c0) (x1 := .int .i64 m) (x2 := .slice Bt n d)))
   clear hb
   go_wp2
   refine bodyPost_ret (p_res2 rfl _ _ w3.heap.size _ _ _ rfl hbs.out.b2.c0 hbs.out.b2.c1 hbs.out.b2.c2) rfl ?_
   exact HP.out ⟨At, n, c0, m, Bt, d⟩ _ (⟨l0, f, M⟩, 3) HLX.out HTT.out.1 HTT.out.2
  obtain ⟨s0, s8, _⟩ := taken_in htk
  obtain ⟨j, rfl⟩ : ∃ j : Nat, s = (j : Int) := ⟨s.toNat, by omega⟩
  obtain ⟨cn, rfl⟩ : ∃ cn : Nat, c = (cn : Int) := ⟨c.toNat, by omega⟩
  have hj8 : j < 8 := by omega
  have hcn : cn < mc := by omega
  obtain ⟨x, hx⟩ : ∃ x, cs[cn]? = some x := ⟨_, List.getElem?_eq_getElem (by omega)⟩
  obtain ⟨ca, co, eA, _, _, hcc⟩ := hS.c (fun e => by rw [e] at hx; simp at hx)
  obtain ⟨g0', g1', g2'⟩ := hcc cn x hx
  have hcf := fun W : World => Ro.refFits_any x ⟨vk, vn, vs⟩ W
  obtain ⟨er, her⟩ : ∃ er, Ro.fitsE x ⟨vk, vn, vs⟩ = er := ⟨_, rfl⟩
  rw [her] at hcf
  have hset : setR cs ⟨l0, f, M⟩ (j : Int) (cn : Int) ⟨vk, vn, vs⟩ = if er = 0 then (⟨l0, f, setM M j cn ⟨vk, vn, vs⟩⟩, 0) else (⟨l0, f, M⟩, er) := by
   unfold setR
   rw [if_pos ⟨htk, by omega, by omega⟩]
   simp only [Int.toNat_natCast]
   rw [hx]
   simp only
   rw [her]
  subst eA
  obtain ⟨xn, xk, xz⟩ := x
  unfold C.v at hcf
  simp only at hcf g0' g1' g2'
  have F0 := Lib.hid (And.intro g0' (And.intro g1' g2'))
  have HX := Lib.hid (fun (W : World) (he : er = 0) (hb : Below w.heap.size w W) (hlt : w3.heap.size < W.heap.size) => refPut_any (w := W) (X := fun b => X b ∧ b ≠ w3.heap.size) (A := some ⟨ca, co, none⟩) (kd := xk) (v := ⟨vk, vn, vs⟩) (fun b hb' => ⟨hX b (by have := hb.size; omega), by omega⟩) (hS.below hb (Nat.le_refl _)) ((hT'.u).below hb (Nat.le_refl _)) hj8 (by unfold allK; rw [List.getElem?_map, hx]; rfl) (fit_cell hS.r hx hv (her.trans he)))
  have HTI := Lib.hid (fun (he : er = 0) => (show Tile cs ⟨l0, f, setM M j cn ⟨vk, vn, vs⟩⟩ from by
   rw [hset, if_pos he] at hTi0
   exact hTi0))
  have HSET := Lib.hid hset
  have HM := Lib.hid (And.intro (show M.length = 8 from hT.ok.m.len) (show ∀ y ∈ M, y.length = mc from fun y hy => (hT.ok.m.row y hy).trans ((allK_len cs).trans hnc)))
  have hz3 := Lib.hid hz3'
  clear htk hT hT' hS hX hm hcs8 h0 h1 hb hgg hTi0 hv hv2 hz1' hz3' hx hcc g0' g1' g2' s0 s8 hset her
  have k1 : (cn : Int) < (mc : Int) := by omega
  have k0 : (0 : Int) ≤ (cn : Int) := by omega
  go_enter Tryd.func15, Tryd.ntmps15
  go_wp2_with fail
  clear hw1 hw2 hw3 hw4 a0 a1 c0' c1' c2'
  have hb := HB0.out.1
  have hv := HB0.out.2
  clear HB0
  refine (hcT _ hb.b).mono ?_
  rintro e w5 ⟨rfl, hy⟩
  have hb := hb.below hy
  have hv := hv.below hy hv.lt
  clear hcT hy
  have a1 := hb.b0.c1
  go_wp2
  clear a1
  generalize w5 = y0 at hb hv ⊢
  refine Lex.region_lex (ops := ufops) (calls := ufcalls) uford (fun W => W.cell? ⟨w.heap.size, 1, none⟩ = some (.slice (some ⟨ca, co, none⟩) mc cp) ∧ W.cell? ⟨ca, co + cn * 3, none⟩ = some (.string xn) ∧ W.cell? ⟨ca, co + cn * 3 + 1, none⟩ = some (.int .i64 xk) ∧ W.cell? ⟨ca, co + cn * 3 + 2, none⟩ = some (.bool xz) ∧ W.cell? ⟨w2.heap.size, 0, none⟩ = some (.int .i64 vk) ∧ W.cell? ⟨w2.heap.size, 1, none⟩ = some (.int .i64 vn) ∧ W.cell? ⟨w2.heap.size, 2, none⟩ = some (.string vs)) (by kernel_rfl) (by kernel_rfl) ufsel (by kernel_rfl) (by kernel_rfl) uflex (⟨hb.b0.c1, Ro.cell_below hb.b F0.out.1, Ro.cell_below hb.b F0.out.2.1, Ro.cell_below hb.b F0.out.2.2, hv.c0, hv.c1, hv.c2⟩) ?_
  unfold uford
  have hb := hb.below (Below.refl y0.heap.size y0).drew
  have hv := hv.below (Below.refl y0.heap.size y0).drew hv.lt
  generalize y0.drew = wd at hb hv ⊢
  refine Lex.step_take (.pointer (some ⟨w.heap.size, 1, none⟩)) uf0 rfl (Lex.want_none rfl) (by intro Wx hSw; (try dsimp only at hSw); go_simp; (try (first | (with_reducible rfl) | assumption | rfl))) ?_
  simp only [Act.put, List.setIfInBounds_toArray, List.set_cons_zero, List.set_cons_succ]
  refine Lex.step_take (.slice (some ⟨ca, co, none⟩) mc cp) uf1 rfl (Lex.want_none rfl) (by intro Wx hSw; (try dsimp only at hSw); go_simp; (try (first | (with_reducible rfl) | assumption | rfl))) ?_
  simp only [Act.put, List.setIfInBounds_toArray, List.set_cons_zero, List.set_cons_succ]
  refine Lex.step_take (.int .i64 (cn : Int)) uf2 rfl (Lex.want_none rfl) (by intro Wx hSw; (try dsimp only at hSw); go_simp; (try (first | (with_reducible rfl) | assumption | rfl))) ?_
  simp only [Act.put, List.setIfInBounds_toArray, List.set_cons_zero, List.set_cons_succ]
  refine Lex.step_take (.pointer (some ⟨ca, co + cn * 3, none⟩)) uf3 rfl (Lex.want_none rfl) (by intro Wx hSw; (try dsimp only at hSw); go_simp; (try (first | (with_reducible rfl) | assumption | rfl))) ?_
  simp only [Act.put, List.setIfInBounds_toArray, List.set_cons_zero, List.set_cons_succ]
  refine Lex.step_take (.agg #[.string xn, .int .i64 xk, .bool xz]) uf4 rfl (Lex.want_none rfl) (by intro Wx hSw; (try dsimp only at hSw); go_simp; (try (first | (with_reducible rfl) | assumption | rfl))) ?_
  simp only [Act.put, List.setIfInBounds_toArray, List.set_cons_zero, List.set_cons_succ]
  refine Lex.step_take (.agg #[.int .i64 vk, .int .i64 vn, .string vs]) uf5 rfl (Lex.want_none rfl) (by intro Wx hSw; (try dsimp only at hSw); go_simp; (try (first | (with_reducible rfl) | assumption | rfl))) ?_
  simp only [Act.put, List.setIfInBounds_toArray, List.set_cons_zero, List.set_cons_succ]
  refine Lex.step_call uf6 rfl (Lex.want_none rfl) (fun K hK => ?_)
  go_simp
  refine (hcf _).mono ?_
  rintro e y1 ⟨rfl, hy1⟩
  have hb := hb.below hy1
  have hv := hv.below hy1 hv.lt
  clear hcf hy1
  refine hK.out _ _ _ (fun _ h => h) ⟨hb.b0.c1, Ro.cell_below hb.b F0.out.1, Ro.cell_below hb.b F0.out.2.1, Ro.cell_below hb.b F0.out.2.2, hv.c0, hv.c1, hv.c2⟩ ?_
  clear hK K
  try simp only [Act.put, List.setIfInBounds_toArray, List.set_cons_zero, List.set_cons_succ]
  refine Lex.step_take (.int .i64 er) uf7 rfl (Lex.want_none rfl) (by intro Wx hSw; (try dsimp only at hSw); go_simp; (try (first | (with_reducible rfl) | assumption | rfl))) ?_
  simp only [Act.put, List.setIfInBounds_toArray, List.set_cons_zero, List.set_cons_succ]
  refine NoPanic.normal ?_
  by_cases he : er = 0
  ·subst he
   have HLX : Hid (setR cs ⟨l0, f, M⟩ (j : Int) (cn : Int) ⟨vk, vn, vs⟩ = (⟨l0, f, setM M j cn ⟨vk, vn, vs⟩⟩, 0)) := Lib.hid (by rw [HSET.out, if_pos rfl])
   have a0 := hb.b0.c0
   have a1 := hb.b0.c1
   have c0' := hb.b1.c0
   have c1' := hb.b1.c1
   have c2' := hb.b1.c2
   have v0 := hv.c0
   have v1 := hv.c1
   have v2 := hv.c2
   have hcP := fun (W : World) (hb : Below w.heap.size w W) (hlt : w3.heap.size < W.heap.size) => HX.out W (by trivial) hb hlt
   unfold TV.v at hcP
   simp only at hcP
   go_wp2_with fail
   refine (hcP _ hb.b hb.b2.lt).mono ?_
   rintro e w6 ⟨⟨tA, tn, tc, tm, tB, td⟩, rfl, hU, hy⟩
   have hb := hb.below hy
   clear hcP hy a0 a1 c0' c1' c2' v0 v1 v2
   have hTT := hU.full (HT.out.1.tab.below hb.b (Nat.le_refl _)) HT.out.1.x0 (HTI.out (by trivial)).z
   have hal := (Below.refl w6.heap.size w6).alloc (Nat.le_refl _) (.cells #[.slice tA tn tc, .int .i64 tm, .slice tB tn td] 32)
   have hTT := hTT.below hal (Nat.le_refl _)
   have hk := hb.below hal
   have hp := Sc.Box3.new w6 (.slice tA tn tc) (.int .i64 tm) (.slice tB tn td) 32
   have r0 := hp.c0
   have r1 := hp.c1
   have r2 := hp.c2
   have q0 := hk.b2.c0
   have q1 := hk.b2.c1
   have q2 := hk.b2.c2
   have qf := hk.b2.f
   unfold TV.v
   simp only
   have hbs := Lib.hid (hk.put (.slice tA tn tc) (.int .i64 tm) (.slice tB tn td) HGG.out)
   have HTT := Lib.hid (And.intro (done_tile (u0 := .slice tA tn tc) (u1 := .int .i64 tm) (u2 := .slice tB tn td) hTT) (hk.done HGG.out (x0 := .slice tA tn tc) (x1 := .int .i64 tm) (x2 := .slice tB tn td)))
   clear hb hU hTT hk hp hv hal
   go_wp2
   refine bodyPost_ret (p_res2 rfl _ _ w3.heap.size _ _ _ rfl hbs.out.b2.c0 hbs.out.b2.c1 hbs.out.b2.c2) rfl ?_
   exact HP.out ⟨tA, tn, tc, tm, tB, td⟩ _ (⟨l0, f, setM M j cn ⟨vk, vn, vs⟩⟩, 0) HLX.out HTT.out.1 HTT.out.2
  ·have HLX : Hid (setR cs ⟨l0, f, M⟩ (j : Int) (cn : Int) ⟨vk, vn, vs⟩ = (⟨l0, f, M⟩, er)) := Lib.hid (by rw [HSET.out, if_neg he])
   have he' : (er != 0) = true := bne_iff_ne.2 he
   clear hv
   have c0' := hb.b1.c0
   have c1' := hb.b1.c1
   have c2' := hb.b1.c2
   have q0 := hb.b2.c0
   have q1 := hb.b2.c1
   have q2 := hb.b2.c2
   have qf := hb.b2.f
   have hbs := Lib.hid (hb.put (.slice At n c0) (.int .i64 m) (.slice Bt n d) HGG.out)
   have HTT := Lib.hid (And.intro (done_tile (u0 := .slice At n c0) (u1 := .int .i64 m) (u2 := .slice Bt n d) (HT.out.1.below hb.b (Nat.le_refl _))) (hb.done HGG.out (x0 := .slice At n c0) (x1 := .int .i64 m) (x2 := .slice Bt n d)))
   clear hb
   go_wp2
   refine bodyPost_ret (p_res2 rfl _ _ w3.heap.size _ _ _ rfl hbs.out.b2.c0 hbs.out.b2.c1 hbs.out.b2.c2) rfl ?_
   exact HP.out ⟨At, n, c0, m, Bt, d⟩ _ (⟨l0, f, M⟩, er) HLX.out HTT.out.1 HTT.out.2
end
end Go.Proofs.YtpnnkhpokangfaaDoor.Ti

/- The document's Drop of a tile: walked. -/
namespace Go.Proofs.YtpnnkhpokangfaaDoor.Ti
open Go.RowKit Pac Va Sc Mi Sp Ro Lex

/-- Another word on which places are taken. -/
theorem HasU.live {cs : List C} {w : World} {X : Nat → Prop} {A B : Option Addr} {n c d m m2 : Nat} {l : List (List Int)} {f : Nat → Bool} {M : List (List V)} (h : HasU cs w X ⟨A, n, c, m, B, d⟩ ⟨l, f, M⟩) (f2 : Nat → Bool) (h2 : m2 = liveN f2) : HasU cs w X ⟨A, n, c, m2, B, d⟩ ⟨l, f2, M⟩ :=
 ⟨h.sp, h.mi, h.on, h.n, h.c, h.d, h2, h.s, h.rm⟩
section
variable {nm : ByteArray} {cs : List C} {A : Option Addr} {mc cp : Nat} {w : World} {X : Nat → Prop} {t : TV} {r : R}
set_option maxRecDepth 20000 in
set_option maxHeartbeats 3200000 in
theorem refDrop_any (s : Int) (hX : ∀ b, w.heap.size ≤ b → X b) (hS : HasSch w A mc cp nm cs) (hT : HasT cs w X t r) (h0 : -9223372036854775808 ≤ s) (h1 : s ≤ 9223372036854775807) :
  Calls Tryd.prog 16 #[.agg #[.string nm, .slice A mc cp], t.v, .int .i64 s] w (TilePost1 cs X (dropR cs r s) w) := by
 have hP := fun (t : TV) (W : World) (x : R × Int) (e : dropR cs r s = x) (h1 : HasT cs W X t x.1) (h2 : Below w.heap.size w W) => (show TilePost1 cs X (dropR cs r s) w (.returned (.tuple #[t.v, .int .i64 x.2])) W from ⟨t, by rw [e], by rw [e]; exact h1, h2⟩)
 have hTi0 := drop_tile (s := s) hS.r hT.ok
 generalize TilePost1 cs X (dropR cs r s) w = post at hP ⊢
 have HP := Lib.hid hP
 clear hP
 obtain ⟨l0, f, M⟩ := r
 obtain ⟨At, n, c0, m, Bt, d⟩ := t
 have hm : m = liveN f := hT.m
 unfold TV.v
 simp only
 have hcs8 : cs.length ≤ 8 := hT.ok.s.n8
 obtain ⟨w1, w2, w3, hw1, hw2, hw3, HG, hb⟩ := Bs.start w mc cp nm A (.slice At n c0) (.int .i64 m) (.slice Bt n d)
 have hgg := HG.out
 have hT' : HasT cs w (fun b => X b ∧ b ≠ w2.heap.size) ⟨At, n, c0, m, Bt, d⟩ ⟨l0, f, M⟩ := hT.old (fun b hb => by omega)
 have hcT := fun (W : World) (h : Below w.heap.size w W) => refTaken_any (w := W) s (hT.below h (Nat.le_refl _)).u h0 h1
 unfold TV.v at hcT
 simp only at hcT
 have HT := Lib.hid (And.intro hT' (And.intro hT.ok hS.n))
 have a0 := hb.b0.c0
 have a1 := hb.b0.c1
 have c0' := hb.b1.c0
 have c1' := hb.b1.c1
 have c2' := hb.b1.c2
 have HGG := Lib.hid hgg
 have HB0 := Lib.hid hb
 cases htk : takenB ⟨l0, f, M⟩ s with
 | false =>
  have HLX : Hid (dropR cs ⟨l0, f, M⟩ s = (⟨l0, f, M⟩, 3)) := Lib.hid (by unfold dropR; rw [if_neg (by rw [htk]; decide)])
  rw [htk] at hcT
  clear htk hT hT' hS hX hm hcs8 h0 h1 hb hgg hTi0
  go_enter Tryd.func16, Tryd.ntmps16
  go_wp2_with fail
  clear hw1 hw2 hw3 a0 a1 c0' c1' c2'
  have hb := HB0.out
  clear HB0
  refine (hcT _ hb.b).mono ?_
  rintro e w4 ⟨rfl, hy⟩
  have hb := hb.below hy
  clear hcT hy
  have c0' := hb.b1.c0
  have c1' := hb.b1.c1
  have c2' := hb.b1.c2
  have q0 := hb.b2.c0
  have q1 := hb.b2.c1
  have q2 := hb.b2.c2
  have qf := hb.b2.f
  have hbs := Lib.hid (hb.put (.slice At n c0) (.int .i64 m) (.slice Bt n d) HGG.out)
  have HTT := Lib.hid (And.intro (done_tile (u0 := .slice At n c0) (u1 := .int .i64 m) (u2 := .slice Bt n d) (HT.out.1.below hb.b (Nat.le_refl _))) (hb.done HGG.out (x0 := .slice At n c0) (x1 := .int .i64 m) (x2 := .slice Bt n d)))
  clear hb
  go_wp2
  refine bodyPost_ret (p_res2 rfl _ _ w2.heap.size _ _ _ rfl hbs.out.b2.c0 hbs.out.b2.c1 hbs.out.b2.c2) rfl ?_
  exact HP.out ⟨At, n, c0, m, Bt, d⟩ _ (⟨l0, f, M⟩, 3) HLX.out HTT.out.1 HTT.out.2
 | true =>
  obtain ⟨s0, s8, hsf⟩ := taken_in htk
  obtain ⟨j, rfl⟩ : ∃ j : Nat, s = (j : Int) := ⟨s.toNat, by omega⟩
  have hj8 : j < 8 := by omega
  rw [Int.toNat_natCast] at hsf
  have hlx : dropR cs ⟨l0, f, M⟩ (j : Int) = (⟨l0, (fun i => if i = j then false else f i), M.set j (List.replicate cs.length vZ)⟩, 0) := by unfold dropR; rw [if_pos htk, Int.toNat_natCast]
  rw [hlx] at hTi0
  have HLX := Lib.hid hlx
  have e7 := live_drop f hj8 hsf
  rw [← hm] at e7
  obtain ⟨m2, hm2⟩ : ∃ m2, liveN (fun i => if i = j then false else f i) = m2 := ⟨_, rfl⟩
  rw [hm2] at e7
  have hnc := hS.n
  have hmc8 : mc ≤ 8 := by omega
  have hkz : ∀ (cn : Nat), cn < mc → ∃ kd, (allK cs)[cn]? = some kd ∧ CellOk (kd, vZ) := fun cn hcn => by
   have hx : (allK cs)[cn]? = some ((allK cs)[cn]'(by rw [allK_len]; omega)) := List.getElem?_eq_getElem _
   exact ⟨_, hx, zero_row hS.r cn _ vZ hx (by rw [List.getElem?_replicate, if_pos (by omega)])⟩
  have HPUT := Lib.hid (fun (W : World) (gO cn : Nat) (u : TV) (M2 : List (List V)) (hcn : cn < mc) (hb : Below w.heap.size w W) (hlt : w2.heap.size < W.heap.size) (hO : gO < W.heap.size) (hU : HasU cs W (fun b => (X b ∧ b ≠ w2.heap.size) ∧ b ≠ gO) u ⟨l0, f, M2⟩) => by
   obtain ⟨kd, h1, h2⟩ := hkz cn hcn
   exact refPut_any (w := W) (X := fun b => (X b ∧ b ≠ w2.heap.size) ∧ b ≠ gO) (fun b hb' => ⟨⟨hX b (by have := hb.size; omega), by omega⟩, by omega⟩) (hS.below hb (Nat.le_refl _)) hU hj8 h1 h2)
  have HTI := Lib.hid hTi0
  have hrow : ∃ x, M[j]? = some x ∧ x.length = mc := by
   obtain ⟨x, h1, h2⟩ := hT.ok.at hj8
   exact ⟨x, h1, h2.trans hnc⟩
  have HROW := Lib.hid hrow
  rw [htk] at hcT
  clear htk hT hT' hS hX hm hcs8 h0 h1 hb hgg hTi0 s0 s8 hsf hlx hkz hrow
  go_enter Tryd.func16, Tryd.ntmps16
  go_wp2_with fail
  clear hw1 hw2 hw3 a0 a1 c0' c1' c2'
  have hb := HB0.out
  clear HB0
  refine (hcT _ hb.b).mono ?_
  rintro e y0 ⟨rfl, hy⟩
  have hb := hb.below hy
  clear hcT hy
  have c0' := hb.b1.c0
  have c1' := hb.b1.c1
  have c2' := hb.b1.c2
  have hz : w2.heap.size < y0.heap.size := hb.b2.lt
  have hal := (Below.refl y0.heap.size y0).alloc (Nat.le_refl _) (.cells #[.slice At n c0, .int .i64 m, .slice Bt n d] 32)
  have hp := Sc.Box3.new y0 (.slice At n c0) (.int .i64 m) (.slice Bt n d) 32
  have hU : HasU cs _ (fun b => (X b ∧ b ≠ w2.heap.size) ∧ b ≠ y0.heap.size) ⟨At, n, c0, m, Bt, d⟩ ⟨l0, f, M⟩ := (((HT.out.1.below hb.b (Nat.le_refl _)).old (Y := fun b => b ≠ y0.heap.size) (fun b hb => by omega)).below hal (Nat.le_refl _)).u
  have hb := hb.below hal
  have HL0 := Lib.hid (And.intro hb (And.intro hp (And.intro hU hz)))
  clear hb hal hp hU hz
  go_wp2
  clear c0' c1' c2'
  obtain ⟨hb, hp, hU, hz⟩ := HL0.out
  clear HL0
  generalize y0.alloc (.cells #[.slice At n c0, .int .i64 m, .slice Bt n d] 32) = y1 at hb hp hU ⊢
  generalize y0.heap.size = gO at hp hU hz ⊢
  go_loopw [9] (fun i wr => ∃ (q : Nat) (u : TV), q ≤ mc ∧ i = .int .i64 q ∧ Bs w w1.heap.size w2.heap.size mc cp nm A (.slice At n c0) (.int .i64 m) (.slice Bt n d) (.slice none 0 0) (.int .i64 0) (.slice none 0 0) wr ∧ Sc.Box3 wr gO (.slice u.A u.n u.c) (.int .i64 u.m) (.slice u.B u.n u.d) ∧ HasU cs wr (fun b => (X b ∧ b ≠ w2.heap.size) ∧ b ≠ gO) u ⟨l0, f, rowM M j (List.replicate mc vZ) q⟩) (fun i _ => mc - (intOf i).toNat)
  case atStart => exact ⟨0, ⟨At, n, c0, m, Bt, d⟩, Nat.zero_le _, rfl, hb, hp, hU⟩
  case round =>
   clear hb hp hU
   obtain ⟨q, u, hq, rfl, hb, hp, hU⟩ := hrel
   by_cases hlt : q < mc
   ·have hcP := HPUT.out wr gO q u _ hlt hb.b hb.b2.lt hp.lt hU
    rw [show setM (R.M ⟨l0, f, rowM M j (List.replicate mc vZ) q⟩) j q vZ = rowM M j (List.replicate mc vZ) (q + 1) from (rowM_next (by rw [List.getElem?_replicate, if_pos hlt])).symm] at hcP
    obtain ⟨uA, un, uc, um, uB, ud⟩ := u
    unfold TV.v at hcP
    simp only [vZ] at hcP hp
    have HR := Lib.hid hcP
    have i1 : (q : Int) < (mc : Int) := by omega
    have a0 := hb.b0.c0
    have a1 := hb.b0.c1
    have u0 := hp.c0
    have u1 := hp.c1
    have u2 := hp.c2
    clear hU hcP
    go_wp2_with fail
    refine HR.out.mono ?_
    rintro e w6 ⟨⟨tA, tn, tc, tm, tB, td⟩, rfl, hU, hy⟩
    have hb := hb.below hy
    have hp := hp.below hy hp.lt
    clear hy HR a0 a1 u0 u1 u2
    have hal := (Below.refl w6.heap.size w6).alloc (Nat.le_refl _) (.cells #[.slice tA tn tc, .int .i64 tm, .slice tB tn td] 32)
    have hU := hU.below hal (Nat.le_refl _)
    have hb := hb.below hal
    have hn := Sc.Box3.new w6 (.slice tA tn tc) (.int .i64 tm) (.slice tB tn td) 32
    have hp := hp.below hal hp.lt
    have r0 := hn.c0
    have r1 := hn.c1
    have r2 := hn.c2
    have q0 := hp.c0
    have q1 := hp.c1
    have q2 := hp.c2
    have qf := hp.f
    have hU2 := hU.bar (put3_bar _ gO (.slice tA tn tc) (.int .i64 tm) (.slice tB tn td)) (fun h => h.2 rfl)
    have hb2 := ((hb.set HGG.out (p := ⟨gO, 0, none⟩) hz (.slice tA tn tc)).set HGG.out (p := ⟨gO, 1, none⟩) hz (.int .i64 tm)).set HGG.out (p := ⟨gO, 2, none⟩) hz (.slice tB tn td)
    have hp2 := ((hp.set0 (.slice tA tn tc)).set1 (.int .i64 tm)).set2 (.slice tB tn td)
    have HN := Lib.hid (And.intro hb2 (And.intro hp2 hU2))
    clear hU hb hn hp hal hU2 hb2 hp2
    unfold TV.v
    simp only
    go_wp2
    go_roundw
    case rel => exact ⟨q + 1, ⟨tA, tn, tc, tm, tB, td⟩, by omega, by go_num, HN.out.1, HN.out.2.1, HN.out.2.2⟩
    case measure => simp [intOf]; omega
   ·obtain rfl : q = mc := by omega
    obtain ⟨x, hx, hxl⟩ := HROW.out
    rw [rowM_all hx hxl (by rw [List.length_replicate])] at hU
    obtain ⟨uA, un, uc, um, uB, ud⟩ := u
    simp only at hp
    have hum : um = m := hU.m.trans HT.out.1.m.symm
    subst hum
    have hTi := HTI.out
    rw [hnc] at hTi
    have hUm : HasU cs wr (fun b => (X b ∧ b ≠ w2.heap.size) ∧ b ≠ gO) ⟨uA, un, uc, m2, uB, ud⟩ ⟨l0, (fun i => if i = j then false else f i), M.set j (List.replicate q vZ)⟩ := hU.live _ hm2.symm
    have hTT := hUm.full (HT.out.1.tab.below hb.b (Nat.le_refl _)) ⟨HT.out.1.x0, by have := HT.out.1.tab.2; have := HGG.out; omega⟩ hTi.z
    have hTT := (hTT.bar ((Bar.refl gO wr).setCell 1 (.int .i64 m2)) (fun h => h.2 rfl)).mono (fun _ h => h.1)
    have hb2 := hb.set HGG.out (p := ⟨gO, 1, none⟩) hz (.int .i64 m2)
    have hp2 := hp.set1 (.int .i64 m2)
    have a1 := hb.b0.c1
    have u1 := hp.c1
    have uf := hp.f
    have r0 := hp2.c0
    have r1 := hp2.c1
    have r2 := hp2.c2
    have q0 := hb2.b2.c0
    have q1 := hb2.b2.c1
    have q2 := hb2.b2.c2
    have qf := hb2.b2.f
    have HTT := Lib.hid (And.intro (done_tile (u0 := .slice uA un uc) (u1 := .int .i64 m2) (u2 := .slice uB un ud) hTT) (And.intro (hb2.done HGG.out (x0 := .slice uA un uc) (x1 := .int .i64 m2) (x2 := .slice uB un ud)) (hb2.put (.slice uA un uc) (.int .i64 m2) (.slice uB un ud) HGG.out)))
    clear hU hUm hTT hb hb2 hp hp2 hTi hx hxl hq hz
    have h8 : j = 0 ∨ j = 1 ∨ j = 2 ∨ j = 3 ∨ j = 4 ∨ j = 5 ∨ j = 6 ∨ j = 7 := by omega
    rcases h8 with rfl | rfl | rfl | rfl | rfl | rfl | rfl | rfl
    all_goals
     first
     | have e8 : bits .andNot .i64 (um : Int) 1 = (m2 : Int) := e7
     | have e8 : bits .andNot .i64 (um : Int) 2 = (m2 : Int) := e7
     | have e8 : bits .andNot .i64 (um : Int) 4 = (m2 : Int) := e7
     | have e8 : bits .andNot .i64 (um : Int) 8 = (m2 : Int) := e7
     | have e8 : bits .andNot .i64 (um : Int) 16 = (m2 : Int) := e7
     | have e8 : bits .andNot .i64 (um : Int) 32 = (m2 : Int) := e7
     | have e8 : bits .andNot .i64 (um : Int) 64 = (m2 : Int) := e7
     | have e8 : bits .andNot .i64 (um : Int) 128 = (m2 : Int) := e7
     go_wp2
     refine bodyPost_ret (p_res2 rfl _ _ w2.heap.size _ _ _ rfl HTT.out.2.2.b2.c0 HTT.out.2.2.b2.c1 HTT.out.2.2.b2.c2) rfl ?_
     rw [hnc] at HLX
     exact HP.out ⟨uA, un, uc, m2, uB, ud⟩ _ _ HLX.out HTT.out.1 HTT.out.2.1

end
end Go.Proofs.YtpnnkhpokangfaaDoor.Ti

/- The document's Add to a tile: walked. -/
namespace Go.Proofs.YtpnnkhpokangfaaDoor.Ti
open Go.RowKit Pac Va Sc Mi Sp Ro Lex

section
variable {nm : ByteArray} {cs : List C} {A : Option Addr} {mc cp : Nat} {w : World} {X : Nat → Prop} {t : TV} {r : R}
set_option maxRecDepth 20000 in
set_option maxHeartbeats 3200000 in
theorem refAdd_any {row : List V} (A2 : Option Addr) (n2 cp2 lo2 : Nat) (hX : ∀ b, w.heap.size ≤ b → X b) (hS : HasSch w A mc cp nm cs) (hT : HasT cs w X t r) (hv : Ro.HasV w lo2 A2 row) (hn : row.length = n2) (hc2 : n2 ≤ cp2) (h9 : n2 ≤ 9223372036854775807) (hok : ∀ v ∈ row, v.Ok) :
  Calls Tryd.prog 14 #[.agg #[.string nm, .slice A mc cp], t.v, .slice A2 n2 cp2] w (TilePost2 cs X (addR cs r row) w) := by
 have hP := fun (t : TV) (W : World) (x : R × Int × Int) (e : addR cs r row = x) (h1 : HasT cs W X t x.1) (h2 : Below w.heap.size w W) => (show TilePost2 cs X (addR cs r row) w (.returned (.tuple #[t.v, .int .i64 x.2.1, .int .i64 x.2.2])) W from ⟨t, by rw [e], by rw [e]; exact h1, h2⟩)
 have hTi0 := add_tile (row := row) hS.r hT.ok hok
 generalize TilePost2 cs X (addR cs r row) w = post at hP ⊢
 have HP := Lib.hid hP
 clear hP
 obtain ⟨l0, f, M⟩ := r
 obtain ⟨At, n, c0, m, Bt, d⟩ := t
 have hm : m = liveN f := hT.m
 unfold TV.v
 simp only
 have hcs8 : cs.length ≤ 8 := hT.ok.s.n8
 obtain ⟨w1, w2, w3, hw1, hw2, hw3, HG, hb⟩ := Bs.start w mc cp nm A (.slice At n c0) (.int .i64 m) (.slice Bt n d)
 have hgg := HG.out
 have hT' : HasT cs w (fun b => X b ∧ b ≠ w2.heap.size) ⟨At, n, c0, m, Bt, d⟩ ⟨l0, f, M⟩ := hT.old (fun b hb => by omega)
 have hcC := fun (W : World) (h : Below w.heap.size w W) => Ro.refCheck_any A A2 cp cp2 nm cs row 0 lo2 W (hS.below h (Nat.le_refl _)).c (hv.below h (Nat.le_refl _)) (by omega) (by omega)
 rw [hS.n, hn] at hcC
 have hcF := fun (W : World) (h : Below w.heap.size w W) => refFree_any (w := W) (hT.below h (Nat.le_refl _)).u
 unfold TV.v at hcF
 simp only at hcF
 have HT := Lib.hid (And.intro hT' (And.intro hT.ok hS.n))
 have a0 := hb.b0.c0
 have a1 := hb.b0.c1
 have HGG := Lib.hid hgg
 have HB0 := Lib.hid hb
 obtain ⟨er, her⟩ : ∃ er, Ro.checkE cs row = er := ⟨_, rfl⟩
 rw [her] at hcC
 by_cases h0 : er = 0
 ·subst h0
  cases hfr : freeO f with
  | none =>
   have hfi : freeI f = -1 := by unfold freeI; rw [hfr]
   rw [hfi] at hcF
   have HLX : Hid (addR cs ⟨l0, f, M⟩ row = (⟨l0, f, M⟩, 0, 9)) := Lib.hid (by unfold addR; rw [if_neg (by rw [her]; decide)]; simp only; rw [hfr])
   clear hfi hfr her hT hT' hS hX hm hcs8 hb hgg hTi0 hv hn hok
   go_enter Tryd.func14, Tryd.ntmps14
   go_wp2_with fail
   clear hw1 hw2 hw3 a0 a1
   have hb := HB0.out
   clear HB0
   refine (hcC _ hb.b).mono ?_
   rintro e w4 ⟨rfl, hy⟩
   have hb := hb.below hy
   clear hcC hy
   have c0' := hb.b1.c0
   have c1' := hb.b1.c1
   have c2' := hb.b1.c2
   go_wp2_with fail
   refine (hcF _ hb.b).mono ?_
   rintro e w5 ⟨rfl, hy⟩
   have hb := hb.below hy
   clear hcF hy c0' c1' c2'
   have c0' := hb.b1.c0
   have c1' := hb.b1.c1
   have c2' := hb.b1.c2
   have q0 := hb.b2.c0
   have q1 := hb.b2.c1
   have q2 := hb.b2.c2
   have qf := hb.b2.f
   have hbs := Lib.hid (hb.put (.slice At n c0) (.int .i64 m) (.slice Bt n d) HGG.out)
   have HTT := Lib.hid (And.intro (done_tile (u0 := .slice At n c0) (u1 := .int .i64 m) (u2 := .slice Bt n d) (HT.out.1.below hb.b (Nat.le_refl _))) (hb.done HGG.out (x0 := .slice At n c0) (x1 := .int .i64 m) (x2 := .slice Bt n d)))
   clear hb
   go_wp2
   refine bodyPost_ret (p_res3 rfl _ _ w2.heap.size _ _ _ rfl hbs.out.b2.c0 hbs.out.b2.c1 hbs.out.b2.c2) rfl ?_
   exact HP.out ⟨At, n, c0, m, Bt, d⟩ _ (⟨l0, f, M⟩, 0, 9) HLX.out HTT.out.1 HTT.out.2
  | some j =>
   obtain ⟨hj8, hsf, _⟩ := free_some hfr
   have hfi : freeI f = (j : Int) := by unfold freeI; rw [hfr]
   rw [hfi] at hcF
   have hlx : addR cs ⟨l0, f, M⟩ row = (⟨l0, (fun i => if i = j then true else f i), M.set j row⟩, (j : Int), 0) := by unfold addR; rw [if_neg (by rw [her]; decide)]; simp only; rw [hfr]
   rw [hlx] at hTi0
   have HLX := Lib.hid hlx
   have e7 := live_or f hj8 hsf
   rw [← hm] at e7
   obtain ⟨m2, hm2⟩ : ∃ m2, liveN (fun i => if i = j then true else f i) = m2 := ⟨_, rfl⟩
   rw [hm2] at e7
   have hnc := hS.n
   have hrl := her
   rw [Ro.check_ok] at hrl
   have hn8 : n2 ≤ 8 := by omega
   have hrl2 := hrl.1
   have hkz : ∀ (cn : Nat) (v : V), row[cn]? = some v → ∃ kd, (allK cs)[cn]? = some kd ∧ CellOk (kd, v) := fun cn v hv' => by
    have hl := (List.getElem?_eq_some_iff.1 hv').1
    have hx : cs[cn]? = some (cs[cn]'(by omega)) := List.getElem?_eq_getElem _
    exact ⟨_, by unfold allK; rw [List.getElem?_map, hx]; rfl, fit_cell hS.r hx (hok v (List.mem_of_getElem? hv')) (hrl.2 cn _ v hx hv')⟩
   have HPUT := Lib.hid (fun (W : World) (cn : Nat) (u : TV) (M2 : List (List V)) (X2 : Nat → Prop) (v : V) (hX2 : ∀ b, W.heap.size ≤ b → X2 b) (hrv : row[cn]? = some v) (hb : Below w.heap.size w W) (hU : HasU cs W X2 u ⟨l0, f, M2⟩) => by
    obtain ⟨kd, h1, h2⟩ := hkz cn v hrv
    exact refPut_any (w := W) (X := X2) hX2 (hS.below hb (Nat.le_refl _)) hU hj8 h1 h2)
   have HX := Lib.hid hX
   have HTI := Lib.hid hTi0
   have hrow : ∃ x, M[j]? = some x ∧ x.length = n2 := by
    obtain ⟨x, h1, h2⟩ := hT.ok.at hj8
    exact ⟨x, h1, by omega⟩
   have HROW := Lib.hid hrow
   have HHV := Lib.hid (And.intro hv hn)
   have k0 : ¬ (j : Int) < 0 := by omega
   clear hfi hfr her hT hT' hS hX hm hcs8 hb hgg hTi0 hsf hlx hrow hkz hok hv hn hrl hrl2
   go_enter Tryd.func14, Tryd.ntmps14
   go_wp2_with fail
   clear hw1 hw2 hw3 a0 a1
   have hb := HB0.out
   clear HB0
   refine (hcC _ hb.b).mono ?_
   rintro e w4 ⟨rfl, hy⟩
   have hb := hb.below hy
   clear hcC hy
   have c0' := hb.b1.c0
   have c1' := hb.b1.c1
   have c2' := hb.b1.c2
   go_wp2_with fail
   refine (hcF _ hb.b).mono ?_
   rintro e y0 ⟨rfl, hy⟩
   have hb := hb.below hy
   clear hcF hy c0' c1' c2'
   have c0' := hb.b1.c0
   have c1' := hb.b1.c1
   have c2' := hb.b1.c2
   have hz : w2.heap.size < y0.heap.size := hb.b2.lt
   have hal := (Below.refl y0.heap.size y0).alloc (Nat.le_refl _) (.cells #[.slice At n c0, .int .i64 m, .slice Bt n d] 32)
   have hp := Sc.Box3.new y0 (.slice At n c0) (.int .i64 m) (.slice Bt n d) 32
   have hU : HasU cs _ (fun b => (X b ∧ b ≠ w2.heap.size) ∧ b ≠ y0.heap.size) ⟨At, n, c0, m, Bt, d⟩ ⟨l0, f, M⟩ := (((HT.out.1.below hb.b (Nat.le_refl _)).old (Y := fun b => b ≠ y0.heap.size) (fun b hb => by omega)).below hal (Nat.le_refl _)).u
   have hb := hb.below hal
   have HL0 := Lib.hid (And.intro hb (And.intro hp (And.intro hU hz)))
   clear hb hal hp hU hz
   go_wp2
   clear c0' c1' c2'
   obtain ⟨hb, hp, hU, hz⟩ := HL0.out
   clear HL0
   generalize y0.alloc (.cells #[.slice At n c0, .int .i64 m, .slice Bt n d] 32) = y1 at hb hp hU ⊢
   generalize y0.heap.size = gO at hp hU hz ⊢
   go_loopw [12] (fun i wr => ∃ (q : Nat) (u : TV), q ≤ n2 ∧ i = .int .i64 q ∧ Bs w w1.heap.size w2.heap.size mc cp nm A (.slice At n c0) (.int .i64 m) (.slice Bt n d) (.slice none 0 0) (.int .i64 0) (.slice none 0 0) wr ∧ Sc.Box3 wr gO (.slice u.A u.n u.c) (.int .i64 u.m) (.slice u.B u.n u.d) ∧ HasU cs wr (fun b => (X b ∧ b ≠ w2.heap.size) ∧ b ≠ gO) u ⟨l0, f, rowM M j row q⟩) (fun i _ => n2 - (intOf i).toNat)
   case atStart => exact ⟨0, ⟨At, n, c0, m, Bt, d⟩, Nat.zero_le _, rfl, hb, hp, hU⟩
   case round =>
    clear hb hp hU
    obtain ⟨q, u, hq, rfl, hb, hp, hU⟩ := hrel
    by_cases hlt : q < n2
    ·have hrv : row[q]? = some (row[q]'(by rw [HHV.out.2]; exact hlt)) := List.getElem?_eq_getElem _
     generalize (row[q]'(by rw [HHV.out.2]; exact hlt)) = v at hrv
     have HNX : Hid (setM (R.M ⟨l0, f, rowM M j row q⟩) j q v = rowM M j row (q + 1)) := Lib.hid (rowM_next hrv).symm
     have HRW := Lib.hid hrv
     obtain ⟨rb, ro, rfl, _, _, p0, p1, p2⟩ := HHV.out.1.at hrv
     obtain ⟨vk, vn, vs⟩ := v
     obtain ⟨uA, un, uc, um, uB, ud⟩ := u
     simp only at hp p0 p1 p2
     have FR := Lib.hid (And.intro p0 (And.intro p1 p2))
     have i1 : (q : Int) < (n2 : Int) := by omega
     have i0 : (0 : Int) ≤ (q : Int) := by omega
     clear hrv p0 p1 p2
     go_wp2_with fail
     refine Lex.region_tree (ops := ugops) ugtree (fun W => W.cell? ⟨w.heap.size, 0, none⟩ = some (.string nm) ∧ W.cell? ⟨w.heap.size, 1, none⟩ = some (.slice A mc cp) ∧ W.cell? ⟨gO, 0, none⟩ = some (.slice uA un uc) ∧ W.cell? ⟨gO, 1, none⟩ = some (.int .i64 um) ∧ W.cell? ⟨gO, 2, none⟩ = some (.slice uB un ud) ∧ W.cell? ⟨rb, ro + q * 3, none⟩ = some (.int .i64 vk) ∧ W.cell? ⟨rb, ro + q * 3 + 1, none⟩ = some (.int .i64 vn) ∧ W.cell? ⟨rb, ro + q * 3 + 2, none⟩ = some (.string vs)) (by kernel_rfl) (by kernel_rfl) ugsel uglex (⟨hb.b0.c0, hb.b0.c1, hp.c0, hp.c1, hp.c2, Ro.cell_below hb.b FR.out.1, Ro.cell_below hb.b FR.out.2.1, Ro.cell_below hb.b FR.out.2.2⟩) ?_
     unfold ugtree
     have hb := hb.below (Below.refl wr.heap.size wr).drew
     have hp := hp.below (Below.refl wr.heap.size wr).drew hp.lt
     have hU := hU.below (Below.refl wr.heap.size wr).drew (Nat.le_refl _)
     generalize wr.drew = wd at hb hp hU ⊢
     refine Lex.tree_take (.agg #[.string nm, .slice A mc cp]) ug0 (Lex.want_none rfl) (by intro Wx hSw; (try dsimp only at hSw); go_simp; (try (first | (with_reducible rfl) | assumption | rfl))) ?_
     simp only [Act.put, List.setIfInBounds_toArray, List.set_cons_zero, List.set_cons_succ]
     refine Lex.tree_take (.agg #[.slice uA un uc, .int .i64 um, .slice uB un ud]) ug1 (Lex.want_none rfl) (by intro Wx hSw; (try dsimp only at hSw); go_simp; (try (first | (with_reducible rfl) | assumption | rfl))) ?_
     simp only [Act.put, List.setIfInBounds_toArray, List.set_cons_zero, List.set_cons_succ]
     refine Lex.tree_take (.int .i64 (j : Int)) ug2 (Lex.want_none rfl) (by intro Wx hSw; (try dsimp only at hSw); go_simp; (try (first | (with_reducible rfl) | assumption | rfl))) ?_
     simp only [Act.put, List.setIfInBounds_toArray, List.set_cons_zero, List.set_cons_succ]
     refine Lex.tree_take (.int .i64 (q : Int)) ug3 (Lex.want_none rfl) (by intro Wx hSw; (try dsimp only at hSw); go_simp; (try (first | (with_reducible rfl) | assumption | rfl))) ?_
     simp only [Act.put, List.setIfInBounds_toArray, List.set_cons_zero, List.set_cons_succ]
     refine Lex.tree_take (.slice (some ⟨rb, ro, none⟩) n2 cp2) ug4 (Lex.want_none rfl) (by intro Wx hSw; (try dsimp only at hSw); go_simp; (try (first | (with_reducible rfl) | assumption | rfl))) ?_
     simp only [Act.put, List.setIfInBounds_toArray, List.set_cons_zero, List.set_cons_succ]
     refine Lex.tree_take (.int .i64 (q : Int)) ug5 (Lex.want_none rfl) (by intro Wx hSw; (try dsimp only at hSw); go_simp; (try (first | (with_reducible rfl) | assumption | rfl))) ?_
     simp only [Act.put, List.setIfInBounds_toArray, List.set_cons_zero, List.set_cons_succ]
     refine Lex.tree_take (.pointer (some ⟨rb, ro + q * 3, none⟩)) ug6 (Lex.want_none rfl) (by intro Wx hSw; (try dsimp only at hSw); go_simp; (try (first | (with_reducible rfl) | assumption | rfl))) ?_
     simp only [Act.put, List.setIfInBounds_toArray, List.set_cons_zero, List.set_cons_succ]
     refine Lex.tree_take (.agg #[.int .i64 vk, .int .i64 vn, .string vs]) ug7 (Lex.want_none rfl) (by intro Wx hSw; (try dsimp only at hSw); go_simp; (try (first | (with_reducible rfl) | assumption | rfl))) ?_
     simp only [Act.put, List.setIfInBounds_toArray, List.set_cons_zero, List.set_cons_succ]
     refine Lex.tree_call ug8 (Lex.want_none rfl) (fun K hK => ?_) ?_
     ·go_simp
      have hcP := HPUT.out wd q ⟨uA, un, uc, um, uB, ud⟩ _ (fun b => (X b ∧ b ≠ w2.heap.size) ∧ b ≠ gO) ⟨vk, vn, vs⟩ (fun b hb' => ⟨⟨HX.out b (Nat.le_trans hb.b.size hb'), by have := hb.b2.lt; omega⟩, by have := hp.lt; omega⟩) HRW.out hb.b hU
      rw [HNX.out] at hcP
      unfold TV.v at hcP
      simp only at hcP
      refine hcP.mono ?_
      rintro e y1 ⟨⟨tA, tn, tc, tm, tB, td⟩, rfl, hU, hy⟩
      clear hcP
      have hb := hb.below hy
      have hp := hp.below hy hp.lt
      clear hy
      unfold TV.v
      simp only
      refine hK.out _ _ _ (fun _ h => h) (⟨hb.b0.c0, hb.b0.c1, hp.c0, hp.c1, hp.c2, Ro.cell_below hb.b FR.out.1, Ro.cell_below hb.b FR.out.2.1, Ro.cell_below hb.b FR.out.2.2⟩) ?_
      clear hK K
      try simp only [Act.put, List.setIfInBounds_toArray, List.set_cons_zero, List.set_cons_succ]
      refine Lex.tree_take (.tuple #[.agg #[.slice tA tn tc, .int .i64 tm, .slice tB tn td], .bool true]) ug9 (Lex.want_none rfl) (by intro Wx hSw; (try dsimp only at hSw); go_simp; (try (first | (with_reducible rfl) | assumption | rfl))) ?_
      simp only [Act.put, List.setIfInBounds_toArray, List.set_cons_zero, List.set_cons_succ]
      refine Lex.tree_take (.agg #[.slice tA tn tc, .int .i64 tm, .slice tB tn td]) ug10 (Lex.want_none rfl) (by intro Wx hSw; (try dsimp only at hSw); go_simp; (try (first | (with_reducible rfl) | assumption | rfl))) ?_
      simp only [Act.put, List.setIfInBounds_toArray, List.set_cons_zero, List.set_cons_succ]
      refine Lex.tree_take (.bool true) ug11 (Lex.want_none rfl) (by intro Wx hSw; (try dsimp only at hSw); go_simp; (try (first | (with_reducible rfl) | assumption | rfl))) ?_
      simp only [Act.put, List.setIfInBounds_toArray, List.set_cons_zero, List.set_cons_succ]
      refine Lex.tree_call ug12 (Lex.want_none rfl) (fun K hK => ?_) Lex.tree_no
      go_simp
      have hal := (Below.refl y1.heap.size y1).alloc (Nat.le_refl _) (.cells #[.slice none 0 0, .int .i64 0, .slice none 0 0] 32)
      have hn := Sc.Box3.new y1 (.slice none 0 0) (.int .i64 0) (.slice none 0 0) 32
      have hgx : gO < y1.heap.size ∧ w2.heap.size < y1.heap.size := ⟨hp.lt, hb.b2.lt⟩
      have hU := (hU.old (Y := fun b => b ≠ y1.heap.size) (fun b hb => by omega)).below hal (Nat.le_refl _)
      have hb := hb.below hal
      have hp := hp.below hal hp.lt
      clear hal
      generalize y1.alloc (.cells #[.slice none 0 0, .int .i64 0, .slice none 0 0] 32) = zA at hn hU hb hp ⊢
      generalize y1.heap.size = gx at hn hU hgx ⊢
      refine hK.out _ _ _ (fun _ h => h) (⟨hb.b0.c0, hb.b0.c1, hp.c0, hp.c1, hp.c2, Ro.cell_below hb.b FR.out.1, Ro.cell_below hb.b FR.out.2.1, Ro.cell_below hb.b FR.out.2.2⟩) ?_
      clear hK K
      try simp only [Act.put, List.setIfInBounds_toArray, List.set_cons_zero, List.set_cons_succ]
      refine Lex.tree_call ug13 (Lex.want_none rfl) (fun K hK => ?_) Lex.tree_no
      have k0 := hn.c0
      have k1 := hn.c1
      have k2 := hn.c2
      have kf := hn.f
      go_simp
      clear k0 k1 k2 kf
      have hU := (hU.bar (put3_bar zA gx (.slice tA tn tc) (.int .i64 tm) (.slice tB tn td)) (fun h => h.2 rfl)).mono (fun _ h => h.1)
      have hb := ((hb.set HGG.out (p := ⟨gx, 0, none⟩) hgx.2 (.slice tA tn tc)).set HGG.out (p := ⟨gx, 1, none⟩) hgx.2 (.int .i64 tm)).set HGG.out (p := ⟨gx, 2, none⟩) hgx.2 (.slice tB tn td)
      have hp := ((hp.setOther (p := ⟨gx, 0, none⟩) (by show gx ≠ gO; omega) (.slice tA tn tc)).setOther (p := ⟨gx, 1, none⟩) (by show gx ≠ gO; omega) (.int .i64 tm)).setOther (p := ⟨gx, 2, none⟩) (by show gx ≠ gO; omega) (.slice tB tn td)
      have hn := ((hn.set0 (.slice tA tn tc)).set1 (.int .i64 tm)).set2 (.slice tB tn td)
      unfold put3 at hU
      generalize ((zA.setCell ⟨gx, 0, none⟩ (.slice tA tn tc)).setCell ⟨gx, 1, none⟩ (.int .i64 tm)).setCell ⟨gx, 2, none⟩ (.slice tB tn td) = zS at hU hb hp hn ⊢
      refine hK.out _ _ _ (fun _ h => h) (⟨hb.b0.c0, hb.b0.c1, hp.c0, hp.c1, hp.c2, Ro.cell_below hb.b FR.out.1, Ro.cell_below hb.b FR.out.2.1, Ro.cell_below hb.b FR.out.2.2⟩) ?_
      clear hK K
      try simp only [Act.put, List.setIfInBounds_toArray, List.set_cons_zero, List.set_cons_succ]
      refine Lex.tree_take (.bool true) ug14 (Lex.want_none rfl) (by intro Wx hSw; (try dsimp only at hSw); go_simp; (try (first | (with_reducible rfl) | assumption | rfl))) ?_
      simp only [Act.put, List.setIfInBounds_toArray, List.set_cons_zero, List.set_cons_succ]
      refine Lex.tree_end ?_
      refine NoPanic.normal ?_
      have r0 := hn.c0
      have r1 := hn.c1
      have r2 := hn.c2
      have q0 := hp.c0
      have q1 := hp.c1
      have q2 := hp.c2
      have qf := hp.f
      have hU2 := hU.bar (put3_bar _ gO (.slice tA tn tc) (.int .i64 tm) (.slice tB tn td)) (fun h => h.2 rfl)
      have hb2 := ((hb.set HGG.out (p := ⟨gO, 0, none⟩) hz (.slice tA tn tc)).set HGG.out (p := ⟨gO, 1, none⟩) hz (.int .i64 tm)).set HGG.out (p := ⟨gO, 2, none⟩) hz (.slice tB tn td)
      have hp2 := ((hp.set0 (.slice tA tn tc)).set1 (.int .i64 tm)).set2 (.slice tB tn td)
      have HN := Lib.hid (And.intro hb2 (And.intro hp2 hU2))
      clear hU hb hn hp hU2 hb2 hp2 hgx
      go_wp2
      go_roundw
      case rel => exact ⟨q + 1, ⟨tA, tn, tc, tm, tB, td⟩, by omega, by go_num, HN.out.1, HN.out.2.1, HN.out.2.2⟩
      case measure => simp [intOf]; omega
     refine Lex.tree_call ug12 (Lex.want_none rfl) (fun K hK => ?_) Lex.tree_no
     go_simp
     have hal := (Below.refl wd.heap.size wd).alloc (Nat.le_refl _) (.cells #[.slice none 0 0, .int .i64 0, .slice none 0 0] 32)
     have hn := Sc.Box3.new wd (.slice none 0 0) (.int .i64 0) (.slice none 0 0) 32
     have hgx : gO < wd.heap.size ∧ w2.heap.size < wd.heap.size := ⟨hp.lt, hb.b2.lt⟩
     have hU := (hU.old (Y := fun b => b ≠ wd.heap.size) (fun b hb => by omega)).below hal (Nat.le_refl _)
     have hb := hb.below hal
     have hp := hp.below hal hp.lt
     clear hal
     generalize wd.alloc (.cells #[.slice none 0 0, .int .i64 0, .slice none 0 0] 32) = zA at hn hU hb hp ⊢
     generalize wd.heap.size = gx at hn hU hgx ⊢
     refine hK.out _ _ _ (fun _ h => h) (⟨hb.b0.c0, hb.b0.c1, hp.c0, hp.c1, hp.c2, Ro.cell_below hb.b FR.out.1, Ro.cell_below hb.b FR.out.2.1, Ro.cell_below hb.b FR.out.2.2⟩) ?_
     clear hK K
     try simp only [Act.put, List.setIfInBounds_toArray, List.set_cons_zero, List.set_cons_succ]
     refine Lex.tree_call ug8 (Lex.want_none rfl) (fun K hK => ?_) Lex.tree_no
     go_simp
     have hcP := HPUT.out zA q ⟨uA, un, uc, um, uB, ud⟩ _ (fun b => (((X b ∧ b ≠ w2.heap.size) ∧ b ≠ gO) ∧ b ≠ gx)) ⟨vk, vn, vs⟩ (fun b hb' => ⟨⟨⟨HX.out b (Nat.le_trans hb.b.size hb'), by have := hb.b2.lt; omega⟩, by have := hp.lt; omega⟩, by have := hn.lt; omega⟩) HRW.out hb.b hU
     rw [HNX.out] at hcP
     unfold TV.v at hcP
     simp only at hcP
     refine hcP.mono ?_
     rintro e y1 ⟨⟨tA, tn, tc, tm, tB, td⟩, rfl, hU, hy⟩
     clear hcP
     have hb := hb.below hy
     have hp := hp.below hy hp.lt
     have hn := hn.below hy hn.lt
     clear hy
     unfold TV.v
     simp only
     refine hK.out _ _ _ (fun _ h => h) (⟨hb.b0.c0, hb.b0.c1, hp.c0, hp.c1, hp.c2, Ro.cell_below hb.b FR.out.1, Ro.cell_below hb.b FR.out.2.1, Ro.cell_below hb.b FR.out.2.2⟩) ?_
     clear hK K
     try simp only [Act.put, List.setIfInBounds_toArray, List.set_cons_zero, List.set_cons_succ]
     refine Lex.tree_take (.tuple #[.agg #[.slice tA tn tc, .int .i64 tm, .slice tB tn td], .bool true]) ug9 (Lex.want_none rfl) (by intro Wx hSw; (try dsimp only at hSw); go_simp; (try (first | (with_reducible rfl) | assumption | rfl))) ?_
     simp only [Act.put, List.setIfInBounds_toArray, List.set_cons_zero, List.set_cons_succ]
     refine Lex.tree_take (.agg #[.slice tA tn tc, .int .i64 tm, .slice tB tn td]) ug10 (Lex.want_none rfl) (by intro Wx hSw; (try dsimp only at hSw); go_simp; (try (first | (with_reducible rfl) | assumption | rfl))) ?_
     simp only [Act.put, List.setIfInBounds_toArray, List.set_cons_zero, List.set_cons_succ]
     refine Lex.tree_take (.bool true) ug11 (Lex.want_none rfl) (by intro Wx hSw; (try dsimp only at hSw); go_simp; (try (first | (with_reducible rfl) | assumption | rfl))) ?_
     simp only [Act.put, List.setIfInBounds_toArray, List.set_cons_zero, List.set_cons_succ]
     refine Lex.tree_call ug13 (Lex.want_none rfl) (fun K hK => ?_) Lex.tree_no
     have k0 := hn.c0
     have k1 := hn.c1
     have k2 := hn.c2
     have kf := hn.f
     go_simp
     clear k0 k1 k2 kf
     have hU := (hU.bar (put3_bar y1 gx (.slice tA tn tc) (.int .i64 tm) (.slice tB tn td)) (fun h => h.2 rfl)).mono (fun _ h => h.1)
     have hb := ((hb.set HGG.out (p := ⟨gx, 0, none⟩) hgx.2 (.slice tA tn tc)).set HGG.out (p := ⟨gx, 1, none⟩) hgx.2 (.int .i64 tm)).set HGG.out (p := ⟨gx, 2, none⟩) hgx.2 (.slice tB tn td)
     have hp := ((hp.setOther (p := ⟨gx, 0, none⟩) (by show gx ≠ gO; omega) (.slice tA tn tc)).setOther (p := ⟨gx, 1, none⟩) (by show gx ≠ gO; omega) (.int .i64 tm)).setOther (p := ⟨gx, 2, none⟩) (by show gx ≠ gO; omega) (.slice tB tn td)
     have hn := ((hn.set0 (.slice tA tn tc)).set1 (.int .i64 tm)).set2 (.slice tB tn td)
     unfold put3 at hU
     generalize ((y1.setCell ⟨gx, 0, none⟩ (.slice tA tn tc)).setCell ⟨gx, 1, none⟩ (.int .i64 tm)).setCell ⟨gx, 2, none⟩ (.slice tB tn td) = zS at hU hb hp hn ⊢
     refine hK.out _ _ _ (fun _ h => h) (⟨hb.b0.c0, hb.b0.c1, hp.c0, hp.c1, hp.c2, Ro.cell_below hb.b FR.out.1, Ro.cell_below hb.b FR.out.2.1, Ro.cell_below hb.b FR.out.2.2⟩) ?_
     clear hK K
     try simp only [Act.put, List.setIfInBounds_toArray, List.set_cons_zero, List.set_cons_succ]
     refine Lex.tree_take (.bool true) ug14 (Lex.want_none rfl) (by intro Wx hSw; (try dsimp only at hSw); go_simp; (try (first | (with_reducible rfl) | assumption | rfl))) ?_
     simp only [Act.put, List.setIfInBounds_toArray, List.set_cons_zero, List.set_cons_succ]
     refine Lex.tree_end ?_
     refine NoPanic.normal ?_
     have r0 := hn.c0
     have r1 := hn.c1
     have r2 := hn.c2
     have q0 := hp.c0
     have q1 := hp.c1
     have q2 := hp.c2
     have qf := hp.f
     have hU2 := hU.bar (put3_bar _ gO (.slice tA tn tc) (.int .i64 tm) (.slice tB tn td)) (fun h => h.2 rfl)
     have hb2 := ((hb.set HGG.out (p := ⟨gO, 0, none⟩) hz (.slice tA tn tc)).set HGG.out (p := ⟨gO, 1, none⟩) hz (.int .i64 tm)).set HGG.out (p := ⟨gO, 2, none⟩) hz (.slice tB tn td)
     have hp2 := ((hp.set0 (.slice tA tn tc)).set1 (.int .i64 tm)).set2 (.slice tB tn td)
     have HN := Lib.hid (And.intro hb2 (And.intro hp2 hU2))
     clear hU hb hn hp hU2 hb2 hp2 hgx
     go_wp2
     go_roundw
     case rel => exact ⟨q + 1, ⟨tA, tn, tc, tm, tB, td⟩, by omega, by go_num, HN.out.1, HN.out.2.1, HN.out.2.2⟩
     case measure => simp [intOf]; omega
    ·obtain rfl : q = n2 := by omega
     obtain ⟨x, hx, hxl⟩ := HROW.out
     rw [rowM_all hx hxl HHV.out.2] at hU
     obtain ⟨uA, un, uc, um, uB, ud⟩ := u
     simp only at hp
     have hum : um = m := hU.m.trans HT.out.1.m.symm
     subst hum
     have hTi := HTI.out
     have hUm : HasU cs wr (fun b => (X b ∧ b ≠ w2.heap.size) ∧ b ≠ gO) ⟨uA, un, uc, m2, uB, ud⟩ ⟨l0, (fun i => if i = j then true else f i), M.set j row⟩ := hU.live _ hm2.symm
     have hTT := hUm.full (HT.out.1.tab.below hb.b (Nat.le_refl _)) ⟨HT.out.1.x0, by have := HT.out.1.tab.2; have := HGG.out; omega⟩ hTi.z
     have hTT := (hTT.bar ((Bar.refl gO wr).setCell 1 (.int .i64 m2)) (fun h => h.2 rfl)).mono (fun _ h => h.1)
     have hb2 := hb.set HGG.out (p := ⟨gO, 1, none⟩) hz (.int .i64 m2)
     have hp2 := hp.set1 (.int .i64 m2)
     have u1 := hp.c1
     have uf := hp.f
     have r0 := hp2.c0
     have r1 := hp2.c1
     have r2 := hp2.c2
     have q0 := hb2.b2.c0
     have q1 := hb2.b2.c1
     have q2 := hb2.b2.c2
     have qf := hb2.b2.f
     have HTT := Lib.hid (And.intro (done_tile (u0 := .slice uA un uc) (u1 := .int .i64 m2) (u2 := .slice uB un ud) hTT) (And.intro (hb2.done HGG.out (x0 := .slice uA un uc) (x1 := .int .i64 m2) (x2 := .slice uB un ud)) (hb2.put (.slice uA un uc) (.int .i64 m2) (.slice uB un ud) HGG.out)))
     clear hU hUm hTT hb hb2 hp hp2 hTi hx hxl hq hz
     have h8 : j = 0 ∨ j = 1 ∨ j = 2 ∨ j = 3 ∨ j = 4 ∨ j = 5 ∨ j = 6 ∨ j = 7 := by omega
     rcases h8 with rfl | rfl | rfl | rfl | rfl | rfl | rfl | rfl
     all_goals
      first
      | have e8 : bits .or .i64 (um : Int) 1 = (m2 : Int) := e7
      | have e8 : bits .or .i64 (um : Int) 2 = (m2 : Int) := e7
      | have e8 : bits .or .i64 (um : Int) 4 = (m2 : Int) := e7
      | have e8 : bits .or .i64 (um : Int) 8 = (m2 : Int) := e7
      | have e8 : bits .or .i64 (um : Int) 16 = (m2 : Int) := e7
      | have e8 : bits .or .i64 (um : Int) 32 = (m2 : Int) := e7
      | have e8 : bits .or .i64 (um : Int) 64 = (m2 : Int) := e7
      | have e8 : bits .or .i64 (um : Int) 128 = (m2 : Int) := e7
      go_wp2
      refine bodyPost_ret (p_res3 rfl _ _ w2.heap.size _ _ _ rfl HTT.out.2.2.b2.c0 HTT.out.2.2.b2.c1 HTT.out.2.2.b2.c2) rfl ?_
      exact HP.out ⟨uA, un, uc, m2, uB, ud⟩ _ _ HLX.out HTT.out.1 HTT.out.2.1
 ·have HLX : Hid (addR cs ⟨l0, f, M⟩ row = (⟨l0, f, M⟩, 0, er)) := Lib.hid (by unfold addR; rw [if_pos (by rw [her]; exact h0), her])
  have h0' : (er != 0) = true := bne_iff_ne.2 h0
  clear her hT hT' hS hX hm hcs8 hb hgg hTi0 hcF hv hn hok
  go_enter Tryd.func14, Tryd.ntmps14
  go_wp2_with fail
  clear hw1 hw2 hw3 a0 a1
  have hb := HB0.out
  clear HB0
  refine (hcC _ hb.b).mono ?_
  rintro e w4 ⟨rfl, hy⟩
  have hb := hb.below hy
  clear hcC hy
  have c0' := hb.b1.c0
  have c1' := hb.b1.c1
  have c2' := hb.b1.c2
  have q0 := hb.b2.c0
  have q1 := hb.b2.c1
  have q2 := hb.b2.c2
  have qf := hb.b2.f
  have hbs := Lib.hid (hb.put (.slice At n c0) (.int .i64 m) (.slice Bt n d) HGG.out)
  have HTT := Lib.hid (And.intro (done_tile (u0 := .slice At n c0) (u1 := .int .i64 m) (u2 := .slice Bt n d) (HT.out.1.below hb.b (Nat.le_refl _))) (hb.done HGG.out (x0 := .slice At n c0) (x1 := .int .i64 m) (x2 := .slice Bt n d)))
  clear hb
  go_wp2
  refine bodyPost_ret (p_res3 rfl _ _ w2.heap.size _ _ _ rfl hbs.out.b2.c0 hbs.out.b2.c1 hbs.out.b2.c2) rfl ?_
  exact HP.out ⟨At, n, c0, m, Bt, d⟩ _ (⟨l0, f, M⟩, 0, er) HLX.out HTT.out.1 HTT.out.2
end
end Go.Proofs.YtpnnkhpokangfaaDoor.Ti

/- The document's empty tile: walked. -/
namespace Go.Proofs.YtpnnkhpokangfaaDoor.Ti
open Go.RowKit Pac Va Sc Mi Sp Ro Lex

/-- What the walk holds: so many groups are printed. -/
structure Ln (w : World) (g1 g2 mc cp : Nat) (nm : ByteArray) (A : Option Addr) (lv : Value) (tx : List ByteArray) (q : Nat) (tv : Value) (W : World) : Prop where
 b0 : Box2 W w.heap.size (.string nm) (.slice A mc cp)
 b1 : Sc.Box3 W g1 (.slice none 0 0) (.int .i64 0) (.slice none 0 0)
 b2 : Sc.Box3 W g2 lv (.int .i64 0) tv
 r2 : W.ownsRow (g2 + 1) 9 1 tv q (Li.cellsL cellsS (tx.take q))
 b : Below w.heap.size w W
 z : g2 < W.heap.size
section
variable {w W W' : World} {g1 g2 mc cp q : Nat} {nm : ByteArray} {A : Option Addr} {lv : Value} {tx : List ByteArray} {tv : Value}
theorem Ln.below (h : Ln w g1 g2 mc cp nm A lv tx q tv W) (hb : Below W.heap.size W W') : Ln w g1 g2 mc cp nm A lv tx q tv W' :=
 ⟨h.b0.below hb h.b0.lt, h.b1.below hb h.b1.lt, h.b2.below hb h.b2.lt, Li.own_below h.r2 hb (Nat.le_refl _), h.b.trans (hb.mono h.b.size), Nat.lt_of_lt_of_le h.z hb.size⟩
theorem Ln.text {y3 : World} {g5 c5 : Nat} {tz : ByteArray} (h : Ln w g1 g2 mc cp nm A lv tx q tv W) (h12 : w.heap.size < g1 ∧ g1 < g2) (hown : y3.ownsRow (g2 + 1) 9 1 (.slice (some ⟨g5, 0, none⟩) (q + 1) c5) (q + 1) (Li.cellsL cellsS (tx.take q) ++ [.string tz])) (hg : W.grownBy y3 tv.ownBlock) (hl : tx[q]? = some tz) :
  Ln w g1 g2 mc cp nm A lv tx (q + 1) (.slice (some ⟨g5, 0, none⟩) (q + 1) c5) (y3.setCell ⟨g2, 2, none⟩ (.slice (some ⟨g5, 0, none⟩) (q + 1) c5)) := by
 have hz := h.z
 have hb := (Below.refl (g2 + 1) W).grown hg hz (fun k hk => (h.r2.lt k hk).1)
 have hv : Li.cellsL cellsS (tx.take q) ++ [.string tz] = Li.cellsL cellsS (tx.take (q + 1)) := by
  rw [List.take_add_one, hl]
  exact (Li.cellsL_snoc ..).symm
 rw [hv] at hown
 refine ⟨Sc.box2_setOther (h.b0.below hb (by omega)) (p := ⟨g2, 2, none⟩) (by show g2 ≠ w.heap.size; omega) _, (h.b1.below hb (by omega)).setOther (p := ⟨g2, 2, none⟩) (by show g2 ≠ g1; omega) _, (h.b2.below hb (by omega)).set2 _, ownsRow_setCell_below hown (a := ⟨g2, 2, none⟩) (Nat.lt_succ_self _) _, ?_, ?_⟩
 ·exact (h.b.trans (hb.mono (by omega))).setCell (p := ⟨g2, 2, none⟩) (by show w.heap.size ≤ g2; omega) _
 ·have := hb.size
  show g2 < (y3.setCell _ _).heap.size
  rw [World.size_setCell]
  omega
end
set_option maxRecDepth 20000 in
set_option maxHeartbeats 6400000 in
theorem refNew_any {nm : ByteArray} {cs : List C} {A : Option Addr} {mc cp : Nat} {w : World} {X : Nat → Prop} {l : List (List Int)} (A2 : Option Addr) (n cp2 : Nat) (ht : Tab w) (hx0 : X 1) (hX : ∀ b, w.heap.size ≤ b → X b) (hS : HasSch w A mc cp nm cs) (hl : HasSp w X A2 l) (hn : l.length = n) (hc : n ≤ cp2) (hs : IsSplit l cs.length) :
  Calls Tryd.prog 11 #[.agg #[.string nm, .slice A mc cp], .slice A2 n cp2] w (TilePost cs X (newR l cs.length) w) := by
 obtain ⟨iS, hiS, hs0, hs1, hs2⟩ := info_parts infoStr
 have hP := fun (t : TV) (W : World) (h1 : HasT cs W X t (newR l cs.length)) (h2 : Below w.heap.size w W) => (show TilePost cs X (newR l cs.length) w (.returned t.v) W from ⟨t, rfl, h1, h2⟩)
 generalize TilePost cs X (newR l cs.length) w = post at hP ⊢
 have HP := Lib.hid hP
 clear hP
 have hcs8 : cs.length ≤ 8 := hs.n8
 have hn8 : n ≤ 8 := by have h1 : l.length ≤ cs.length := hs.few; omega
 obtain ⟨tx, htx⟩ : ∃ tx, minis cs (newR l cs.length) = tx := ⟨_, rfl⟩
 have hmn : tx.length = n := by rw [← htx]; unfold minis newR; rw [List.length_map]; exact hn
 have hTX : ∀ (q : Nat) (gg : List Int), l[q]? = some gg → tx[q]? = some (printM (kindsL cs gg) (emptyM gg.length)) := fun q gg h => by
  have hgi := group_in hs (List.mem_of_getElem? h)
  rw [← htx]
  unfold minis newR
  rw [List.getElem?_map, h]
  show some (printM (kindsL cs gg) (gcells gg (emptyM cs.length))) = _
  rw [gcells_empty hgi.1]
 have HTXX := Lib.hid hTX
 have hcP := fun (W : World) (gg : List Int) (Ag A5 : Option Addr) (gc c5 lo5 : Nat) (hgm : gg ∈ l) (hI : Ro.HasI W 0 Ag gg) (hb : Below w.heap.size w W) (hV : HasVV W lo5 A5 (emptyM gg.length)) => refPrint_any nm A Ag A5 cp gc c5 cs gg (emptyM gg.length) 0 0 lo5 W (hS.below hb (Nat.le_refl _)).c hI hV (by omega) (p_grp hS.r hs hgm).at' (p_grp hS.r hs hgm).g1 (p_grp hS.r hs hgm).g8 (by
  have h1 := gcells_right (newR_tile (nm := nm) hs hS.r).m (p_grp hS.r hs hgm).at'
  have h2 : gcells gg (newR l cs.length).M = emptyM gg.length := gcells_empty (group_in hs hgm).1
  rw [h2] at h1
  exact h1)
 have HCP := Lib.hid hcP
 have HGS := Lib.hid (And.intro hS.n (And.intro (fun gg (h : gg ∈ l) => p_grp hS.r hs h) hn))
 rw [HGS.out.1] at HCP
 have HL := Lib.hid hl.ll
 have HFIN := Lib.hid (fun (W : World) (g1 g2 : Nat) (tv : Value) (h12 : w.heap.size < g1 ∧ g1 < g2) (h : Ln w g1 g2 mc cp nm A (.slice A2 n cp2) tx n tv W) => (show ∃ B2 c2, tv = .slice B2 n c2 ∧ HasT cs W (fun b => X b ∧ b ≠ g1) ⟨A2, n, cp2, 0, B2, c2⟩ (newR l cs.length) from by
  have hr2 := h.r2
  rw [List.take_of_length_le (by omega)] at hr2
  obtain ⟨B2, c2, e2, hc2, hl2⟩ := Li.list_of_own cellsS_len hr2 hmn
  rw [← htx] at hl2
  refine ⟨B2, c2, e2, ⟨(hl.old (Y := fun b => b ≠ g1) (fun b hb => by omega)).below h.b (Nat.le_refl _), hl2.lower (Nat.zero_le _), on_of hl2 (fun b hb _ => ⟨hX b (by omega), by omega⟩), hn, hc, hc2, by show (0 : Nat) = liveN (fun _ => false); decide, newR_tile (nm := nm) hs hS.r, ht.below h.b (Nat.le_refl _), hx0, by have := ht.2; omega⟩⟩))
 clear hcP htx hX ht hx0 hS hl hn hs hmn hTX hc hcs8
 have hb1 := (Below.refl w.heap.size w).alloc (Nat.le_refl _) (.cells #[.string nm, .slice A mc cp] 24)
 have hx0 := Box2.new w (.string nm) (.slice A mc cp) 24
 have hz1' : w.heap.size < (w.alloc (.cells #[.string nm, .slice A mc cp] 24)).heap.size := by simp
 generalize hw1 : w.alloc (.cells #[.string nm, .slice A mc cp] 24) = w1 at hb1 hx0 hz1'
 have hb2 := hb1.alloc hb1.size (.cells #[.slice none 0 0, .int .i64 0, .slice none 0 0] 32)
 have hx1 := Sc.Box3.new w1 (.slice none 0 0) (.int .i64 0) (.slice none 0 0) 32
 have hx0 := hx0.alloc (.cells #[.slice none 0 0, .int .i64 0, .slice none 0 0] 32)
 generalize hw2 : w1.alloc (.cells #[.slice none 0 0, .int .i64 0, .slice none 0 0] 32) = w2 at hb2 hx0 hx1
 have hz2' := hx1.lt
 have hb3 := hb2.alloc hb2.size (.cells #[.slice A2 n cp2, .int .i64 0, .slice none 0 0] 32)
 have hx2 := Sc.Box3.new w2 (.slice A2 n cp2) (.int .i64 0) (.slice none 0 0) 32
 have hx0 := hx0.alloc (.cells #[.slice A2 n cp2, .int .i64 0, .slice none 0 0] 32)
 have hx1 := hx1.alloc (.cells #[.slice A2 n cp2, .int .i64 0, .slice none 0 0] 32)
 have hD0 : Ln w w1.heap.size w2.heap.size mc cp nm A (.slice A2 n cp2) tx 0 (.slice none 0 0) (w2.alloc (.cells #[.slice A2 n cp2, .int .i64 0, .slice none 0 0] 32)) := ⟨hx0, hx1, hx2, World.ownsRow_nil _ _ _ _, hb3, hx2.lt⟩
 have HG12 : Hid (w.heap.size < w1.heap.size ∧ w1.heap.size < w2.heap.size) := Lib.hid ⟨hz1', hz2'⟩
 have HD0 := Lib.hid hD0
 clear hb1 hb2 hb3 hx0 hx1 hx2 hD0 hz1' hz2'
 go_enter Tryd.func11, Tryd.ntmps11
 go_wp2
 clear hw1 hw2
 have hD0 := HD0.out
 clear HD0
 generalize w2.alloc (.cells #[.slice A2 n cp2, .int .i64 0, .slice none 0 0] 32) = wa at hD0 ⊢
 go_loopw [6] (fun i wr => ∃ (q : Nat) (tv : Value), q ≤ n ∧ i = .int .i64 q ∧ Ln w w1.heap.size w2.heap.size mc cp nm A (.slice A2 n cp2) tx q tv wr) (fun i _ => n - (intOf i).toNat)
 case atStart => exact ⟨0, _, Nat.zero_le _, rfl, hD0⟩
 case round =>
  clear hD0
  obtain ⟨q, tv, hq, rfl, hD⟩ := hrel
  by_cases hlt : q < n
  ·have hgl : l[q]? = some (l[q]'(by rw [HGS.out.2.2]; exact hlt)) := List.getElem?_eq_getElem _
   generalize (l[q]'(by rw [HGS.out.2.2]; exact hlt)) = gg at hgl
   have hgm := List.mem_of_getElem? hgl
   have hG := HGS.out.2.1 gg hgm
   have HTX := Lib.hid (HTXX.out q gg hgl)
   obtain ⟨b1, o1, Ag, gc, rfl, _, _, f1w, hIw, _⟩ := HL.out.at hgl
   obtain ⟨p, hp⟩ : ∃ p, gg.length = p := ⟨_, rfl⟩
   have hcP := fun (W : World) (A5 : Option Addr) (c5 lo5 : Nat) (hb : Below w.heap.size w W) (hV : HasVV W lo5 A5 (emptyM gg.length)) => HCP.out W gg Ag A5 gc c5 lo5 hgm (hIw.below hb (Nat.le_refl _)) hb hV
   have hp8 : p ≤ 8 := by have := hG.g8; omega
   rw [hp] at f1w hcP HTX
   have F1 := Lib.hid f1w
   have hcG := fun W : World => refEmpty_any Ag gc p W (by omega)
   generalize printM (kindsL cs gg) (emptyM p) = tz at HTX hcP
   have i1 : (q : Int) < (n : Int) := by omega
   have i0' : (0 : Int) ≤ (q : Int) := by omega
   have hg12 := HG12.out
   clear hG hgm hIw f1w hgl hp
   go_wp2_with fail
   refine Lex.region_last (ops := ueraw) (ops1 := ueops) (calls := uecalls) 16 _ ueord (fun W => W.cell? ⟨w.heap.size, 0, none⟩ = some (.string nm) ∧ W.cell? ⟨w.heap.size, 1, none⟩ = some (.slice A mc cp) ∧ W.cell? ⟨w2.heap.size, 2, none⟩ = some tv ∧ W.cell? ⟨b1, o1 + q, none⟩ = some (.slice Ag p gc)) (by kernel_rfl) ueeq uelast rfl rfl (by kernel_rfl) (by kernel_rfl) (by kernel_rfl) (by kernel_rfl) uesel (by kernel_rfl) (by kernel_rfl) uelex (⟨hD.b0.c0, hD.b0.c1, hD.b2.c2, Ro.cell_below hD.b F1.out⟩) ?_
   unfold ueord
   have hD := hD.below (Below.refl wr.heap.size wr).drew
   generalize wr.drew = wd at hD ⊢
   refine Lex.step_take (.pointer (some ⟨w2.heap.size, 2, none⟩)) ue0 rfl (Lex.want_none rfl) (by intro Wx hSw; (try dsimp only at hSw); go_simp; (try (first | (with_reducible rfl) | assumption | rfl))) ?_
   simp only [Act.put, List.setIfInBounds_toArray, List.set_cons_zero, List.set_cons_succ]
   refine Lex.step_take (tv) ue1 rfl (Lex.want_none rfl) (by intro Wx hSw; (try dsimp only at hSw); go_simp; (try (first | (with_reducible rfl) | assumption | rfl))) ?_
   simp only [Act.put, List.setIfInBounds_toArray, List.set_cons_zero, List.set_cons_succ]
   refine Lex.step_take (.agg #[.string nm, .slice A mc cp]) ue2 rfl (Lex.want_none rfl) (by intro Wx hSw; (try dsimp only at hSw); go_simp; (try (first | (with_reducible rfl) | assumption | rfl))) ?_
   simp only [Act.put, List.setIfInBounds_toArray, List.set_cons_zero, List.set_cons_succ]
   refine Lex.step_take (.slice (some ⟨b1, o1, none⟩) n cp2) ue3 rfl (Lex.want_none rfl) (by intro Wx hSw; (try dsimp only at hSw); go_simp; (try (first | (with_reducible rfl) | assumption | rfl))) ?_
   simp only [Act.put, List.setIfInBounds_toArray, List.set_cons_zero, List.set_cons_succ]
   refine Lex.step_take (.int .i64 (q : Int)) ue4 rfl (Lex.want_none rfl) (by intro Wx hSw; (try dsimp only at hSw); go_simp; (try (first | (with_reducible rfl) | assumption | rfl))) ?_
   simp only [Act.put, List.setIfInBounds_toArray, List.set_cons_zero, List.set_cons_succ]
   refine Lex.step_take (.pointer (some ⟨b1, o1 + q, none⟩)) ue5 rfl (Lex.want_none rfl) (by intro Wx hSw; (try dsimp only at hSw); go_simp; (try (first | (with_reducible rfl) | assumption | rfl))) ?_
   simp only [Act.put, List.setIfInBounds_toArray, List.set_cons_zero, List.set_cons_succ]
   refine Lex.step_take (.slice Ag p gc) ue6 rfl (Lex.want_none rfl) (by intro Wx hSw; (try dsimp only at hSw); go_simp; (try (first | (with_reducible rfl) | assumption | rfl))) ?_
   simp only [Act.put, List.setIfInBounds_toArray, List.set_cons_zero, List.set_cons_succ]
   refine Lex.step_take (.slice (some ⟨b1, o1, none⟩) n cp2) ue7 rfl (Lex.want_none rfl) (by intro Wx hSw; (try dsimp only at hSw); go_simp; (try (first | (with_reducible rfl) | assumption | rfl))) ?_
   simp only [Act.put, List.setIfInBounds_toArray, List.set_cons_zero, List.set_cons_succ]
   refine Lex.step_take (.int .i64 (q : Int)) ue8 rfl (Lex.want_none rfl) (by intro Wx hSw; (try dsimp only at hSw); go_simp; (try (first | (with_reducible rfl) | assumption | rfl))) ?_
   simp only [Act.put, List.setIfInBounds_toArray, List.set_cons_zero, List.set_cons_succ]
   refine Lex.step_take (.pointer (some ⟨b1, o1 + q, none⟩)) ue9 rfl (Lex.want_none rfl) (by intro Wx hSw; (try dsimp only at hSw); go_simp; (try (first | (with_reducible rfl) | assumption | rfl))) ?_
   simp only [Act.put, List.setIfInBounds_toArray, List.set_cons_zero, List.set_cons_succ]
   refine Lex.step_take (.slice Ag p gc) ue10 rfl (Lex.want_none rfl) (by intro Wx hSw; (try dsimp only at hSw); go_simp; (try (first | (with_reducible rfl) | assumption | rfl))) ?_
   simp only [Act.put, List.setIfInBounds_toArray, List.set_cons_zero, List.set_cons_succ]
   refine Lex.step_call ue11 rfl (Lex.want_none rfl) (fun K hK => ?_)
   go_simp
   refine (hcG _).mono ?_
   rintro e y4 ⟨A5, c5, rfl, _, hVV, hy4⟩
   rw [show (emptyM p).length = 8 from by unfold emptyM; rw [List.length_replicate]]
   have hD := hD.below hy4
   clear hcG
   refine hK.out _ _ _ (fun _ h => h) ⟨hD.b0.c0, hD.b0.c1, hD.b2.c2, Ro.cell_below hD.b F1.out⟩ ?_
   clear hK K
   try simp only [Act.put, List.setIfInBounds_toArray, List.set_cons_zero, List.set_cons_succ]
   refine Lex.step_call ue12 rfl (Lex.want_none rfl) (fun K hK => ?_)
   go_simp
   refine (hcP _ A5 c5 _ hD.b hVV).mono ?_
   rintro e y5 ⟨rfl, hy5⟩
   have hD := hD.below hy5
   clear hcP hVV hy5
   refine hK.out _ _ _ (fun _ h => h) ⟨hD.b0.c0, hD.b0.c1, hD.b2.c2, Ro.cell_below hD.b F1.out⟩ ?_
   clear hK K
   try simp only [Act.put, List.setIfInBounds_toArray, List.set_cons_zero, List.set_cons_succ]
   refine Lex.step_call ue13 rfl (Lex.want_none rfl) (fun K hK => ?_)
   go_simp
   have hal := (Below.refl y5.heap.size y5).alloc (Nat.le_refl _) (.cells #[.string tz] 9)
   have hD := hD.below hal
   have hnews := heap_alloc_new y5 (.cells #[.string tz] 9)
   have hsz := Nat.succ_le_of_lt hD.z
   refine hK.out _ _ _ (fun _ h => h) ⟨hD.b0.c0, hD.b0.c1, hD.b2.c2, Ro.cell_below hD.b F1.out⟩ ?_
   clear hK K
   try simp only [Act.put, List.setIfInBounds_toArray, List.set_cons_zero, List.set_cons_succ]
   refine Lex.step_call ue14 rfl (Lex.want_none rfl) (fun K hK => ?_)
   refine wp_append_lies _ (.tmp 16) (.tmp 28) 30 (by rfl) (w2.heap.size + 1) 9 iS _ 1 16 Tryd.underlying30 hiS hs0 hs1 hs2 rfl (by omega) tv q (Li.cellsL cellsS (tx.take q)) (by rfl) hD.r2 ⟨y5.heap.size, 0, none⟩ 1 1 [.string tz] (by rfl) (by rfl) (World.news_of_block hnews) (by simp [Value.oneCell']) (by omega) (by unfold maxLen; omega) (by omega) hsz _ rfl ?_
   intro g6 cap6 y6 hown6 hgrow6 _ hlt6
   have hDD := hD.text hg12 hown6 hgrow6 HTX.out
   have hb6 := (Below.refl (w2.heap.size + 1) _).grown hgrow6 hsz (fun k hk => (hD.r2.lt k hk).1)
   have hx2 := hD.b2.below hb6 (Nat.lt_succ_self _)
   have hx0 := hD.b0.below hb6 (by omega)
   have hF1 := Ro.cell_below (hD.b.trans (hb6.mono (by omega))) F1.out
   clear hD hgrow6 hown6 hnews hb6
   refine hK.out _ _ _ (fun _ h => h) ⟨hx0.c0, hx0.c1, hx2.c2, hF1⟩ ?_
   clear hK K
   try simp only [Act.put, List.setIfInBounds_toArray, List.set_cons_zero, List.set_cons_succ]
   refine Lex.step_take (.pointer (some ⟨w2.heap.size, 2, none⟩)) ue15 rfl (Lex.want_none rfl) (by intro Wx hSw; (try dsimp only at hSw); go_simp; (try (first | (with_reducible rfl) | assumption | rfl))) ?_
   simp only [Act.put, List.setIfInBounds_toArray, List.set_cons_zero, List.set_cons_succ]
   refine Lex.step_take (.bool true) ue16 rfl (Lex.want_none rfl) (by intro Wx hSw; (try dsimp only at hSw); go_simp; (try (first | (with_reducible rfl) | assumption | rfl))) ?_
   simp only [Act.put, List.setIfInBounds_toArray, List.set_cons_zero, List.set_cons_succ]
   have k0 := hx2.c2
   have kf := hx2.f 2
   refine Lex.last_op uelast rfl (fun K hK => ?_)
   go_simp
   refine hK.out _ _ ?_
   clear hK K k0 kf hx2 hx0 hF1
   generalize y6.setCell ⟨w2.heap.size, 2, none⟩ (.slice (some ⟨g6, 0, none⟩) (q + 1) cap6) = ww at hDD ⊢
   clear hg12
   go_wp2
   go_roundw
   case rel => exact ⟨q + 1, _, by omega, by go_num, hDD⟩
   case measure => simp [intOf]; omega
  ·obtain rfl : q = n := by omega
   have hg12 := HG12.out
   obtain ⟨B2, c2, rfl, hT⟩ := HFIN.out wr w1.heap.size w2.heap.size tv hg12 hD
   have k0 := hD.b2.c0
   have k1 := hD.b2.c1
   have k2 := hD.b2.c2
   have r0 := hD.b1.c0
   have r1 := hD.b1.c1
   have r2 := hD.b1.c2
   have rf := hD.b1.f
   have HR := Lib.hid (((hD.b1.set0 (.slice A2 q cp2)).set1 (.int .i64 0)).set2 (.slice B2 q c2))
   have HH := Lib.hid (And.intro (done_tile (u0 := .slice A2 q cp2) (u1 := .int .i64 0) (u2 := .slice B2 q c2) hT) (put3_below hD.b (Nat.le_of_lt hg12.1) (.slice A2 q cp2) (.int .i64 0) (.slice B2 q c2)))
   clear hT hD hg12
   go_wp2
   refine bodyPost_ret (results_tile1 rfl _ _ w1.heap.size _ _ _ rfl HR.out.c0 HR.out.c1 HR.out.c2) rfl ?_
   exact HP.out ⟨A2, q, cp2, 0, B2, c2⟩ _ HH.out.1 HH.out.2
end Go.Proofs.YtpnnkhpokangfaaDoor.Ti

/- The document's Lay of a tile: walked. -/
namespace Go.Proofs.YtpnnkhpokangfaaDoor.Ti
open Go.RowKit Pac Va Sc Mi Sp Ro Lex

def RowPostF (o : Option (List V)) (w : World) (e : Ending) (w' : World) : Prop :=
 ∃ (A : Option Addr) (n cp : Nat), e = .returned (.tuple #[.slice A n cp, .bool o.isSome]) ∧ (o.getD []).length = n ∧ Ro.HasV w' w.heap.size A (o.getD []) ∧ Below w.heap.size w w'
theorem rowPostF_none {w w' : World} (hB : Below w.heap.size w w') : RowPostF (none : Option (List V)) w (.returned (.tuple #[.slice none 0 0, .bool false])) w' := ⟨none, 0, 0, rfl, rfl, Li.HasL.nil _ _ _, hB⟩
theorem rowPostF_some {x : List V} {w w' : World} {sv : Value} {base : Nat} (hbs : w.heap.size ≤ base) (hown : w'.ownsRow base 37 3 sv x.length (Li.cellsL cellsV x)) (hB : Below w.heap.size w w') : RowPostF (some x) w (.returned (.tuple #[sv, .bool true])) w' := by
 obtain ⟨A, c, rfl, _, hl⟩ := Li.list_of_own cellsV_len hown rfl
 exact ⟨A, x.length, c, rfl, rfl, hl.lower hbs, hB⟩
set_option maxRecDepth 20000 in
set_option maxHeartbeats 3200000 in
theorem refRowF_any {nm : ByteArray} {cs : List C} {A : Option Addr} {mc cp : Nat} {w : World} {X : Nat → Prop} {t : TV} {r : R} (s : Int) (hS : HasSch w A mc cp nm cs) (hT : HasU cs w X t r) (h0 : -9223372036854775808 ≤ s) (h1 : s ≤ 9223372036854775807) :
  Calls Tryd.prog 21 #[.agg #[.string nm, .slice A mc cp], t.v, .int .i64 s] w (RowPostF (rowR r s) w) := by
 obtain ⟨iV, hiV, hv0, hv1, hv2⟩ := info_parts infoV
 have hb1 := (Below.refl w.heap.size w).alloc (Nat.le_refl _) (.cells #[.string nm, .slice A mc cp] 24)
 have hx0 := Box2.new w (.string nm) (.slice A mc cp) 24
 have hb2 := hb1.alloc hb1.size (.cells #[.slice t.A t.n t.c, .int .i64 t.m, .slice t.B t.n t.d] 32)
 have hx1 := Sc.Box3.new (w.alloc (.cells #[.string nm, .slice A mc cp] 24)) (.slice t.A t.n t.c) (.int .i64 t.m) (.slice t.B t.n t.d) 32
 have hx0 := hx0.alloc (.cells #[.slice t.A t.n t.c, .int .i64 t.m, .slice t.B t.n t.d] 32)
 rw [show (w.alloc (.cells #[.string nm, .slice A mc cp] 24)).heap.size = w.heap.size + 1 by simp] at hx1
 have hS0 := hS.below hb2 (Nat.le_refl _)
 have hT0 := hT.below hb2 (Nat.le_refl _)
 have HN := Lib.hid (fun (W : World) (h : rowR r s = none) => (show Below w.heap.size w W → RowPostF (rowR r s) w (.returned (.tuple #[.slice none 0 0, .bool false])) W from by rw [h]; exact rowPostF_none))
 have HP := Lib.hid (fun (x : List V) (sv : Value) (base : Nat) (W : World) (h : rowR r s = some x) (hbs : w.heap.size ≤ base) => (show W.ownsRow base 37 3 sv x.length (Li.cellsL cellsV x) → Below w.heap.size w W → RowPostF (rowR r s) w (.returned (.tuple #[sv, .bool true])) W from by rw [h]; exact rowPostF_some hbs))
 generalize RowPostF (rowR r s) w = post at HP HN ⊢
 have hcC := fun (W : World) (hS : HasSch W A mc cp nm cs) (h : HasU cs W X t r) (c : Int) h2 h3 => refCell_any (w := W) (t := t) s c hS h h0 h1 h2 h3
 have hn8 := hT.s.n8
 have hn1 := hT.s.n1
 rw [hS.n] at hn8 hn1
 obtain ⟨tA, n, c0, m, tB, d0⟩ := t
 unfold TV.v at hcC ⊢
 simp only at hcC hx0 hx1 hb2 hS0 hT0 ⊢
 have HT := Lib.hid hT0
 have HS := Lib.hid hS0
 clear hT hS hT0 hS0 hb1
 go_enter Tryd.func21, Tryd.ntmps21
 go_wp2
 generalize (w.alloc (.cells #[.string nm, .slice A mc cp] 24)).alloc (.cells #[.slice tA n c0, .int .i64 m, .slice tB n d0] 32) = w3 at hx0 hx1 hb2 HT HS ⊢
 cases htk : takenB r s with
 | false =>
  have HR : Hid (rowR r s = none) := Lib.hid (by unfold rowR; rw [if_neg (by rw [htk]; decide)])
  have hc := hcC w3 HS.out HT.out 0 (by decide) (by decide)
  have hcn : cellR cs r s 0 = none := by unfold cellR; rw [if_neg (fun h => by rw [htk] at h; cases h.1)]
  rw [hcn] at hc
  clear htk hcn
  go_loopw [8, 9] (fun x i wr => x = .slice none 0 0 ∧ i = .int .i64 0 ∧ w3 = wr) (fun _ _ _ => 0)
  case atStart => exact ⟨rfl, rfl, rfl⟩
  case round =>
   obtain ⟨rfl, rfl, rfl⟩ := hrel
   have x01 := hx0.c1
   have x00 := hx0.c0
   have x10 := hx1.c0
   have x11 := hx1.c1
   have x12 := hx1.c2
   have i1 : (0 : Int) < (mc : Int) := by omega
   go_wp2_with fail
   refine hc.mono ?_
   rintro e w4 ⟨rfl, hw4⟩
   have HB := Lib.hid (HN.out (w4.alloc (.cells #[.int .i64 0, .int .i64 0, .string ⟨#[]⟩] 37)) HR.out ((hb2.trans (hw4.mono hb2.size)).alloc (Nat.le_trans hb2.size hw4.size) _))
   clear hc hw4 x01 x00 x10 x11 x12
   go_wp2
   exact HB.out
 | true =>
  obtain ⟨s0, s8, hsf⟩ := taken_in htk
  obtain ⟨j, rfl⟩ : ∃ j : Nat, s = (j : Int) := ⟨s.toNat, by omega⟩
  obtain ⟨xr, hxr⟩ : ∃ xr, r.M[j]? = some xr := ⟨_, List.getElem?_eq_getElem (by rw [HT.out.rm.len]; omega)⟩
  have hxl : xr.length = cs.length := by rw [HT.out.rm.row xr (List.mem_of_getElem? hxr), allK_len]
  rw [HS.out.n] at hxl
  have HR : Hid (rowR r (j : Int) = some xr) := Lib.hid (by unfold rowR; rw [if_pos htk, Int.toNat_natCast]; exact hxr)
  have HC : Hid (∀ (q : Nat) (v : V), xr[q]? = some v → cellR cs r (j : Int) (q : Int) = some v) := Lib.hid (fun q v hq => by
   have hql := (List.getElem?_eq_some_iff.1 hq).1
   have hcl := HS.out.n
   unfold cellR
   rw [if_pos ⟨htk, by omega, by omega⟩, Int.toNat_natCast, Int.toNat_natCast, hxr, Option.getD_some, hq]
   rfl)
  have HXL := Lib.hid hxl
  clear htk hsf hxr hxl
  go_loopw [8, 9] (fun x i wr => ∃ (q : Nat) (sv : Value), q ≤ mc ∧ i = .int .i64 q ∧ x = sv ∧ wr.ownsRow w3.heap.size 37 3 sv q (Li.cellsL cellsV (xr.take q)) ∧ Below w3.heap.size w3 wr) (fun _ i _ => mc - (intOf i).toNat)
  case atStart => exact ⟨0, _, Nat.zero_le _, rfl, rfl, by simpa [Li.cellsL] using World.ownsRow_nil _ _ _ _, Below.refl _ _⟩
  case round =>
   obtain ⟨q, sv, hq, rfl, rfl, hown, hB⟩ := hrel
   have hx0q := hx0.below hB hx0.lt
   have hx1q := hx1.below hB hx1.lt
   have x01 := hx0q.c1
   have x00 := hx0q.c0
   have x10 := hx1q.c0
   have x11 := hx1q.c1
   have x12 := hx1q.c2
   by_cases hlt : q < mc
   ·have i1 : (q : Int) < (mc : Int) := by omega
    have hxq : xr[q]? = some (xr[q]'(by rw [HXL.out]; exact hlt)) := List.getElem?_eq_getElem _
    generalize (xr[q]'(by rw [HXL.out]; exact hlt)) = v at hxq
    have hc := hcC wr (HS.out.below hB (Nat.le_refl _)) (HT.out.below hB (Nat.le_refl _)) (q : Int) (by omega) (by omega)
    rw [HC.out q v hxq] at hc
    have HTK : Hid (xr.take (q + 1) = xr.take q ++ [v]) := Lib.hid (by rw [List.take_add_one, hxq]; rfl)
    obtain ⟨vk, vn, vs⟩ := v
    clear hxq
    go_wp2_with fail
    refine hc.mono ?_
    rintro e w4 ⟨rfl, hw4⟩
    have hB4 := hB.trans (hw4.mono hB.size)
    have hown4 := Li.own_below hown hw4 (Nat.le_refl _)
    have HW := Lib.hid (And.intro ((hown4.alloc (.cells #[.int .i64 vk, .int .i64 vn, .string vs] 37)).alloc (.cells #[.int .i64 vk, .int .i64 vn, .string vs] 37)) (And.intro ((hB4.alloc hB4.size (.cells #[.int .i64 vk, .int .i64 vn, .string vs] 37)).alloc (Nat.le_trans hB4.size (by simp)) (.cells #[.int .i64 vk, .int .i64 vn, .string vs] 37)) (heap_alloc_new (w4.alloc (.cells #[.int .i64 vk, .int .i64 vn, .string vs] 37)) (.cells #[.int .i64 vk, .int .i64 vn, .string vs] 37))))
    clear hc hw4 hown hown4 hB hB4 x01 x00 x10 x11 x12 hx0q hx1q
    go_wp2_with (at_builtin; go_must (refine wpList_append_own _ rfl _ _ 35 rfl w3.heap.size 37 iV (.agg #[.int .i64 0, .int .i64 0, .string ⟨#[]⟩]) 3 32 Tryd.underlying35 hiV hv0 hv1 hv2 rfl (by decide) u8 q (Li.cellsL cellsV (xr.take q)) rfl HW.out.1 ⟨(w4.alloc (.cells #[.int .i64 vk, .int .i64 vn, .string vs] 37)).heap.size, 0, none⟩ 1 1 [.int .i64 vk, .int .i64 vn, .string vs] (by go_simp) rfl (World.news_of_block HW.out.2.2) (by simp [Value.oneCell']) (by unfold maxLen; omega) (by omega) HW.out.2.1.size ?_))
    intro v5 y5 hown5 hgrow5 _
    obtain ⟨hownW, hbW, hnW⟩ := HW.out
    have hB5 := hbW.grown hgrow5 hbW.size (fun k hk => (hownW.lt k hk).1)
    clear hownW hbW hnW hgrow5 HW
    go_wp2
    go_roundw
    case rel =>
     refine ⟨q + 1, _, by omega, by go_num, rfl, ?_, hB5⟩
     rw [HTK.out, Li.cellsL_snoc]
     exact hown5
    case measure => simp [intOf]; omega
   ·obtain rfl : q = mc := by omega
    rw [List.take_of_length_le (by rw [HXL.out]; exact Nat.le_refl _)] at hown
    have HE := Lib.hid (HP.out xr _ w3.heap.size wr HR.out hb2.size (by rw [HXL.out]; exact hown) (hb2.trans (hB.mono hb2.size)))
    clear hown
    go_wp2
    exact HE.out

/-- The rows that are taken, laid anew, up to a place. -/
def layM (f : Nat → Bool) (M : List (List V)) (K : Nat) : Nat → List (List V)
 | 0 => emptyM K
 | q + 1 => if f q = true then (layM f M K q).set q ((M[q]?).getD []) else layM f M K q
theorem layM_len (f : Nat → Bool) (M : List (List V)) (K : Nat) : ∀ q, (layM f M K q).length = 8
 | 0 => by unfold layM emptyM; rw [List.length_replicate]
 | q + 1 => by
  unfold layM
  split
  ·rw [List.length_set]; exact layM_len f M K q
  ·exact layM_len f M K q
theorem layM_at {f : Nat → Bool} {M : List (List V)} {K : Nat} : ∀ (q i : Nat), i < 8 → (layM f M K q)[i]? = if i < q ∧ f i = true then some ((M[i]?).getD []) else some (List.replicate K vZ)
 | 0, i, hi => by
  rw [if_neg (fun h => absurd h.1 (Nat.not_lt_zero _))]
  unfold layM emptyM
  rw [List.getElem?_replicate, if_pos hi]
 | q + 1, i, hi => by
  have ih := layM_at (f := f) (M := M) (K := K) q i hi
  unfold layM
  by_cases hf : f q = true
  ·rw [if_pos hf]
   by_cases e : i = q
   ·subst e
    rw [List.getElem?_set_self (by rw [layM_len]; exact hi), if_pos ⟨by omega, hf⟩]
   ·rw [List.getElem?_set_ne (Ne.symm e), ih]
    by_cases h1 : i < q ∧ f i = true
    ·rw [if_pos h1, if_pos ⟨by omega, h1.2⟩]
    ·rw [if_neg h1, if_neg (fun h => h1 ⟨by omega, h.2⟩)]
  ·rw [if_neg hf, ih]
   by_cases h1 : i < q ∧ f i = true
   ·rw [if_pos h1, if_pos ⟨by omega, h1.2⟩]
   ·rw [if_neg h1, if_neg (fun h => h1 ⟨by
     by_cases e : i = q
     ·subst e
      exact absurd h.2 hf
     ·omega, h.2⟩)]
theorem layM_all {cs : List C} {r : R} (h : Tile cs r) : layM r.f r.M cs.length 8 = r.M := by
 apply List.ext_getElem?
 intro i
 by_cases hi : i < 8
 ·rw [layM_at 8 i hi]
  obtain ⟨x, hx, _⟩ := h.at hi
  by_cases hf : r.f i = true
  ·rw [if_pos ⟨hi, hf⟩, hx]
   rfl
  ·rw [if_neg (fun h => hf h.2), hx, h.z i x hi (by simpa using hf) hx]
 ·rw [List.getElem?_eq_none (by rw [layM_len]; omega), List.getElem?_eq_none (by rw [h.m.len]; omega)]
theorem cell_ok {cs : List C} {M : List (List V)} (h : RightM (allK cs) M) {q c : Nat} {x : List V} {v : V} (hx : M[q]? = some x) (hv : x[c]? = some v) : ∃ kd, (allK cs)[c]? = some kd ∧ CellOk (kd, v) := by
 have hl := h.row x (List.mem_of_getElem? hx)
 have hc := (List.getElem?_eq_some_iff.1 hv).1
 have hk : (allK cs)[c]? = some ((allK cs)[c]'(by omega)) := List.getElem?_eq_getElem _
 exact ⟨_, hk, h.ok _ (List.mem_of_getElem? (flat_at h.row hx hv hk))⟩
section
variable {nm : ByteArray} {cs : List C} {A : Option Addr} {mc cp : Nat} {w : World} {X : Nat → Prop} {t : TV} {r : R}
set_option maxRecDepth 20000 in
set_option maxHeartbeats 6400000 in
theorem refLay_any {l : List (List Int)} (A2 : Option Addr) (n2 cp2 : Nat) (hX : ∀ b, w.heap.size ≤ b → X b) (hS : HasSch w A mc cp nm cs) (hT : HasT cs w X t r) (hl : HasSp w X A2 l) (hn : l.length = n2) (hc : n2 ≤ cp2) (h9 : n2 ≤ 9223372036854775807) (hg : ∀ g ∈ l, g.length ≤ 9223372036854775807) :
  Calls Tryd.prog 17 #[.agg #[.string nm, .slice A mc cp], t.v, .slice A2 n2 cp2] w (TilePostB cs X (layR cs r l) w) := by
 have hP := fun (t : TV) (W : World) (x : R × Bool) (e : layR cs r l = x) (h1 : HasT cs W X t x.1) (h2 : Below w.heap.size w W) => (show TilePostB cs X (layR cs r l) w (.returned (.tuple #[t.v, .bool x.2])) W from ⟨t, by rw [e], by rw [e]; exact h1, h2⟩)
 generalize TilePostB cs X (layR cs r l) w = post at hP ⊢
 have HP := Lib.hid hP
 clear hP
 have hlay : (rightSp l (cs.length : Int) = true → layR cs r l = (⟨l, r.f, r.M⟩, true)) ∧ (rightSp l (cs.length : Int) = false → layR cs r l = (r, false)) := by
  unfold layR
  refine ⟨fun h => by rw [if_pos h], fun h => by rw [if_neg (by rw [h]; decide)]⟩
 have HLA := Lib.hid hlay
 clear hlay
 obtain ⟨l0, f, M⟩ := r
 obtain ⟨At, n, c0, m, Bt, d⟩ := t
 have hm : m = liveN f := hT.m
 unfold TV.v
 simp only
 have hcs8 : cs.length ≤ 8 := hT.ok.s.n8
 obtain ⟨w1, w2, w3, hw1, hw2, hw3, HG, hb⟩ := Bs.start w mc cp nm A (.slice At n c0) (.int .i64 m) (.slice Bt n d)
 have hgg := HG.out
 have hT' : HasT cs w (fun b => X b ∧ b ≠ w2.heap.size) ⟨At, n, c0, m, Bt, d⟩ ⟨l0, f, M⟩ := hT.old (fun b hb => by omega)
 have hcX := fun (W : World) (hb : Below w.heap.size w W) => Sp.refRight_any A2 cp2 l (mc : Int) 0 W (hl.ll.below hb (Nat.le_refl _)) (by omega) hg (by omega) (by have := hS.n; omega)
 rw [hn] at hcX
 have HT := Lib.hid (And.intro hT' (And.intro hT.ok hS.n))
 have a0 := hb.b0.c0
 have a1 := hb.b0.c1
 have HGG := Lib.hid hgg
 have HB0 := Lib.hid hb
 cases hrt : rightSp l (mc : Int) with
 | false =>
  have HLX := Lib.hid (HLA.out.2 (by rw [HT.out.2.2]; exact hrt))
  rw [hrt] at hcX
  clear hrt hT hT' hS hl hX hm hcs8 hg hb hgg
  go_enter Tryd.func17, Tryd.ntmps17
  go_wp2_with fail
  clear hw1 hw2 hw3 a0 a1
  have hb := HB0.out
  clear HB0
  refine (hcX _ hb.b).mono ?_
  rintro e w5 ⟨rfl, hy⟩
  have hb := hb.below hy
  clear hcX hy
  have c0' := hb.b1.c0
  have c1' := hb.b1.c1
  have c2' := hb.b1.c2
  have q0 := hb.b2.c0
  have q1 := hb.b2.c1
  have q2 := hb.b2.c2
  have qf := hb.b2.f
  have hbs := Lib.hid (hb.put (.slice At n c0) (.int .i64 m) (.slice Bt n d) HGG.out)
  have HTT := Lib.hid (And.intro (done_tile (u0 := .slice At n c0) (u1 := .int .i64 m) (u2 := .slice Bt n d) (HT.out.1.below hb.b (Nat.le_refl _))) (hb.done HGG.out (x0 := .slice At n c0) (x1 := .int .i64 m) (x2 := .slice Bt n d)))
  clear hb
  go_wp2
  refine bodyPost_ret (p_res2 rfl _ _ w2.heap.size _ _ _ rfl hbs.out.b2.c0 hbs.out.b2.c1 hbs.out.b2.c2) rfl ?_
  exact HP.out ⟨At, n, c0, m, Bt, d⟩ _ (⟨l0, f, M⟩, false) HLX.out HTT.out.1 HTT.out.2
 | true =>
  have HLX := Lib.hid (HLA.out.1 (by rw [HT.out.2.2]; exact hrt))
  have hisp : IsSplit l cs.length := right_split (by rw [HT.out.2.2]; exact hrt)
  have hTi : Tile cs ⟨l, f, M⟩ := ⟨hisp, HT.out.2.1.m, HT.out.2.1.z⟩
  have hLM := layM_all hTi
  simp only at hLM
  rw [hS.n] at hLM
  have HLM := Lib.hid hLM
  have HTI := Lib.hid hTi
  have HX := Lib.hid hX
  rw [hrt] at hcX
  have hcN := fun (W : World) (hb : Below w.heap.size w W) (hlt : w2.heap.size < W.heap.size) => refNew_any (w := W) (X := fun b => X b ∧ b ≠ w2.heap.size) A2 n2 cp2 (hT'.tab.below hb (Nat.le_refl _)) hT'.x0 (fun b hb' => ⟨hX b (by have := hb.size; omega), by omega⟩) (hS.below hb (Nat.le_refl _)) ((hl.old (Y := fun b => b ≠ w2.heap.size) (fun b hb => by omega)).below hb (Nat.le_refl _)) hn hc hisp
  rw [hS.n] at hcN
  have HTK := Lib.hid (fun (W : World) (i : Nat) (hi : i < 8) (h : Below w.heap.size w W) => (show Calls Tryd.prog 26 #[.agg #[.slice At n c0, .int .i64 m, .slice Bt n d], .int .i64 (i : Int)] W fun e w' => e = .returned (.bool (f i)) ∧ Below W.heap.size W w' from by
   have h1 := refTaken_any (w := W) (i : Int) (hT.below h (Nat.le_refl _)).u (by omega) (by omega)
   have h2 : takenB ⟨l0, f, M⟩ (i : Int) = f i := by
    unfold takenB
    rw [decide_eq_true (by omega), decide_eq_true (by omega), Int.toNat_natCast]
    rfl
   rw [h2] at h1
   exact h1))
  have HRO := Lib.hid (fun (W : World) (i : Nat) (x : List V) (hi : i < 8) (hf : f i = true) (hx : M[i]? = some x) (h : Below w.heap.size w W) => (show Calls Tryd.prog 21 #[.agg #[.string nm, .slice A mc cp], .agg #[.slice At n c0, .int .i64 m, .slice Bt n d], .int .i64 (i : Int)] W (RowPostF (some x) W) from by
   have h1 := refRowF_any (w := W) (i : Int) (hS.below h (Nat.le_refl _)) (hT.below h (Nat.le_refl _)).u (by omega) (by omega)
   have h2 : takenB ⟨l0, f, M⟩ (i : Int) = true := by
    unfold takenB
    rw [decide_eq_true (by omega), decide_eq_true (by omega), Int.toNat_natCast]
    exact hf
   have h3 : rowR ⟨l0, f, M⟩ (i : Int) = some x := by
    unfold rowR
    rw [if_pos h2, Int.toNat_natCast]
    exact hx
   rw [h3] at h1
   exact h1))
  have HPUT := Lib.hid (fun (W : World) (q cn : Nat) (u : TV) (M2 : List (List V)) (X2 : Nat → Prop) (v : V) (x : List V) (hX2 : ∀ b, W.heap.size ≤ b → X2 b) (hq : q < 8) (hx : M[q]? = some x) (hrv : x[cn]? = some v) (hb : Below w.heap.size w W) (hU : HasU cs W X2 u ⟨l, fun _ => false, M2⟩) => by
   obtain ⟨kd, h1, h2⟩ := cell_ok hTi.m hx hrv
   exact refPut_any (w := W) (X := X2) hX2 (hS.below hb (Nat.le_refl _)) hU hq h1 h2)
  have HML := Lib.hid (And.intro (show M.length = 8 from hTi.m.len) (fun (i : Nat) (x : List V) (hx : M[i]? = some x) => (hTi.row hx).trans hS.n))
  have hmc8 : mc ≤ 8 := by have := hS.n; omega
  clear hrt hT hT' hS hl hX hm hcs8 hg hb hgg hisp hTi hLM
  go_enter Tryd.func17, Tryd.ntmps17
  go_wp2_with fail
  clear hw1 hw2 hw3 a0 a1
  have hb := HB0.out
  clear HB0
  refine (hcX _ hb.b).mono ?_
  rintro e w5 ⟨rfl, hy⟩
  have hb := hb.below hy
  clear hcX hy
  have a0 := hb.b0.c0
  have a1 := hb.b0.c1
  go_wp2_with fail
  refine (hcN _ hb.b hb.b2.lt).mono ?_
  rintro e w6 ⟨⟨tA, tn, tc, tm, tB, td⟩, rfl, hT2, hy⟩
  have hb := hb.below hy
  clear hcN hy a0 a1
  unfold TV.v
  simp only
  have hz : w2.heap.size < w6.heap.size := hb.b2.lt
  have hal := (Below.refl w6.heap.size w6).alloc (Nat.le_refl _) (.cells #[.slice tA tn tc, .int .i64 tm, .slice tB tn td] 32)
  have hp := Sc.Box3.new w6 (.slice tA tn tc) (.int .i64 tm) (.slice tB tn td) 32
  have hU : HasU cs _ (fun b => (X b ∧ b ≠ w2.heap.size) ∧ b ≠ w6.heap.size) ⟨tA, tn, tc, tm, tB, td⟩ ⟨l, (fun _ => false), layM f M mc 0⟩ := ((hT2.old (Y := fun b => b ≠ w6.heap.size) (fun b hb => by omega)).below hal (Nat.le_refl _)).u
  have hb := hb.below hal
  have HL0 := Lib.hid (And.intro hb (And.intro hp (And.intro hU hz)))
  clear hb hal hp hU hz hT2
  go_wp2
  obtain ⟨hb, hp, hU, hz⟩ := HL0.out
  clear HL0
  generalize w6.alloc (.cells #[.slice tA tn tc, .int .i64 tm, .slice tB tn td] 32) = y1 at hb hp hU ⊢
  generalize w6.heap.size = gO at hp hU hz ⊢
  go_loopw [9] (fun i wr => ∃ (q : Nat) (u : TV), q ≤ 8 ∧ i = .int .i64 q ∧ Bs w w1.heap.size w2.heap.size mc cp nm A (.slice At n c0) (.int .i64 m) (.slice Bt n d) (.slice none 0 0) (.int .i64 0) (.slice none 0 0) wr ∧ Sc.Box3 wr gO (.slice u.A u.n u.c) (.int .i64 u.m) (.slice u.B u.n u.d) ∧ HasU cs wr (fun b => (X b ∧ b ≠ w2.heap.size) ∧ b ≠ gO) u ⟨l, (fun _ => false), layM f M mc q⟩) (fun i _ => 8 - (intOf i).toNat)
  case atStart => exact ⟨0, ⟨tA, tn, tc, tm, tB, td⟩, Nat.zero_le _, rfl, hb, hp, hU⟩
  case round =>
   clear hb hp hU
   obtain ⟨q, u, hq, rfl, hb, hp, hU⟩ := hrel
   by_cases hq8 : q < 8
   ·have hcT := HTK.out wr q hq8 hb.b
    have i1 : (q : Int) < 8 := by omega
    have c0' := hb.b1.c0
    have c1' := hb.b1.c1
    have c2' := hb.b1.c2
    cases hf : f q with
    | false =>
     rw [hf] at hcT
     have HLQ : Hid (layM f M mc (q + 1) = layM f M mc q) := Lib.hid (by
      show (if f q = true then _ else _) = _
      rw [if_neg (by rw [hf]; decide)])
     have HH := Lib.hid (And.intro hb (And.intro hp hU))
     clear hf hb hp hU
     go_wp2_with fail
     refine hcT.mono ?_
     rintro e w7 ⟨rfl, hy⟩
     obtain ⟨hb, hp, hU⟩ := HH.out
     have hb := hb.below hy
     have hp := hp.below hy hp.lt
     have hU := hU.below hy (Nat.le_refl _)
     have HH := Lib.hid (And.intro hb (And.intro hp hU))
     clear hcT hy c0' c1' c2' hb hp hU
     go_wp2
     go_roundw
     case rel => exact ⟨q + 1, u, by omega, by go_num, HH.out.1, HH.out.2.1, by rw [HLQ.out]; exact HH.out.2.2⟩
     case measure => simp [intOf]; omega
    | true =>
     rw [hf] at hcT
     obtain ⟨x, hx⟩ : ∃ x, M[q]? = some x := ⟨_, List.getElem?_eq_getElem (by rw [HML.out.1]; exact hq8)⟩
     have hxl := HML.out.2 q x hx
     have HLQ : Hid (layM f M mc (q + 1) = (layM f M mc q).set q x) := Lib.hid (by
      show (if f q = true then _ else _) = _
      rw [if_pos hf, hx]
      rfl)
     have hcR := fun (W : World) (h : Below w.heap.size w W) => HRO.out W q x hq8 hf hx h
     have HXR := Lib.hid hx
     have hrow : ∃ z, (layM f M mc q)[q]? = some z ∧ z.length = mc := by
      rw [layM_at q q hq8]
      rw [if_neg (fun h => absurd h.1 (Nat.lt_irrefl _))]
      exact ⟨_, rfl, by rw [List.length_replicate]⟩
     have HROW := Lib.hid hrow
     have HXL := Lib.hid hxl
     have HH := Lib.hid (And.intro hb (And.intro hp hU))
     clear hf hx hrow hb hp hU hxl
     go_wp2_with fail
     refine hcT.mono ?_
     rintro e w7 ⟨rfl, hy⟩
     obtain ⟨hb, hp, hU⟩ := HH.out
     have hb := hb.below hy
     have hp := hp.below hy hp.lt
     have hU := hU.below hy (Nat.le_refl _)
     clear hcT hy c0' c1' c2' HH
     have a0 := hb.b0.c0
     have a1 := hb.b0.c1
     have c0' := hb.b1.c0
     have c1' := hb.b1.c1
     have c2' := hb.b1.c2
     have HH := Lib.hid (And.intro hb (And.intro hp hU))
     have hcR := hcR _ hb.b
     have hgl : gO < w7.heap.size := hp.lt
     clear hb hp hU
     go_wp2_with fail
     refine hcR.mono ?_
     rintro e w8 ⟨Ar, n3, cr, rfl, hn3, hv, hy⟩
     obtain ⟨hb, hp, hU⟩ := HH.out
     have hb := hb.below hy
     have hp := hp.below hy hp.lt
     have hU := hU.below hy (Nat.le_refl _)
     clear hcR hy a0 a1 c0' c1' c2' HH
     have hn3' : x.length = n3 := hn3
     have hv' : Ro.HasV w8 w7.heap.size Ar x := hv
     have hn38 : n3 ≤ 8 := by have := HXL.out; omega
     have HN3 := Lib.hid hn3'
     have hU0 : HasU cs w8 (fun b => (X b ∧ b ≠ w2.heap.size) ∧ b ≠ gO) u ⟨l, (fun _ => false), rowM (layM f M mc q) q x 0⟩ := hU
     clear hn3 hn3' hv hU
     go_wp2
     go_loopw [11, 12] (fun o i wr => ∃ (c : Nat) (u : TV), c ≤ n3 ∧ i = .int .i64 c ∧ o = .bool true ∧ Bs w w1.heap.size w2.heap.size mc cp nm A (.slice At n c0) (.int .i64 m) (.slice Bt n d) (.slice none 0 0) (.int .i64 0) (.slice none 0 0) wr ∧ Sc.Box3 wr gO (.slice u.A u.n u.c) (.int .i64 u.m) (.slice u.B u.n u.d) ∧ HasU cs wr (fun b => (X b ∧ b ≠ w2.heap.size) ∧ b ≠ gO) u ⟨l, (fun _ => false), rowM (layM f M mc q) q x c⟩ ∧ Ro.HasV wr w7.heap.size Ar x) (fun _ i _ => n3 - (intOf i).toNat)
     case atStart => exact ⟨0, u, Nat.zero_le _, rfl, rfl, hb, hp, hU0, hv'⟩
     case round =>
      clear hb hp hU0 hv'
      obtain ⟨c, u, hcl, rfl, rfl, hb, hp, hU, hv⟩ := hrel
      by_cases hclt : c < n3
      ·have hrv : x[c]? = some (x[c]'(by rw [HN3.out]; exact hclt)) := List.getElem?_eq_getElem _
       generalize (x[c]'(by rw [HN3.out]; exact hclt)) = v at hrv
       have HNX : Hid (setM (R.M ⟨l, (fun _ => false), rowM (layM f M mc q) q x c⟩) q c v = rowM (layM f M mc q) q x (c + 1)) := Lib.hid (rowM_next hrv).symm
       have HRW := Lib.hid hrv
       obtain ⟨rb, ro, rfl, hrlo, _, hc0, hc1, hc2⟩ := hv.at hrv
       have hrg : rb ≠ gO := by omega
       obtain ⟨vk, vn, vs⟩ := v
       obtain ⟨uA, un, uc, um, uB, ud⟩ := u
       simp only at hp hc0 hc1 hc2
       have j1 : (c : Int) < (n3 : Int) := by omega
       have j0 : (0 : Int) ≤ (c : Int) := by omega
       clear hrv hrlo
       go_wp2_with fail
       refine Lex.region_tree (ops := uhops) uhtree (fun W => W.cell? ⟨w.heap.size, 0, none⟩ = some (.string nm) ∧ W.cell? ⟨w.heap.size, 1, none⟩ = some (.slice A mc cp) ∧ W.cell? ⟨rb, ro + c * 3, none⟩ = some (.int .i64 vk) ∧ W.cell? ⟨rb, ro + c * 3 + 1, none⟩ = some (.int .i64 vn) ∧ W.cell? ⟨rb, ro + c * 3 + 2, none⟩ = some (.string vs)) (by kernel_rfl) (by kernel_rfl) uhsel uhlex (⟨hb.b0.c0, hb.b0.c1, hc0, hc1, hc2⟩) ?_
       unfold uhtree
       have hb := hb.below (Below.refl wr.heap.size wr).drew
       have hp := hp.below (Below.refl wr.heap.size wr).drew hp.lt
       have hv := hv.below (Below.refl wr.heap.size wr).drew (Nat.le_refl _)
       have hc0 := Ro.cell_below (Below.refl wr.heap.size wr).drew hc0
       have hc1 := Ro.cell_below (Below.refl wr.heap.size wr).drew hc1
       have hc2 := Ro.cell_below (Below.refl wr.heap.size wr).drew hc2
       have hU := hU.below (Below.refl wr.heap.size wr).drew (Nat.le_refl _)
       generalize wr.drew = wd at hb hp hU hv hc0 hc1 hc2 ⊢
       refine Lex.tree_take (.agg #[.string nm, .slice A mc cp]) uh0 (Lex.want_none rfl) (by intro Wx hSw; (try dsimp only at hSw); go_simp; (try (first | (with_reducible rfl) | assumption | rfl))) ?_
       simp only [Act.put, List.setIfInBounds_toArray, List.set_cons_zero, List.set_cons_succ]
       refine Lex.tree_take (.int .i64 (q : Int)) uh2 (Lex.want_none rfl) (by intro Wx hSw; (try dsimp only at hSw); go_simp; (try (first | (with_reducible rfl) | assumption | rfl))) ?_
       simp only [Act.put, List.setIfInBounds_toArray, List.set_cons_zero, List.set_cons_succ]
       refine Lex.tree_take (.int .i64 (c : Int)) uh3 (Lex.want_none rfl) (by intro Wx hSw; (try dsimp only at hSw); go_simp; (try (first | (with_reducible rfl) | assumption | rfl))) ?_
       simp only [Act.put, List.setIfInBounds_toArray, List.set_cons_zero, List.set_cons_succ]
       refine Lex.tree_take (.slice (some ⟨rb, ro, none⟩) n3 cr) uh4 (Lex.want_none rfl) (by intro Wx hSw; (try dsimp only at hSw); go_simp; (try (first | (with_reducible rfl) | assumption | rfl))) ?_
       simp only [Act.put, List.setIfInBounds_toArray, List.set_cons_zero, List.set_cons_succ]
       refine Lex.tree_take (.int .i64 (c : Int)) uh5 (Lex.want_none rfl) (by intro Wx hSw; (try dsimp only at hSw); go_simp; (try (first | (with_reducible rfl) | assumption | rfl))) ?_
       simp only [Act.put, List.setIfInBounds_toArray, List.set_cons_zero, List.set_cons_succ]
       refine Lex.tree_take (.pointer (some ⟨rb, ro + c * 3, none⟩)) uh6 (Lex.want_none rfl) (by intro Wx hSw; (try dsimp only at hSw); go_simp; (try (first | (with_reducible rfl) | assumption | rfl))) ?_
       simp only [Act.put, List.setIfInBounds_toArray, List.set_cons_zero, List.set_cons_succ]
       refine Lex.tree_take (.agg #[.int .i64 vk, .int .i64 vn, .string vs]) uh7 (Lex.want_none rfl) (by intro Wx hSw; (try dsimp only at hSw); go_simp; (try (first | (with_reducible rfl) | assumption | rfl))) ?_
       simp only [Act.put, List.setIfInBounds_toArray, List.set_cons_zero, List.set_cons_succ]
       refine Lex.tree_call uh1 (Lex.want_none rfl) (fun K hK => ?_) Lex.tree_no
       have u0 := hp.c0
       have u1 := hp.c1
       have u2 := hp.c2
       go_simp
       clear u0 u1 u2
       refine hK.out _ _ _ (fun _ h => h) (⟨hb.b0.c0, hb.b0.c1, hc0, hc1, hc2⟩) ?_
       clear hK K
       try simp only [Act.put, List.setIfInBounds_toArray, List.set_cons_zero, List.set_cons_succ]
       refine Lex.tree_call uh8 (Lex.want_none rfl) (fun K hK => ?_) Lex.tree_no
       go_simp
       have hcP := HPUT.out wd q c ⟨uA, un, uc, um, uB, ud⟩ _ (fun b => (X b ∧ b ≠ w2.heap.size) ∧ b ≠ gO) ⟨vk, vn, vs⟩ x (fun b hb' => ⟨⟨HX.out b (Nat.le_trans hb.b.size hb'), by have := hb.b2.lt; omega⟩, by have := hp.lt; omega⟩) hq8 HXR.out HRW.out hb.b hU
       rw [HNX.out] at hcP
       unfold TV.v at hcP
       simp only at hcP
       refine hcP.mono ?_
       rintro e y1 ⟨⟨tA, tn, tc, tm, tB, td⟩, rfl, hU, hy⟩
       clear hcP
       have hb := hb.below hy
       have hp := hp.below hy hp.lt
       have hv := hv.below hy (Nat.le_refl _)
       have hc0 := Ro.cell_below hy hc0
       have hc1 := Ro.cell_below hy hc1
       have hc2 := Ro.cell_below hy hc2
       clear hy
       unfold TV.v
       simp only
       refine hK.out _ _ _ (fun _ h => h) (⟨hb.b0.c0, hb.b0.c1, hc0, hc1, hc2⟩) ?_
       clear hK K
       try simp only [Act.put, List.setIfInBounds_toArray, List.set_cons_zero, List.set_cons_succ]
       refine Lex.tree_take (.tuple #[.agg #[.slice tA tn tc, .int .i64 tm, .slice tB tn td], .bool true]) uh9 (Lex.want_none rfl) (by intro Wx hSw; (try dsimp only at hSw); go_simp; (try (first | (with_reducible rfl) | assumption | rfl))) ?_
       simp only [Act.put, List.setIfInBounds_toArray, List.set_cons_zero, List.set_cons_succ]
       refine Lex.tree_take (.agg #[.slice tA tn tc, .int .i64 tm, .slice tB tn td]) uh10 (Lex.want_none rfl) (by intro Wx hSw; (try dsimp only at hSw); go_simp; (try (first | (with_reducible rfl) | assumption | rfl))) ?_
       simp only [Act.put, List.setIfInBounds_toArray, List.set_cons_zero, List.set_cons_succ]
       refine Lex.tree_take (.bool true) uh11 (Lex.want_none rfl) (by intro Wx hSw; (try dsimp only at hSw); go_simp; (try (first | (with_reducible rfl) | assumption | rfl))) ?_
       simp only [Act.put, List.setIfInBounds_toArray, List.set_cons_zero, List.set_cons_succ]
       refine Lex.tree_call uh12 (Lex.want_none rfl) (fun K hK => ?_) Lex.tree_no
       have k0 := hp.c0
       have k1 := hp.c1
       have k2 := hp.c2
       have kf := hp.f
       go_simp
       clear k0 k1 k2 kf
       have hU := hU.bar (put3_bar y1 gO (.slice tA tn tc) (.int .i64 tm) (.slice tB tn td)) (fun h => h.2 rfl)
       have hb := ((hb.set HGG.out (p := ⟨gO, 0, none⟩) hz (.slice tA tn tc)).set HGG.out (p := ⟨gO, 1, none⟩) hz (.int .i64 tm)).set HGG.out (p := ⟨gO, 2, none⟩) hz (.slice tB tn td)
       have hp := ((hp.set0 (.slice tA tn tc)).set1 (.int .i64 tm)).set2 (.slice tB tn td)
       have hbar := put3_bar y1 gO (.slice tA tn tc) (.int .i64 tm) (.slice tB tn td)
       have hv := hv.bar hbar (Or.inl hgl)
       have hc0 := (hbar.cell (p := ⟨rb, ro + c * 3, none⟩) (World.block_lt_of_cell? _ _ hc0) hrg).trans hc0
       have hc1 := (hbar.cell (p := ⟨rb, ro + c * 3 + 1, none⟩) (World.block_lt_of_cell? _ _ hc1) hrg).trans hc1
       have hc2 := (hbar.cell (p := ⟨rb, ro + c * 3 + 2, none⟩) (World.block_lt_of_cell? _ _ hc2) hrg).trans hc2
       clear hbar
       unfold put3 at hU hv hc0 hc1 hc2
       generalize ((y1.setCell ⟨gO, 0, none⟩ (.slice tA tn tc)).setCell ⟨gO, 1, none⟩ (.int .i64 tm)).setCell ⟨gO, 2, none⟩ (.slice tB tn td) = zS at hU hb hp hv hc0 hc1 hc2 ⊢
       refine hK.out _ _ _ (fun _ h => h) (⟨hb.b0.c0, hb.b0.c1, hc0, hc1, hc2⟩) ?_
       clear hK K
       try simp only [Act.put, List.setIfInBounds_toArray, List.set_cons_zero, List.set_cons_succ]
       refine Lex.tree_take (.bool true) uh13 (Lex.want_none rfl) (by intro Wx hSw; (try dsimp only at hSw); go_simp; (try (first | (with_reducible rfl) | assumption | rfl))) ?_
       simp only [Act.put, List.setIfInBounds_toArray, List.set_cons_zero, List.set_cons_succ]
       refine Lex.tree_end ?_
       refine NoPanic.normal ?_
       have HN := Lib.hid (And.intro hb (And.intro hp (And.intro hU hv)))
       clear hb hp hU hv hc0 hc1 hc2
       go_wp2
       go_roundw
       case rel => exact ⟨c + 1, ⟨tA, tn, tc, tm, tB, td⟩, by omega, by go_num, rfl, HN.out.1, HN.out.2.1, HN.out.2.2.1, HN.out.2.2.2⟩
       case measure => simp [intOf]; omega
      ·obtain rfl : c = n3 := by omega
       obtain ⟨z, hz1, hz2⟩ := HROW.out
       rw [show c = mc from HN3.out.symm.trans HXL.out, rowM_all hz1 hz2 (HXL.out), ← HLQ.out] at hU
       have HN := Lib.hid (And.intro hb (And.intro hp hU))
       clear hb hp hU hv hz1 hz2
       go_wp2
       go_roundw
       case rel => exact ⟨q + 1, u, by omega, by go_num, HN.out.1, HN.out.2.1, HN.out.2.2⟩
       case measure => simp [intOf]; omega
   ·obtain rfl : q = 8 := by omega
    rw [HLM.out] at hU
    obtain ⟨uA, un, uc, um, uB, ud⟩ := u
    simp only at hp
    have hUm : HasU cs wr (fun b => (X b ∧ b ≠ w2.heap.size) ∧ b ≠ gO) ⟨uA, un, uc, m, uB, ud⟩ ⟨l, f, M⟩ := hU.live f HT.out.1.m
    have hTT := hUm.full (HT.out.1.tab.below hb.b (Nat.le_refl _)) ⟨HT.out.1.x0, by have := HT.out.1.tab.2; have := HGG.out; omega⟩ HTI.out.z
    have hTT := (hTT.bar ((Bar.refl gO wr).setCell 1 (.int .i64 m)) (fun h => h.2 rfl)).mono (fun _ h => h.1)
    have hb2 := hb.set HGG.out (p := ⟨gO, 1, none⟩) hz (.int .i64 m)
    have hp2 := hp.set1 (.int .i64 m)
    have c1' := hb.b1.c1
    have u1 := hp.c1
    have uf := hp.f
    have r0 := hp2.c0
    have r1 := hp2.c1
    have r2 := hp2.c2
    have q0 := hb2.b2.c0
    have q1 := hb2.b2.c1
    have q2 := hb2.b2.c2
    have qf := hb2.b2.f
    have HTT := Lib.hid (And.intro (done_tile (u0 := .slice uA un uc) (u1 := .int .i64 m) (u2 := .slice uB un ud) hTT) (And.intro (hb2.done HGG.out (x0 := .slice uA un uc) (x1 := .int .i64 m) (x2 := .slice uB un ud)) (hb2.put (.slice uA un uc) (.int .i64 m) (.slice uB un ud) HGG.out)))
    clear hU hUm hTT hb hb2 hp hp2 hq hz
    go_wp2
    refine bodyPost_ret (p_res2 rfl _ _ w2.heap.size _ _ _ rfl HTT.out.2.2.b2.c0 HTT.out.2.2.b2.c1 HTT.out.2.2.b2.c2) rfl ?_
    exact HP.out ⟨uA, un, uc, m, uB, ud⟩ _ _ HLX.out HTT.out.1 HTT.out.2.1
end
end Go.Proofs.YtpnnkhpokangfaaDoor.Ti
