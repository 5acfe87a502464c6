/- A deed at a tile: the law's, walked. -/
import Derived.Test.YtpnnkhpokangfaaDoorTiE
import Derived.Test.YtpnnkhpokangfaaDoorTiK
namespace Go.Proofs.YtpnnkhpokangfaaDoor.Ti
open Go.RowKit Pac Va Sc Mi Sp Lex

/-- A deed as a value: where its row lies, and its split. -/
structure AV where
 A : Option Addr
 n : Nat
 c : Nat
 B : Option Addr
 p : Nat
 d : Nat
def AV.v (x : AV) (a : Ac) : Value := .agg #[.int .i64 a.k, .int .i64 a.s, .int .i64 a.c, .slice x.A x.n x.c, .int .i64 a.v.k, .int .i64 a.v.n, .string a.v.s, .slice x.B x.p x.d]
structure HasAc (w : World) (X : Nat → Prop) (x : AV) (a : Ac) : Prop where
 row : Ro.HasV w 0 x.A a.row
 n : a.row.length = x.n
 c : x.n ≤ x.c
 sp : HasSp w X x.B a.l
 p : a.l.length = x.p
 d : x.p ≤ x.d
 n9 : x.n ≤ 9223372036854775807
 p9 : x.p ≤ 9223372036854775807
 g9 : ∀ g ∈ a.l, g.length ≤ 17592186044416
 ok : a.Ok
section
variable {w w' : World} {X Y : Nat → Prop} {x : AV} {a : Ac} {B g : Nat}
theorem HasAc.below (h : HasAc w X x a) (hb : Below B w w') (hB : w.heap.size ≤ B) : HasAc w' X x a :=
 ⟨h.row.below hb hB, h.n, h.c, h.sp.below hb hB, h.p, h.d, h.n9, h.p9, h.g9, h.ok⟩
theorem HasAc.old (h : HasAc w X x a) (hY : ∀ b, b < w.heap.size → Y b) : HasAc w (fun b => X b ∧ Y b) x a :=
 ⟨h.row, h.n, h.c, h.sp.old hY, h.p, h.d, h.n9, h.p9, h.g9, h.ok⟩
theorem HasAc.mono (h : HasAc w X x a) (hX : ∀ b, X b → Y b) : HasAc w Y x a :=
 ⟨h.row, h.n, h.c, h.sp.mono hX, h.p, h.d, h.n9, h.p9, h.g9, h.ok⟩
end
theorem box3_put {w : World} {g : Nat} {v0 v1 v2 : Value} (h : Sc.Box3 w g v0 v1 v2) (u0 u1 u2 : Value) : Sc.Box3 (((w.setCell ⟨g, 0, none⟩ u0).setCell ⟨g, 1, none⟩ u1).setCell ⟨g, 2, none⟩ u2) g u0 u1 u2 := ((h.set0 u0).set1 u1).set2 u2
theorem bar_put (w : World) (g : Nat) (u0 u1 u2 : Value) : Bar g w (((w.setCell ⟨g, 0, none⟩ u0).setCell ⟨g, 1, none⟩ u1).setCell ⟨g, 2, none⟩ u2) := (((Bar.refl g w).setCell 0 u0).setCell 1 u1).setCell 2 u2
theorem results_tile3 {fn : Func} {p q s : Tmp} (h : fn.results = #[.cell p 32, .tmp q, .tmp s]) (tmps : Array Value) (w : World) (g : Nat) (v0 v1 v2 : Value)
  (hp : tmps.getD p undef = .pointer (some ⟨g, 0, none⟩)) (c0 : w.cell? ⟨g, 0, none⟩ = some v0) (c1 : w.cell? ⟨g, 1, none⟩ = some v1) (c2 : w.cell? ⟨g, 2, none⟩ = some v2) :
  (results fn tmps).run Tryd.prog w = .ok (.tuple #[.agg #[v0, v1, v2], tmps.getD q undef, tmps.getD s undef]) w := by
 have hp' : tmps[p]?.getD undef = .pointer (some ⟨g, 0, none⟩) := by simpa using hp
 clear hp
 simp only [results, h]
 go_simp
/-- What a deed's walk holds. -/
structure DoB (w : World) (g mc cp : Nat) (nm : ByteArray) (A : Option Addr) (cs : List C) (X : Nat → Prop) (t : TV) (r : R) (x : AV) (a : Ac) (W : World) : Prop where
 hs : HasSch W A mc cp nm cs
 ht : HasT cs W X t r
 ha : HasAc W X x a
 b1 : Sc.Box3 W (g + 1) (.slice t.A t.n t.c) (.int .i64 t.m) (.slice t.B t.n t.d)
 b3 : Sc.Box3 W (g + 1 + 1 + 1) (.slice none 0 0) (.int .i64 0) (.slice none 0 0)
 b : Below g w W
 z : g + 4 ≤ W.heap.size
 g : w.heap.size = g
theorem DoB.new {nm : ByteArray} {cs : List C} {A : Option Addr} {mc cp g : Nat} {w : World} {X : Nat → Prop} {t : TV} {r : R} {x : AV} {a : Ac} (hg : w.heap.size = g) (hS : HasSch w A mc cp nm cs) (hT : HasT cs w X t r) (hA : HasAc w X x a) (o : Obj) :
  DoB w g mc cp nm A cs (fun b => X b ∧ (b ≠ g + 1 ∧ b ≠ g + 1 + 1 + 1)) t r x a ((((w.alloc (.cells #[.string nm, .slice A mc cp] 24)).alloc (.cells #[.slice t.A t.n t.c, .int .i64 t.m, .slice t.B t.n t.d] 32)).alloc o).alloc (.cells #[.slice none 0 0, .int .i64 0, .slice none 0 0] 32)) := by
 have hb1 := Sc.Box3.new (w.alloc (.cells #[.string nm, .slice A mc cp] 24)) (.slice t.A t.n t.c) (.int .i64 t.m) (.slice t.B t.n t.d) 32
 rw [show (w.alloc (.cells #[.string nm, .slice A mc cp] 24)).heap.size = g + 1 by simp [hg]] at hb1
 have hb3 := Sc.Box3.new (((w.alloc (.cells #[.string nm, .slice A mc cp] 24)).alloc (.cells #[.slice t.A t.n t.c, .int .i64 t.m, .slice t.B t.n t.d] 32)).alloc o) (.slice none 0 0) (.int .i64 0) (.slice none 0 0) 32
 rw [show (((w.alloc (.cells #[.string nm, .slice A mc cp] 24)).alloc (.cells #[.slice t.A t.n t.c, .int .i64 t.m, .slice t.B t.n t.d] 32)).alloc o).heap.size = g + 1 + 1 + 1 by simp [hg]] at hb3
 have hn1 := (Below.refl g w).alloc (by omega) (.cells #[.string nm, .slice A mc cp] 24)
 have hn2 := hn1.alloc (by simp [hg]) (.cells #[.slice t.A t.n t.c, .int .i64 t.m, .slice t.B t.n t.d] 32)
 have hn3 := hn2.alloc (by simp [hg]; omega) o
 have hn4 := hn3.alloc (by simp [hg]; omega) (.cells #[.slice none 0 0, .int .i64 0, .slice none 0 0] 32)
 have hold : ∀ b, b < w.heap.size → b ≠ g + 1 ∧ b ≠ g + 1 + 1 + 1 := fun b hb => by omega
 exact ⟨hS.below hn4 (by omega), (hT.old hold).below hn4 (by omega), (hA.old hold).below hn4 (by omega), (hb1.alloc o).alloc _, hb3, hn4, by simp [hg], hg⟩
section
variable {nm : ByteArray} {cs : List C} {A : Option Addr} {mc cp g : Nat} {w W W' : World} {X : Nat → Prop} {t t' : TV} {r r' : R} {x : AV} {a : Ac}
theorem DoB.below (h : DoB w g mc cp nm A cs X t r x a W) (hb : Below W.heap.size W W') : DoB w g mc cp nm A cs X t r x a W' :=
 ⟨h.hs.below hb (Nat.le_refl _), h.ht.below hb (Nat.le_refl _), h.ha.below hb (Nat.le_refl _), h.b1.below hb h.b1.lt, h.b3.below hb h.b3.lt, h.b.trans (hb.mono (by have := h.z; omega)), Nat.le_trans h.z hb.size, h.g⟩
end
/-- The tile is put into its two variables. -/
theorem put_two {cs : List C} {w w5 : World} {X1 : Nat → Prop} {g un uc um ud : Nat} {uA uB : Option Addr} {r' : R} {v0 v1 v2 : Value} (hU : HasT cs w5 X1 ⟨uA, un, uc, um, uB, ud⟩ r') (hb3 : Sc.Box3 w5 (g + 1 + 1 + 1) v0 v1 v2) (hB : Below g w w5) (hN : ¬ X1 (g + 1) ∧ ¬ X1 (g + 1 + 1 + 1)) {W : World}
  (hW : (((((w5.setCell ⟨g + 1, 0, none⟩ (.slice uA un uc)).setCell ⟨g + 1, 1, none⟩ (.int .i64 um)).setCell ⟨g + 1, 2, none⟩ (.slice uB un ud)).setCell ⟨g + 1 + 1 + 1, 0, none⟩ (.slice uA un uc)).setCell ⟨g + 1 + 1 + 1, 1, none⟩ (.int .i64 um)).setCell ⟨g + 1 + 1 + 1, 2, none⟩ (.slice uB un ud) = W) :
  HasT cs W X1 ⟨uA, un, uc, um, uB, ud⟩ r' ∧ Sc.Box3 W (g + 1 + 1 + 1) (.slice uA un uc) (.int .i64 um) (.slice uB un ud) ∧ Below g w W := by
 subst hW
 have h1 := bar_put w5 (g + 1) (.slice uA un uc) (.int .i64 um) (.slice uB un ud)
 have h2 := bar_put (((w5.setCell ⟨g + 1, 0, none⟩ (.slice uA un uc)).setCell ⟨g + 1, 1, none⟩ (.int .i64 um)).setCell ⟨g + 1, 2, none⟩ (.slice uB un ud)) (g + 1 + 1 + 1) (.slice uA un uc) (.int .i64 um) (.slice uB un ud)
 refine ⟨(hU.bar h1 hN.1).bar h2 hN.2, box3_put (hb3.bar h1 (by omega)) _ _ _, ?_⟩
 have l1 : g ≤ g + 1 := by omega
 have l3 : g ≤ g + 1 + 1 + 1 := by omega
 exact (((((hB.setCell (p := ⟨g + 1, 0, none⟩) l1 _).setCell (p := ⟨g + 1, 1, none⟩) l1 _).setCell (p := ⟨g + 1, 2, none⟩) l1 _).setCell (p := ⟨g + 1 + 1 + 1, 0, none⟩) l3 _).setCell (p := ⟨g + 1 + 1 + 1, 1, none⟩) l3 _).setCell (p := ⟨g + 1 + 1 + 1, 2, none⟩) l3 _

set_option maxRecDepth 20000 in
set_option maxHeartbeats 6400000 in
theorem does_any {nm : ByteArray} {cs : List C} {A : Option Addr} {mc cp : Nat} {w : World} {X : Nat → Prop} {t : TV} {r : R} {x : AV} {a : Ac} (hX : ∀ b, w.heap.size ≤ b → X b) (hS : HasSch w A mc cp nm cs) (hT : HasT cs w X t r) (hA : HasAc w X x a) (h20 : x.p ≤ 20) :
  Calls Tryd.prog 13 #[.agg #[.string nm, .slice A mc cp], t.v, x.v a] w (TilePost2 cs X (doesR cs r a) w) := by
 obtain ⟨g, hg⟩ : ∃ g, w.heap.size = g := ⟨_, rfl⟩
 have hE : ∀ (W : World) (t' : TV) (y : R × Int × Int), HasT cs W (fun b => X b ∧ (b ≠ g + 1 ∧ b ≠ g + 1 + 1 + 1)) t' y.1 → y = doesR cs r a → Below g w W → TilePost2 cs X (doesR cs r a) w (.returned (.tuple #[t'.v, .int .i64 y.2.1, .int .i64 y.2.2])) W := fun W t' y h e hb => by
  subst e
  exact ⟨t', rfl, h.mono fun b hb => hb.1, by rw [hg]; exact hb⟩
 have HE := Lib.hid hE
 clear hE
 have hX' : ∀ W : World, g + 4 ≤ W.heap.size → ∀ b, W.heap.size ≤ b → (fun b => X b ∧ (b ≠ g + 1 ∧ b ≠ g + 1 + 1 + 1)) b := fun W hW b hb => ⟨hX b (by omega), by omega, by omega⟩
 have HX := Lib.hid hX'
 have hD := DoB.new hg hS hT hA (.cells #[.int .i64 a.k, .int .i64 a.s, .int .i64 a.c, .slice x.A x.n x.c, .int .i64 a.v.k, .int .i64 a.v.n, .string a.v.s, .slice x.B x.p x.d] 39)
 have HNX : ¬ (fun b => X b ∧ (b ≠ g + 1 ∧ b ≠ g + 1 + 1 + 1)) (g + 1) ∧ ¬ (fun b => X b ∧ (b ≠ g + 1 ∧ b ≠ g + 1 + 1 + 1)) (g + 1 + 1 + 1) := ⟨fun h => h.2.1 rfl, fun h => h.2.2 rfl⟩
 have HT0 := Lib.hid (hT.old (Y := fun b => b ≠ g + 1 ∧ b ≠ g + 1 + 1 + 1) (fun b hb => by omega))
 clear hX hX' hS hT hA
 generalize TilePost2 cs X (doesR cs r a) w = post at HE ⊢
 generalize (fun b => X b ∧ (b ≠ g + 1 ∧ b ≠ g + 1 + 1 + 1)) = X1 at HE HX hD HNX HT0
 obtain ⟨tA, tn, tc, tm, tB, td⟩ := t
 obtain ⟨xA, xn, xc, xB, xp, xd⟩ := x
 have h20 : xp ≤ 20 := h20
 have H20 := Lib.hid h20
 clear h20
 obtain ⟨ak, sl, ac, arow, ⟨vk, vn, vs⟩, al⟩ := a
 show Calls Tryd.prog 13 #[.agg #[.string nm, .slice A mc cp], .agg #[.slice tA tn tc, .int .i64 tm, .slice tB tn td], .agg #[.int .i64 ak, .int .i64 sl, .int .i64 ac, .slice xA xn xc, .int .i64 vk, .int .i64 vn, .string vs, .slice xB xp xd]] w _
 have HD := Lib.hid hD
 clear hD
 simp only at HD
 go_enter Tryd.func13, Tryd.ntmps13
 by_cases k0 : ak = 0
 ·subst k0
  go_wp2_with fail
  have hD := HD.out
  refine (add_any xA xn xc 0 (HX.out _ hD.z) hD.hs hD.ht hD.ha.row hD.ha.n hD.ha.c hD.ha.n9 hD.ha.ok.r).mono ?_
  rintro e w5 ⟨⟨uA, un, uc, um, uB, ud⟩, rfl, hU, hy⟩
  have hyy : addR cs r arow = doesR cs r ⟨0, sl, ac, arow, ⟨vk, vn, vs⟩, al⟩ := by unfold doesR; rw [if_pos rfl]
  generalize addR cs r arow = y at hyy hU
  obtain ⟨r', ps, pe⟩ := y
  unfold TV.v
  have hb1 := hD.b1.below hy hD.b1.lt
  have hb3 := hD.b3.below hy hD.b3.lt
  have hB := hD.b.trans (hy.mono (by have := hD.z; omega))
  clear hD hy HD
  have k0 := hb1.c0
  have k1 := hb1.c1
  have k2 := hb1.c2
  have kf := hb1.f
  have j0 := hb3.c0
  have j1 := hb3.c1
  have j2 := hb3.c2
  have jf := hb3.f
  go_wp2
  generalize hW : (((((w5.setCell ⟨g + 1, 0, none⟩ (.slice uA un uc)).setCell ⟨g + 1, 1, none⟩ (.int .i64 um)).setCell ⟨g + 1, 2, none⟩ (.slice uB un ud)).setCell ⟨g + 1 + 1 + 1, 0, none⟩ (.slice uA un uc)).setCell ⟨g + 1 + 1 + 1, 1, none⟩ (.int .i64 um)).setCell ⟨g + 1 + 1 + 1, 2, none⟩ (.slice uB un ud) = W
  have hP := put_two hU hb3 hB HNX hW
  refine bodyPost_ret (results_tile3 rfl _ _ _ _ _ _ rfl hP.2.1.c0 hP.2.1.c1 hP.2.1.c2) rfl ?_
  exact HE.out _ ⟨uA, un, uc, um, uB, ud⟩ (r', ps, pe) hP.1 hyy hP.2.2
 by_cases k1 : ak = 1
 ·subst k1
  go_wp2_with fail
  have hD := HD.out
  refine (set_any sl ac ⟨vk, vn, vs⟩ (HX.out _ hD.z) hD.hs hD.ht hD.ha.ok.s0 hD.ha.ok.s1 hD.ha.ok.c0 hD.ha.ok.c1 hD.ha.ok.v).mono ?_
  rintro e w5 ⟨⟨uA, un, uc, um, uB, ud⟩, rfl, hU, hy⟩
  have hyy : ((setR cs r sl ac ⟨vk, vn, vs⟩).1, (0 : Int), (setR cs r sl ac ⟨vk, vn, vs⟩).2) = doesR cs r ⟨1, sl, ac, arow, ⟨vk, vn, vs⟩, al⟩ := by unfold doesR; dsimp only; rw [if_neg (by decide), if_pos rfl]
  generalize setR cs r sl ac ⟨vk, vn, vs⟩ = y at hyy hU
  obtain ⟨r', pe⟩ := y
  unfold TV.v
  have hb1 := hD.b1.below hy hD.b1.lt
  have hb3 := hD.b3.below hy hD.b3.lt
  have hB := hD.b.trans (hy.mono (by have := hD.z; omega))
  clear hD hy HD
  have k0 := hb1.c0
  have k1 := hb1.c1
  have k2 := hb1.c2
  have kf := hb1.f
  have j0 := hb3.c0
  have j1 := hb3.c1
  have j2 := hb3.c2
  have jf := hb3.f
  go_wp2
  generalize hW : (((((w5.setCell ⟨g + 1, 0, none⟩ (.slice uA un uc)).setCell ⟨g + 1, 1, none⟩ (.int .i64 um)).setCell ⟨g + 1, 2, none⟩ (.slice uB un ud)).setCell ⟨g + 1 + 1 + 1, 0, none⟩ (.slice uA un uc)).setCell ⟨g + 1 + 1 + 1, 1, none⟩ (.int .i64 um)).setCell ⟨g + 1 + 1 + 1, 2, none⟩ (.slice uB un ud) = W
  have hP := put_two hU hb3 hB HNX hW
  refine bodyPost_ret (results_tile3 rfl _ _ _ _ _ _ rfl hP.2.1.c0 hP.2.1.c1 hP.2.1.c2) rfl ?_
  exact HE.out _ ⟨uA, un, uc, um, uB, ud⟩ (r', 0, pe) hP.1 hyy hP.2.2
 by_cases k2 : ak = 2
 ·subst k2
  go_wp2_with fail
  have hD := HD.out
  refine (drop_any sl (HX.out _ hD.z) hD.hs hD.ht hD.ha.ok.s0 hD.ha.ok.s1).mono ?_
  rintro e w5 ⟨⟨uA, un, uc, um, uB, ud⟩, rfl, hU, hy⟩
  have hyy : ((dropR cs r sl).1, (0 : Int), (dropR cs r sl).2) = doesR cs r ⟨2, sl, ac, arow, ⟨vk, vn, vs⟩, al⟩ := by unfold doesR; dsimp only; rw [if_neg (by decide), if_neg (by decide), if_pos rfl]
  generalize dropR cs r sl = y at hyy hU
  obtain ⟨r', pe⟩ := y
  unfold TV.v
  have hb1 := hD.b1.below hy hD.b1.lt
  have hb3 := hD.b3.below hy hD.b3.lt
  have hB := hD.b.trans (hy.mono (by have := hD.z; omega))
  clear hD hy HD
  have k0 := hb1.c0
  have k1 := hb1.c1
  have k2 := hb1.c2
  have kf := hb1.f
  have j0 := hb3.c0
  have j1 := hb3.c1
  have j2 := hb3.c2
  have jf := hb3.f
  go_wp2
  generalize hW : (((((w5.setCell ⟨g + 1, 0, none⟩ (.slice uA un uc)).setCell ⟨g + 1, 1, none⟩ (.int .i64 um)).setCell ⟨g + 1, 2, none⟩ (.slice uB un ud)).setCell ⟨g + 1 + 1 + 1, 0, none⟩ (.slice uA un uc)).setCell ⟨g + 1 + 1 + 1, 1, none⟩ (.int .i64 um)).setCell ⟨g + 1 + 1 + 1, 2, none⟩ (.slice uB un ud) = W
  have hP := put_two hU hb3 hB HNX hW
  refine bodyPost_ret (results_tile3 rfl _ _ _ _ _ _ rfl hP.2.1.c0 hP.2.1.c1 hP.2.1.c2) rfl ?_
  exact HE.out _ ⟨uA, un, uc, um, uB, ud⟩ (r', 0, pe) hP.1 hyy hP.2.2
 by_cases k3 : ak = 3
 ·subst k3
  go_wp2_with fail
  have hD := HD.out
  refine (lay_any xB xp xd (HX.out _ hD.z) hD.hs hD.ht hD.ha.sp hD.ha.p hD.ha.d (by have := H20.out; omega) hD.ha.g9).mono ?_
  rintro e w5 ⟨⟨uA, un, uc, um, uB, ud⟩, rfl, hU, hy⟩
  have hyy : ((layR cs r al).1, (if (layR cs r al).2 = true then (1 : Int) else 0), (0 : Int)) = doesR cs r ⟨3, sl, ac, arow, ⟨vk, vn, vs⟩, al⟩ := by unfold doesR; dsimp only; rw [if_neg (show ¬ (3 : Int) = 0 by decide), if_neg (show ¬ (3 : Int) = 1 by decide), if_neg (show ¬ (3 : Int) = 2 by decide), if_pos rfl]
  generalize layR cs r al = y at hyy hU
  obtain ⟨r', pb⟩ := y
  unfold TV.v
  have hb1 := hD.b1.below hy hD.b1.lt
  have hb3 := hD.b3.below hy hD.b3.lt
  have hB := hD.b.trans (hy.mono (by have := hD.z; omega))
  clear hD hy HD
  have k0 := hb1.c0
  have k1 := hb1.c1
  have k2 := hb1.c2
  have kf := hb1.f
  have j0 := hb3.c0
  have j1 := hb3.c1
  have j2 := hb3.c2
  have jf := hb3.f
  have hlt1 : g + 1 < w5.heap.size := hb1.lt
  have hlt3 : g + 1 + 1 + 1 < w5.heap.size := hb3.lt
  cases pb
  ·go_wp2
   generalize hW : (((((w5.setCell ⟨g + 1, 0, none⟩ (.slice uA un uc)).setCell ⟨g + 1, 1, none⟩ (.int .i64 um)).setCell ⟨g + 1, 2, none⟩ (.slice uB un ud)).setCell ⟨g + 1 + 1 + 1, 0, none⟩ (.slice uA un uc)).setCell ⟨g + 1 + 1 + 1, 1, none⟩ (.int .i64 um)).setCell ⟨g + 1 + 1 + 1, 2, none⟩ (.slice uB un ud) = W
   have hP := put_two hU hb3 hB HNX hW
   have hn := (Below.refl W.heap.size W).alloc (Nat.le_refl _) (.cells #[.slice uA un uc, .int .i64 um, .slice uB un ud] 32)
   have hP1 := hP.1.below hn (Nat.le_refl _)
   have hP2 := hP.2.1.below hn hP.2.1.lt
   have hP3 := hP.2.2.trans (hn.mono (by have := hP.2.1.lt; omega))
   refine bodyPost_ret (results_tile3 rfl _ _ _ _ _ _ rfl hP2.c0 hP2.c1 hP2.c2) rfl ?_
   exact HE.out _ ⟨uA, un, uc, um, uB, ud⟩ (r', 0, 0) hP1 hyy hP3
  ·go_wp2
   generalize hW : (((((w5.setCell ⟨g + 1, 0, none⟩ (.slice uA un uc)).setCell ⟨g + 1, 1, none⟩ (.int .i64 um)).setCell ⟨g + 1, 2, none⟩ (.slice uB un ud)).setCell ⟨g + 1 + 1 + 1, 0, none⟩ (.slice uA un uc)).setCell ⟨g + 1 + 1 + 1, 1, none⟩ (.int .i64 um)).setCell ⟨g + 1 + 1 + 1, 2, none⟩ (.slice uB un ud) = W
   have hP := put_two hU hb3 hB HNX hW
   have hn := (Below.refl W.heap.size W).alloc (Nat.le_refl _) (.cells #[.slice uA un uc, .int .i64 um, .slice uB un ud] 32)
   have hP1 := hP.1.below hn (Nat.le_refl _)
   have hP2 := hP.2.1.below hn hP.2.1.lt
   have hP3 := hP.2.2.trans (hn.mono (by have := hP.2.1.lt; omega))
   refine bodyPost_ret (results_tile3 rfl _ _ _ _ _ _ rfl hP2.c0 hP2.c1 hP2.c2) rfl ?_
   exact HE.out _ ⟨uA, un, uc, um, uB, ud⟩ (r', 1, 0) hP1 hyy hP3
 ·have k0' : (ak == 0) = false := beq_eq_false_iff_ne.2 k0
  have k1' : (ak == 1) = false := beq_eq_false_iff_ne.2 k1
  have k2' : (ak == 2) = false := beq_eq_false_iff_ne.2 k2
  have k3' : (ak == 3) = false := beq_eq_false_iff_ne.2 k3
  have hyy : (r, (0 : Int), (0 : Int)) = doesR cs r ⟨ak, sl, ac, arow, ⟨vk, vn, vs⟩, al⟩ := by unfold doesR; dsimp only; rw [if_neg k0, if_neg k1, if_neg k2, if_neg k3]
  have hn3 := (((Below.refl g w).alloc (by omega) (.cells #[.string nm, .slice A mc cp] 24)).alloc (by simp [hg]) (.cells #[.slice tA tn tc, .int .i64 tm, .slice tB tn td] 32)).alloc (by simp [hg]; omega) (.cells #[.int .i64 ak, .int .i64 sl, .int .i64 ac, .slice xA xn xc, .int .i64 vk, .int .i64 vn, .string vs, .slice xB xp xd] 39)
  have hn4 := hn3.alloc (by simp [hg]; omega) (.cells #[.slice tA tn tc, .int .i64 tm, .slice tB tn td] 32)
  have hb4 := Sc.Box3.new (((w.alloc (.cells #[.string nm, .slice A mc cp] 24)).alloc (.cells #[.slice tA tn tc, .int .i64 tm, .slice tB tn td] 32)).alloc (.cells #[.int .i64 ak, .int .i64 sl, .int .i64 ac, .slice xA xn xc, .int .i64 vk, .int .i64 vn, .string vs, .slice xB xp xd] 39)) (.slice tA tn tc) (.int .i64 tm) (.slice tB tn td) 32
  rw [show (((w.alloc (.cells #[.string nm, .slice A mc cp] 24)).alloc (.cells #[.slice tA tn tc, .int .i64 tm, .slice tB tn td] 32)).alloc (.cells #[.int .i64 ak, .int .i64 sl, .int .i64 ac, .slice xA xn xc, .int .i64 vk, .int .i64 vn, .string vs, .slice xB xp xd] 39)).heap.size = g + 1 + 1 + 1 by simp [hg]] at hb4
  have hT4 := HT0.out.below hn4 (by omega)
  clear HD hn3
  go_wp2
  refine bodyPost_ret (results_tile3 rfl _ _ _ _ _ _ rfl hb4.c0 hb4.c1 hb4.c2) rfl ?_
  exact HE.out _ ⟨tA, tn, tc, tm, tB, td⟩ (r, 0, 0) hT4 hyy hn4
/-- A schema that came in. -/
structure InS (w : World) (A : Option Addr) (mc cp : Nat) (nm : ByteArray) (cs : List C) : Prop where
 c : HasCols w 0 A cs
 n : cs.length = mc
 p : mc ≤ cp
 c9 : mc ≤ 9223372036854775807
 nn : nm.size ≤ 9223372036854775807
 ok : ∀ (j : Nat) (c : C), cs[j]? = some c → c.Ok
 tab : Tab w
theorem InS.below {w w' : World} {B mc cp : Nat} {A : Option Addr} {nm : ByteArray} {cs : List C} (h : InS w A mc cp nm cs) (hb : Below B w w') (hB : w.heap.size ≤ B) : InS w' A mc cp nm cs := ⟨h.c.below hb hB, h.n, h.p, h.c9, h.nn, h.ok, h.tab.below hb hB⟩
theorem InS.sch {w : World} {mc cp : Nat} {A : Option Addr} {nm : ByteArray} {cs : List C} (h : InS w A mc cp nm cs) (hr : rightS nm cs = true) : HasSch w A mc cp nm cs := ⟨h.c, h.n, h.p, hr⟩
theorem InS.right {w : World} {mc cp : Nat} {A : Option Addr} {nm : ByteArray} {cs : List C} (h : InS w A mc cp nm cs) :
  Calls Tryd.prog 34 #[.agg #[.string nm, .slice A mc cp]] w fun e w' => e = .returned (.bool (rightS nm cs)) ∧ Below w.heap.size w w' := by
 have hn := h.n
 subst hn
 exact Sc.refRight_any A cp nm cs 0 w h.c h.p h.nn h.c9 h.ok
def cellsAc (y : AV × Ac) : List Value := [.int .i64 y.2.k, .int .i64 y.2.s, .int .i64 y.2.c, .slice y.1.A y.1.n y.1.c, .int .i64 y.2.v.k, .int .i64 y.2.v.n, .string y.2.v.s, .slice y.1.B y.1.p y.1.d]
theorem cellsAc_len (y : AV × Ac) : (cellsAc y).length = 8 := rfl
/-- Deeds that came in. -/
structure HasAcs (w : World) (X : Nat → Prop) (A : Option Addr) (l : List (AV × Ac)) : Prop where
 hl : Li.HasL cellsAc 8 w 0 A l
 ha : ∀ y ∈ l, HasAc w X y.1 y.2
theorem HasAcs.below {w w' : World} {X : Nat → Prop} {A : Option Addr} {l : List (AV × Ac)} {B : Nat} (h : HasAcs w X A l) (hb : Below B w w') (hB : w.heap.size ≤ B) : HasAcs w' X A l := ⟨h.hl.below hb hB, fun y hy => (h.ha y hy).below hb hB⟩
/-- Where a deed lies. -/
structure At8 (w : World) (b i : Nat) (y : AV × Ac) : Prop where
 c0 : w.cell? ⟨b, i, none⟩ = some (.int .i64 y.2.k)
 c1 : w.cell? ⟨b, i + 1, none⟩ = some (.int .i64 y.2.s)
 c2 : w.cell? ⟨b, i + 2, none⟩ = some (.int .i64 y.2.c)
 c3 : w.cell? ⟨b, i + 3, none⟩ = some (.slice y.1.A y.1.n y.1.c)
 c4 : w.cell? ⟨b, i + 4, none⟩ = some (.int .i64 y.2.v.k)
 c5 : w.cell? ⟨b, i + 5, none⟩ = some (.int .i64 y.2.v.n)
 c6 : w.cell? ⟨b, i + 6, none⟩ = some (.string y.2.v.s)
 c7 : w.cell? ⟨b, i + 7, none⟩ = some (.slice y.1.B y.1.p y.1.d)
theorem HasAcs.at {w : World} {X : Nat → Prop} {A : Option Addr} {l : List (AV × Ac)} (h : HasAcs w X A l) {q : Nat} {y : AV × Ac} (hq : l[q]? = some y) : ∃ b o, A = some ⟨b, o, none⟩ ∧ b < w.heap.size ∧ At8 w b (o + q * 8) y ∧ HasAc w X y.1 y.2 := by
 obtain ⟨b, o, hA, _, hlt, hc⟩   := h.hl (fun e => by rw [e] at hq; simp at hq)
 exact ⟨b, o, hA, hlt, ⟨hc q y hq 0 _ rfl, hc q y hq 1 _ rfl, hc q y hq 2 _ rfl, hc q y hq 3 _ rfl, hc q y hq 4 _ rfl, hc q y hq 5 _ rfl, hc q y hq 6 _ rfl, hc q y hq 7 _ rfl⟩, h.ha y (List.mem_of_getElem? hq)⟩
def SmallPost (nm : ByteArray) (cs : List C) (m : Nat) (l : List (AV × Ac)) (w : World) (e : Ending) (w' : World) : Prop :=
 ∃ b : Bool, e = .returned (.bool b) ∧ (b = true → rightS nm cs = true ∧ m ≤ 40 ∧ ∀ y ∈ l, y.1.p ≤ 20) ∧ (rightS nm cs = true → m = 0 → b = true) ∧ Below w.heap.size w w'

set_option maxRecDepth 20000 in
set_option maxHeartbeats 3200000 in
theorem small_any {nm : ByteArray} {cs : List C} {A A2 : Option Addr} {mc cp m cp2 : Nat} {w : World} {X : Nat → Prop} {l : List (AV × Ac)} (hS : InS w A mc cp nm cs) (hL : HasAcs w X A2 l) (hm : l.length = m) (hm9 : m ≤ 9223372036854775807) :
  Calls Tryd.prog 7 #[.agg #[.string nm, .slice A mc cp], .slice A2 m cp2] w (SmallPost nm cs m l w) := by
 have hPB : ∀ W : World, m ≠ 0 → Below w.heap.size w W → SmallPost nm cs m l w (.returned (.bool false)) W := fun W h0 hb => ⟨false, rfl, (fun h => by cases h), (fun _ h => absurd h h0), hb⟩
 have hPG : ∀ (W : World) (b c : Bool), b = rightS nm cs → c = decide (m ≤ 40) → (∀ y ∈ l, y.1.p ≤ 20) → Below w.heap.size w W → SmallPost nm cs m l w (.returned (.bool (b && c))) W := fun W b c hb hc hL hB => ⟨b && c, rfl, (fun h => by
  simp only [Bool.and_eq_true] at h
  exact ⟨by rw [← hb]; exact h.1, by rw [hc] at h; simpa using h.2, hL⟩), (fun h1 h2 => by rw [hb, hc, h1, h2]; rfl), hB⟩
 have HPB := Lib.hid hPB
 have HPG := Lib.hid hPG
 clear hPB hPG
 generalize SmallPost nm cs m l w = post at HPB HPG ⊢
 have hn := (Below.refl w.heap.size w).alloc (Nat.le_refl _) (.cells #[.string nm, .slice A mc cp] 24)
 have hb := Box2.new w (.string nm) (.slice A mc cp) 24
 have hS := hS.below hn (Nat.le_refl _)
 have hL := hL.below hn (Nat.le_refl _)
 go_enter Tryd.func7, Tryd.ntmps7
 generalize hw1 : w.alloc (.cells #[.string nm, .slice A mc cp] 24) = w1 at hn hb hS hL
 generalize hg : w.heap.size = g at hb ⊢
 go_wp2
 clear hw1
 go_loopw [5] (fun i wr => ∃ q : Nat, q ≤ m ∧ i = .int .i64 q ∧ Hid (∀ (k : Nat) (y : AV × Ac), k < q → l[k]? = some y → y.1.p ≤ 20) ∧ Below w1.heap.size w1 wr) (fun i _ => m - (intOf i).toNat)
 case atStart => exact ⟨0, Nat.zero_le _, rfl, Lib.hid (fun k _ hk => absurd hk (Nat.not_lt_zero k)), Below.refl _ _⟩
 case round =>
  obtain ⟨q, hq, rfl, HP, hy⟩ := hrel
  by_cases hlt : q < m
  ·have hl : l[q]? = some (l[q]'(by omega)) := List.getElem?_eq_getElem _
   generalize (l[q]'(by omega)) = y at hl
   obtain ⟨b1, o1, rfl, _, h8, hA⟩ := (hL.below hy (Nat.le_refl _)).at hl
   obtain ⟨⟨rA, rn, rc, sB, sp, sd⟩, ya⟩ := y
   have c3 := h8.c3
   have c7 := h8.c7
   simp only at c3 c7
   have n9 := hA.n9
   have p9 := hA.p9
   simp only at n9 p9
   have i1 : (q : Int) < (m : Int) := by omega
   have i0 : (0 : Int) ≤ (q : Int) := by omega
   have hB := hn.trans (hy.mono hn.size)
   have m0 : m ≠ 0 := by omega
   have HL := Lib.hid hl
   clear hl h8 hA
   by_cases h20 : rn ≤ 20
   ·have e1 : decide ((20 : Int) < (rn : Int)) = false := decide_eq_false (by omega)
    by_cases g20 : sp ≤ 20
    ·have e2 : decide ((20 : Int) < (sp : Int)) = false := decide_eq_false (by omega)
     have HP2 : Hid (∀ (k : Nat) (y : AV × Ac), k < q + 1 → l[k]? = some y → y.1.p ≤ 20) := Lib.hid (fun k y hk hy => by
      by_cases hkq : k < q
      ·exact HP.out k y hkq hy
      ·obtain rfl : k = q := by omega
       rw [HL.out] at hy
       injection hy with hy
       rw [← hy]
       exact g20)
     go_wp2
     clear c3 c7
     go_roundw
     case rel => exact ⟨q + 1, by omega, by go_num, HP2, hy⟩
     case measure => simp [intOf]; omega
    ·have e2 : decide ((20 : Int) < (sp : Int)) = true := decide_eq_true (by omega)
     go_wp2
     exact HPB.out _ m0 hB
   ·have e1 : decide ((20 : Int) < (rn : Int)) = true := decide_eq_true (by omega)
    go_wp2
    exact HPB.out _ m0 hB
  ·obtain rfl : q = m := by omega
   have HA := Lib.hid (fun (y : AV × Ac) (hy : y ∈ l) => by
    obtain ⟨k, hk⟩ := List.mem_iff_getElem?.1 hy
    exact HP.out k y (by have := (List.getElem?_eq_some_iff.1 hk).1; omega) hk)
   have hb := hb.below hy hb.lt
   have hB := hn.trans (hy.mono hn.size)
   have c0 := hb.c0
   have c1 := hb.c1
   go_wp2_with fail
   refine (hS.below hy (Nat.le_refl _)).right.mono ?_
   rintro e w3 ⟨rfl, hz⟩
   have hB := hB.trans (hz.mono hB.size)
   clear c0 c1
   by_cases h40 : q ≤ 40
   ·have e1 : decide ((q : Int) ≤ 40) = true := decide_eq_true (by omega)
    cases hr : rightS nm cs
    ·go_wp2
     exact HPG.out _ false true hr.symm (decide_eq_true h40).symm HA.out hB
    ·go_wp2
     exact HPG.out _ true true hr.symm (decide_eq_true h40).symm HA.out hB
   ·have e1 : decide ((q : Int) ≤ 40) = false := decide_eq_false (by omega)
    cases hr : rightS nm cs
    ·go_wp2
     exact HPG.out _ false false hr.symm (decide_eq_false h40).symm HA.out hB
    ·go_wp2
     exact HPG.out _ true false hr.symm (decide_eq_false h40).symm HA.out hB
end Go.Proofs.YtpnnkhpokangfaaDoor.Ti
