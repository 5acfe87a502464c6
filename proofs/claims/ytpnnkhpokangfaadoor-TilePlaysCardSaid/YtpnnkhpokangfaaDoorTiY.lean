/- TilePlays: two tiles in variables of their own; what the law holds. -/
import Derived.Test.YtpnnkhpokangfaaDoorTiU
import Derived.Test.YtpnnkhpokangfaaDoorMgR
namespace Go.Proofs.YtpnnkhpokangfaaDoor.Ti
open Go.RowKit Pac Va Sc Mi Sp Lex

/-- Not in the two tiles' variables, as far as they are there. -/
def X2 (gx gy : Option Nat) : Nat → Prop := fun b => (∀ k, gx = some k → b ≠ k) ∧ ∀ k, gy = some k → b ≠ k
abbrev BoxT (W : World) (k : Nat) (t : TV) : Prop := Sc.Box3 W k (.slice t.A t.n t.c) (.int .i64 t.m) (.slice t.B t.n t.d)
def tvZ : TV := ⟨none, 0, 0, 0, none, 0⟩
/-- While the two tiles are made: the schema's variable, the split, the tiles, the variables, as far as they are there. -/
structure Two (w : World) (g mc cp : Nat) (nm : ByteArray) (A : Option Addr) (cs : List C) (Ao : Option Addr) (l : List (List Int)) (r : R) (t u : Option TV) (gx gy : Option Nat) (vx vy : TV) (W : World) : Prop where
 b : Below g w W
 x : Box2 W g (.string nm) (.slice A mc cp)
 s : HasSch w A mc cp nm cs
 tb : Tab w
 o : HasSp W (X2 gx gy) Ao l
 t : ∀ v, t = some v → HasT cs W (X2 gx gy) v r
 u : ∀ v, u = some v → HasT cs W (X2 gx gy) v r
 cx : ∀ k, gx = some k → BoxT W k vx
 cy : ∀ k, gy = some k → BoxT W k vy
 ne : ∀ i j, gx = some i → gy = some j → i ≠ j
 lx : ∀ k, gx = some k → g < k
 ly : ∀ k, gy = some k → g < k
 e : w.heap.size = g
section
variable {w W W' : World} {g mc cp : Nat} {nm : ByteArray} {A Ao : Option Addr} {cs : List C} {l : List (List Int)} {r : R} {t u : Option TV} {gx gy : Option Nat} {vx vy : TV}
theorem Two.below (h : Two w g mc cp nm A cs Ao l r t u gx gy vx vy W) (hb : Below W.heap.size W W') : Two w g mc cp nm A cs Ao l r t u gx gy vx vy W' :=
 ⟨h.b.trans (hb.mono (by have := h.x.lt; omega)), h.x.below hb h.x.lt, h.s, h.tb, h.o.below hb (Nat.le_refl _), fun v e => (h.t v e).below hb (Nat.le_refl _), fun v e => (h.u v e).below hb (Nat.le_refl _), fun k e => (h.cx k e).below hb (h.cx k e).lt, fun k e => (h.cy k e).below hb (h.cy k e).lt, h.ne, h.lx, h.ly, h.e⟩
theorem Two.tab (h : Two w g mc cp nm A cs Ao l r t u gx gy vx vy W) : Tab W := h.tb.below (B := g) h.b (Nat.le_of_eq h.e)
theorem Two.x0 (h : Two w g mc cp nm A cs Ao l r t u gx gy vx vy W) : X2 gx gy 1 :=
 ⟨fun k e => by have := h.lx k e; have := h.tb.2; have := h.e; omega, fun k e => by have := h.ly k e; have := h.tb.2; have := h.e; omega⟩
theorem Two.hX (h : Two w g mc cp nm A cs Ao l r t u gx gy vx vy W) : ∀ b, W.heap.size ≤ b → X2 gx gy b := fun b hb =>
 ⟨fun k e => by have := (h.cx k e).lt; omega, fun k e => by have := (h.cy k e).lt; omega⟩
theorem Two.newX {v : TV} (h : Two w g mc cp nm A cs Ao l r none u gx gy vx vy W) (hT : HasT cs W (X2 gx gy) v r) : Two w g mc cp nm A cs Ao l r (some v) u gx gy vx vy W :=
 ⟨h.b, h.x, h.s, h.tb, h.o, fun _ e => by injection e with e; rw [← e]; exact hT, h.u, h.cx, h.cy, h.ne, h.lx, h.ly, h.e⟩
theorem Two.newY {v : TV} (h : Two w g mc cp nm A cs Ao l r t none gx gy vx vy W) (hT : HasT cs W (X2 gx gy) v r) : Two w g mc cp nm A cs Ao l r t (some v) gx gy vx vy W :=
 ⟨h.b, h.x, h.s, h.tb, h.o, h.t, fun _ e => by injection e with e; rw [← e]; exact hT, h.cx, h.cy, h.ne, h.lx, h.ly, h.e⟩
theorem Two.allocX (h : Two w g mc cp nm A cs Ao l r t u none gy vx vy W) : Two w g mc cp nm A cs Ao l r t u (some W.heap.size) gy tvZ vy (W.alloc (.cells #[.slice none 0 0, .int .i64 0, .slice none 0 0] 32)) := by
 have hn := (Below.refl W.heap.size W).alloc (Nat.le_refl _) (.cells #[.slice none 0 0, .int .i64 0, .slice none 0 0] 32)
 have hX : ∀ b, X2 none gy b ∧ b ≠ W.heap.size → X2 (some W.heap.size) gy b := fun b hb => ⟨fun k e => by injection e with e; rw [← e]; exact hb.2, hb.1.2⟩
 have h' := h.below hn
 have hl := h.x.lt
 refine ⟨h'.b, h'.x, h.s, h.tb, ((h.o.old (Y := fun b => b ≠ W.heap.size) (fun b hb => by omega)).mono hX).below hn (Nat.le_refl _), fun v e => (((h.t v e).old (Y := fun b => b ≠ W.heap.size) (fun b hb => by omega)).mono hX).below hn (Nat.le_refl _), fun v e => (((h.u v e).old (Y := fun b => b ≠ W.heap.size) (fun b hb => by omega)).mono hX).below hn (Nat.le_refl _), fun k e => ?_, h'.cy, fun i j e1 e2 => ?_, fun k e => ?_, h.ly, h.e⟩
 ·injection e with e
  rw [← e]
  exact Sc.Box3.new W _ _ _ _
 ·injection e1 with e1
  have := (h.cy j e2).lt
  omega
 ·injection e with e
  omega
theorem Two.allocY (h : Two w g mc cp nm A cs Ao l r t u gx none vx vy W) : Two w g mc cp nm A cs Ao l r t u gx (some W.heap.size) vx tvZ (W.alloc (.cells #[.slice none 0 0, .int .i64 0, .slice none 0 0] 32)) := by
 have hn := (Below.refl W.heap.size W).alloc (Nat.le_refl _) (.cells #[.slice none 0 0, .int .i64 0, .slice none 0 0] 32)
 have hX : ∀ b, X2 gx none b ∧ b ≠ W.heap.size → X2 gx (some W.heap.size) b := fun b hb => ⟨hb.1.1, fun k e => by injection e with e; rw [← e]; exact hb.2⟩
 have h' := h.below hn
 have hl := h.x.lt
 refine ⟨h'.b, h'.x, h.s, h.tb, ((h.o.old (Y := fun b => b ≠ W.heap.size) (fun b hb => by omega)).mono hX).below hn (Nat.le_refl _), fun v e => (((h.t v e).old (Y := fun b => b ≠ W.heap.size) (fun b hb => by omega)).mono hX).below hn (Nat.le_refl _), fun v e => (((h.u v e).old (Y := fun b => b ≠ W.heap.size) (fun b hb => by omega)).mono hX).below hn (Nat.le_refl _), h'.cx, fun k e => ?_, fun i j e1 e2 => ?_, h.lx, fun k e => ?_, h.e⟩
 ·injection e with e
  rw [← e]
  exact Sc.Box3.new W _ _ _ _
 ·injection e2 with e2
  have := (h.cx i e1).lt
  omega
 ·injection e with e
  omega
theorem Two.storeX {k : Nat} (h : Two w g mc cp nm A cs Ao l r t u (some k) gy vx vy W) (v : TV) : Two w g mc cp nm A cs Ao l r t u (some k) gy v vy (((W.setCell ⟨k, 0, none⟩ (.slice v.A v.n v.c)).setCell ⟨k, 1, none⟩ (.int .i64 v.m)).setCell ⟨k, 2, none⟩ (.slice v.B v.n v.d)) := by
 have hb := bar_put W k (.slice v.A v.n v.c) (.int .i64 v.m) (.slice v.B v.n v.d)
 have hl := h.lx k rfl
 have hx : ¬ X2 (some k) gy k := fun h => h.1 k rfl rfl
 refine ⟨((h.b.setCell (p := ⟨k, 0, none⟩) (by show g ≤ k; omega) _).setCell (p := ⟨k, 1, none⟩) (by show g ≤ k; omega) _).setCell (p := ⟨k, 2, none⟩) (by show g ≤ k; omega) _, h.x.bar hb (by omega), h.s, h.tb, h.o.bar hb hx, fun v e => (h.t v e).bar hb hx, fun v e => (h.u v e).bar hb hx, fun i e => ?_, fun j e => (h.cy j e).bar hb (fun e2 => h.ne k j rfl e e2.symm), h.ne, h.lx, h.ly, h.e⟩
 injection e with e
 rw [← e]
 exact box3_put (h.cx k rfl) _ _ _
theorem Two.storeY {k : Nat} (h : Two w g mc cp nm A cs Ao l r t u gx (some k) vx vy W) (v : TV) : Two w g mc cp nm A cs Ao l r t u gx (some k) vx v (((W.setCell ⟨k, 0, none⟩ (.slice v.A v.n v.c)).setCell ⟨k, 1, none⟩ (.int .i64 v.m)).setCell ⟨k, 2, none⟩ (.slice v.B v.n v.d)) := by
 have hb := bar_put W k (.slice v.A v.n v.c) (.int .i64 v.m) (.slice v.B v.n v.d)
 have hl := h.ly k rfl
 have hx : ¬ X2 gx (some k) k := fun h => h.2 k rfl rfl
 refine ⟨((h.b.setCell (p := ⟨k, 0, none⟩) (by show g ≤ k; omega) _).setCell (p := ⟨k, 1, none⟩) (by show g ≤ k; omega) _).setCell (p := ⟨k, 2, none⟩) (by show g ≤ k; omega) _, h.x.bar hb (by omega), h.s, h.tb, h.o.bar hb hx, fun v e => (h.t v e).bar hb hx, fun v e => (h.u v e).bar hb hx, fun j e => (h.cx j e).bar hb (fun e2 => h.ne j k e rfl e2), fun i e => ?_, h.ne, h.lx, h.ly, h.e⟩
 injection e with e
 rw [← e]
 exact box3_put (h.cy k rfl) _ _ _
theorem Two.sch (h : Two w g mc cp nm A cs Ao l r t u gx gy vx vy W) : HasSch W A mc cp nm cs := h.s.below (B := g) h.b (Nat.le_of_eq h.e)
end
/-- What the law holds: the schema's variable, the program's tile's, the document's tile's. -/
structure PlB (w : World) (g gx gy mc cp : Nat) (nm : ByteArray) (A : Option Addr) (cs : List C) (t u : TV) (r q : R) (W : World) : Prop where
 b : Below g w W
 x : Box2 W g (.string nm) (.slice A mc cp)
 vx : BoxT W gx t
 vy : BoxT W gy u
 t : HasT cs W (Xm gx gy) t r
 u : HasT cs W (Xm gx gy) u q
 e : w.heap.size = g
 lx : g < gx
 ly : g < gy
 ne : gx ≠ gy
section
variable {w W W' : World} {g gx gy mc cp : Nat} {nm : ByteArray} {A Ao : Option Addr} {cs : List C} {l : List (List Int)} {t u v : TV} {r q r' : R}
theorem Two.done (h : Two w g mc cp nm A cs Ao l r (some t) (some u) (some gx) (some gy) t u W) : PlB w g gx gy mc cp nm A cs t u r r W :=
 ⟨h.b, h.x, h.cx gx rfl, h.cy gy rfl, (h.t t rfl).mono fun b hb => ⟨hb.1 gx rfl, hb.2 gy rfl⟩, (h.u u rfl).mono fun b hb => ⟨hb.1 gx rfl, hb.2 gy rfl⟩, h.e, h.lx gx rfl, h.ly gy rfl, h.ne gx gy rfl rfl⟩
theorem PlB.below (h : PlB w g gx gy mc cp nm A cs t u r q W) (hb : Below W.heap.size W W') : PlB w g gx gy mc cp nm A cs t u r q W' :=
 ⟨h.b.trans (hb.mono (by have := h.x.lt; omega)), h.x.below hb h.x.lt, h.vx.below hb h.vx.lt, h.vy.below hb h.vy.lt, h.t.below hb (Nat.le_refl _), h.u.below hb (Nat.le_refl _), h.e, h.lx, h.ly, h.ne⟩
theorem PlB.sch (h : PlB w g gx gy mc cp nm A cs t u r q W) (hS : InS w A mc cp nm cs) (hr : rightS nm cs = true) : HasSch W A mc cp nm cs := (hS.below (B := g) h.b (by rw [h.e]; exact Nat.le_refl _)).sch hr
theorem PlB.hX (h : PlB w g gx gy mc cp nm A cs t u r q W) : ∀ b, W.heap.size ≤ b → Xm gx gy b := fun b hb => ⟨by have := h.vx.lt; omega, by have := h.vy.lt; omega⟩
theorem PlB.old (h : PlB w g gx gy mc cp nm A cs t u r q W) : ∀ b, b < g → Xm gx gy b := fun b hb => ⟨by have := h.lx; omega, by have := h.ly; omega⟩
theorem PlB.putX (h : PlB w g gx gy mc cp nm A cs t u r q W) (hU : HasT cs W (Xm gx gy) v r') (hW : ((W.setCell ⟨gx, 0, none⟩ (.slice v.A v.n v.c)).setCell ⟨gx, 1, none⟩ (.int .i64 v.m)).setCell ⟨gx, 2, none⟩ (.slice v.B v.n v.d) = W') : PlB w g gx gy mc cp nm A cs v u r' q W' := by
 subst hW
 have hl := h.lx
 have hb := bar_put W gx (.slice v.A v.n v.c) (.int .i64 v.m) (.slice v.B v.n v.d)
 have hx : ¬ Xm gx gy gx := fun h => h.1 rfl
 exact ⟨((h.b.setCell (p := ⟨gx, 0, none⟩) (by show g ≤ gx; omega) _).setCell (p := ⟨gx, 1, none⟩) (by show g ≤ gx; omega) _).setCell (p := ⟨gx, 2, none⟩) (by show g ≤ gx; omega) _, h.x.bar hb (by omega), box3_put h.vx _ _ _, h.vy.bar hb (Ne.symm h.ne), hU.bar hb hx, h.u.bar hb hx, h.e, h.lx, h.ly, h.ne⟩
theorem PlB.putY (h : PlB w g gx gy mc cp nm A cs t u r q W) (hU : HasT cs W (Xm gx gy) v r') (hW : ((W.setCell ⟨gy, 0, none⟩ (.slice v.A v.n v.c)).setCell ⟨gy, 1, none⟩ (.int .i64 v.m)).setCell ⟨gy, 2, none⟩ (.slice v.B v.n v.d) = W') : PlB w g gx gy mc cp nm A cs t v r r' W' := by
 subst hW
 have hl := h.ly
 have hb := bar_put W gy (.slice v.A v.n v.c) (.int .i64 v.m) (.slice v.B v.n v.d)
 have hx : ¬ Xm gx gy gy := fun h => h.2 rfl
 exact ⟨((h.b.setCell (p := ⟨gy, 0, none⟩) (by show g ≤ gy; omega) _).setCell (p := ⟨gy, 1, none⟩) (by show g ≤ gy; omega) _).setCell (p := ⟨gy, 2, none⟩) (by show g ≤ gy; omega) _, h.x.bar hb (by omega), h.vx.bar hb h.ne, box3_put h.vy _ _ _, h.t.bar hb hx, hU.bar hb hx, h.e, h.lx, h.ly, h.ne⟩
end
/-- An act in a variable of its own, its split too. -/
structure BoxL (W : World) (ga : Nat) (x : AV) (a : Ac) : Prop where
 a : BoxA W ga x a
 c7 : W.cell? ⟨ga, 7, none⟩ = some (.slice x.B x.p x.d)
theorem BoxL.below {W W' : World} {ga : Nat} {x : AV} {a : Ac} (h : BoxL W ga x a) (hb : Below W.heap.size W W') : BoxL W' ga x a := ⟨h.a.below hb, (hb.cell (p := ⟨ga, 7, none⟩) h.a.lt).trans h.c7⟩
theorem BoxL.bar {W W' : World} {ga g : Nat} {x : AV} {a : Ac} (h : BoxL W ga x a) (hb : Bar g W W') (hg : ga ≠ g) : BoxL W' ga x a := ⟨h.a.bar hb hg, (hb.cell (p := ⟨ga, 7, none⟩) h.a.lt hg).trans h.c7⟩
theorem BoxL.new (W : World) (x : AV) (a : Ac) (t : TypeId) : BoxL (W.alloc (.cells #[.int .i64 a.k, .int .i64 a.s, .int .i64 a.c, .slice x.A x.n x.c, .int .i64 a.v.k, .int .i64 a.v.n, .string a.v.s, .slice x.B x.p x.d] t)) W.heap.size x a := ⟨BoxA.new W x a t, by simp [go_sem]⟩
/-- What the deed's tellings hold: two cells, two rows. -/
structure PlR (w : World) (g gx gy ga gc gd mc cp : Nat) (nm : ByteArray) (A : Option Addr) (cs : List C) (t u : TV) (r : R) (x : AV) (a : Ac) (k n : Int) (s : ByteArray) (A1 A2 : Option Addr) (row : List V) (W : World) : Prop where
 p : PlB w g gx gy mc cp nm A cs t u r r W
 a : BoxL W ga x a
 c : Sc.Box3 W gc (.int .i64 k) (.int .i64 n) (.string s)
 d : Sc.Box3 W gd (.int .i64 k) (.int .i64 n) (.string s)
 v1 : Ro.HasV W 0 A1 row
 v2 : Ro.HasV W 0 A2 row
theorem PlR.below {w W W' : World} {g gx gy ga gc gd mc cp : Nat} {nm : ByteArray} {A : Option Addr} {cs : List C} {t u : TV} {r : R} {x : AV} {a : Ac} {k n : Int} {s : ByteArray} {A1 A2 : Option Addr} {row : List V} (h : PlR w g gx gy ga gc gd mc cp nm A cs t u r x a k n s A1 A2 row W) (hb : Below W.heap.size W W') : PlR w g gx gy ga gc gd mc cp nm A cs t u r x a k n s A1 A2 row W' :=
 ⟨h.p.below hb, h.a.below hb, h.c.below hb h.c.lt, h.d.below hb h.d.lt, h.v1.below hb (Nat.le_refl _), h.v2.below hb (Nat.le_refl _)⟩
section
variable {cs : List C} {r r' : R} {ys ye : Int} {k s c : Int} {row : List V} {v : V} {l : List (List Int)}
theorem does_1y (h : doesR cs r ⟨1, s, c, row, v, l⟩ = (r', ys, ye)) : ys = 0 := by
 unfold doesR at h
 dsimp only at h
 rw [if_neg (by decide), if_pos rfl] at h
 injection h with _ h2
 injection h2 with h2 _
 exact h2.symm
theorem does_2y (h : doesR cs r ⟨2, s, c, row, v, l⟩ = (r', ys, ye)) : ys = 0 := by
 unfold doesR at h
 dsimp only at h
 rw [if_neg (by decide), if_neg (by decide), if_pos rfl] at h
 injection h with _ h2
 injection h2 with h2 _
 exact h2.symm
theorem does_3 (h : doesR cs r ⟨3, s, c, row, v, l⟩ = (r', ys, ye)) : ∃ b : Bool, layR cs r l = (r', b) ∧ ys = (if b = true then 1 else 0) ∧ ye = 0 := by
 unfold doesR at h
 dsimp only at h
 rw [if_neg (by decide), if_neg (by decide), if_neg (by decide), if_pos rfl] at h
 injection h with h1 h2
 injection h2 with h2 h3
 exact ⟨(layR cs r l).2, by rw [← h1], h2.symm, h3.symm⟩
theorem does_4 (h : doesR cs r ⟨k, s, c, row, v, l⟩ = (r', ys, ye)) (k0 : ¬ k = 0) (k1 : ¬ k = 1) (k2 : ¬ k = 2) (k3 : ¬ k = 3) : r' = r ∧ ys = 0 ∧ ye = 0 := by
 unfold doesR at h
 dsimp only at h
 rw [if_neg k0, if_neg k1, if_neg k2, if_neg k3] at h
 injection h with h1 h2
 injection h2 with h2 h3
 exact ⟨h1.symm, h2.symm, h3.symm⟩
end
end Go.Proofs.YtpnnkhpokangfaaDoor.Ti
