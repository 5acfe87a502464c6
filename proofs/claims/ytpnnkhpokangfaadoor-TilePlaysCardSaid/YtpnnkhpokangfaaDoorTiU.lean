/- TileModel: eight rows in a list, in memory. -/
import Derived.Test.YtpnnkhpokangfaaDoorTiQ
import Derived.Deep.AppendLies
import Derived.Laws.OwnMore
import Derived.Deep.MidRow
namespace Go.Proofs.YtpnnkhpokangfaaDoor.Ti
open Go.RowKit Pac Va Sc Mi Sp Lex

def Xm (gt gr : Nat) : Nat → Prop := fun b => b ≠ gt ∧ b ≠ gr
/-- A row's slice: nothing, or a list. -/
structure RowAt (W : World) (X : Nat → Prop) (n : Nat) (v : Value) (b : Bool) (row : List V) : Prop where
 no : b = false → v = .slice none 0 0
 yes : b = true → ∃ bk o c, v = .slice (some ⟨bk, o, none⟩) n c ∧ row.length = n ∧ HasVx W X (some ⟨bk, o, none⟩) row
section
variable {W W' : World} {X : Nat → Prop} {n B g : Nat} {v : Value} {b : Bool} {row : List V}
theorem RowAt.below (h : RowAt W X n v b row) (hb : Below B W W') (hB : W.heap.size ≤ B) : RowAt W' X n v b row :=
 ⟨h.no, fun e => by obtain ⟨bk, o, c, e1, e2, e3⟩ := h.yes e; exact ⟨bk, o, c, e1, e2, e3.below hb hB⟩⟩
theorem RowAt.bar (h : RowAt W X n v b row) (hb : Bar g W W') (hg : ¬ X g) : RowAt W' X n v b row :=
 ⟨h.no, fun e => by obtain ⟨bk, o, c, e1, e2, e3⟩ := h.yes e; exact ⟨bk, o, c, e1, e2, lbar e3.1 e3.2 hb hg, e3.2⟩⟩
end
/-- What the law holds: the schema's variable, the tile's, the rows'. -/
structure MoB (w : World) (g gt gr mc cp : Nat) (nm : ByteArray) (A : Option Addr) (cs : List C) (t : TV) (r : R) (rv : Nat → Value) (q : R) (W : World) : Prop where
 b : Below g w W
 x : Box2 W g (.string nm) (.slice A mc cp)
 v : Sc.Box3 W gt (.slice t.A t.n t.c) (.int .i64 t.m) (.slice t.B t.n t.d)
 t : HasT cs W (Xm gt gr) t r
 c : ∀ k, k < 8 → W.cell? ⟨gr, k, none⟩ = some (rv k)
 f : ∀ k, W.frozen? ⟨gr, k, none⟩ = false
 r : ∀ k, k < 8 → RowAt W (Xm gt gr) mc (rv k) (q.f k) ((q.M[k]?).getD [])
 e : w.heap.size = g
 l : g < gt
 l2 : gt < gr
section
variable {w W W' : World} {g gt gr mc cp : Nat} {nm : ByteArray} {A : Option Addr} {cs : List C} {t u : TV} {r r' q q' : R} {rv : Nat → Value}
theorem MoB.gl (h : MoB w g gt gr mc cp nm A cs t r rv q W) : gr < W.heap.size := World.block_lt_of_cell? W _ (h.c 0 (by decide))
theorem MoB.below (h : MoB w g gt gr mc cp nm A cs t r rv q W) (hb : Below W.heap.size W W') : MoB w g gt gr mc cp nm A cs t r rv q W' :=
 ⟨h.b.trans (hb.mono (by have := h.x.lt; omega)), h.x.below hb h.x.lt, h.v.below hb h.v.lt, h.t.below hb (Nat.le_refl _), fun k hk => (hb.cell (p := ⟨gr, k, none⟩) h.gl).trans (h.c k hk), fun k => (hb.frozen (p := ⟨gr, k, none⟩) h.gl).trans (h.f k), fun k hk => (h.r k hk).below hb (Nat.le_refl _), h.e, h.l, h.l2⟩
theorem MoB.sch (h : MoB w g gt gr mc cp nm A cs t r rv q W) (hS : InS w A mc cp nm cs) (hr : rightS nm cs = true) : HasSch W A mc cp nm cs := (hS.below (B := g) h.b (by rw [h.e]; exact Nat.le_refl _)).sch hr
theorem MoB.hX (h : MoB w g gt gr mc cp nm A cs t r rv q W) : ∀ b, W.heap.size ≤ b → Xm gt gr b := fun b hb => ⟨by have := h.v.lt; omega, by have := h.gl; omega⟩
theorem MoB.old (h : MoB w g gt gr mc cp nm A cs t r rv q W) : ∀ b, b < g → Xm gt gr b := fun b hb => ⟨by have := h.l; omega, by have := h.l; have := h.l2; omega⟩
/-- Another tile is put into its variable. -/
theorem MoB.put (h : MoB w g gt gr mc cp nm A cs t r rv q W) (hU : HasT cs W (Xm gt gr) u r') (hW : ((W.setCell ⟨gt, 0, none⟩ (.slice u.A u.n u.c)).setCell ⟨gt, 1, none⟩ (.int .i64 u.m)).setCell ⟨gt, 2, none⟩ (.slice u.B u.n u.d) = W') : MoB w g gt gr mc cp nm A cs u r' rv q W' := by
 subst hW
 have hl := h.l
 have hl2 := h.l2
 have hb := bar_put W gt (.slice u.A u.n u.c) (.int .i64 u.m) (.slice u.B u.n u.d)
 have hx : ¬ Xm gt gr gt := fun h => h.1 rfl
 refine ⟨((h.b.setCell (p := ⟨gt, 0, none⟩) (by show g ≤ gt; omega) _).setCell (p := ⟨gt, 1, none⟩) (by show g ≤ gt; omega) _).setCell (p := ⟨gt, 2, none⟩) (by show g ≤ gt; omega) _, h.x.bar hb (by omega), box3_put h.v _ _ _, hU.bar hb hx, fun k hk => (hb.cell (p := ⟨gr, k, none⟩) h.gl (by show gr ≠ gt; omega)).trans (h.c k hk), fun k => (hb.frozen (p := ⟨gr, k, none⟩) h.gl (by show gr ≠ gt; omega)).trans (h.f k), fun k hk => (h.r k hk).bar hb hx, h.e, h.l, h.l2⟩
/-- Another slice is put into the rows. -/
theorem MoB.setR (h : MoB w g gt gr mc cp nm A cs t r rv q W) {k : Nat} {val : Value} (hrow : RowAt W (Xm gt gr) mc val (q'.f k) ((q'.M[k]?).getD [])) (hq : ∀ j, j < 8 → j ≠ k → q'.f j = q.f j ∧ q'.M[j]? = q.M[j]?) (hk : k < 8) :
  MoB w g gt gr mc cp nm A cs t r (fun j => if j = k then val else rv j) q' (W.setCell ⟨gr, k, none⟩ val) := by
 have hl := h.l
 have hl2 := h.l2
 have hb := (Bar.refl gr W).setCell k val
 have hx : ¬ Xm gt gr gr := fun h => h.2 rfl
 refine ⟨h.b.setCell (p := ⟨gr, k, none⟩) (by show g ≤ gr; omega) _, h.x.bar hb (by omega), h.v.bar hb (by omega), h.t.bar hb hx, fun j hj => ?_, fun j => by simp [h.f], fun j hj => ?_, h.e, h.l, h.l2⟩
 ·by_cases e : j = k
  ·subst e
   show _ = some (if j = j then val else rv j)
   rw [if_pos rfl]
   exact World.cell?_setCell_same _ _ _ (h.c j hj)
  ·show _ = some (if j = k then val else rv j)
   rw [if_neg e, World.cell?_setCell_other _ _ _ _ (fun e2 => by injection e2 with _ e3; exact e e3.symm)]
   exact h.c j hj
 ·by_cases e : j = k
  ·subst e
   show RowAt _ _ _ (if j = j then val else rv j) _ _
   rw [if_pos rfl]
   exact hrow.bar hb hx
  ·show RowAt _ _ _ (if j = k then val else rv j) _ _
   rw [if_neg e, (hq j hj e).1, (hq j hj e).2]
   exact (h.r j hj).bar hb hx
end
theorem MoB.new {w W : World} {g gt gr mc cp n : Nat} {nm : ByteArray} {A : Option Addr} {cs : List C} {t : TV} {ls : List (List Int)} (hg : w.heap.size = g) (hl : g < gt) (hgr : W.heap.size = gr) (hB : Below g w W) (hx : Box2 W g (.string nm) (.slice A mc cp)) (hv : Sc.Box3 W gt (.slice t.A t.n t.c) (.int .i64 t.m) (.slice t.B t.n t.d)) (hT : HasT cs W (fun b => b ≠ gt) t (newR ls n)) :
  MoB w g gt gr mc cp nm A cs t (newR ls n) (fun _ => .slice none 0 0) (newR ls n) (W.alloc (.cells #[.slice none 0 0, .slice none 0 0, .slice none 0 0, .slice none 0 0, .slice none 0 0, .slice none 0 0, .slice none 0 0, .slice none 0 0] 56)) := by
 have hn := (Below.refl W.heap.size W).alloc (Nat.le_refl _) (.cells #[.slice none 0 0, .slice none 0 0, .slice none 0 0, .slice none 0 0, .slice none 0 0, .slice none 0 0, .slice none 0 0, .slice none 0 0] 56)
 have h8 := heap_alloc_new W (.cells #[.slice none 0 0, .slice none 0 0, .slice none 0 0, .slice none 0 0, .slice none 0 0, .slice none 0 0, .slice none 0 0, .slice none 0 0] 56)
 rw [hgr] at h8
 refine ⟨hB.trans (hn.mono (by have := hx.lt; omega)), hx.below hn hx.lt, hv.below hn hv.lt, (hT.old (Y := fun b => b ≠ gr) (fun b hb => by omega)).below hn (Nat.le_refl _), fun k hk => ?_, fun k => by simp [World.frozen?, h8], fun k hk => ⟨fun _ => rfl, fun h => by cases h⟩, hg, hl, by have := hv.lt; omega⟩
 rw [cell_of_row _ gr k _ _ (0, 0) h8]
 match k, hk with
 | 0, _ => rfl
 | 1, _ => rfl
 | 2, _ => rfl
 | 3, _ => rfl
 | 4, _ => rfl
 | 5, _ => rfl
 | 6, _ => rfl
 | 7, _ => rfl
/-- The first free one, from place q on. -/
def FreeP (f : Nat → Bool) (q : Nat) (x : Int) : Prop := (x = -1 ∧ ∀ j, q ≤ j → j < 8 → f j = true) ∨ ∃ i, q ≤ i ∧ i < 8 ∧ x = (i : Int) ∧ f i = false ∧ ∀ j, q ≤ j → j < i → f j = true
theorem FreeP.start (f : Nat → Bool) : FreeP f 8 (-1) := Or.inl ⟨rfl, fun j h1 h2 => by omega⟩
theorem FreeP.no {f : Nat → Bool} {q : Nat} {x : Int} (h : FreeP f (q + 1) x) (hf : f q = true) : FreeP f q x := by
 rcases h with ⟨h1, h2⟩ | ⟨i, h1, h2, h3, h4, h5⟩
 ·exact Or.inl ⟨h1, fun j hj hj8 => if e : j = q then by rw [e]; exact hf else h2 j (by omega) hj8⟩
 ·exact Or.inr ⟨i, by omega, h2, h3, h4, fun j hj hji => if e : j = q then by rw [e]; exact hf else h5 j (by omega) hji⟩
theorem FreeP.yes {f : Nat → Bool} {q : Nat} (hf : f q = false) (hq : q < 8) : FreeP f q (q : Int) := Or.inr ⟨q, Nat.le_refl _, hq, rfl, hf, fun j h1 h2 => by omega⟩
theorem FreeP.out {f : Nat → Bool} {x : Int} (h : FreeP f 0 x) : (freeO f = none ∧ x = -1) ∨ ∃ i, freeO f = some i ∧ x = (i : Int) ∧ i < 8 := by
 rcases h with ⟨h1, h2⟩ | ⟨i, _, h2, h3, h4, h5⟩
 ·exact Or.inl ⟨free_all fun j hj => h2 j (Nat.zero_le _) hj, h1⟩
 ·exact Or.inr ⟨i, free_at h2 h4 (fun j hj => h5 j (Nat.zero_le _) hj), h3, h2⟩
/-- An act in a variable of its own. -/
structure BoxA (W : World) (ga : Nat) (x : AV) (a : Ac) : Prop where
 c0 : W.cell? ⟨ga, 0, none⟩ = some (.int .i64 a.k)
 c1 : W.cell? ⟨ga, 1, none⟩ = some (.int .i64 a.s)
 c2 : W.cell? ⟨ga, 2, none⟩ = some (.int .i64 a.c)
 c3 : W.cell? ⟨ga, 3, none⟩ = some (.slice x.A x.n x.c)
 c4 : W.cell? ⟨ga, 4, none⟩ = some (.int .i64 a.v.k)
 c5 : W.cell? ⟨ga, 5, none⟩ = some (.int .i64 a.v.n)
 c6 : W.cell? ⟨ga, 6, none⟩ = some (.string a.v.s)
theorem BoxA.lt {W : World} {ga : Nat} {x : AV} {a : Ac} (h : BoxA W ga x a) : ga < W.heap.size := World.block_lt_of_cell? W _ h.c0
theorem BoxA.below {W W' : World} {ga : Nat} {x : AV} {a : Ac} (h : BoxA W ga x a) (hb : Below W.heap.size W W') : BoxA W' ga x a :=
 ⟨(hb.cell (p := ⟨ga, 0, none⟩) h.lt).trans h.c0, (hb.cell (p := ⟨ga, 1, none⟩) h.lt).trans h.c1, (hb.cell (p := ⟨ga, 2, none⟩) h.lt).trans h.c2, (hb.cell (p := ⟨ga, 3, none⟩) h.lt).trans h.c3, (hb.cell (p := ⟨ga, 4, none⟩) h.lt).trans h.c4, (hb.cell (p := ⟨ga, 5, none⟩) h.lt).trans h.c5, (hb.cell (p := ⟨ga, 6, none⟩) h.lt).trans h.c6⟩
theorem BoxA.bar {W W' : World} {ga g : Nat} {x : AV} {a : Ac} (h : BoxA W ga x a) (hb : Bar g W W') (hg : ga ≠ g) : BoxA W' ga x a :=
 ⟨(hb.cell (p := ⟨ga, 0, none⟩) h.lt hg).trans h.c0, (hb.cell (p := ⟨ga, 1, none⟩) h.lt hg).trans h.c1, (hb.cell (p := ⟨ga, 2, none⟩) h.lt hg).trans h.c2, (hb.cell (p := ⟨ga, 3, none⟩) h.lt hg).trans h.c3, (hb.cell (p := ⟨ga, 4, none⟩) h.lt hg).trans h.c4, (hb.cell (p := ⟨ga, 5, none⟩) h.lt hg).trans h.c5, (hb.cell (p := ⟨ga, 6, none⟩) h.lt hg).trans h.c6⟩
theorem BoxA.new (W : World) (x : AV) (a : Ac) (t : TypeId) : BoxA (W.alloc (.cells #[.int .i64 a.k, .int .i64 a.s, .int .i64 a.c, .slice x.A x.n x.c, .int .i64 a.v.k, .int .i64 a.v.n, .string a.v.s, .slice x.B x.p x.d] t)) W.heap.size x a := by
 constructor <;> simp [go_sem]
section
variable {cs : List C} {r r' : R} {ys ye : Int} {k s c : Int} {row : List V} {v : V} {l : List (List Int)}
theorem does_0 (h : doesR cs r ⟨0, s, c, row, v, l⟩ = (r', ys, ye)) : addR cs r row = (r', ys, ye) := by
 unfold doesR at h
 rw [if_pos rfl] at h
 exact h
theorem does_1 (h : doesR cs r ⟨1, s, c, row, v, l⟩ = (r', ys, ye)) : setR cs r s c v = (r', ye) := by
 unfold doesR at h
 dsimp only at h
 rw [if_neg (by decide), if_pos rfl] at h
 injection h with h1 h2
 injection h2 with _ h3
 rw [← h1, ← h3]
theorem does_2 (h : doesR cs r ⟨2, s, c, row, v, l⟩ = (r', ys, ye)) : dropR cs r s = (r', ye) := by
 unfold doesR at h
 dsimp only at h
 rw [if_neg (by decide), if_neg (by decide), if_pos rfl] at h
 injection h with h1 h2
 injection h2 with _ h3
 rw [← h1, ← h3]
/-- Nothing changes in the rows. -/
structure SameRows (q q' : R) : Prop where
 f : q'.f = q.f
 m : q'.M = q.M
end
theorem MoB.rows {w W : World} {g gt gr mc cp : Nat} {nm : ByteArray} {A : Option Addr} {cs : List C} {t : TV} {r q q' : R} {rv : Nat → Value} (h : MoB w g gt gr mc cp nm A cs t r rv q W) (hs : SameRows q q') : MoB w g gt gr mc cp nm A cs t r rv q' W :=
 ⟨h.b, h.x, h.v, h.t, h.c, h.f, fun k hk => by rw [hs.f, hs.m]; exact h.r k hk, h.e, h.l, h.l2⟩
theorem news_of {α : Type} {R : α → List Value} {k : Nat} (hk : 0 < k) (hR : ∀ x, (R x).length = k) {W : World} {lo b o : Nat} {l : List α} (h : Li.HasL R k W lo (some ⟨b, o, none⟩) l) : ∀ (t : Nat) (u : Value), (Li.cellsL R l)[t]? = some u → W.cell? ((⟨b, o, none⟩ : Addr).add t) = some u := fun t u hu => by
 have ht := (List.getElem?_eq_some_iff.1 hu).1
 rw [Li.cellsL_len hR] at ht
 have htk : t / k < l.length := Nat.div_lt_of_lt_mul (by rw [Nat.mul_comm]; exact ht)
 have hx : l[t / k]? = some (l[t / k]'htk) := List.getElem?_eq_getElem _
 generalize (l[t / k]'htk) = x at hx
 have hmk : t % k < (R x).length := by rw [hR]; exact Nat.mod_lt _ hk
 have hi : (R x)[t % k]? = some ((R x)[t % k]'hmk) := List.getElem?_eq_getElem _
 generalize ((R x)[t % k]'hmk) = y at hi
 have e : t / k * k + t % k = t := by rw [Nat.mul_comm]; exact Nat.div_add_mod t k
 have h1 := Li.cellsL_at hR l _ x hx _ y hi
 rw [e, hu] at h1
 injection h1 with h1
 subst h1
 obtain ⟨b', o', hA, _, _, hc⟩ := h (fun e => by rw [e] at hx; simp at hx)
 injection hA with hA
 injection hA with e1 e2
 subst e1 e2
 have h2 := hc _ x hx _ u hi
 rw [Nat.add_assoc, e] at h2
 have hadd : (⟨b, o, none⟩ : Addr).add t = ⟨b, o + t, none⟩ := by unfold Addr.add; split <;> simp_all
 rw [hadd]
 exact h2
/-- A column in memory. -/
structure ColAt (W : World) (b i : Nat) (c : C) : Prop where
 lt : b < W.heap.size
 h : W.cell? ⟨b, i, none⟩ = some (.string c.n) ∧ W.cell? ⟨b, i + 1, none⟩ = some (.int .i64 c.k) ∧ W.cell? ⟨b, i + 2, none⟩ = some (.bool c.z)
theorem ColAt.c0 {W : World} {b i : Nat} {c : C} (h : ColAt W b i c) : W.cell? ⟨b, i, none⟩ = some (.string c.n) := h.h.1
theorem ColAt.c1 {W : World} {b i : Nat} {c : C} (h : ColAt W b i c) : W.cell? ⟨b, i + 1, none⟩ = some (.int .i64 c.k) := h.h.2.1
theorem ColAt.c2 {W : World} {b i : Nat} {c : C} (h : ColAt W b i c) : W.cell? ⟨b, i + 2, none⟩ = some (.bool c.z) := h.h.2.2
theorem ColAt.below {W W' : World} {b i : Nat} {c : C} (h : ColAt W b i c) (hb : Below W.heap.size W W') : ColAt W' b i c :=
 ⟨Nat.lt_of_lt_of_le h.lt hb.size, (hb.cell (p := ⟨b, i, none⟩) h.lt).trans h.c0, (hb.cell (p := ⟨b, i + 1, none⟩) h.lt).trans h.c1, (hb.cell (p := ⟨b, i + 2, none⟩) h.lt).trans h.c2⟩
end Go.Proofs.YtpnnkhpokangfaaDoor.Ti
