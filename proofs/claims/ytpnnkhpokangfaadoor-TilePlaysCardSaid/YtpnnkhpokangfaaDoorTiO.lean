/- TileFills: whatever row and split, walked. -/
import Derived.Test.YtpnnkhpokangfaaDoorTiM
namespace Go.Proofs.YtpnnkhpokangfaaDoor.Ti
open Go.RowKit Pac Va Sc Mi Sp Lex

/-- A law of tiles: the schema's variable, the tile's. -/
structure TiB (w : World) (g gt mc cp : Nat) (nm : ByteArray) (A : Option Addr) (cs : List C) (t : TV) (r : R) (W : World) : Prop where
 b : Below g w W
 x : Box2 W g (.string nm) (.slice A mc cp)
 v : Sc.Box3 W gt (.slice t.A t.n t.c) (.int .i64 t.m) (.slice t.B t.n t.d)
 t : HasT cs W (fun b => b ≠ gt) t r
 e : w.heap.size = g
 l : g < gt
section
variable {w W W' : World} {g gt mc cp : Nat} {nm : ByteArray} {A : Option Addr} {cs : List C} {t u : TV} {r q : R}
theorem TiB.below (h : TiB w g gt mc cp nm A cs t r W) (hb : Below W.heap.size W W') : TiB w g gt mc cp nm A cs t r W' :=
 ⟨h.b.trans (hb.mono (by have := h.x.lt; omega)), h.x.below hb h.x.lt, h.v.below hb h.v.lt, h.t.below hb (Nat.le_refl _), h.e, h.l⟩
theorem TiB.sch (h : TiB w g gt mc cp nm A cs t r W) (hS : InS w A mc cp nm cs) (hr : rightS nm cs = true) : HasSch W A mc cp nm cs := (hS.below (B := g) h.b (by rw [h.e]; exact Nat.le_refl _)).sch hr
theorem TiB.hX (h : TiB w g gt mc cp nm A cs t r W) : ∀ b, W.heap.size ≤ b → b ≠ gt := fun b hb => by have := h.v.lt; omega
/-- Another tile is put into the variable. -/
theorem TiB.put (h : TiB w g gt mc cp nm A cs t r W) (hU : HasT cs W (fun b => b ≠ gt) u q) (hW : ((W.setCell ⟨gt, 0, none⟩ (.slice u.A u.n u.c)).setCell ⟨gt, 1, none⟩ (.int .i64 u.m)).setCell ⟨gt, 2, none⟩ (.slice u.B u.n u.d) = W') : TiB w g gt mc cp nm A cs u q W' := by
 subst hW
 have hl := h.l
 have hb := bar_put W gt (.slice u.A u.n u.c) (.int .i64 u.m) (.slice u.B u.n u.d)
 refine ⟨((h.b.setCell (p := ⟨gt, 0, none⟩) (by show g ≤ gt; omega) _).setCell (p := ⟨gt, 1, none⟩) (by show g ≤ gt; omega) _).setCell (p := ⟨gt, 2, none⟩) (by show g ≤ gt; omega) _, h.x.bar hb (by omega), box3_put h.v _ _ _, hU.bar hb (fun h => h rfl), h.e, h.l⟩
end
/-- So many places, from the first one on, are taken by one row. -/
structure Filled (lay : List (List Int)) (row : List V) (q : Nat) (r : R) : Prop where
 l : r.l = lay
 f : ∀ j, j < 8 → r.f j = decide (j < q)
 m : ∀ j, j < q → j < 8 → r.M[j]? = some row
theorem Filled.next {cs : List C} {lay : List (List Int)} {row : List V} {q : Nat} {r : R} (h : Filled lay row q r) (ht : Tile cs r) (hq : q < 8) (hc : Ro.checkE cs row = 0) :
  ∃ r', addR cs r row = (r', (q : Int), 0) ∧ Filled lay row (q + 1) r' := by
 have hf : freeO r.f = some q := free_at hq (by rw [h.f q hq]; simp) (fun j hj => by rw [h.f j (by omega)]; simpa using hj)
 refine ⟨⟨r.l, fun j => if j = q then true else r.f j, r.M.set q row⟩, ?_, h.l, fun j hj => ?_, fun j hj hj8 => ?_⟩
 ·unfold addR
  rw [if_neg (fun h => h hc), hf]
 ·show (if j = q then true else r.f j) = decide (j < q + 1)
  by_cases e : j = q
  ·rw [if_pos e]
   simp [e]
  ·rw [if_neg e, h.f j hj]
   have : (j < q) = (j < q + 1) := propext ⟨fun h => by omega, fun h => by omega⟩
   simp only [this]
 ·show (r.M.set q row)[j]? = some row
  by_cases e : j = q
  ·subst e
   rw [List.getElem?_set_self (by rw [ht.m.len]; exact hj8)]
  ·rw [List.getElem?_set_ne (Ne.symm e)]
   exact h.m j (by omega) hj8
theorem Filled.full {cs : List C} {lay : List (List Int)} {row : List V} {q : Nat} {r : R} (h : Filled lay row q r) (hq : 8 ≤ q) (hc : Ro.checkE cs row = 0) : addR cs r row = (r, 0, 9) ∧ Filled lay row (q + 1) r := by
 have hf : freeO r.f = none := free_all fun j hj => by rw [h.f j hj]; simp; omega
 refine ⟨?_, h.l, fun j hj => ?_, fun j hj hj8 => h.m j (by omega) hj8⟩
 ·unfold addR
  rw [if_neg (fun h => h hc), hf]
 ·rw [h.f j hj]
  have h1 : j < q := by omega
  have h2 : j < q + 1 := by omega
  simp [h1, h2]
theorem Filled.free {lay : List (List Int)} {row : List V} {q : Nat} {r : R} (h : Filled lay row q r) (hq : 8 ≤ q) : freeI r.f = -1 := by
 unfold freeI
 rw [free_all fun j hj => by rw [h.f j hj]; simp; omega]
theorem Filled.row {lay : List (List Int)} {row : List V} {q k : Nat} {r : R} (h : Filled lay row q r) (hq : 8 ≤ q) (hk : k < 8) : rowR r (k : Int) = some row := by
 have h1 : takenB r (k : Int) = true := by
  unfold takenB
  rw [Int.toNat_natCast, h.f k hk]
  simp
  omega
 unfold rowR
 rw [if_pos h1, Int.toNat_natCast]
 exact h.m k (by omega) hk
end Go.Proofs.YtpnnkhpokangfaaDoor.Ti
