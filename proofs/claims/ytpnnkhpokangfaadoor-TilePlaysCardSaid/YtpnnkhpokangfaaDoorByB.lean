/- append of a text to bytes of one's own, and where the new slice lies; bytes as values; three rows of bytes beside each other. -/
import Derived.Test.YtpnnkhpokangfaaDoorMgA
import Derived.Deep.AppendLies
import Derived.Lib.AppendStr
namespace Go.Proofs.YtpnnkhpokangfaaDoor.Mi
open Go.RowKit Go.Lib Pac Va Go.Proofs.YtpnnkhpokangfaaDoor.Or

section
variable {P : Program} (w : World)
theorem run_append_string_lies (base : Nat) (t u ty e : TypeId) (i : TypeInfo) (ht : P.underlying t = some (.slice e)) (hu : P.underlying u = some .string) (hi : P.info? e = some i) (hz : i.zero = some (.int .u8 0)) (hsize : i.size = 1) (hby : i.bytes = 1)
  (v : Value) (n : Nat) (xs : List Value) (hown : w.ownsRow base e 1 v n xs) (s : ByteArray) (hs : n + s.size ≤ 1000000000) (hbase : base ≤ w.heap.size) :
  ∃ v' w', (Builtin.append_ #[t, u] ty #[v, .string s]).run P w = .ok v' w' ∧ w'.ownsRow base e 1 v' (n + s.size) (xs ++ strCells s) ∧ w.grownBy w' v.ownBlock ∧ (v'.ownBlock = v.ownBlock ∨ v'.ownBlock = some w.heap.size) := by
 obtain ⟨v', w', hr, h1, h2, h3⟩ := run_append_own_string (P := P) w base t u ty e i ht hu hi hz hsize hby v n xs hown s (by unfold maxLen; omega) (by omega) hbase
 refine ⟨v', w', hr, h1, h2, ?_⟩
 rcases hown.2 with ⟨rfl, rfl⟩ | ⟨g, cap, cur, rfl, _, hg, hnc, _, hcs, _⟩
 ·by_cases h0 : s.size = 0
  ·exact Or.inl (by rw [h3.2 ⟨rfl, h0⟩])
  ·have hx := run_append_nil_string (P := P) w t u ty e i (.int .u8 0) ht hu hi hz s (by omega) (by omega) (by rw [hby]; omega)
   rw [hr] at hx
   injection hx with hx _
   exact Or.inr (by rw [hx]; rfl)
 ·by_cases hroom : n + s.size ≤ cap
  ·have hx := run_append_room_string (P := P) w t u ty e i ht hu hi hsize g n cap cur hg s hroom (by omega)
   rw [hr] at hx
   injection hx with hx _
   exact Or.inl (by rw [hx]; rfl)
  ·have hx := run_append_grow_string (P := P) w t u ty e i (.int .u8 0) ht hu hi hz ⟨g, 0, none⟩ n cap xs (by rw [hsize]; simpa using hown.1) (hown.cells (g := g) rfl) s (by omega) (by omega) (by rw [hby]; exact growslice_fits (by omega) (by omega))
   rw [hr] at hx
   injection hx with hx _
   exact Or.inr (by rw [hx]; rfl)
theorem wpList_append_string_lies {ops : Array Oper} {rest : List Oper} {o : Oper} {a : Act} {Q : Exit → Act → World → Prop} (hgd : o.guard = none) (sl x : Operand) (t u : TypeId)
  (ho : o.op = .call { callee := .builtin .append, args := #[sl, x], argTypes := #[t, u] })
  (base : Nat) (e : TypeId) (i : TypeInfo) (ht : P.underlying t = some (.slice e)) (hu : P.underlying u = some .string) (hi : P.info? e = some i) (hz : i.zero = some (.int .u8 0)) (hsize : i.size = 1) (hby : i.bytes = 1)
  (v : Value) (n : Nat) (xs : List Value) (hs : a.eval sl = v) (hown : w.ownsRow base e 1 v n xs) (s : ByteArray) (hx : a.eval x = .string s) (hsz : n + s.size ≤ 1000000000) (hbase : base ≤ w.heap.size)
  (h : ∀ v' w', w'.ownsRow base e 1 v' (n + s.size) (xs ++ strCells s) → w.grownBy w' v.ownBlock → (v'.ownBlock = v.ownBlock ∨ v'.ownBlock = some w.heap.size) → wpList P ops Q rest (a.put o.dst v') w') : wpList P ops Q (o :: rest) a w := by
 refine wpList_plain hgd fun K hK => ?_
 obtain ⟨v', w', hr, h2, h3, h4⟩ := run_append_string_lies (P := P) w base t u o.type e i ht hu hi hz hsize hby v n xs hown s hsz hbase
 unfold Oper.wp execOp
 simp only [ho, resolve, invoke, builtin, Sem.run_bind, Sem.run_pure, Result.andThen_ok, List.map_toArray, List.map_cons, List.map_nil, hs, hx, hr]
 exact hK _ _ (h v' w' h2 h3 h4)
end
theorem nums_app (a b : List UInt8) : nums (a ++ b) = nums a ++ nums b := by unfold nums bys; simp
theorem nums_str (s : ByteArray) : strCells s = nums s.data.toList := by
 unfold strCells nums bys
 rw [List.map_map]
 rfl
theorem nums_one (l : List UInt8) : ∀ u ∈ nums l, u.oneCell' = true := fun u hu => by
 unfold nums at hu
 obtain ⟨x, _, rfl⟩ := List.mem_map.1 hu
 rfl
theorem own_form {w : World} {B : Nat} {e : TypeId} {size : Nat} {v : Value} {n : Nat} {xs : List Value} (h : w.ownsRow B e size v n xs) : ∃ A c, v = .slice A n c := by
 rcases h.2 with ⟨rfl, rfl⟩ | ⟨g, cap, cur, rfl, _⟩
 ·exact ⟨none, 0, rfl⟩
 ·exact ⟨_, cap, rfl⟩
theorem own_other' {w w' : World} {B : Nat} {e : TypeId} {size : Nat} {v : Value} {n : Nat} {xs : List Value} {row : Option Nat} (h : w.ownsRow B e size v n xs) (hg : w.grownBy w' row) (hne : ∀ b, v.ownBlock = some b → row ≠ some b) : w'.ownsRow B e size v n xs := by
 refine ⟨h.1, ?_⟩
 rcases h.2 with h2 | ⟨g, cap, cur, rfl, e2, e3, r⟩
 ·exact Or.inl h2
 ·refine Or.inr ⟨g, cap, cur, rfl, e2, ?_, r⟩
  rw [hg.block g (Array.getElem?_eq_some_iff.1 e3).1 (fun e => hne g rfl e.symm)]
  exact e3
theorem str_own {w : World} {base n : Nat} {v : Value} {l : List UInt8} (hown : w.ownsRow base 5 1 v n (nums l)) : (convert 89 9 v).run Tryd.prog w = .ok (.string ⟨l.toArray⟩) w := by
 have hn : l.length = n := by have := hown.1; unfold nums at this; simpa [bys_len] using this
 have hown1 := hown
 obtain ⟨_, hcase⟩ := hown
 rcases hcase with ⟨rfl, h0⟩ | ⟨g, cap', cur, rfl, _, _, _, _, _, _⟩
 ·have hl : l = [] := List.eq_nil_of_length_eq_zero (by rw [hn]; exact h0)
  subst hl
  exact run_convert_bytes_nil (P := Tryd.prog) w 89 5 Tryd.underlying89 Tryd.underlying5 0 0 9 Tryd.underlying9
 ·rw [run_convert_bytes_arg (P := Tryd.prog) w 89 5 Tryd.underlying89 Tryd.underlying5 g 0 _ cap' (bys l) (by rw [bys_len, hn]) (fun i hi => by
   rw [Nat.zero_add, hown1.cellAt i (by omega)]
   have : i < (bys l).length := by rw [bys_len, hn]; exact hi
   unfold nums
   simp [List.getD, List.getElem?_eq_getElem this]) 9 Tryd.underlying9, strOf_bys]
/-- Marks, and two rows of bytes behind them, each in memory of its own. -/
structure Three (w : World) (base K : Nat) (ml fl hl : List UInt8) (sv hv : Value) : Prop where
 mar : w.ownsRow base 5 1 (.slice (some ⟨base, 0, none⟩) K K) K (nums ml)
 fx : w.ownsRow (base + 1) 5 1 sv fl.length (nums fl)
 hp : w.ownsRow (base + 1) 5 1 hv hl.length (nums hl)
 ne : ∀ b, sv.ownBlock = some b → hv.ownBlock ≠ some b
section
variable {w w' : World} {base K B : Nat} {ml fl hl : List UInt8} {sv hv : Value}
theorem Three.below (h : Three w base K ml fl hl sv hv) (hb : Below B w w') (hB : w.heap.size ≤ B) : Three w' base K ml fl hl sv hv := ⟨Li.own_below h.mar hb hB, Li.own_below h.fx hb hB, Li.own_below h.hp hb hB, h.ne⟩
theorem Three.lt (h : Three w base K ml fl hl sv hv) : base < w.heap.size := (h.mar.lt base rfl).2
theorem Three.fix {l : List UInt8} {g n c : Nat} (h : Three w base K ml fl hl sv hv) (hown : w'.ownsRow (base + 1) 5 1 (.slice (some ⟨g, 0, none⟩) n c) n (nums (fl ++ l))) (hn : n = (fl ++ l).length) (hg : w.grownBy w' sv.ownBlock) (hat : sv.ownBlock = some g ∨ g = w.heap.size) : Three w' base K ml (fl ++ l) hl (.slice (some ⟨g, 0, none⟩) n c) hv := by
 subst hn
 refine ⟨own_other' h.mar hg (fun b e1 e2 => ?_), hown, own_other' h.hp hg (fun b e1 e2 => h.ne b e2 e1), fun b e1 e2 => ?_⟩
 ·have := (h.fx.lt b e2).1
  have e1 : some base = some b := e1
  injection e1 with e1
  omega
 ·have e1 : some g = some b := e1
  injection e1 with e1
  subst e1
  rcases hat with h1 | h1
  ·exact h.ne g h1 e2
  ·have := (h.hp.lt g e2).2
   omega
theorem Three.heap {l : List UInt8} {n : Nat} {hv' : Value} (h : Three w base K ml fl hl sv hv) (hown : w'.ownsRow (base + 1) 5 1 hv' n (nums (hl ++ l))) (hn : n = (hl ++ l).length) (hg : w.grownBy w' hv.ownBlock) (hat : hv'.ownBlock = hv.ownBlock ∨ hv'.ownBlock = some w.heap.size) : Three w' base K ml fl (hl ++ l) sv hv' := by
 subst hn
 refine ⟨own_other' h.mar hg (fun b e1 e2 => ?_), own_other' h.fx hg (fun b e1 e2 => h.ne b e1 e2), hown, fun b e1 e2 => ?_⟩
 ·have := (h.hp.lt b e2).1
  have e1 : some base = some b := e1
  injection e1 with e1
  omega
 ·rcases hat with h1 | h1
  ·exact h.ne b e1 (by rw [← h1]; exact e2)
  ·rw [h1] at e2
   injection e2 with e2
   have := (h.fx.lt b e1).2
   omega
theorem Three.mark (h : Three w base K ml fl hl sv hv) (j : Nat) (b : UInt8) : Three (w.setCell ⟨base, j, none⟩ (.int .u8 (b.toNat : Int))) base K (ml.set j b) fl hl sv hv ∧ w.grownBy (w.setCell ⟨base, j, none⟩ (.int .u8 (b.toNat : Int))) (some base) := by
 have hst := h.mar.stored j (.int .u8 (b.toNat : Int))
 rw [nums_set] at hst
 refine ⟨⟨hst.1, own_other' h.fx hst.2 (fun c e1 e2 => ?_), own_other' h.hp hst.2 (fun c e1 e2 => ?_), h.ne⟩, hst.2⟩
 ·have := (h.fx.lt c e1).1
  have e2 : some base = some c := e2
  injection e2 with e2
  omega
 ·have := (h.hp.lt c e1).1
  have e2 : some base = some c := e2
  injection e2 with e2
  omega
end
end Go.Proofs.YtpnnkhpokangfaaDoor.Mi
