/- Variables in memory, all at once: what a walk carries. No program. -/
import Derived.Test.YtcgkbcgpnlogoaaGreatDoorMgAB
import Derived.Deep.MidRow
import Derived.Lib.Hide
namespace Go.Proofs.YtcgkbcgpnlogoaaGreatDoor.Fv
open Go.RowKit

/-- Some cells out of cells: k from place o on. -/
inductive Sub : List Value → Nat → Nat → List Value → Prop
 | nil (l : List Value) : Sub l 0 0 []
 | take {c : Value} {l us : List Value} {k : Nat} : Sub l 0 k us → Sub (c :: l) 0 (k + 1) (c :: us)
 | drop {c : Value} {l us : List Value} {o k : Nat} : Sub l o k us → Sub (c :: l) (o + 1) k us
theorem Sub.len {l us : List Value} {o k : Nat} (h : Sub l o k us) : us.length = k := by
 induction h with
 | nil l => rfl
 | take _ ih => simp [ih]
 | drop _ ih => exact ih
theorem Sub.at {l us : List Value} {o k : Nat} (h : Sub l o k us) : ∀ (j : Nat) (v : Value), us[j]? = some v → l[o + j]? = some v := by
 induction h with
 | nil l => intro j v hj; simp at hj
 | take _ ih =>
  intro j v hj
  cases j with
  | zero => simpa using hj
  | succ j =>
   have := ih j v (by simpa using hj)
   rw [Nat.zero_add] at this ⊢
   simpa using this
 | drop _ ih =>
  intro j v hj
  have := ih j v hj
  rw [show ∀ o : Nat, o + 1 + j = o + j + 1 from fun o => by omega]
  simpa using this
/-- Others put over cells from place o on. -/
inductive Put : List Value → Nat → List Value → List Value → Prop
 | nil (l : List Value) : Put l 0 [] l
 | take {c u : Value} {l us l' : List Value} : Put l 0 us l' → Put (c :: l) 0 (u :: us) (u :: l')
 | drop {c : Value} {l us l' : List Value} {o : Nat} : Put l o us l' → Put (c :: l) (o + 1) us (c :: l')
theorem Put.len {l us l' : List Value} {o : Nat} (h : Put l o us l') : l'.length = l.length ∧ o + us.length ≤ l.length := by
 induction h with
 | nil l => simp
 | take _ ih => simp only [List.length_cons]; omega
 | drop _ ih => simp only [List.length_cons]; omega
abbrev V := Nat × TypeId × List Value
/-- The variable g holds these. -/
inductive At : List V → Nat → List Value → Prop
 | head {g : Nat} {t : TypeId} {cs : List Value} {r : List V} : At ((g, t, cs) :: r) g cs
 | tail {g : Nat} {cs : List Value} {x : V} {r : List V} : At r g cs → At (x :: r) g cs
inductive Upd : List V → Nat → Nat → List Value → List V → Prop
 | head {g o : Nat} {t : TypeId} {cs us cs' : List Value} {r : List V} : Put cs o us cs' → Upd ((g, t, cs) :: r) g o us ((g, t, cs') :: r)
 | tail {g o : Nat} {us : List Value} {x : V} {r r' : List V} : Upd r g o us r' → Upd (x :: r) g o us (x :: r')
/-- What is there, and no variable. -/
def Free (L : List Nat) (w : World) (b : Nat) : Prop := b < w.heap.size ∧ b ∉ L
/-- All that is free stays, and is free. -/
structure Ext (L : List Nat) (w : World) (L' : List Nat) (w' : World) : Prop where
 free : ∀ b, Free L w b → Free L' w' b
 block : ∀ b, Free L w b → w'.heap[b]? = w.heap[b]?
theorem Ext.refl (L : List Nat) (w : World) : Ext L w L w := ⟨fun _ h => h, fun _ _ => rfl⟩
theorem Ext.trans {L M N : List Nat} {a b c : World} (h : Ext L a M b) (k : Ext M b N c) : Ext L a N c := ⟨fun i hi => k.free i (h.free i hi), fun i hi => (k.block i (h.free i hi)).trans (h.block i hi)⟩
theorem Ext.of_below {L : List Nat} {w w' : World} (h : Below w.heap.size w w') : Ext L w L w' := ⟨fun _ hb => ⟨Nat.lt_of_lt_of_le hb.1 h.size, hb.2⟩, fun _ hb => h.block _ hb.1⟩
abbrev Fact := List Nat → World → Prop
structure Fr (w0 W : World) (vs : List V) (Φ : Fact) : Prop where
 B : Below w0.heap.size w0 W
 at_ : ∀ x ∈ vs, w0.heap.size ≤ x.1 ∧ W.heap[x.1]? = some (.cells x.2.2.toArray x.2.1 (0, 0))
 nd : (vs.map (·.1)).Pairwise (fun a b => b < a)
 sep : ∀ L' W', Ext (vs.map (·.1)) W L' W' → Φ L' W'
section
variable {w0 W W' : World} {vs vs' : List V} {Φ Ψ : Fact} {g o k : Nat} {cs us : List Value}
/-- .. as what holds in a world. -/
def FrS (w0 : World) (vs : List V) (Φ : Fact) : World → Prop := fun W => Fr w0 W vs Φ
theorem At.mem (h : At vs g cs) : ∃ t, (g, t, cs) ∈ vs := by
 induction h with
 | head => exact ⟨_, List.mem_cons_self⟩
 | tail _ ih =>
  obtain ⟨t, ht⟩ := ih
  exact ⟨t, List.mem_cons_of_mem _ ht⟩
theorem Upd.fst (h : Upd vs g o us vs') : vs'.map (·.1) = vs.map (·.1) := by
 induction h with
 | head _ => rfl
 | tail _ ih => simp only [List.map_cons, ih]
theorem Upd.at (h : Upd vs g o us vs') : (vs.map (·.1)).Pairwise (fun a b => b < a) → ∃ t cs cs', Put cs o us cs' ∧ (g, t, cs) ∈ vs ∧ ∀ x ∈ vs', x = (g, t, cs') ∨ (x ∈ vs ∧ x.1 ≠ g) := by
 induction h with
 | @head g o t cs us cs' r hp =>
  intro hnd
  have hnd := List.pairwise_cons.1 hnd
  refine ⟨t, cs, cs', hp, List.mem_cons_self, fun x hx => ?_⟩
  rcases List.mem_cons.1 hx with h | h
  ·exact Or.inl h
  ·have : x.1 < g := hnd.1 _ (List.mem_map_of_mem h)
   exact Or.inr ⟨List.mem_cons_of_mem _ h, by omega⟩
 | @tail g o us x r r' _ ih =>
  intro hnd
  have hnd := List.pairwise_cons.1 hnd
  obtain ⟨t, cs, cs', h1, h2, h3⟩ := ih hnd.2
  refine ⟨t, cs, cs', h1, List.mem_cons_of_mem _ h2, fun y hy => ?_⟩
  rcases List.mem_cons.1 hy with h | h
  ·subst h
   have : g < y.1 := hnd.1 _ (List.mem_map_of_mem h2)
   exact Or.inr ⟨List.mem_cons_self, by omega⟩
  ·rcases h3 y h with h | h
   ·exact Or.inl h
   ·exact Or.inr ⟨List.mem_cons_of_mem _ h.1, h.2⟩
theorem Fr.out (F : Fr w0 W vs Φ) : Φ (vs.map (·.1)) W := F.sep _ W (Ext.refl _ _)
theorem Fr.lt (F : Fr w0 W vs Φ) {x : V} (hx : x ∈ vs) : x.1 < W.heap.size := (Array.getElem?_eq_some_iff.1 (F.at_ x hx).2).1
theorem Fr.start (w : World) : Fr w w [] (fun _ _ => True) := ⟨Below.refl _ _, fun x hx => (by cases hx), List.Pairwise.nil, fun _ _ _ => trivial⟩
theorem Fr.cell (F : Fr w0 W vs Φ) (h : At vs g cs) (i : Nat) : W.cell? ⟨g, i, none⟩ = cs[i]? := by
 obtain ⟨t, ht⟩ := h.mem
 rw [cell_of_row W g i _ _ _ (F.at_ _ ht).2]
 simp
theorem Fr.range (F : Fr w0 W vs Φ) (h : At vs g cs) (hs : Sub cs o k us) : W.rangeAt g o us := fun j v hj => by
 rw [F.cell h]
 exact hs.at j v hj
theorem Fr.weak (F : Fr w0 W vs Φ) (h : ∀ L w, Φ L w → Ψ L w) : Fr w0 W vs Ψ := ⟨F.B, F.at_, F.nd, fun L' W' hk => h L' W' (F.sep L' W' hk)⟩
theorem Fr.call (F : Fr w0 W vs Φ) (h : Below W.heap.size W W') : Fr w0 W' vs Φ :=
 ⟨F.B.trans (h.mono F.B.size), fun x hx => ⟨(F.at_ x hx).1, (h.block _ (F.lt hx)).trans (F.at_ x hx).2⟩, F.nd, fun L2 W2 hk => F.sep L2 W2 ((Ext.of_below h).trans hk)⟩
theorem Fr.drew (F : Fr w0 W vs Φ) : Fr w0 W.drew vs Φ := F.call (Below.refl _ _).drew
theorem Fr.alloc (F : Fr w0 W vs Φ) (t : TypeId) (cs : List Value) : Fr w0 (W.alloc (.cells cs.toArray t)) ((W.heap.size, t, cs) :: vs) Φ := by
 have hb : Below W.heap.size W (W.alloc (.cells cs.toArray t)) := (Below.refl _ _).alloc (Nat.le_refl _) _
 have F2 := F.call hb
 refine ⟨F2.B, fun x hx => ?_, ?_, fun L' W' hk => F.sep L' W' (Ext.trans ⟨fun b h => ⟨Nat.lt_of_lt_of_le h.1 hb.size, fun hm => ?_⟩, fun b h => hb.block b h.1⟩ hk)⟩
 ·rcases List.mem_cons.1 hx with rfl | h
  ·exact ⟨F.B.size, Go.heap_alloc_new W _⟩
  ·exact F2.at_ x h
 ·refine List.Pairwise.cons (fun y hy => ?_) F.nd
  obtain ⟨x, hx, rfl⟩ := List.mem_map.1 hy
  exact F.lt hx
 ·rcases List.mem_cons.1 hm with e | e
  ·have e : b = W.heap.size := e
   have := h.1
   omega
  ·exact h.2 e
theorem setCells_block (b : Nat) (t : TypeId) : ∀ (us : List Value) (o : Nat) (W : World) (cs cs' : List Value), Put cs o us cs' → W.heap[b]? = some (.cells cs.toArray t (0, 0)) → (W.setCells b o us).heap[b]? = some (.cells cs'.toArray t (0, 0)) := by
 intro us
 induction us with
 | nil =>
  intro o W cs cs' hp hW
  have : ∀ (l us l' : List Value) (o : Nat), Put l o us l' → us = [] → l' = l := by
   intro l us l' o h
   induction h with
   | nil l => intro _; rfl
   | take _ _ => intro h; cases h
   | drop _ ih => intro h; rw [ih h]
  rw [this _ _ _ _ hp rfl]
  exact hW
 | cons u us ih =>
  intro o W cs cs' hp hW
  have hsp : ∀ (l us0 l' : List Value) (o : Nat), Put l o us0 l' → ∀ u us, us0 = u :: us → o < l.length ∧ Put (l.set o u) (o + 1) us l' := by
   intro l us0 l' o h
   induction h with
   | nil l => intro u us h; cases h
   | @take c u0 l us1 l' h _ =>
    intro u us e
    injection e with e1 e2
    subst e1 e2
    exact ⟨by simp, Put.drop h⟩
   | @drop c l us1 l' o h ih =>
    intro u us e
    obtain ⟨h1, h2⟩ := ih u us e
    exact ⟨by simpa using h1, by rw [List.set_cons_succ]; exact Put.drop h2⟩
  obtain ⟨h1, h2⟩ := hsp _ _ _ _ hp u us rfl
  refine ih (o + 1) (W.setCell ⟨b, o, none⟩ u) (cs.set o u) cs' h2 ?_
  rw [heap_setCell_same W b o cs.toArray t u hW]
  simp
theorem setCells_other (b : Nat) : ∀ (us : List Value) (o : Nat) (W : World), (W.setCells b o us).os = W.os ∧ (W.setCells b o us).tape = W.tape ∧ (W.setCells b o us).output = W.output ∧ (W.setCells b o us).heap.size = W.heap.size ∧ ∀ k, k ≠ b → (W.setCells b o us).heap[k]? = W.heap[k]?
 | [], _, _ => ⟨rfl, rfl, rfl, rfl, fun _ _ => rfl⟩
 | u :: us, o, W => by
  obtain ⟨h1, h2, h3, h4, h5⟩ := setCells_other b us (o + 1) (W.setCell ⟨b, o, none⟩ u)
  exact ⟨h1, h2, h3, h4.trans (by simp), fun k hk => (h5 k hk).trans (Below.heap_setCell W ⟨b, o, none⟩ u k hk)⟩
theorem Fr.store (F : Fr w0 W vs Φ) (h : Upd vs g o us vs') : Fr w0 (W.setCells g o us) vs' Φ := by
 obtain ⟨t, cs, cs', hp, hm, hall⟩ := h.at F.nd
 obtain ⟨e1, e2, e3, e4, e5⟩ := setCells_other g us o W
 have hlo : w0.heap.size ≤ g := (F.at_ _ hm).1
 have hblk := setCells_block g t us o W cs cs' hp (F.at_ _ hm).2
 refine ⟨⟨e1.trans F.B.os, e2.trans F.B.tape, e3.trans F.B.output, by rw [e4]; exact F.B.size, fun k hk => (e5 k (by omega)).trans (F.B.block k hk)⟩, fun x hx => ?_, by rw [h.fst]; exact F.nd, fun L' W' hk => F.sep L' W' (Ext.trans ⟨fun b hb => ⟨by rw [e4]; exact hb.1, by rw [h.fst]; exact hb.2⟩, fun b hb => e5 b fun e => hb.2 (e ▸ List.mem_map_of_mem hm)⟩ hk)⟩
 rcases hall x hx with rfl | ⟨h1, h2⟩
 ·exact ⟨hlo, hblk⟩
 ·exact ⟨(F.at_ x h1).1, (e5 _ h2).trans (F.at_ x h1).2⟩
theorem Fr.of_B (h : Below w0.heap.size w0 W) : Fr w0 W [] (fun _ _ => True) := ⟨h, fun x hx => (by cases hx), List.Pairwise.nil, fun _ _ _ => trivial⟩
/-- A fact more. -/
theorem Fr.add (F : Fr w0 W vs Φ) (h : ∀ L' W', Ext (vs.map (·.1)) W L' W' → Ψ L' W') : Fr w0 W vs (fun L w => Φ L w ∧ Ψ L w) := ⟨F.B, F.at_, F.nd, fun L' W' hk => ⟨F.sep L' W' hk, h L' W' hk⟩⟩
/-- The newest variable is forgotten. -/
theorem Fr.tail {x : V} (F : Fr w0 W (x :: vs) Φ) : Fr w0 W vs Φ :=
 ⟨F.B, fun y hy => F.at_ y (List.mem_cons_of_mem _ hy), (List.pairwise_cons.1 F.nd).2, fun L' W' hk => F.sep L' W' (Ext.trans ⟨fun _ hb => ⟨hb.1, fun hm => hb.2 (List.mem_cons_of_mem _ hm)⟩, fun _ _ => rfl⟩ hk)⟩
/-- A variable that isn't written any more. -/
inductive Del : List V → V → List V → Prop
 | head {x : V} {r : List V} : Del (x :: r) x r
 | tail {x y : V} {r r' : List V} : Del r y r' → Del (x :: r) y (x :: r')
theorem Del.mem {x : V} (h : Del vs x vs') : x ∈ vs ∧ (∀ y ∈ vs', y ∈ vs) ∧ (vs'.map (·.1)).Sublist (vs.map (·.1)) := by
 induction h with
 | head => exact ⟨List.mem_cons_self, fun y hy => List.mem_cons_of_mem _ hy, List.sublist_cons_self _ _⟩
 | tail _ ih => exact ⟨List.mem_cons_of_mem _ ih.1, fun y hy => by
   rcases List.mem_cons.1 hy with h | h
   ·exact h ▸ List.mem_cons_self
   ·exact List.mem_cons_of_mem _ (ih.2.1 y h), ih.2.2.cons_cons _⟩
theorem Del.out {x : V} (h : Del vs x vs') : (vs.map (·.1)).Pairwise (fun a b => b < a) → x.1 ∉ vs'.map (·.1) := by
 induction h with
 | head =>
  intro hp hm
  exact Nat.lt_irrefl _ ((List.pairwise_cons.1 hp).1 _ hm)
 | @tail x y r r' hd ih =>
  intro hp hm
  have hp := List.pairwise_cons.1 hp
  rcases List.mem_cons.1 hm with h | h
  ·have h1 : y.1 < x.1 := hp.1 _ (List.mem_map_of_mem hd.mem.1)
   have h2 : y.1 = x.1 := h
   omega
  ·exact ih hp.2 h
end
/-- A type of so many cells; of one that is no struct. -/
class RowTy (P : Program) (ty : TypeId) (n : outParam Nat) : Prop where
 u : ∃ d, P.underlying ty = some d ∧ d.isRow = true
 i : (P.info? ty).map (·.size) = some n
class OneTy (P : Program) (ty : TypeId) : Prop where
 u : ∃ d, P.underlying ty = some d ∧ d.isRow = false
 i : (P.info? ty).map (·.size) = some 1
class ZeroTy (P : Program) (ty : TypeId) (cs : outParam (List Value)) : Prop where
 z : ∃ v : Value, (P.info? ty).map (·.zero) = some (some v) ∧ v.cells = cs.toArray
section
variable {P : Program} {w0 w : World} {vs vs' : List V} {Φ : Fact} {g o k : Nat} {cs us : List Value} {u : Value} {op : Oper} {a : Act} {K : Act → World → Prop} {Q : Exit → Act → World → Prop} {ty : TypeId} {x y : Operand}
theorem run_loadVar_one (h1 : OneTy P ty) (hc : w.cell? ⟨g, o, none⟩ = some u) : (loadVar ty ⟨g, o, none⟩).run P w = .ok u w := by
 obtain ⟨d, hu, hd⟩ := h1.u
 have hagg : (isAgg ty).run P w = .ok false w := by
  unfold isAgg
  rw [Sem.run_bind, run_underlying hu w]
  cases d <;> simp_all
 have hl : (load ⟨g, o, none⟩).run P w = .ok u w := by
  rw [run_load, hc]
 simp only [loadVar, Sem.run_bind, hagg, Result.andThen_ok, Bool.false_eq_true, if_false, ↓reduceIte]
 exact hl
theorem run_loadN (F : Fr w0 w vs Φ) (ho : op.op = .load ty x) (hx : a.eval x = .pointer (some ⟨g, o, none⟩)) (hr : RowTy P ty k) (h : At vs g cs) (hs : Sub cs o k us) : (execOp a.eval op).run P w = .ok (.value (.agg us.toArray)) w := by
 obtain ⟨d, hu, hd⟩ := hr.u
 unfold execOp
 simp only [ho, hx, Instr.loadAt, Instr.sureAddr, Sem.run_bind, Sem.run_pure, Result.andThen_ok, run_loadVar_mid w g o ty us d (F.range h hs) hu hd (by rw [hs.len]; exact hr.i)]
theorem run_load1 (F : Fr w0 w vs Φ) (ho : op.op = .load ty x) (hx : a.eval x = .pointer (some ⟨g, o, none⟩)) (hr : OneTy P ty) (h : At vs g cs) (hs : Sub cs o 1 [u]) : (execOp a.eval op).run P w = .ok (.value u) w := by
 have hc : w.cell? ⟨g, o, none⟩ = some u := by
  have := F.range h hs 0 u rfl
  simpa using this
 unfold execOp
 simp only [ho, hx, Instr.loadAt, Instr.sureAddr, Sem.run_bind, Sem.run_pure, Result.andThen_ok, run_loadVar_one hr hc]
theorem wp_run {v : Value} (hr : (execOp a.eval op).run P w = .ok (.value v) w) (h : K (a.put op.dst v) w) : op.wp P a w K Q := by
 unfold Oper.wp
 rw [hr]
 exact h
theorem wp_alloc (F : Fr w0 w vs Φ) (ho : op.op = .alloc ty) (hz : ZeroTy P ty cs) (h : ∀ g w', w'.heap.size = g + 1 → w.heap.size = g → Fr w0 w' ((g, ty, cs) :: vs) Φ → K (a.put op.dst (.pointer (some ⟨g, 0, none⟩))) w') : op.wp P a w K Q := by
 obtain ⟨v, h1, h2⟩ := hz.z
 have F2 := h w.heap.size (w.alloc (.cells cs.toArray ty)) (by simp) rfl (F.alloc ty cs)
 cases hq : P.info? ty with
 | none => simp [hq] at h1
 | some i =>
  have hz : i.zero = some v := by simpa [hq] using h1
  unfold Oper.wp execOp
  simp [ho, Instr.alloc, zeroValue, typeInfo, hq, hz, newVar, newRow, h2]
  exact F2
theorem wp_box (F : Fr w0 w vs Φ) (ho : op.op = .box ty x) (hx : a.eval x = u) (hc : u.cells = cs.toArray) (h : ∀ g w', w'.heap.size = g + 1 → w.heap.size = g → Fr w0 w' ((g, ty, cs) :: vs) Φ → K (a.put op.dst (.pointer (some ⟨g, 0, none⟩))) w') : op.wp P a w K Q := by
 have F2 := h w.heap.size (w.alloc (.cells cs.toArray ty)) (by simp) rfl (F.alloc ty cs)
 unfold Oper.wp execOp
 simp [ho, hx, Instr.box, newVar, newRow, hc]
 exact F2
theorem wp_storeN (F : Fr w0 w vs Φ) (ho : op.op = .store ty x y) (hx : a.eval x = .pointer (some ⟨g, o, none⟩)) (hy : a.eval y = .agg us.toArray) (hi : RowTy P ty k) (hk : us.length = k) (h1 : us.toArray.all (·.oneCell') = true) (hU : Upd vs g o us vs')
  (h : ∀ w', Fr w0 w' vs' Φ → K (a.put op.dst undef) w') : op.wp P a w K Q := by
 have F2 := h _ (F.store hU)
 obtain ⟨t, cs, cs', hp, hm, _⟩ := hU.at F.nd
 refine wp_store_mid ty x y ho g o us.toArray hx hy (fun j hj => ?_) (by rw [hi.i]; simp [hk]) h1 F2
 have hj : j < us.length := by simpa using hj
 have hl := hp.len.2
 have hb := (F.at_ _ hm).2
 refine ⟨?_, frozen_of_row w g _ _ _ hb⟩
 rw [cell_of_row w g _ _ _ _ hb]
 have : o + j < cs.length := by omega
 simp [this]
theorem wp_store1 (F : Fr w0 w vs Φ) (ho : op.op = .store ty x y) (hx : a.eval x = .pointer (some ⟨g, o, none⟩)) (hy : a.eval y = u) (hi : OneTy P ty) (h1 : u.oneCell' = true) (hU : Upd vs g o [u] vs')
  (h : ∀ w', Fr w0 w' vs' Φ → K (a.put op.dst undef) w') : op.wp P a w K Q := by
 have F2 := h _ (F.store hU)
 obtain ⟨t, cs, cs', hp, hm, _⟩ := hU.at F.nd
 have hl := hp.len.2
 have hb := (F.at_ _ hm).2
 have hcell : w.cell? ⟨g, o, none⟩ ≠ none := by
  rw [cell_of_row w g _ _ _ _ hb]
  have : o < cs.length := by simp at hl; omega
  simp [this]
 have hfr := frozen_of_row w g o _ _ hb
 have hcs : u.cells = #[u] := by
  cases u <;> simp_all [Value.oneCell', Value.cells]
 cases hq : P.info? ty with
 | none => have := hi.i; simp [hq] at this
 | some i =>
  have hs : i.size = 1 := by have := hi.i; simpa [hq] using this
  have hst := run_storeCells_cells (P := P) g o [u] 0 w (fun j hj => by
   have : j = 0 := by simpa using hj
   subst this
   simpa [Option.isSome_iff_ne_none] using hcell) (fun j hj => by
   have : j = 0 := by simpa using hj
   subst this
   simpa using hfr) (fun v hv => by
   have : v = u := by simpa using hv
   rw [this]
   exact h1)
  simp only [Nat.add_zero] at hst
  unfold Oper.wp execOp
  simp only [ho, hx, hy, Instr.storeAt, Instr.sureAddr, Sem.run_bind, Sem.run_pure, Result.andThen_ok]
  simp [storeVar, sizeOf, typeInfo, hq, hs, hcs, hst]
  exact F2
/-- Some of the variables, as what holds in a world. -/
def ClsS (l : List V) : World → Prop := fun W => ∀ x ∈ l, W.heap[x.1]? = some (.cells x.2.2.toArray x.2.1 (0, 0))
def ClsB (w0 : World) (l : List V) : World → Prop := fun W => Below w0.heap.size w0 W ∧ ClsS l W
inductive VIn : V → List V → Prop
 | head {x : V} {r : List V} : VIn x (x :: r)
 | tail {x y : V} {r : List V} : VIn x r → VIn x (y :: r)
inductive Inc : List V → List V → Prop
 | nil {vs : List V} : Inc [] vs
 | cons {x : V} {l vs : List V} : VIn x vs → Inc l vs → Inc (x :: l) vs
theorem VIn.mem {x : V} (h : VIn x vs) : x ∈ vs := by
 induction h with
 | head => exact List.mem_cons_self
 | tail _ ih => exact List.mem_cons_of_mem _ ih
theorem Fr.cls {l : List V} (F : Fr w0 w vs Φ) (h : Inc l vs) : ClsS l w := by
 induction h with
 | nil => intro x hx; cases hx
 | cons hx _ ih =>
  intro y hy
  rcases List.mem_cons.1 hy with rfl | hy
  ·exact (F.at_ _ hx.mem).2
  ·exact ih F y hy
theorem ClsS.cell {l : List V} (S : ClsS l w) (h : At l g cs) (i : Nat) : w.cell? ⟨g, i, none⟩ = cs[i]? := by
 obtain ⟨t, ht⟩ := h.mem
 rw [cell_of_row w g i _ _ _ (S _ ht)]
 simp
theorem ClsS.range {l : List V} (S : ClsS l w) (h : At l g cs) (hs : Sub cs o k us) : w.rangeAt g o us := fun j v hj => by
 rw [S.cell h]
 exact hs.at j v hj
theorem run_loadNC {l : List V} (S : ClsS l w) (ho : op.op = .load ty x) (hx : a.eval x = .pointer (some ⟨g, o, none⟩)) (hr : RowTy P ty k) (h : At l g cs) (hs : Sub cs o k us) : (execOp a.eval op).run P w = .ok (.value (.agg us.toArray)) w := by
 obtain ⟨d, hu, hd⟩ := hr.u
 unfold execOp
 simp only [ho, hx, Instr.loadAt, Instr.sureAddr, Sem.run_bind, Sem.run_pure, Result.andThen_ok, run_loadVar_mid w g o ty us d (S.range h hs) hu hd (by rw [hs.len]; exact hr.i)]
theorem run_load1C {l : List V} (S : ClsS l w) (ho : op.op = .load ty x) (hx : a.eval x = .pointer (some ⟨g, o, none⟩)) (hr : OneTy P ty) (h : At l g cs) (hs : Sub cs o 1 [u]) : (execOp a.eval op).run P w = .ok (.value u) w := by
 have hc : w.cell? ⟨g, o, none⟩ = some u := by
  have := S.range h hs 0 u rfl
  simpa using this
 unfold execOp
 simp only [ho, hx, Instr.loadAt, Instr.sureAddr, Sem.run_bind, Sem.run_pure, Result.andThen_ok, run_loadVar_one hr hc]
/-- A load out of a row. -/
theorem run_loadR (hc : w.rangeAt g o us) (ho : op.op = .load ty x) (hx : a.eval x = .pointer (some ⟨g, o, none⟩)) (hr : RowTy P ty k) (hk : us.length = k) : (execOp a.eval op).run P w = .ok (.value (.agg us.toArray)) w := by
 obtain ⟨d, hu, hd⟩ := hr.u
 unfold execOp
 simp only [ho, hx, Instr.loadAt, Instr.sureAddr, Sem.run_bind, Sem.run_pure, Result.andThen_ok, run_loadVar_mid w g o ty us d hc hu hd (by rw [hk]; exact hr.i)]
theorem run_load1R (hc : w.cell? ⟨g, o, none⟩ = some u) (ho : op.op = .load ty x) (hx : a.eval x = .pointer (some ⟨g, o, none⟩)) (hr : OneTy P ty) : (execOp a.eval op).run P w = .ok (.value u) w := by
 unfold execOp
 simp only [ho, hx, Instr.loadAt, Instr.sureAddr, Sem.run_bind, Sem.run_pure, Result.andThen_ok, run_loadVar_one hr hc]
/-- A store into a block that is no variable. -/
theorem Fr.off {w' : World} (F : Fr w0 w vs Φ) (hg : w0.heap.size ≤ g) (hf : Free (vs.map (·.1)) w g) (e1 : w'.os = w.os) (e2 : w'.tape = w.tape) (e3 : w'.output = w.output) (e4 : w'.heap.size = w.heap.size) (e5 : ∀ k, k ≠ g → w'.heap[k]? = w.heap[k]?) : Fr w0 w' vs (fun _ _ => True) :=
 ⟨⟨e1.trans F.B.os, e2.trans F.B.tape, e3.trans F.B.output, by rw [e4]; exact F.B.size, fun k hk => (e5 k (by omega)).trans (F.B.block k hk)⟩,
  fun x hx => ⟨(F.at_ x hx).1, (e5 _ (fun e => hf.2 (e ▸ List.mem_map_of_mem hx))).trans (F.at_ x hx).2⟩, F.nd, fun _ _ _ => trivial⟩
section
variable {ops : Array Oper} {rest : List Oper}
theorem wpL_loadN (F : Fr w0 w vs Φ) (hg : op.guard = none) (ho : op.op = .load ty x) (hx : a.eval x = .pointer (some ⟨g, o, none⟩)) (hr : RowTy P ty k) (h : At vs g cs) (hs : Sub cs o k us) (hk : wpList P ops Q rest (a.put op.dst (.agg us.toArray)) w) : wpList P ops Q (op :: rest) a w :=
 wpList_plain hg fun _ hK => wp_run (run_loadN F ho hx hr h hs) (hK _ _ hk)
theorem wpL_load1 (F : Fr w0 w vs Φ) (hg : op.guard = none) (ho : op.op = .load ty x) (hx : a.eval x = .pointer (some ⟨g, o, none⟩)) (hr : OneTy P ty) (h : At vs g cs) (hs : Sub cs o 1 [u]) (hk : wpList P ops Q rest (a.put op.dst u) w) : wpList P ops Q (op :: rest) a w :=
 wpList_plain hg fun _ hK => wp_run (run_load1 F ho hx hr h hs) (hK _ _ hk)
theorem wpL_alloc (F : Fr w0 w vs Φ) (hg : op.guard = none) (ho : op.op = .alloc ty) (hz : ZeroTy P ty cs) (h : ∀ g w', w'.heap.size = g + 1 → w.heap.size = g → Fr w0 w' ((g, ty, cs) :: vs) Φ → wpList P ops Q rest (a.put op.dst (.pointer (some ⟨g, 0, none⟩))) w') : wpList P ops Q (op :: rest) a w :=
 wpList_plain hg fun _ hK => wp_alloc F ho hz fun g w' h1 h2 F => hK _ _ (h g w' h1 h2 F)
theorem wpL_box (F : Fr w0 w vs Φ) (hg : op.guard = none) (ho : op.op = .box ty x) (hx : a.eval x = u) (hc : u.cells = cs.toArray) (h : ∀ g w', w'.heap.size = g + 1 → w.heap.size = g → Fr w0 w' ((g, ty, cs) :: vs) Φ → wpList P ops Q rest (a.put op.dst (.pointer (some ⟨g, 0, none⟩))) w') : wpList P ops Q (op :: rest) a w :=
 wpList_plain hg fun _ hK => wp_box F ho hx hc fun g w' h1 h2 F => hK _ _ (h g w' h1 h2 F)
theorem wpL_storeN (F : Fr w0 w vs Φ) (hg : op.guard = none) (ho : op.op = .store ty x y) (hx : a.eval x = .pointer (some ⟨g, o, none⟩)) (hy : a.eval y = .agg us.toArray) (hi : RowTy P ty k) (hk : us.length = k) (h1 : us.toArray.all (·.oneCell') = true) (hU : Upd vs g o us vs')
  (h : ∀ w', Fr w0 w' vs' Φ → wpList P ops Q rest (a.put op.dst undef) w') : wpList P ops Q (op :: rest) a w :=
 wpList_plain hg fun _ hK => wp_storeN F ho hx hy hi hk h1 hU fun w' F => hK _ _ (h w' F)
theorem wpL_store1 (F : Fr w0 w vs Φ) (hg : op.guard = none) (ho : op.op = .store ty x y) (hx : a.eval x = .pointer (some ⟨g, o, none⟩)) (hy : a.eval y = u) (hi : OneTy P ty) (h1 : u.oneCell' = true) (hU : Upd vs g o [u] vs')
  (h : ∀ w', Fr w0 w' vs' Φ → wpList P ops Q rest (a.put op.dst undef) w') : wpList P ops Q (op :: rest) a w :=
 wpList_plain hg fun _ hK => wp_store1 F ho hx hy hi h1 hU fun w' F => hK _ _ (h w' F)
theorem ldN [hr : RowTy P ty k] (F : Fr w0 w vs Φ) (hg : op.guard = none) (ho : op.op = .load ty x) (hx : a.eval x = .pointer (some ⟨g, o, none⟩)) (h : At vs g cs) (hs : Sub cs o k us) (hk : wpList P ops Q rest (a.put op.dst (.agg us.toArray)) w) : wpList P ops Q (op :: rest) a w := wpL_loadN F hg ho hx hr h hs hk
theorem ld1 [hr : OneTy P ty] (F : Fr w0 w vs Φ) (hg : op.guard = none) (ho : op.op = .load ty x) (hx : a.eval x = .pointer (some ⟨g, o, none⟩)) (h : At vs g cs) (hs : Sub cs o 1 [u]) (hk : wpList P ops Q rest (a.put op.dst u) w) : wpList P ops Q (op :: rest) a w := wpL_load1 F hg ho hx hr h hs hk
theorem stN [hi : RowTy P ty k] (F : Fr w0 w vs Φ) (hg : op.guard = none) (ho : op.op = .store ty x y) (hx : a.eval x = .pointer (some ⟨g, o, none⟩)) (hy : a.eval y = .agg us.toArray) (hk : us.length = k) (h1 : us.toArray.all (·.oneCell') = true) (hU : Upd vs g o us vs')
  (h : ∀ w', Fr w0 w' vs' Φ → wpList P ops Q rest (a.put op.dst undef) w') : wpList P ops Q (op :: rest) a w := wpL_storeN F hg ho hx hy hi hk h1 hU h
theorem st1 [hi : OneTy P ty] (F : Fr w0 w vs Φ) (hg : op.guard = none) (ho : op.op = .store ty x y) (hx : a.eval x = .pointer (some ⟨g, o, none⟩)) (hy : a.eval y = u) (h1 : u.oneCell' = true) (hU : Upd vs g o [u] vs')
  (h : ∀ w', Fr w0 w' vs' Φ → wpList P ops Q rest (a.put op.dst undef) w') : wpList P ops Q (op :: rest) a w := wpL_store1 F hg ho hx hy hi h1 hU h
theorem al [hz : ZeroTy P ty cs] (F : Fr w0 w vs Φ) (hg : op.guard = none) (ho : op.op = .alloc ty) (h : ∀ g w', w'.heap.size = g + 1 → w.heap.size = g → Fr w0 w' ((g, ty, cs) :: vs) Φ → wpList P ops Q rest (a.put op.dst (.pointer (some ⟨g, 0, none⟩))) w') : wpList P ops Q (op :: rest) a w := wpL_alloc F hg ho hz h
end
end
end Go.Proofs.YtcgkbcgpnlogoaaGreatDoor.Fv
