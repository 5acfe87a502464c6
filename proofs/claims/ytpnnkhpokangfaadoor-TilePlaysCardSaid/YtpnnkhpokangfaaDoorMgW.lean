/- Texts TreW, TreG, one behind the other. -/
import Derived.Test.YtpnnkhpokangfaaDoorMgP
/- A region that draws its order, in which more than one call may come up: walked along a tree of orders. No program. -/
namespace Go.Proofs.YtpnnkhpokangfaaDoor.Lex
open Go

/-- Orders: an operation that is no call, then the rest; or one of some calls, and for each its own rest. -/
inductive Tr where
 | fin : Tr
 | op (k : Nat) (t : Tr) : Tr
 | alt (k : Nat) (t : Tr) (more : Tr) : Tr
def Tr.heads : Tr → List Nat
 | .alt k _ m => k :: m.heads
 | _ => []
/-- These are all orders, but for operations that are no calls, which come up apart from all that is left. -/
def lexT (ops : Array Oper) : Nat → List Nat → Tr → Array Bool → Bool
 | _, seen, .fin, listed => Region.ready .any ops listed == seen
 | n, seen, .op k t, listed => match n with
  | 0 => false
  | n + 1 => seen.isEmpty && (Region.free .any ops listed k && (Region.ready .any ops listed).contains k) && lexT ops n [] t (listed.setIfInBounds k true)
 | n, seen, .alt k t m, listed => match n with
  | 0 => false
  | n + 1 => decide (k < ops.size) && lexT ops n [] t (listed.setIfInBounds k true) && lexT ops (n + 1) (seen ++ [k]) m listed
def walkT (P : Program) (ops : Array Oper) (Q : Exit → Act → World → Prop) : Bool → Tr → (World → Prop) → Act → World → Prop
 | al, .fin, _, a, w => al = true ∨ Q .normal a w
 | _, .op k t, S, a, w => ∀ o, ops[k]? = some o → ∃ v, YieldsIf P ops S o v a ∧ walkT P ops Q false t S (a.put o.dst v) w
 | _, .alt k t m, S, a, w => (∀ o, ops[k]? = some o →
   if Region.wanted o (yielded ops a.tmps) = true then Oper.wp P o a w (fun a' w' => ∃ S' : World → Prop, (∀ w, S' w → S w) ∧ S' w' ∧ walkT P ops Q false t S' a' w') Q
   else walkT P ops Q false t S (a.put o.dst undef) w) ∧ walkT P ops Q true m S a w
section
variable {P : Program} {ops : Array Oper} {Q : Exit → Act → World → Prop}
theorem lex_heads {n : Nat} {listed : Array Bool} : ∀ (m : Tr) (seen : List Nat), seen ≠ [] → lexT ops n seen m listed = true → Region.ready .any ops listed = seen ++ m.heads
 | .fin, seen, _, h => by
  simp only [lexT, beq_iff_eq] at h
  rw [h]
  show seen = seen ++ []
  rw [List.append_nil]
 | .op k t, seen, hs, h => by
  cases n with
  | zero => simp [lexT] at h
  | succ n =>
   simp only [lexT, Bool.and_eq_true, List.isEmpty_iff] at h
   exact absurd h.1.1 hs
 | .alt k t m, seen, hs, h => by
  cases n with
  | zero => simp [lexT] at h
  | succ n =>
   simp only [lexT, Bool.and_eq_true] at h
   have := lex_heads m (seen ++ [k]) (by simp) h.2
   rw [this, List.append_assoc]
   rfl
theorem of_tree (hs : Region.noSelect ops = true) (hQ : ∀ c a d v w, Q (.panic c) (a.put d v) w → Q (.panic c) a w) :
  ∀ (t : Tr), (∀ (n : Nat) (S : World → Prop) (listed : Array Bool) (a : Act) (w : World), lexT ops n [] t listed = true → S w → walkT P ops Q false t S a w → wpAnyH P .any ops Q S n listed a w) ∧
   (∀ (n : Nat) (seen : List Nat) (S : World → Prop) (listed : Array Bool) (a : Act) (w : World), lexT ops (n + 1) seen t listed = true → S w → walkT P ops Q true t S a w → ∀ k ∈ t.heads, wpOp P ops Q k (fun a' w' => S w' ∧ wpAnyH P .any ops Q S n (listed.setIfInBounds k true) a' w') a w)
 | .fin => by
  refine ⟨fun n S listed a w hL hS h => ?_, fun n seen S listed a w _ _ _ k hk => by cases hk⟩
  simp only [lexT, beq_iff_eq] at hL
  have h : Q .normal a w := h.resolve_left (by simp)
  cases n with
  | zero => exact ⟨hL, h⟩
  | succ n => exact ⟨fun _ => h, fun i hi => by rw [hL] at hi; cases hi⟩
 | .op k t => by
  refine ⟨fun n S listed a w hL hS h => ?_, fun n seen S listed a w _ _ _ k hk => by cases hk⟩
  cases n with
  | zero => simp [lexT] at hL
  | succ n =>
   simp only [lexT, Bool.and_eq_true] at hL
   have hc : k ∈ Region.ready .any ops listed := by simpa using hL.1.2.2
   obtain ⟨_, o, ho, _⟩ := mem_ready.1 hc
   obtain ⟨v, hy, hh⟩ := h o ho
   exact wpAnyH_take ho hs hL.1.2.1 hL.1.2.2 (fun c a w => hQ c a _ _ w) hy hS ((of_tree hs hQ t).1 n S _ _ w hL.2 hS hh)
 | .alt k t m => by
  have one : ∀ (n : Nat) (S : World → Prop) (listed : Array Bool) (a : Act) (w : World), k < ops.size → lexT ops n [] t (listed.setIfInBounds k true) = true → S w →
    (∀ o, ops[k]? = some o → if Region.wanted o (yielded ops a.tmps) = true then Oper.wp P o a w (fun a' w' => ∃ S' : World → Prop, (∀ w, S' w → S w) ∧ S' w' ∧ walkT P ops Q false t S' a' w') Q else walkT P ops Q false t S (a.put o.dst undef) w) →
    wpOp P ops Q k (fun a' w' => S w' ∧ wpAnyH P .any ops Q S n (listed.setIfInBounds k true) a' w') a w := fun n S listed a w hlt hL hS h => by
   have ho : ops[k]? = some ops[k] := Array.getElem?_eq_getElem hlt
   have h' := h _ ho
   unfold wpOp
   rw [ho]
   show if Region.wanted ops[k] (yielded ops a.tmps) = true then _ else _
   by_cases hw : Region.wanted ops[k] (yielded ops a.tmps) = true
   ·rw [if_pos hw] at h' ⊢
    refine Or.inl (Oper.wp_mono (fun a' w' hh => ?_) h')
    obtain ⟨S', hSS, hS', hh⟩ := hh
    exact ⟨hSS _ hS', turn hSS _ _ _ _ ((of_tree hs hQ t).1 n S' _ a' w' hL hS' hh)⟩
   ·rw [if_neg hw] at h' ⊢
    exact ⟨hS, (of_tree hs hQ t).1 n S _ _ w hL hS h'⟩
  refine ⟨fun n S listed a w hL hS h => ?_, fun n seen S listed a w hL hS h j hj => ?_⟩
  ·cases n with
   | zero => simp [lexT] at hL
   | succ n =>
    simp only [lexT, Bool.and_eq_true, decide_eq_true_eq] at hL
    have hr := lex_heads m [k] (by simp) hL.2
    refine wpAnyH_all hr (by simp) fun i hi => ?_
    rcases List.mem_cons.1 hi with rfl | hi
    ·exact one n S listed a w hL.1.1 hL.1.2 hS h.1
    ·exact (of_tree hs hQ m).2 n _ S listed a w hL.2 hS h.2 i hi
  ·simp only [lexT, Bool.and_eq_true, decide_eq_true_eq] at hL
   rcases List.mem_cons.1 hj with rfl | hj
   ·exact one n S listed a w hL.1.1 hL.1.2 hS h.1
   ·exact (of_tree hs hQ m).2 n _ S listed a w hL.2 hS h.2 j hj

theorem region_tree {id : Nat} {l : Array Oper} {a : Act} {w : World} (t : Tr) (S : World → Prop) (he : l = ops) (hm : P.follows .mixedOrders = true) (hs : Region.noSelect ops = true)
  (hL : lexT ops ops.size [] t (Array.replicate ops.size false) = true) (hS : S w.drew) (h : walkT P ops (NoPanic Q) false t S a w.drew) : (Code.region id l true).wp P Q a w := by
 subst he
 refine wp_region_noPanic (wp_region_held_drew (S := S) hm hS fun _ => ?_)
 exact (of_tree hs (fun _ _ _ _ _ h => h) t).1 _ S _ a _ hL hS h
variable {k : Nat} {S : World → Prop} {o : Oper} {a : Act} {w : World} {t m : Tr} {al : Bool}
theorem tree_take (v : Value) (ho : ops[k]? = some o) (hw : Region.wanted o (yielded ops a.tmps) = true)
  (hv : ∀ w, S w → (execOp a.eval o).run P w = .ok (.value v) w) (h : walkT P ops Q false t S (a.put o.dst v) w) : walkT P ops Q al (.op k t) S a w := by
 intro o' ho'
 obtain rfl : o' = o := Option.some.inj (ho'.symm.trans ho)
 exact ⟨v, Or.inl ⟨hw, hv⟩, h⟩
theorem tree_call (ho : ops[k]? = some o) (hw : Region.wanted o (yielded ops a.tmps) = true)
  (h : ∀ K : Act → World → Prop, Shut (∀ (S' : World → Prop) a' w', (∀ w, S' w → S w) → S' w' → walkT P ops Q false t S' a' w' → K a' w') → Oper.wp P o a w K Q)
  (hm : walkT P ops Q true m S a w) : walkT P ops Q al (.alt k t m) S a w := by
 refine ⟨fun o' ho' => ?_, hm⟩
 obtain rfl : o' = o := Option.some.inj (ho'.symm.trans ho)
 rw [if_pos hw]
 exact h _ fun S' a' w' h1 h2 h3 => ⟨S', h1, h2, h3⟩
theorem tree_no : walkT P ops Q true .fin S a w := Or.inl rfl
theorem tree_end (h : Q .normal a w) : walkT P ops Q false .fin S a w := Or.inr h
/-- What follows a region is shown once, whatever order was picked in it. -/
theorem region_cut {id : Nat} {l : Array Oper} {d : Bool} (R : Act → World → Prop) (h : (Code.region id l d).wp P (fun e a w => match e with | .normal => R a w | e => Q e a w) a w) (h2 : ∀ a w, R a w → Q .normal a w) : (Code.region id l d).wp P Q a w :=
 Code.wp_mono (fun e a w h => by
  cases e with
  | normal => exact h2 a w h
  | _ => exact h) h
end
end Go.Proofs.YtpnnkhpokangfaaDoor.Lex

/- A region that draws its order: operations that make memory come up in any order among themselves; each is walked once, then what is left along a tree. No program. -/
namespace Go.Proofs.YtpnnkhpokangfaaDoor.Lex
open Go Go.RowKit

def dstOf (ops : Array Oper) (k : Nat) : Option Tmp := (ops[k]?).bind (·.dst)
/-- Values put where these operations put theirs. -/
def putAll (ops : Array Oper) (D : List Nat) (vs : Nat → Value) (a : Act) : Act := D.foldl (fun a j => a.put (dstOf ops j) (vs j)) a
/-- Places of their own, and no guards. -/
def ownD (ops : Array Oper) (n : Nat) : List Nat → Bool
 | [] => true
 | k :: l => (match dstOf ops k with | some d => decide (d < n) && l.all (fun j => dstOf ops j != some d) | none => false) && ((ops[k]?).map (fun o => o.guard.isNone)).getD false && ownD ops n l
/-- As long as not all of the core have come up, just these may come up; then what is left is a tree. -/
def scanG (ops : Array Oper) (gs core : List Nat) (conts : List (List Nat × Tr)) : Nat → Array Bool → Bool
 | 0, _ => false
 | n + 1, listed =>
  if core.all (fun k => listed.getD k false) then conts.any (fun p => p.1 == gs.filter (fun k => listed.getD k false) && lexT ops (n + 1) [] p.2 listed)
  else !(Region.ready .any ops listed).isEmpty && (Region.ready .any ops listed).all (fun i => gs.contains i && decide (i < ops.size) && decide (i < listed.size) && scanG ops gs core conts n (listed.setIfInBounds i true))
section
variable {P : Program} {ops : Array Oper} {Q : Exit → Act → World → Prop}
theorem ownD_out {n : Nat} : ∀ {l : List Nat}, ownD ops n l = true → (∀ k ∈ l, ∃ d, dstOf ops k = some d ∧ d < n) ∧ l.Pairwise (fun i j => dstOf ops i ≠ dstOf ops j) ∧ ∀ k ∈ l, ∀ o, ops[k]? = some o → o.guard = none
 | [], _ => ⟨fun _ h => by simp at h, List.Pairwise.nil, fun _ h => by simp at h⟩
 | k :: l, h => by
  simp only [ownD, Bool.and_eq_true] at h
  obtain ⟨⟨h1, h2⟩, h3⟩ := h
  have ih := ownD_out h3
  cases hd : dstOf ops k with
  | none => rw [hd] at h1; cases h1
  | some d =>
   rw [hd] at h1
   simp only [Bool.and_eq_true, decide_eq_true_eq, List.all_eq_true, bne_iff_ne] at h1
   refine ⟨fun j hj => ?_, List.pairwise_cons.2 ⟨fun j hj e => h1.2 j hj (by rw [← e, hd]), ih.2.1⟩, fun j hj o ho => ?_⟩
   ·rcases List.mem_cons.1 hj with rfl | hj
    ·exact ⟨d, hd, h1.1⟩
    ·exact ih.1 j hj
   ·rcases List.mem_cons.1 hj with rfl | hj
    ·rw [ho] at h2
     simpa using h2
    ·exact ih.2.2 j hj o ho
theorem putAll_comm (vs : Nat → Value) (x : Option Tmp) (v : Value) : ∀ (D : List Nat) (a : Act), (∀ j ∈ D, dstOf ops j ≠ x) → putAll ops D vs (a.put x v) = (putAll ops D vs a).put x v
 | [], _, _ => rfl
 | j :: D, a, h => by
  show putAll ops D vs ((a.put x v).put (dstOf ops j) (vs j)) = (putAll ops D vs (a.put (dstOf ops j) (vs j))).put x v
  rw [Act.put_comm a v (vs j) (fun d hd e => h j List.mem_cons_self (by rw [e, hd]))]
  exact putAll_comm vs x v D _ (fun i hi => h i (List.mem_cons_of_mem _ hi))
theorem putAll_congr {vs us : Nat → Value} : ∀ (D : List Nat) (a : Act), (∀ j ∈ D, vs j = us j) → putAll ops D vs a = putAll ops D us a
 | [], _, _ => rfl
 | j :: D, a, h => by
  show putAll ops D vs (a.put _ (vs j)) = putAll ops D us (a.put _ (us j))
  rw [h j List.mem_cons_self]
  exact putAll_congr D _ (fun i hi => h i (List.mem_cons_of_mem _ hi))
theorem putAll_insert {vs : Nat → Value} {v : Value} {i : Nat} {f g : Nat → Bool} (hf : f i = false) (hg : ∀ j, g j = if j = i then true else f j) :
  ∀ (l : List Nat) (a : Act), i ∈ l → l.Pairwise (fun i j => dstOf ops i ≠ dstOf ops j) → putAll ops (l.filter g) (fun j => if j = i then v else vs j) a = (putAll ops (l.filter f) vs a).put (dstOf ops i) v
 | [], _, h, _ => by simp at h
 | j :: l, a, h, hp => by
  obtain ⟨hj, hp⟩ := List.pairwise_cons.1 hp
  by_cases e : j = i
  ·subst e
   have hni : ∀ k ∈ l, k ≠ j := fun k hk e => hj k hk (by rw [e])
   have h1 : l.filter g = l.filter f := List.filter_congr fun k hk => by rw [hg, if_neg (hni k hk)]
   rw [List.filter_cons_of_pos (by rw [hg, if_pos rfl]), List.filter_cons_of_neg (by rw [hf]; simp), h1]
   show putAll ops (l.filter f) _ (a.put (dstOf ops j) (if j = j then v else vs j)) = _
   rw [if_pos rfl, putAll_comm _ _ _ _ _ (fun k hk e => hj k ((List.mem_filter.1 hk).1) e.symm)]
   congr 1
   exact putAll_congr _ _ fun k hk => by rw [if_neg (hni k ((List.mem_filter.1 hk).1))]
  ·have hil : i ∈ l := by
    rcases List.mem_cons.1 h with h | h
    ·exact absurd h.symm e
    ·exact h
   by_cases hfj : f j = true
   ·rw [List.filter_cons_of_pos (by rw [hg, if_neg e]; exact hfj), List.filter_cons_of_pos hfj]
    show putAll ops (l.filter g) _ (a.put (dstOf ops j) (if j = i then v else vs j)) = (putAll ops (l.filter f) vs (a.put (dstOf ops j) (vs j))).put _ v
    rw [if_neg e]
    exact putAll_insert hf hg l _ hil hp
   ·rw [List.filter_cons_of_neg (by rw [hg, if_neg e]; exact hfj), List.filter_cons_of_neg hfj]
    exact putAll_insert hf hg l a hil hp
theorem eval_off (vs : Nat → Value) {i : Nat} : ∀ (D : List Nat) (a : Act), (∀ j ∈ D, dstOf ops j ≠ some i) → (putAll ops D vs a).eval (.tmp i) = a.eval (.tmp i)
 | [], _, _ => rfl
 | j :: D, a, h => by
  show (putAll ops D vs (a.put _ _)).eval _ = _
  rw [eval_off vs D _ (fun k hk => h k (List.mem_cons_of_mem _ hk)), Act.eval_put]
  intro d hd e
  injection e with e
  exact h j List.mem_cons_self (by rw [hd, e])
theorem eval_on {vs : Nat → Value} {i d : Nat} (hd : dstOf ops i = some d) : ∀ (D : List Nat) (a : Act), i ∈ D → d < a.tmps.size → D.Pairwise (fun i j => dstOf ops i ≠ dstOf ops j) → (putAll ops D vs a).eval (.tmp d) = vs i
 | [], _, h, _, _ => by simp at h
 | j :: D, a, h, hz, hp => by
  obtain ⟨hj, hp⟩ := List.pairwise_cons.1 hp
  show (putAll ops D vs (a.put _ _)).eval _ = _
  have hz' : d < (a.put (dstOf ops j) (vs j)).tmps.size := by cases dstOf ops j <;> simpa [Act.put] using hz
  by_cases e : i ∈ D
  ·exact eval_on hd D _ e hz' hp
  ·have : i = j := by
    rcases List.mem_cons.1 h with h | h
    ·exact h
    ·exact absurd h e
   subst this
   rw [eval_off vs D _ (fun k hk e => hj k hk (by rw [e, hd])), hd]
   simp [Act.put, Act.eval, hz]
/-- All that holds while they come up. -/
structure GInv (ops : Array Oper) (gs : List Nat) (S : World → Prop) (T : Nat → Value → World → Prop) (a0 : Act) (w0 : World) (listed : Array Bool) (a : Act) (w : World) : Prop where
 s : S w
 b : Below w0.heap.size w0 w
 p : ∃ vs : Nat → Value, a = putAll ops (gs.filter fun k => listed.getD k false) vs a0 ∧ ∀ k ∈ gs, listed.getD k false = true → T k (vs k) w
theorem grow_any {gs core : List Nat} {conts : List (List Nat × Tr)} {S : World → Prop} {T : Nat → Value → World → Prop} {a0 : Act} {w0 : World} (hd : ownD ops a0.tmps.size gs = true)
  (hs : Region.noSelect ops = true) (hQ : ∀ c a d v w, Q (.panic c) (a.put d v) w → Q (.panic c) a w)
  (smono : ∀ w1 w2, S w1 → Below w1.heap.size w1 w2 → S w2) (mono : ∀ k ∈ gs, ∀ v w1 w2, T k v w1 → Below w1.heap.size w1 w2 → T k v w2)
  (step : ∀ k ∈ gs, ∀ o, ops[k]? = some o → ∀ (a : Act) (w : World), S w → Below w0.heap.size w0 w → (∀ i, (gs.all fun j => dstOf ops j != some i) = true → a.eval (.tmp i) = a0.eval (.tmp i)) →
   (∀ j ∈ gs, (o.after.any fun e => Region.binds .any e && e.on == j) = true → ∀ d, dstOf ops j = some d → T j (a.eval (.tmp d)) w) →
   Oper.wp P o a w (fun a' w' => ∃ v, a' = a.put o.dst v ∧ T k v w' ∧ Below w.heap.size w w') Q)
  (cont : ∀ p ∈ conts, ∀ (vs : Nat → Value) (w : World), S w → Below w0.heap.size w0 w → (∀ j ∈ p.1, T j (vs j) w) → walkT P ops Q false p.2 S (putAll ops p.1 vs a0) w) :
  ∀ (n : Nat) (listed : Array Bool) (a : Act) (w : World), scanG ops gs core conts n listed = true → GInv ops gs S T a0 w0 listed a w → wpAnyH P .any ops Q S n listed a w
 | 0, listed, a, w, hL, _ => by simp [scanG] at hL
 | n + 1, listed, a, w, hL, hI => by
  obtain ⟨h1, h2, h3⟩ := ownD_out hd
  obtain ⟨hS, hB, vs, rfl, hT⟩ := hI
  rw [scanG] at hL
  by_cases hc : core.all (fun k => listed.getD k false) = true
  ·rw [if_pos hc, List.any_eq_true] at hL
   obtain ⟨p, hp, hL⟩ := hL
   simp only [Bool.and_eq_true, beq_iff_eq] at hL
   rw [← hL.1]
   refine (of_tree hs hQ p.2).1 _ S listed _ w hL.2 hS (cont p hp vs w hS hB fun j hj => ?_)
   rw [hL.1] at hj
   exact hT j ((List.mem_filter.1 hj).1) (by simpa using (List.mem_filter.1 hj).2)
  ·rw [if_neg hc] at hL
   simp only [Bool.and_eq_true, Bool.not_eq_true', List.isEmpty_eq_false_iff, List.all_eq_true, List.contains_iff_mem, decide_eq_true_eq] at hL
   obtain ⟨hne, hL⟩ := hL
   refine wpAnyH_all rfl hne fun i hi => ?_
   obtain ⟨⟨⟨hig, his⟩, hil⟩, hL⟩ := hL i hi
   obtain ⟨hun, oi, hoi, hall⟩ := mem_ready.1 hi
   have hun : listed.getD i false = false := by
    have e : listed[i]? = some listed[i] := Array.getElem?_eq_getElem hil
    rw [Array.getD_eq_getD_getElem?, e] at hun ⊢
    exact hun
   unfold wpOp
   rw [hoi]
   show if Region.wanted oi (yielded ops _) = true then _ else _
   rw [if_pos (want_none (h3 i hig oi hoi))]
   have hpd : (gs.filter fun k => listed.getD k false).Pairwise (fun i j => dstOf ops i ≠ dstOf ops j) := h2.sublist List.filter_sublist
   refine Or.inl (Oper.wp_mono ?_ (step i hig oi hoi (putAll ops (gs.filter fun k => listed.getD k false) vs a0) w hS hB (fun t ht => eval_off vs _ _ fun j hj => ?_) fun j hj hdep d hdj => ?_))
   ·rintro a' w' ⟨v, rfl, hTi, hBi⟩
    have hgd : ∀ j, (listed.setIfInBounds i true).getD j false = if j = i then true else listed.getD j false := fun j => by
     by_cases e : j = i
     ·subst e
      rw [if_pos rfl]
      simp [hil]
     ·rw [if_neg e]
      exact getD_set_ne false (Ne.symm e)
    refine ⟨smono _ _ hS hBi, grow_any hd hs hQ smono mono step cont n _ _ w' hL ⟨smono _ _ hS hBi, hB.trans (hBi.mono hB.size), fun j => if j = i then v else vs j, ?_, fun k hk hkl => ?_⟩⟩
    ·have hdst : oi.dst = dstOf ops i := by unfold dstOf; rw [hoi]; rfl
     rw [hdst]
     exact (putAll_insert (f := fun k => listed.getD k false) (g := fun k => (listed.setIfInBounds i true).getD k false) hun hgd gs a0 hig h2).symm
    ·by_cases e : k = i
     ·subst e
      show T k (if k = k then v else vs k) w'
      rw [if_pos rfl]
      exact hTi
     ·show T k (if k = i then v else vs k) w'
      rw [if_neg e]
      rw [hgd, if_neg e] at hkl
      exact mono k hk _ _ _ (hT k hk hkl) hBi
   ·have := List.all_eq_true.1 ht j ((List.mem_filter.1 hj).1)
    simpa using this
   ·rw [Array.any_eq_true] at hdep
    obtain ⟨x, hx, hx2⟩ := hdep
    simp only [Bool.and_eq_true, beq_iff_eq] at hx2
    have hjl : listed.getD j false = true := by
     have := hall _ (Array.getElem_mem hx) hx2.1
     rwa [hx2.2] at this
    have hjm : j ∈ gs.filter fun k => listed.getD k false := List.mem_filter.2 ⟨hj, hjl⟩
    obtain ⟨d', hd', hlt⟩ := h1 j hj
    rw [hdj] at hd'
    injection hd' with hd'
    subst hd'
    rw [eval_on hdj _ a0 hjm hlt hpd]
    exact hT j hj hjl
/-- A drawn region: gs come up in any order, each walked by itself; then what is left, along trees. -/
theorem region_grow {id : Nat} {l : Array Oper} {a : Act} {w : World} (gs core : List Nat) (conts : List (List Nat × Tr)) (S : World → Prop) (T : Nat → Value → World → Prop) (n : Nat) (hn : a.tmps.size = n) (he : l = ops) (hm : P.follows .mixedOrders = true) (hs : Region.noSelect ops = true)
  (hd : ownD ops n gs = true) (hL : scanG ops gs core conts ops.size (Array.replicate ops.size false) = true) (hS : S w.drew)
  (smono : ∀ w1 w2, S w1 → Below w1.heap.size w1 w2 → S w2) (mono : ∀ k ∈ gs, ∀ v w1 w2, T k v w1 → Below w1.heap.size w1 w2 → T k v w2)
  (step : ∀ k ∈ gs, ∀ o, ops[k]? = some o → ∀ (a' : Act) (w' : World), S w' → Below w.drew.heap.size w.drew w' → (∀ i, (gs.all fun j => dstOf ops j != some i) = true → a'.eval (.tmp i) = a.eval (.tmp i)) →
   (∀ j ∈ gs, (o.after.any fun e => Region.binds .any e && e.on == j) = true → ∀ d, dstOf ops j = some d → T j (a'.eval (.tmp d)) w') →
   Oper.wp P o a' w' (fun a'' w'' => ∃ v, a'' = a'.put o.dst v ∧ T k v w'' ∧ Below w'.heap.size w' w'') (NoPanic Q))
  (cont : ∀ p ∈ conts, ∀ (vs : Nat → Value) (w' : World), S w' → Below w.drew.heap.size w.drew w' → (∀ j ∈ p.1, T j (vs j) w') → walkT P ops (NoPanic Q) false p.2 S (putAll ops p.1 vs a) w') : (Code.region id l true).wp P Q a w := by
 subst he hn
 refine wp_region_noPanic (wp_region_held_drew (S := S) hm hS fun _ => ?_)
 have h0 : (gs.filter fun k => (Array.replicate l.size false).getD k false) = [] := List.filter_eq_nil_iff.2 fun k _ => by simp [Array.getD_eq_getD_getElem?, Array.getElem?_replicate]; split <;> simp
 refine grow_any (core := core) (conts := conts) (T := T) (a0 := a) (w0 := w.drew) hd hs (fun _ _ _ _ _ h => h) smono mono step cont _ _ _ _ hL ⟨hS, Below.refl _ _, fun _ => undef, ?_, fun k _ hk => ?_⟩
 ·rw [h0]
  rfl
 ·exfalso
  simp [Array.getD_eq_getD_getElem?, Array.getElem?_replicate] at hk
  split at hk <;> simp at hk
end
end Go.Proofs.YtpnnkhpokangfaaDoor.Lex
