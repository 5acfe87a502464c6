/- A region that draws its order, in which more than one call may come up: walked along a tree of orders. No program. -/
import Derived.Test.YtiacdpfodhggmaaDoorPacW
namespace Go.Proofs.YtiacdpfodhggmaaDoor.Lex
open Go

/-- Orders: an operation that is no call, then the rest; or one of some calls, and for each its own rest. -/
inductive Tr where
  | fin : Tr
  | op (k : Nat) (t : Tr) : Tr
  | alt (k : Nat) (t : Tr) (more : Tr) : Tr
def Tr.heads : Tr → List Nat
  | .alt k _ m => k :: m.heads
  | _ => []
/-- These are all orders, but for operations that are no calls, which come up apart from all that is left. -/
def lexT (ops : Array Oper) : Nat → List Nat → Tr → Array Bool → Bool
  | _, seen, .fin, listed => Region.ready .any ops listed == seen
  | n, seen, .op k t, listed => match n with
    | 0 => false
    | n + 1 => seen.isEmpty && (Region.free .any ops listed k && (Region.ready .any ops listed).contains k) && lexT ops n [] t (listed.setIfInBounds k true)
  | n, seen, .alt k t m, listed => match n with
    | 0 => false
    | n + 1 => decide (k < ops.size) && lexT ops n [] t (listed.setIfInBounds k true) && lexT ops (n + 1) (seen ++ [k]) m listed
def walkT (P : Program) (ops : Array Oper) (Q : Exit → Act → World → Prop) : Bool → Tr → (World → Prop) → Act → World → Prop
  | al, .fin, _, a, w => al = true ∨ Q .normal a w
  | _, .op k t, S, a, w => ∀ o, ops[k]? = some o → ∃ v, YieldsIf P ops S o v a ∧ walkT P ops Q false t S (a.put o.dst v) w
  | _, .alt k t m, S, a, w => (∀ o, ops[k]? = some o →
      if Region.wanted o (yielded ops a.tmps) = true then Oper.wp P o a w (fun a' w' => ∃ S' : World → Prop, (∀ w, S' w → S w) ∧ S' w' ∧ walkT P ops Q false t S' a' w') Q
      else walkT P ops Q false t S (a.put o.dst undef) w) ∧ walkT P ops Q true m S a w
section
variable {P : Program} {ops : Array Oper} {Q : Exit → Act → World → Prop}
theorem lex_heads {n : Nat} {listed : Array Bool} : ∀ (m : Tr) (seen : List Nat), seen ≠ [] → lexT ops n seen m listed = true → Region.ready .any ops listed = seen ++ m.heads
  | .fin, seen, _, h => by
    simp only [lexT, beq_iff_eq] at h
    rw [h]
    show seen = seen ++ []
    rw [List.append_nil]
  | .op k t, seen, hs, h => by
    cases n with
    | zero => simp [lexT] at h
    | succ n =>
      simp only [lexT, Bool.and_eq_true, List.isEmpty_iff] at h
      exact absurd h.1.1 hs
  | .alt k t m, seen, hs, h => by
    cases n with
    | zero => simp [lexT] at h
    | succ n =>
      simp only [lexT, Bool.and_eq_true] at h
      have := lex_heads m (seen ++ [k]) (by simp) h.2
      rw [this, List.append_assoc]
      rfl
theorem of_tree (hs : Region.noSelect ops = true) (hQ : ∀ c a d v w, Q (.panic c) (a.put d v) w → Q (.panic c) a w) :
    ∀ (t : Tr), (∀ (n : Nat) (S : World → Prop) (listed : Array Bool) (a : Act) (w : World), lexT ops n [] t listed = true → S w → walkT P ops Q false t S a w → wpAnyH P .any ops Q S n listed a w) ∧
      (∀ (n : Nat) (seen : List Nat) (S : World → Prop) (listed : Array Bool) (a : Act) (w : World), lexT ops (n + 1) seen t listed = true → S w → walkT P ops Q true t S a w → ∀ k ∈ t.heads, wpOp P ops Q k (fun a' w' => S w' ∧ wpAnyH P .any ops Q S n (listed.setIfInBounds k true) a' w') a w)
  | .fin => by
    refine ⟨fun n S listed a w hL hS h => ?_, fun n seen S listed a w _ _ _ k hk => by cases hk⟩
    simp only [lexT, beq_iff_eq] at hL
    have h : Q .normal a w := h.resolve_left (by simp)
    cases n with
    | zero => exact ⟨hL, h⟩
    | succ n => exact ⟨fun _ => h, fun i hi => by rw [hL] at hi; cases hi⟩
  | .op k t => by
    refine ⟨fun n S listed a w hL hS h => ?_, fun n seen S listed a w _ _ _ k hk => by cases hk⟩
    cases n with
    | zero => simp [lexT] at hL
    | succ n =>
      simp only [lexT, Bool.and_eq_true] at hL
      have hc : k ∈ Region.ready .any ops listed := by simpa using hL.1.2.2
      obtain ⟨_, o, ho, _⟩ := mem_ready.1 hc
      obtain ⟨v, hy, hh⟩ := h o ho
      exact wpAnyH_take ho hs hL.1.2.1 hL.1.2.2 (fun c a w => hQ c a _ _ w) hy hS ((of_tree hs hQ t).1 n S _ _ w hL.2 hS hh)
  | .alt k t m => by
    have one : ∀ (n : Nat) (S : World → Prop) (listed : Array Bool) (a : Act) (w : World), k < ops.size → lexT ops n [] t (listed.setIfInBounds k true) = true → S w →
        (∀ o, ops[k]? = some o → if Region.wanted o (yielded ops a.tmps) = true then Oper.wp P o a w (fun a' w' => ∃ S' : World → Prop, (∀ w, S' w → S w) ∧ S' w' ∧ walkT P ops Q false t S' a' w') Q else walkT P ops Q false t S (a.put o.dst undef) w) →
        wpOp P ops Q k (fun a' w' => S w' ∧ wpAnyH P .any ops Q S n (listed.setIfInBounds k true) a' w') a w := fun n S listed a w hlt hL hS h => by
      have ho : ops[k]? = some ops[k] := Array.getElem?_eq_getElem hlt
      have h' := h _ ho
      unfold wpOp
      rw [ho]
      show if Region.wanted ops[k] (yielded ops a.tmps) = true then _ else _
      by_cases hw : Region.wanted ops[k] (yielded ops a.tmps) = true
      · rw [if_pos hw] at h' ⊢
        refine Or.inl (Oper.wp_mono (fun a' w' hh => ?_) h')
        obtain ⟨S', hSS, hS', hh⟩ := hh
        exact ⟨hSS _ hS', turn hSS _ _ _ _ ((of_tree hs hQ t).1 n S' _ a' w' hL hS' hh)⟩
      · rw [if_neg hw] at h' ⊢
        exact ⟨hS, (of_tree hs hQ t).1 n S _ _ w hL hS h'⟩
    refine ⟨fun n S listed a w hL hS h => ?_, fun n seen S listed a w hL hS h j hj => ?_⟩
    · cases n with
      | zero => simp [lexT] at hL
      | succ n =>
        simp only [lexT, Bool.and_eq_true, decide_eq_true_eq] at hL
        have hr := lex_heads m [k] (by simp) hL.2
        refine wpAnyH_all hr (by simp) fun i hi => ?_
        rcases List.mem_cons.1 hi with rfl | hi
        · exact one n S listed a w hL.1.1 hL.1.2 hS h.1
        · exact (of_tree hs hQ m).2 n _ S listed a w hL.2 hS h.2 i hi
    · simp only [lexT, Bool.and_eq_true, decide_eq_true_eq] at hL
      rcases List.mem_cons.1 hj with rfl | hj
      · exact one n S listed a w hL.1.1 hL.1.2 hS h.1
      · exact (of_tree hs hQ m).2 n _ S listed a w hL.2 hS h.2 j hj

theorem region_tree {id : Nat} {l : Array Oper} {a : Act} {w : World} (t : Tr) (S : World → Prop) (he : l = ops) (hm : P.follows .mixedOrders = true) (hs : Region.noSelect ops = true)
    (hL : lexT ops ops.size [] t (Array.replicate ops.size false) = true) (hS : S w.drew) (h : walkT P ops (NoPanic Q) false t S a w.drew) : (Code.region id l true).wp P Q a w := by
  subst he
  refine wp_region_noPanic (wp_region_held_drew (S := S) hm hS fun _ => ?_)
  exact (of_tree hs (fun _ _ _ _ _ h => h) t).1 _ S _ a _ hL hS h
variable {k : Nat} {S : World → Prop} {o : Oper} {a : Act} {w : World} {t m : Tr} {al : Bool}
theorem tree_take (v : Value) (ho : ops[k]? = some o) (hw : Region.wanted o (yielded ops a.tmps) = true)
    (hv : ∀ w, S w → (execOp a.eval o).run P w = .ok (.value v) w) (h : walkT P ops Q false t S (a.put o.dst v) w) : walkT P ops Q al (.op k t) S a w := by
  intro o' ho'
  obtain rfl : o' = o := Option.some.inj (ho'.symm.trans ho)
  exact ⟨v, Or.inl ⟨hw, hv⟩, h⟩
theorem tree_skip (ho : ops[k]? = some o) (hw : Region.wanted o (yielded ops a.tmps) = false)
    (h : walkT P ops Q false t S (a.put o.dst undef) w) : walkT P ops Q al (.op k t) S a w := by
  intro o' ho'
  obtain rfl : o' = o := Option.some.inj (ho'.symm.trans ho)
  exact ⟨undef, Or.inr ⟨hw, rfl⟩, h⟩
theorem tree_call (ho : ops[k]? = some o) (hw : Region.wanted o (yielded ops a.tmps) = true)
    (h : ∀ K : Act → World → Prop, Shut (∀ (S' : World → Prop) a' w', (∀ w, S' w → S w) → S' w' → walkT P ops Q false t S' a' w' → K a' w') → Oper.wp P o a w K Q)
    (hm : walkT P ops Q true m S a w) : walkT P ops Q al (.alt k t m) S a w := by
  refine ⟨fun o' ho' => ?_, hm⟩
  obtain rfl : o' = o := Option.some.inj (ho'.symm.trans ho)
  rw [if_pos hw]
  exact h _ fun S' a' w' h1 h2 h3 => ⟨S', h1, h2, h3⟩
theorem tree_pass (ho : ops[k]? = some o) (hw : Region.wanted o (yielded ops a.tmps) = false) (h : walkT P ops Q false t S (a.put o.dst undef) w)
    (hm : walkT P ops Q true m S a w) : walkT P ops Q al (.alt k t m) S a w := by
  refine ⟨fun o' ho' => ?_, hm⟩
  obtain rfl : o' = o := Option.some.inj (ho'.symm.trans ho)
  rw [if_neg (by rw [hw]; simp)]
  exact h
theorem tree_no : walkT P ops Q true .fin S a w := Or.inl rfl
theorem tree_end (h : Q .normal a w) : walkT P ops Q false .fin S a w := Or.inr h
/-- What follows a region is shown once, whatever order was picked in it. -/
theorem region_cut {id : Nat} {l : Array Oper} {d : Bool} (R : Act → World → Prop) (h : (Code.region id l d).wp P (fun e a w => match e with | .normal => R a w | e => Q e a w) a w) (h2 : ∀ a w, R a w → Q .normal a w) : (Code.region id l d).wp P Q a w :=
  Code.wp_mono (fun e a w h => by
    cases e with
    | normal => exact h2 a w h
    | _ => exact h) h
end
end Go.Proofs.YtiacdpfodhggmaaDoor.Lex
