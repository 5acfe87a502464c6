/- Texts PacW, TreW, LeB, LeC, LeD, one behind the other. -/
import Derived.OrdersHeld
import Derived.Deep.RegionHeld3
/- A region that draws its order, with calls that write: walked once, in the order of the text, if each operation that is no call yields its value in every world that meets what is held then. No program. -/
namespace Go.Proofs.YtdbemkdfndjakaaDoor.Lex
open Go

/-- In this order: each may come up, apart from all that is left; a call comes up alone. -/
def lexH (ops : Array Oper) (calls : List Nat) : List Nat → Array Bool → Bool
  | [], listed => Region.ready .any ops listed == []
  | k :: l, listed => (if calls.contains k then Region.ready .any ops listed == [k] else (Region.free .any ops listed k && (Region.ready .any ops listed).contains k)) && lexH ops calls l (listed.setIfInBounds k true)

def walkH (P : Program) (ops : Array Oper) (Q : Exit → Act → World → Prop) (calls : List Nat) : List Nat → (World → Prop) → Act → World → Prop
  | [], _, a, w => Q .normal a w
  | k :: l, S, a, w => ∀ o, ops[k]? = some o →
      if calls.contains k = true then
        (if Region.wanted o (yielded ops a.tmps) = true then Oper.wp P o a w (fun a' w' => ∃ S' : World → Prop, (∀ w, S' w → S w) ∧ S' w' ∧ walkH P ops Q calls l S' a' w') Q
         else walkH P ops Q calls l S (a.put o.dst undef) w)
      else ∃ v, YieldsIf P ops S o v a ∧ walkH P ops Q calls l S (a.put o.dst v) w

section
variable {P : Program} {ops : Array Oper} {Q : Exit → Act → World → Prop} {calls : List Nat}

theorem turn {md : Region.Mode} {S S' : World → Prop} (h : ∀ w, S' w → S w) : ∀ (n : Nat) (listed : Array Bool) (a : Act) (w : World), wpAnyH P md ops Q S' n listed a w → wpAnyH P md ops Q S n listed a w
  | 0, _, _, _, k => k
  | n + 1, _, _, _, k => ⟨k.1, fun i hi => wpOp_mono (fun a' w' k' => ⟨h _ k'.1, turn h n _ a' w' k'.2⟩) (k.2 i hi)⟩

theorem of_walk (hs : Region.noSelect ops = true) (hQ : ∀ c a d v w, Q (.panic c) (a.put d v) w → Q (.panic c) a w) :
    ∀ (l : List Nat) (S : World → Prop) (listed : Array Bool) (a : Act) (w : World), (∀ k ∈ l, k < ops.size) → lexH ops calls l listed = true → S w → walkH P ops Q calls l S a w → wpAnyH P .any ops Q S l.length listed a w
  | [], S, listed, a, w, _, hL, _, h => by
    simp only [lexH, beq_iff_eq] at hL
    exact ⟨hL, h⟩
  | k :: l, S, listed, a, w, hk, hL, hS, h => by
    have hlt : k < ops.size := hk k (by simp)
    have hk' : ∀ j ∈ l, j < ops.size := fun j hj => hk j (by simp [hj])
    have ho : ops[k]? = some ops[k] := Array.getElem?_eq_getElem hlt
    have h' := h _ ho
    simp only [lexH, Bool.and_eq_true] at hL
    obtain ⟨h1, h2⟩ := hL
    cases hc : calls.contains k with
    | true =>
      rw [hc, if_pos rfl] at h1
      rw [if_pos hc] at h'
      have hr : Region.ready .any ops listed = [k] := by simpa using h1
      refine wpAnyH_all hr (by simp) fun i hi => ?_
      obtain rfl : i = k := by simpa using hi
      unfold wpOp
      rw [ho]
      show if Region.wanted ops[i] (yielded ops a.tmps) = true then _ else _
      by_cases hw : Region.wanted ops[i] (yielded ops a.tmps) = true
      · rw [if_pos hw] at h' ⊢
        refine Or.inl (Oper.wp_mono (fun a' w' hh => ?_) h')
        obtain ⟨S', hSS, hS', hh⟩ := hh
        exact ⟨hSS _ hS', turn hSS _ _ _ _ (of_walk hs hQ l S' _ a' w' hk' h2 hS' hh)⟩
      · rw [if_neg hw] at h' ⊢
        exact ⟨hS, of_walk hs hQ l S _ _ w hk' h2 hS h'⟩
    | false =>
      rw [hc, if_neg (by simp), Bool.and_eq_true] at h1
      rw [if_neg (by rw [hc]; simp)] at h'
      obtain ⟨v, hy, hh⟩ := h'
      exact wpAnyH_take ho hs h1.1 h1.2 (fun c a w => hQ c a _ _ w) hy hS (of_walk hs hQ l S _ _ w hk' h2 hS hh)

theorem region_lex {id : Nat} {l : Array Oper} {a : Act} {w : World} (ord : List Nat) (S : World → Prop) (he : l = ops) (hm : P.follows .mixedOrders = true) (hs : Region.noSelect ops = true)
    (hn : ord.length = ops.size) (hk : ord.all (fun k => decide (k < ops.size)) = true) (hL : lexH ops calls ord (Array.replicate ops.size false) = true) (hS : S w.drew) (h : walkH P ops (NoPanic Q) calls ord S a w.drew) : (Code.region id l true).wp P Q a w := by
  subst he
  refine wp_region_noPanic (wp_region_held_drew (S := S) hm hS fun _ => ?_)
  rw [← hn]
  exact of_walk hs (fun _ _ _ _ _ h => h) ord S _ a _ (fun k h => by simpa using List.all_eq_true.1 hk k h) (by rw [hn]; exact hL) hS h

variable {l : List Nat} {k : Nat} {S : World → Prop} {o : Oper} {a : Act} {w : World}
theorem step_take (v : Value) (ho : ops[k]? = some o) (hc : calls.contains k = false) (hw : Region.wanted o (yielded ops a.tmps) = true)
    (hv : ∀ w, S w → (execOp a.eval o).run P w = .ok (.value v) w) (h : walkH P ops Q calls l S (a.put o.dst v) w) : walkH P ops Q calls (k :: l) S a w := by
  intro o' ho'
  obtain rfl : o' = o := Option.some.inj (ho'.symm.trans ho)
  rw [if_neg (by rw [hc]; simp)]
  exact ⟨v, Or.inl ⟨hw, hv⟩, h⟩
theorem step_call (ho : ops[k]? = some o) (hc : calls.contains k = true) (hw : Region.wanted o (yielded ops a.tmps) = true)
    (h : ∀ K : Act → World → Prop, Shut (∀ (S' : World → Prop) a' w', (∀ w, S' w → S w) → S' w' → walkH P ops Q calls l S' a' w' → K a' w') → Oper.wp P o a w K Q) : walkH P ops Q calls (k :: l) S a w := by
  intro o' ho'
  obtain rfl : o' = o := Option.some.inj (ho'.symm.trans ho)
  rw [if_pos hc, if_pos hw]
  exact h _ fun S' a' w' h1 h2 h3 => ⟨S', h1, h2, h3⟩
theorem want_none {y : Nat → Option Bool} (h : o.guard = none) : Region.wanted o y = true := by
  unfold Region.wanted
  rw [h]
end
end Go.Proofs.YtdbemkdfndjakaaDoor.Lex

/- A region that draws its order, in which more than one call may come up: walked along a tree of orders. No program. -/
namespace Go.Proofs.YtdbemkdfndjakaaDoor.Lex
open Go

/-- Orders: an operation that is no call, then the rest; or one of some calls, and for each its own rest. -/
inductive Tr where
  | fin : Tr
  | op (k : Nat) (t : Tr) : Tr
  | alt (k : Nat) (t : Tr) (more : Tr) : Tr
def Tr.heads : Tr → List Nat
  | .alt k _ m => k :: m.heads
  | _ => []
/-- These are all orders, but for operations that are no calls, which come up apart from all that is left. -/
def lexT (ops : Array Oper) : Nat → List Nat → Tr → Array Bool → Bool
  | _, seen, .fin, listed => Region.ready .any ops listed == seen
  | n, seen, .op k t, listed => match n with
    | 0 => false
    | n + 1 => seen.isEmpty && (Region.free .any ops listed k && (Region.ready .any ops listed).contains k) && lexT ops n [] t (listed.setIfInBounds k true)
  | n, seen, .alt k t m, listed => match n with
    | 0 => false
    | n + 1 => decide (k < ops.size) && lexT ops n [] t (listed.setIfInBounds k true) && lexT ops (n + 1) (seen ++ [k]) m listed
def walkT (P : Program) (ops : Array Oper) (Q : Exit → Act → World → Prop) : Bool → Tr → (World → Prop) → Act → World → Prop
  | al, .fin, _, a, w => al = true ∨ Q .normal a w
  | _, .op k t, S, a, w => ∀ o, ops[k]? = some o → ∃ v, YieldsIf P ops S o v a ∧ walkT P ops Q false t S (a.put o.dst v) w
  | _, .alt k t m, S, a, w => (∀ o, ops[k]? = some o →
      if Region.wanted o (yielded ops a.tmps) = true then Oper.wp P o a w (fun a' w' => ∃ S' : World → Prop, (∀ w, S' w → S w) ∧ S' w' ∧ walkT P ops Q false t S' a' w') Q
      else walkT P ops Q false t S (a.put o.dst undef) w) ∧ walkT P ops Q true m S a w
section
variable {P : Program} {ops : Array Oper} {Q : Exit → Act → World → Prop}
theorem lex_heads {n : Nat} {listed : Array Bool} : ∀ (m : Tr) (seen : List Nat), seen ≠ [] → lexT ops n seen m listed = true → Region.ready .any ops listed = seen ++ m.heads
  | .fin, seen, _, h => by
    simp only [lexT, beq_iff_eq] at h
    rw [h]
    show seen = seen ++ []
    rw [List.append_nil]
  | .op k t, seen, hs, h => by
    cases n with
    | zero => simp [lexT] at h
    | succ n =>
      simp only [lexT, Bool.and_eq_true, List.isEmpty_iff] at h
      exact absurd h.1.1 hs
  | .alt k t m, seen, hs, h => by
    cases n with
    | zero => simp [lexT] at h
    | succ n =>
      simp only [lexT, Bool.and_eq_true] at h
      have := lex_heads m (seen ++ [k]) (by simp) h.2
      rw [this, List.append_assoc]
      rfl
theorem of_tree (hs : Region.noSelect ops = true) (hQ : ∀ c a d v w, Q (.panic c) (a.put d v) w → Q (.panic c) a w) :
    ∀ (t : Tr), (∀ (n : Nat) (S : World → Prop) (listed : Array Bool) (a : Act) (w : World), lexT ops n [] t listed = true → S w → walkT P ops Q false t S a w → wpAnyH P .any ops Q S n listed a w) ∧
      (∀ (n : Nat) (seen : List Nat) (S : World → Prop) (listed : Array Bool) (a : Act) (w : World), lexT ops (n + 1) seen t listed = true → S w → walkT P ops Q true t S a w → ∀ k ∈ t.heads, wpOp P ops Q k (fun a' w' => S w' ∧ wpAnyH P .any ops Q S n (listed.setIfInBounds k true) a' w') a w)
  | .fin => by
    refine ⟨fun n S listed a w hL hS h => ?_, fun n seen S listed a w _ _ _ k hk => by cases hk⟩
    simp only [lexT, beq_iff_eq] at hL
    have h : Q .normal a w := h.resolve_left (by simp)
    cases n with
    | zero => exact ⟨hL, h⟩
    | succ n => exact ⟨fun _ => h, fun i hi => by rw [hL] at hi; cases hi⟩
  | .op k t => by
    refine ⟨fun n S listed a w hL hS h => ?_, fun n seen S listed a w _ _ _ k hk => by cases hk⟩
    cases n with
    | zero => simp [lexT] at hL
    | succ n =>
      simp only [lexT, Bool.and_eq_true] at hL
      have hc : k ∈ Region.ready .any ops listed := by simpa using hL.1.2.2
      obtain ⟨_, o, ho, _⟩ := mem_ready.1 hc
      obtain ⟨v, hy, hh⟩ := h o ho
      exact wpAnyH_take ho hs hL.1.2.1 hL.1.2.2 (fun c a w => hQ c a _ _ w) hy hS ((of_tree hs hQ t).1 n S _ _ w hL.2 hS hh)
  | .alt k t m => by
    have one : ∀ (n : Nat) (S : World → Prop) (listed : Array Bool) (a : Act) (w : World), k < ops.size → lexT ops n [] t (listed.setIfInBounds k true) = true → S w →
        (∀ o, ops[k]? = some o → if Region.wanted o (yielded ops a.tmps) = true then Oper.wp P o a w (fun a' w' => ∃ S' : World → Prop, (∀ w, S' w → S w) ∧ S' w' ∧ walkT P ops Q false t S' a' w') Q else walkT P ops Q false t S (a.put o.dst undef) w) →
        wpOp P ops Q k (fun a' w' => S w' ∧ wpAnyH P .any ops Q S n (listed.setIfInBounds k true) a' w') a w := fun n S listed a w hlt hL hS h => by
      have ho : ops[k]? = some ops[k] := Array.getElem?_eq_getElem hlt
      have h' := h _ ho
      unfold wpOp
      rw [ho]
      show if Region.wanted ops[k] (yielded ops a.tmps) = true then _ else _
      by_cases hw : Region.wanted ops[k] (yielded ops a.tmps) = true
      · rw [if_pos hw] at h' ⊢
        refine Or.inl (Oper.wp_mono (fun a' w' hh => ?_) h')
        obtain ⟨S', hSS, hS', hh⟩ := hh
        exact ⟨hSS _ hS', turn hSS _ _ _ _ ((of_tree hs hQ t).1 n S' _ a' w' hL hS' hh)⟩
      · rw [if_neg hw] at h' ⊢
        exact ⟨hS, (of_tree hs hQ t).1 n S _ _ w hL hS h'⟩
    refine ⟨fun n S listed a w hL hS h => ?_, fun n seen S listed a w hL hS h j hj => ?_⟩
    · cases n with
      | zero => simp [lexT] at hL
      | succ n =>
        simp only [lexT, Bool.and_eq_true, decide_eq_true_eq] at hL
        have hr := lex_heads m [k] (by simp) hL.2
        refine wpAnyH_all hr (by simp) fun i hi => ?_
        rcases List.mem_cons.1 hi with rfl | hi
        · exact one n S listed a w hL.1.1 hL.1.2 hS h.1
        · exact (of_tree hs hQ m).2 n _ S listed a w hL.2 hS h.2 i hi
    · simp only [lexT, Bool.and_eq_true, decide_eq_true_eq] at hL
      rcases List.mem_cons.1 hj with rfl | hj
      · exact one n S listed a w hL.1.1 hL.1.2 hS h.1
      · exact (of_tree hs hQ m).2 n _ S listed a w hL.2 hS h.2 j hj

theorem region_tree {id : Nat} {l : Array Oper} {a : Act} {w : World} (t : Tr) (S : World → Prop) (he : l = ops) (hm : P.follows .mixedOrders = true) (hs : Region.noSelect ops = true)
    (hL : lexT ops ops.size [] t (Array.replicate ops.size false) = true) (hS : S w.drew) (h : walkT P ops (NoPanic Q) false t S a w.drew) : (Code.region id l true).wp P Q a w := by
  subst he
  refine wp_region_noPanic (wp_region_held_drew (S := S) hm hS fun _ => ?_)
  exact (of_tree hs (fun _ _ _ _ _ h => h) t).1 _ S _ a _ hL hS h
variable {k : Nat} {S : World → Prop} {o : Oper} {a : Act} {w : World} {t m : Tr} {al : Bool}
theorem tree_take (v : Value) (ho : ops[k]? = some o) (hw : Region.wanted o (yielded ops a.tmps) = true)
    (hv : ∀ w, S w → (execOp a.eval o).run P w = .ok (.value v) w) (h : walkT P ops Q false t S (a.put o.dst v) w) : walkT P ops Q al (.op k t) S a w := by
  intro o' ho'
  obtain rfl : o' = o := Option.some.inj (ho'.symm.trans ho)
  exact ⟨v, Or.inl ⟨hw, hv⟩, h⟩
theorem tree_call (ho : ops[k]? = some o) (hw : Region.wanted o (yielded ops a.tmps) = true)
    (h : ∀ K : Act → World → Prop, Shut (∀ (S' : World → Prop) a' w', (∀ w, S' w → S w) → S' w' → walkT P ops Q false t S' a' w' → K a' w') → Oper.wp P o a w K Q)
    (hm : walkT P ops Q true m S a w) : walkT P ops Q al (.alt k t m) S a w := by
  refine ⟨fun o' ho' => ?_, hm⟩
  obtain rfl : o' = o := Option.some.inj (ho'.symm.trans ho)
  rw [if_pos hw]
  exact h _ fun S' a' w' h1 h2 h3 => ⟨S', h1, h2, h3⟩
theorem tree_no : walkT P ops Q true .fin S a w := Or.inl rfl
theorem tree_end (h : Q .normal a w) : walkT P ops Q false .fin S a w := Or.inr h
end
end Go.Proofs.YtdbemkdfndjakaaDoor.Lex

/- A region that draws its order and ends in a store that undoes what was held: its last operation is taken out, and done behind all others. No program. -/
namespace Go.Proofs.YtdbemkdfndjakaaDoor.Lex
open Go

/-- The same operation, but it does nothing. -/
def idle (o : Oper) : Oper := { o with op := .assign (.const (.bool true)) }
section
variable {P : Program} {ops : Array Oper} {Q : Exit → Act → World → Prop} {n : Nat} {on : Oper} {md : Region.Mode}
theorem idle_at (ho : ops[n]? = some on) : (ops.setIfInBounds n (idle on))[n]? = some (idle on) := by
  have hn := (Array.getElem?_eq_some_iff.1 ho).1
  simp [hn]
theorem idle_ne {i : Nat} (h : i ≠ n) : (ops.setIfInBounds n (idle on))[i]? = ops[i]? := by
  rw [Array.getElem?_setIfInBounds]
  rw [if_neg (Ne.symm h)]
theorem idle_after (ho : ops[n]? = some on) (i : Nat) : ((ops.setIfInBounds n (idle on))[i]?).map (·.after) = (ops[i]?).map (·.after) := by
  by_cases h : i = n
  · subst h
    rw [idle_at ho, ho]
    rfl
  · rw [idle_ne h]
theorem idle_ready (ho : ops[n]? = some on) (listed : Array Bool) : Region.ready md (ops.setIfInBounds n (idle on)) listed = Region.ready md ops listed := by
  unfold Region.ready
  rw [Array.size_setIfInBounds]
  refine List.filter_congr fun i _ => ?_
  have h := idle_after ho i
  cases h1 : (ops.setIfInBounds n (idle on))[i]? <;> cases h2 : ops[i]? <;> rw [h1, h2] at h <;> simp only [Option.map_some, Option.map_none, Option.some.injEq, reduceCtorEq] at h ⊢
  rw [h]
theorem idle_yielded (ho : ops[n]? = some on) (tmps : Array Value) : yielded (ops.setIfInBounds n (idle on)) tmps = yielded ops tmps := by
  funext j
  unfold yielded
  by_cases h : j = n
  · subst h
    rw [idle_at ho, ho]
    rfl
  · rw [idle_ne h]
theorem upon_then {K : Act → World → Prop} {o : Oper} {a : Act} {next : Act → World → Prop} {r : Result Next} (h : o.upon P a next (Exit.then K Q) r) : o.upon P a next Q r := by
  cases r with
  | ok x w => cases x <;> exact h
  | halt x w => cases x <;> exact h
theorem wpOp_then {K next : Act → World → Prop} (ho : ops[n]? = some on) {i : Nat} (hi : i ≠ n) {a : Act} {w : World} (h : wpOp P (ops.setIfInBounds n (idle on)) (Exit.then K Q) i next a w) : wpOp P ops Q i next a w := by
  unfold wpOp at h ⊢
  rw [idle_ne hi, idle_yielded ho] at h
  cases h2 : ops[i]? with
  | none => rw [h2] at h; exact h
  | some o =>
    rw [h2] at h
    simp only at h ⊢
    split
    · rename_i hw
      rw [if_pos hw] at h
      rcases h with h | h
      · exact Or.inl (upon_then h)
      · exact Or.inr h
    · rename_i hw
      rw [if_neg hw] at h
      exact h
theorem unlisted_of {listed : Array Bool} {j : Nat} (hj : j < listed.size) (h : listed.getD j false = true → False) : listed.getD j true = false := by
  have e : listed[j]? = some listed[j] := Array.getElem?_eq_getElem hj
  rw [Array.getD_eq_getD_getElem?, e] at h ⊢
  simp only [Option.getD_some] at h ⊢
  cases hb : listed[j]
  · rfl
  · exact absurd hb h
/-- Where each waits for earlier ones alone, one may come up as long as one has not. -/
theorem ready_some (hacy : ∀ (i : Nat) (o : Oper), ops[i]? = some o → ∀ e ∈ o.after, e.on < i) {listed : Array Bool} (hsz : listed.size = ops.size) :
    ∀ (i : Nat), i < ops.size → listed.getD i true = false → ∃ j, j ∈ Region.ready md ops listed := by
  intro i
  induction i using Nat.strongRecOn with
  | ind i ih =>
    intro hi hl
    have ho : ops[i]? = some ops[i] := Array.getElem?_eq_getElem hi
    by_cases hall : ∀ e ∈ (ops[i]).after, Region.binds md e = true → listed.getD e.on false = true
    · exact ⟨i, mem_ready.2 ⟨hl, _, ho, hall⟩⟩
    · obtain ⟨e, he⟩ := Classical.not_forall.1 hall
      obtain ⟨hm, he⟩ := Classical.not_imp.1 he
      obtain ⟨_, hf⟩ := Classical.not_imp.1 he
      have hlt := hacy i _ ho e hm
      exact ih e.on hlt (by omega) (unlisted_of (by omega) hf)

theorem last_any (ho : ops[n]? = some on) (hd : on.dst = none) (hg : on.guard = none) (hn : n + 1 = ops.size) (hdep : ∀ i, i < n → ∃ e ∈ on.after, Region.binds md e = true ∧ e.on = i)
    (hacy : ∀ (i : Nat) (o : Oper), ops[i]? = some o → ∀ e ∈ o.after, e.on < i) :
    ∀ (fuel : Nat) (listed : Array Bool) (a : Act) (w : World), listed.size = ops.size → listed.getD n true = false →
      wpAny P md (ops.setIfInBounds n (idle on)) (Exit.then (fun a w => wpOp P ops Q n (Q .normal) a w) Q) fuel listed a w → wpAny P md ops Q fuel listed a w
  | 0, listed, a, w, hsz, hl, h => by
    obtain ⟨j, hj⟩ := ready_some (md := md) hacy hsz n (by omega) hl
    have h1 := h.1
    rw [idle_ready ho] at h1
    rw [h1] at hj
    cases hj
  | fuel + 1, listed, a, w, hsz, hl, h => by
    obtain ⟨_, h2⟩ := h
    rw [idle_ready ho] at h2
    refine ⟨fun h1 => ?_, fun i hi => ?_⟩
    · obtain ⟨j, hj⟩ := ready_some (md := md) hacy hsz n (by omega) hl
      rw [h1] at hj
      cases hj
    · have h3 := h2 i hi
      by_cases hin : i = n
      · subst hin
        obtain ⟨_, o, ho', hall⟩ := mem_ready.1 hi
        obtain rfl : on = o := Option.some.inj (ho.symm.trans ho')
        have hdone : Region.ready md ops (listed.setIfInBounds i true) = [] := by
          refine List.eq_nil_iff_forall_not_mem.2 fun j hj => ?_
          obtain ⟨hjl, oj, hoj, _⟩ := mem_ready.1 hj
          have hjs := (Array.getElem?_eq_some_iff.1 hoj).1
          by_cases hji : j = i
          · subst hji
            simp [hsz, hjs] at hjl
          · obtain ⟨e, he, hb, heq⟩ := hdep j (by omega)
            have := getD_set_true (i := i) (hall e he hb)
            rw [heq] at this
            have hlt : j < (listed.setIfInBounds i true).size := by simp [hsz, hjs]
            have e2 : (listed.setIfInBounds i true)[j]? = some (listed.setIfInBounds i true)[j] := Array.getElem?_eq_getElem hlt
            rw [Array.getD_eq_getD_getElem?, e2] at this hjl
            simp only [Option.getD_some] at this hjl
            rw [this] at hjl
            cases hjl
        have hK : wpAny P md (ops.setIfInBounds i (idle on)) (Exit.then (fun a w => wpOp P ops Q i (Q .normal) a w) Q) fuel (listed.setIfInBounds i true) a w := by
          unfold wpOp at h3
          rw [idle_at ho] at h3
          simp only at h3
          have hw : Region.wanted (idle on) (yielded (ops.setIfInBounds i (idle on)) a.tmps) = true := want_none hg
          rw [if_pos hw] at h3
          rcases h3 with h3 | h3
          · have h4 : wpAny P md (ops.setIfInBounds i (idle on)) (Exit.then (fun a w => wpOp P ops Q i (Q .normal) a w) Q) fuel (listed.setIfInBounds i true) (a.put on.dst (.bool true)) w := h3
            rw [hd] at h4
            exact h4
          · exfalso
            have h5 : noRoomEvent ∈ (#[] : Array Event) := h3.1.1
            simp at h5
        have hN : wpOp P ops Q i (Q .normal) a w := by
          cases fuel with
          | zero => exact hK.2
          | succ fuel => exact hK.1 (by rw [idle_ready ho]; exact hdone)
        exact wpOp_mono (fun a' w' hq => wpAny_done hdone hq fuel) hN
      · refine wpOp_mono (fun a' w' hq => last_any ho hd hg hn hdep hacy fuel _ a' w' (by simpa using hsz) ?_ hq) (wpOp_then ho hin h3)
        rw [getD_set_ne true hin]
        exact hl
end
section
variable {P : Program} {ops ops1 : Array Oper} {Q : Exit → Act → World → Prop} {calls : List Nat} {n : Nat} {on : Oper}
/-- As region_lex; but the last operation is done behind all others, and nothing need be held behind it. -/
theorem region_last {id : Nat} {l : Array Oper} {a : Act} {w : World} (n : Nat) (on : Oper) (ord : List Nat) (S : World → Prop) (he : l = ops) (h1 : ops1 = ops.setIfInBounds n (idle on)) (ho : ops[n]? = some on) (hd : on.dst = none) (hg : on.guard = none)
    (hsz : ops.size = n + 1) (hdep : (List.range n).all (fun i => on.after.any (fun e => Region.binds .any e && e.on == i)) = true)
    (hacy : (List.range ops.size).all (fun i => ((ops[i]?).map (fun o => o.after.all (fun e => decide (e.on < i)))).getD true) = true)
    (hm : P.follows .mixedOrders = true) (hs : Region.noSelect ops1 = true) (hn : ord.length = ops1.size) (hk : ord.all (fun k => decide (k < ops1.size)) = true) (hL : lexH ops1 calls ord (Array.replicate ops1.size false) = true) (hS : S w.drew)
    (h : walkH P ops1 (Exit.then (fun a w => wpOp P ops (NoPanic Q) n (NoPanic Q .normal) a w) (NoPanic Q)) calls ord S a w.drew) : (Code.region id l true).wp P Q a w := by
  subst he h1
  refine wp_region_noPanic (wp_region_any hm ?_)
  have hacy' : ∀ (i : Nat) (o : Oper), l[i]? = some o → ∀ e ∈ o.after, e.on < i := fun i o hi e hm => by
    have hlt := (Array.getElem?_eq_some_iff.1 hi).1
    have := List.all_eq_true.1 hacy i (List.mem_range.2 hlt)
    rw [hi] at this
    simp only [Option.map_some, Option.getD_some] at this
    exact of_decide_eq_true (Array.all_eq_true_iff_forall_mem.1 this e hm)
  have hdep' : ∀ i, i < n → ∃ e ∈ on.after, Region.binds .any e = true ∧ e.on = i := fun i hi => by
    have := List.all_eq_true.1 hdep i (List.mem_range.2 hi)
    rw [Array.any_eq_true] at this
    obtain ⟨k, hk, hk2⟩ := this
    simp only [Bool.and_eq_true, beq_iff_eq] at hk2
    exact ⟨_, Array.getElem_mem hk, hk2.1, hk2.2⟩
  have hsz1 : (l.setIfInBounds n (idle on)).size = l.size := Array.size_setIfInBounds
  rw [hsz1] at hn hL
  refine last_any ho hd hg hsz.symm hdep' hacy' l.size _ a _ (by simp) (by simp [hsz]) ?_
  refine wpAny_of_held (S := S) _ _ _ _ ?_
  rw [← hn] at hL ⊢
  exact of_walk hs (fun _ _ _ _ _ h => h) ord S _ a _ (fun k h => by simpa using List.all_eq_true.1 hk k h) hL hS h
/-- The last operation itself. -/
theorem last_op {a : Act} {w : World} (ho : ops[n]? = some on) (hg : on.guard = none) (h : ∀ K : Act → World → Prop, Shut (∀ a w, Q .normal a w → K a w) → Oper.wp P on a w K (NoPanic Q)) : wpOp P ops (NoPanic Q) n (NoPanic Q .normal) a w := by
  unfold wpOp
  rw [ho]
  simp only
  rw [if_pos (want_none hg)]
  exact Or.inl (h _ fun a w hq => hq)
end
end Go.Proofs.YtdbemkdfndjakaaDoor.Lex

/- A region that draws its order, cut in two: what all that is behind waits for is walked first. No program. -/
namespace Go.Proofs.YtdbemkdfndjakaaDoor.Lex
open Go

/-- Of the whole region's marks: those of the first part, and none. -/
def extL (L : Array Bool) (N : Nat) : Array Bool := L ++ Array.replicate (N - L.size) false
theorem extL_low {L : Array Bool} {N i : Nat} (h : i < L.size) (d : Bool) : (extL L N).getD i d = L.getD i d := by
  unfold extL
  rw [Array.getD_eq_getD_getElem?, Array.getD_eq_getD_getElem?, Array.getElem?_append_left h]
theorem extL_set {L : Array Bool} {N i : Nat} (h : i < L.size) : (extL L N).setIfInBounds i true = extL (L.setIfInBounds i true) N := by
  unfold extL
  rw [Array.size_setIfInBounds]
  apply Array.ext_getElem?
  intro j
  rw [Array.getElem?_setIfInBounds, Array.size_append]
  by_cases hj : i = j
  · subst hj
    rw [if_pos rfl, if_pos (by omega), Array.getElem?_append_left (by rw [Array.size_setIfInBounds]; exact h), Array.getElem?_setIfInBounds, if_pos rfl, if_pos h]
  · rw [if_neg hj]
    by_cases hjl : j < L.size
    · rw [Array.getElem?_append_left hjl, Array.getElem?_append_left (by rw [Array.size_setIfInBounds]; exact hjl), Array.getElem?_setIfInBounds, if_neg hj]
    · rw [Array.getElem?_append_right (by omega), Array.getElem?_append_right (by rw [Array.size_setIfInBounds]; omega), Array.size_setIfInBounds]
/-- What waits for i, by whatever way. -/
def reaches (md : Region.Mode) (ops : Array Oper) : Nat → Nat → Nat → Bool
  | 0, _, _ => false
  | f + 1, j, i => ((ops[j]?).map (fun o => o.after.any (fun e => Region.binds md e && (e.on == i || reaches md ops f e.on i)))).getD false
/-- Whatever is marked, all that it waits for is marked. -/
def Closed (md : Region.Mode) (ops : Array Oper) (L : Nat → Bool) : Prop := ∀ (i : Nat) (o : Oper), ops[i]? = some o → L i = true → ∀ e ∈ o.after, Region.binds md e = true → L e.on = true
theorem reaches_out {md : Region.Mode} {ops : Array Oper} {L : Nat → Bool} (hc : Closed md ops L) : ∀ (f j i : Nat) (o : Oper), ops[j]? = some o → (∀ e ∈ o.after, Region.binds md e = true → L e.on = true) → reaches md ops f j i = true → L i = true
  | 0, _, _, _, _, _, h => by simp [reaches] at h
  | f + 1, j, i, o, ho, hd, h => by
    unfold reaches at h
    rw [ho] at h
    simp only [Option.map_some, Option.getD_some] at h
    rw [Array.any_eq_true] at h
    obtain ⟨k, hk, hk2⟩ := h
    simp only [Bool.and_eq_true, Bool.or_eq_true, beq_iff_eq] at hk2
    have hm := hd _ (Array.getElem_mem hk) hk2.1
    rcases hk2.2 with he | hr
    · rw [← he]
      exact hm
    · cases ho2 : ops[(o.after[k]).on]? with
      | none =>
        cases f with
        | zero => simp [reaches] at hr
        | succ f =>
          unfold reaches at hr
          rw [ho2] at hr
          cases hr
      | some o2 => exact reaches_out hc f _ i o2 ho2 (fun e he hb => hc _ o2 ho2 hm e he hb) hr
section
variable {P : Program} {ops ops1 : Array Oper} {Q : Exit → Act → World → Prop} {n : Nat} {md : Region.Mode}
theorem cut_op (h1 : ops1 = ops.extract 0 n) {i : Nat} (hi : i < n) : ops1[i]? = ops[i]? := by
  subst h1
  by_cases hs : i < ops.size
  · rw [Array.getElem?_extract, if_pos (by omega), Nat.zero_add]
  · rw [Array.getElem?_eq_none (by rw [Array.size_extract]; omega), Array.getElem?_eq_none (by omega)]
theorem cut_wpOp {K next : Act → World → Prop} (h1 : ops1 = ops.extract 0 n) (hgd : ∀ (i : Nat) (o : Oper), i < n → ops[i]? = some o → ∀ g b, o.guard = some (g, b) → g < n) {i : Nat} (hi : i < n) {a : Act} {w : World} (h : wpOp P ops1 (Exit.then K Q) i next a w) : wpOp P ops Q i next a w := by
  unfold wpOp at h ⊢
  rw [cut_op h1 hi] at h
  cases h2 : ops[i]? with
  | none => rw [h2] at h; exact h
  | some o =>
    rw [h2] at h
    have hw : Region.wanted o (yielded ops1 a.tmps) = Region.wanted o (yielded ops a.tmps) := by
      unfold Region.wanted
      cases hg : o.guard with
      | none => rfl
      | some p =>
        obtain ⟨g, b⟩ := p
        have hgn := hgd i o hi h2 g b hg
        show (yielded ops1 a.tmps g == some b) = (yielded ops a.tmps g == some b)
        unfold yielded
        rw [cut_op h1 hgn]
    simp only at h ⊢
    rw [hw] at h
    split
    · rename_i hw
      rw [if_pos hw] at h
      rcases h with h | h
      · exact Or.inl (upon_then h)
      · exact Or.inr h
    · rename_i hw
      rw [if_neg hw] at h
      exact h
theorem cut_any (h1 : ops1 = ops.extract 0 n) (hn : n ≤ ops.size) (hacy : ∀ (i : Nat) (o : Oper), i < n → ops[i]? = some o → ∀ e ∈ o.after, e.on < i)
    (hgd : ∀ (i : Nat) (o : Oper), i < n → ops[i]? = some o → ∀ g b, o.guard = some (g, b) → g < n)
    (hdep : ∀ (j : Nat) (o : Oper), n ≤ j → ops[j]? = some o → ∀ i, i < n → reaches md ops ops.size j i = true) :
    ∀ (fuel : Nat) (L : Array Bool) (a : Act) (w : World), L.size = n → Closed md ops (fun i => (extL L ops.size).getD i false) →
      wpAny P md ops1 (Exit.then (fun a w => ∀ m, ops.size - n ≤ m → wpAny P md ops Q m (extL (Array.replicate n true) ops.size) a w) Q) fuel L a w →
      ∀ m, ops.size - n ≤ m → wpAny P md ops Q (fuel + m) (extL L ops.size) a w := by
  have hs1 : ops1.size = n := by rw [h1, Array.size_extract]; omega
  have hacy1 : ∀ (i : Nat) (o : Oper), ops1[i]? = some o → ∀ e ∈ o.after, e.on < i := fun i o ho => by
    have hi : i < n := by rw [← hs1]; exact (Array.getElem?_eq_some_iff.1 ho).1
    rw [cut_op h1 hi] at ho
    exact hacy i o hi ho
  have hfull : ∀ L : Array Bool, L.size = n → Region.ready md ops1 L = [] → L = Array.replicate n true := fun L hL hr => by
    apply Array.ext_getElem?
    intro i
    rw [Array.getElem?_replicate]
    by_cases hi : i < n
    · rw [if_pos hi]
      have e : L[i]? = some L[i] := Array.getElem?_eq_getElem (by omega)
      rw [e]
      cases hb : L[i] with
      | true => rfl
      | false =>
        exfalso
        obtain ⟨j, hj⟩ := ready_some (md := md) (ops := ops1) hacy1 (listed := L) (by omega) i (by omega) (by
          rw [Array.getD_eq_getD_getElem?, e, hb]
          rfl)
        rw [hr] at hj
        cases hj
    · rw [if_neg hi, Array.getElem?_eq_none (by omega)]
  have hsup : ∀ (L : Array Bool) (i : Nat), L.size = n → i ∈ Region.ready md ops1 L → i < n ∧ i ∈ Region.ready md ops (extL L ops.size) := fun L i hL hi => by
    obtain ⟨hl, o, ho, hall⟩ := mem_ready.1 hi
    have hin : i < n := by rw [← hs1]; exact (Array.getElem?_eq_some_iff.1 ho).1
    rw [cut_op h1 hin] at ho
    refine ⟨hin, mem_ready.2 ⟨by rw [extL_low (by omega)]; exact hl, o, ho, fun e he hb => ?_⟩⟩
    have := hacy i o hin ho e he
    rw [extL_low (by omega)]
    exact hall e he hb
  have hsub : ∀ (L : Array Bool) (i u : Nat), L.size = n → Closed md ops (fun i => (extL L ops.size).getD i false) → u < n → L.getD u true = false → i ∈ Region.ready md ops (extL L ops.size) → i ∈ Region.ready md ops1 L := fun L i u hL hcl hu hul hi => by
    obtain ⟨hl, o, ho, hall⟩ := mem_ready.1 hi
    by_cases hin : i < n
    · refine mem_ready.2 ⟨by rw [extL_low (by omega)] at hl; exact hl, o, by rw [cut_op h1 hin]; exact ho, fun e he hb => ?_⟩
      have h := hall e he hb
      have := hacy i o hin ho e he
      rw [extL_low (by omega)] at h
      exact h
    · exfalso
      have h : (extL L ops.size).getD u false = true := reaches_out hcl ops.size i u o ho hall (hdep i o (by omega) ho u hu)
      rw [extL_low (by omega)] at h
      have e2 : L[u]? = some L[u] := Array.getElem?_eq_getElem (by omega)
      rw [Array.getD_eq_getD_getElem?, e2] at h hul
      simp only [Option.getD_some] at h hul
      rw [h] at hul
      cases hul
  intro fuel
  induction fuel with
  | zero =>
    intro L a w hL _ h m hm
    rw [hfull L hL h.1, Nat.zero_add]
    exact h.2 m hm
  | succ fuel ih =>
    intro L a w hL hcl h m hm
    obtain ⟨ha, hb⟩ := h
    by_cases hr : Region.ready md ops1 L = []
    · rw [hfull L hL hr]
      have h := ha hr
      exact h (fuel + 1 + m) (by omega)
    · obtain ⟨u, hu⟩ := List.exists_mem_of_ne_nil _ hr
      obtain ⟨hun, hu2⟩ := hsup L u hL hu
      have hul := (mem_ready.1 hu).1
      rw [show fuel + 1 + m = fuel + m + 1 by omega]
      refine ⟨fun e => ?_, fun i hi => ?_⟩
      · rw [e] at hu2
        cases hu2
      · have hi1 := hsub L i u hL hcl hun hul hi
        have hin := (hsup L i hL hi1).1
        refine wpOp_mono (fun a' w' hq => ?_) (cut_wpOp h1 hgd hin (hb i hi1))
        rw [extL_set (by omega)]
        refine ih _ a' w' (by rw [Array.size_setIfInBounds]; exact hL) ?_ hq m hm
        obtain ⟨_, oi, hoi, hall⟩ := mem_ready.1 hi
        rw [← extL_set (by omega)]
        have hsz : (extL L ops.size).size = ops.size := by unfold extL; rw [Array.size_append, Array.size_replicate]; omega
        have hset : ∀ k, (extL L ops.size).getD k false = true → ((extL L ops.size).setIfInBounds i true).getD k false = true := fun k hk => getD_set_true hk
        intro k o hk hl e he hbd
        by_cases hki : k = i
        · subst hki
          obtain rfl : oi = o := Option.some.inj (hoi.symm.trans hk)
          exact hset _ (hall e he hbd)
        · refine hset _ (hcl k o hk ?_ e he hbd)
          have hl : ((extL L ops.size).setIfInBounds i true).getD k false = true := hl
          rw [getD_set_ne false (Ne.symm hki)] at hl
          exact hl
end
section
variable {P : Program} {ops ops1 : Array Oper} {Q : Exit → Act → World → Prop} {calls : List Nat}
/-- The first part in an order of its own; the rest behind it. -/
theorem region_parts {id : Nat} {l : Array Oper} {a : Act} {w : World} (n : Nat) (ord : List Nat) (S : World → Prop) (he : l = ops) (h1 : ops1 = ops.extract 0 n) (hn : n ≤ ops.size)
    (hacy : (List.range n).all (fun i => ((ops[i]?).map (fun o => o.after.all (fun e => decide (e.on < i)) && (o.guard.map (fun g => decide (g.1 < n))).getD true)).getD true) = true)
    (hdep : (List.range (ops.size - n)).all (fun j => (List.range n).all (fun i => reaches .any ops ops.size (n + j) i)) = true)
    (hm : P.follows .mixedOrders = true) (hs : Region.noSelect ops1 = true) (hsz : ord.length = ops1.size) (hk : ord.all (fun k => decide (k < ops1.size)) = true) (hL : lexH ops1 calls ord (Array.replicate ops1.size false) = true) (hS : S w.drew)
    (h : walkH P ops1 (Exit.then (fun a w => ∀ m, ops.size - n ≤ m → wpAny P .any ops (NoPanic Q) m (extL (Array.replicate n true) ops.size) a w) (NoPanic Q)) calls ord S a w.drew) : (Code.region id l true).wp P Q a w := by
  subst he
  have hs1 : ops1.size = n := by rw [h1, Array.size_extract]; omega
  refine wp_region_noPanic (wp_region_any hm ?_)
  have hA : ∀ (i : Nat) (o : Oper), i < n → l[i]? = some o → (∀ e ∈ o.after, e.on < i) ∧ ∀ g b, o.guard = some (g, b) → g < n := fun i o hi ho => by
    have := List.all_eq_true.1 hacy i (List.mem_range.2 hi)
    rw [ho] at this
    simp only [Option.map_some, Option.getD_some, Bool.and_eq_true] at this
    refine ⟨fun e he => of_decide_eq_true (Array.all_eq_true_iff_forall_mem.1 this.1 e he), fun g b hg => ?_⟩
    rw [hg] at this
    simpa using this.2
  have hD : ∀ (j : Nat) (o : Oper), n ≤ j → l[j]? = some o → ∀ i, i < n → reaches .any l l.size j i = true := fun j o hj ho i hi => by
    have hlt := (Array.getElem?_eq_some_iff.1 ho).1
    have := List.all_eq_true.1 hdep (j - n) (List.mem_range.2 (by omega))
    rw [show n + (j - n) = j by omega] at this
    exact List.all_eq_true.1 this i (List.mem_range.2 hi)
  have e1 : n + (l.size - n) = l.size := by omega
  have e2 : extL (Array.replicate n false) l.size = Array.replicate l.size false := by
    unfold extL
    rw [Array.size_replicate, Array.replicate_append_replicate, e1]
  have hmain := cut_any (P := P) (Q := NoPanic Q) (md := .any) h1 hn (fun i o hi ho => (hA i o hi ho).1) (fun i o hi ho => (hA i o hi ho).2) hD n (Array.replicate n false) a w.drew (by simp) (by
    rw [e2]
    intro k o _ hl
    have hl : (Array.replicate l.size false).getD k false = true := hl
    rw [Array.getD_eq_getD_getElem?, Array.getElem?_replicate] at hl
    split at hl <;> cases hl) (wpAny_of_held (S := S) _ _ _ _ (by
    have := of_walk hs (fun _ _ _ _ _ h => h) ord S (Array.replicate ops1.size false) a _ (fun k h => by simpa using List.all_eq_true.1 hk k h) hL hS h
    rw [hsz, hs1] at this
    exact this)) (l.size - n) (Nat.le_refl _)
  rw [e1, e2] at hmain
  exact hmain
end
section
variable {P : Program} {ops : Array Oper} {Q : Exit → Act → World → Prop} {n : Nat} {on : Oper}
end
end Go.Proofs.YtdbemkdfndjakaaDoor.Lex

/- A region that draws its order, cut in two: what is left, walked in an order of its own. No program. -/
namespace Go.Proofs.YtdbemkdfndjakaaDoor.Lex
open Go

section
variable {P : Program} {ops : Array Oper} {Q : Exit → Act → World → Prop} {md : Region.Mode}
theorem wpAny_more : ∀ (k j : Nat) (listed : Array Bool) (a : Act) (w : World), wpAny P md ops Q k listed a w → wpAny P md ops Q (k + j) listed a w
  | 0, j, _, _, _, h => by rw [Nat.zero_add]; exact wpAny_done h.1 h.2 j
  | k + 1, j, listed, a, w, h => by
    rw [show k + 1 + j = (k + j) + 1 by omega]
    exact ⟨h.1, fun i hi => wpOp_mono (fun a' w' h' => wpAny_more k j _ a' w' h') (h.2 i hi)⟩
theorem tail_lex {calls : List Nat} {n : Nat} {a : Act} {w : World} (ord : List Nat) (S : World → Prop) (hs : Region.noSelect ops = true) (hn : ord.length = ops.size - n)
    (hk : ord.all (fun k => decide (k < ops.size)) = true) (hL : lexH ops calls ord (extL (Array.replicate n true) ops.size) = true) (hS : S w)
    (h : walkH P ops (NoPanic Q) calls ord S a w) : ∀ m, ops.size - n ≤ m → wpAny P .any ops (NoPanic Q) m (extL (Array.replicate n true) ops.size) a w := by
  intro m hm
  obtain ⟨j, rfl⟩ : ∃ j, m = ops.size - n + j := ⟨m - (ops.size - n), by omega⟩
  refine wpAny_more _ j _ a w ?_
  rw [← hn]
  exact wpAny_of_held _ _ _ _ (of_walk hs (fun _ _ _ _ _ h => h) ord S _ a w (fun k h => by simpa using List.all_eq_true.1 hk k h) hL hS h)
end
end Go.Proofs.YtdbemkdfndjakaaDoor.Lex
