/- A region that draws its order and ends in a store that undoes what was held: its last operation is taken out, and done behind all others. No program. -/
import Derived.Test.YtiacdpfodhggmaaDoorPacW
namespace Go.Proofs.YtiacdpfodhggmaaDoor.Lex
open Go

/-- The same operation, but it does nothing. -/
def idle (o : Oper) : Oper := { o with op := .assign (.const (.bool true)) }
section
variable {P : Program} {ops : Array Oper} {Q : Exit → Act → World → Prop} {n : Nat} {on : Oper} {md : Region.Mode}
theorem idle_at (ho : ops[n]? = some on) : (ops.setIfInBounds n (idle on))[n]? = some (idle on) := by
  have hn := (Array.getElem?_eq_some_iff.1 ho).1
  simp [hn]
theorem idle_ne {i : Nat} (h : i ≠ n) : (ops.setIfInBounds n (idle on))[i]? = ops[i]? := by
  rw [Array.getElem?_setIfInBounds]
  rw [if_neg (Ne.symm h)]
theorem idle_after (ho : ops[n]? = some on) (i : Nat) : ((ops.setIfInBounds n (idle on))[i]?).map (·.after) = (ops[i]?).map (·.after) := by
  by_cases h : i = n
  · subst h
    rw [idle_at ho, ho]
    rfl
  · rw [idle_ne h]
theorem idle_ready (ho : ops[n]? = some on) (listed : Array Bool) : Region.ready md (ops.setIfInBounds n (idle on)) listed = Region.ready md ops listed := by
  unfold Region.ready
  rw [Array.size_setIfInBounds]
  refine List.filter_congr fun i _ => ?_
  have h := idle_after ho i
  cases h1 : (ops.setIfInBounds n (idle on))[i]? <;> cases h2 : ops[i]? <;> rw [h1, h2] at h <;> simp only [Option.map_some, Option.map_none, Option.some.injEq, reduceCtorEq] at h ⊢
  rw [h]
theorem idle_yielded (ho : ops[n]? = some on) (tmps : Array Value) : yielded (ops.setIfInBounds n (idle on)) tmps = yielded ops tmps := by
  funext j
  unfold yielded
  by_cases h : j = n
  · subst h
    rw [idle_at ho, ho]
    rfl
  · rw [idle_ne h]
theorem upon_then {K : Act → World → Prop} {o : Oper} {a : Act} {next : Act → World → Prop} {r : Result Next} (h : o.upon P a next (Exit.then K Q) r) : o.upon P a next Q r := by
  cases r with
  | ok x w => cases x <;> exact h
  | halt x w => cases x <;> exact h
theorem wpOp_then {K next : Act → World → Prop} (ho : ops[n]? = some on) {i : Nat} (hi : i ≠ n) {a : Act} {w : World} (h : wpOp P (ops.setIfInBounds n (idle on)) (Exit.then K Q) i next a w) : wpOp P ops Q i next a w := by
  unfold wpOp at h ⊢
  rw [idle_ne hi, idle_yielded ho] at h
  cases h2 : ops[i]? with
  | none => rw [h2] at h; exact h
  | some o =>
    rw [h2] at h
    simp only at h ⊢
    split
    · rename_i hw
      rw [if_pos hw] at h
      rcases h with h | h
      · exact Or.inl (upon_then h)
      · exact Or.inr h
    · rename_i hw
      rw [if_neg hw] at h
      exact h
theorem unlisted_of {listed : Array Bool} {j : Nat} (hj : j < listed.size) (h : listed.getD j false = true → False) : listed.getD j true = false := by
  have e : listed[j]? = some listed[j] := Array.getElem?_eq_getElem hj
  rw [Array.getD_eq_getD_getElem?, e] at h ⊢
  simp only [Option.getD_some] at h ⊢
  cases hb : listed[j]
  · rfl
  · exact absurd hb h
/-- Where each waits for earlier ones alone, one may come up as long as one has not. -/
theorem ready_some (hacy : ∀ (i : Nat) (o : Oper), ops[i]? = some o → ∀ e ∈ o.after, e.on < i) {listed : Array Bool} (hsz : listed.size = ops.size) :
    ∀ (i : Nat), i < ops.size → listed.getD i true = false → ∃ j, j ∈ Region.ready md ops listed := by
  intro i
  induction i using Nat.strongRecOn with
  | ind i ih =>
    intro hi hl
    have ho : ops[i]? = some ops[i] := Array.getElem?_eq_getElem hi
    by_cases hall : ∀ e ∈ (ops[i]).after, Region.binds md e = true → listed.getD e.on false = true
    · exact ⟨i, mem_ready.2 ⟨hl, _, ho, hall⟩⟩
    · obtain ⟨e, he⟩ := Classical.not_forall.1 hall
      obtain ⟨hm, he⟩ := Classical.not_imp.1 he
      obtain ⟨_, hf⟩ := Classical.not_imp.1 he
      have hlt := hacy i _ ho e hm
      exact ih e.on hlt (by omega) (unlisted_of (by omega) hf)

theorem last_any (ho : ops[n]? = some on) (hd : on.dst = none) (hg : on.guard = none) (hn : n + 1 = ops.size) (hdep : ∀ i, i < n → ∃ e ∈ on.after, Region.binds md e = true ∧ e.on = i)
    (hacy : ∀ (i : Nat) (o : Oper), ops[i]? = some o → ∀ e ∈ o.after, e.on < i) :
    ∀ (fuel : Nat) (listed : Array Bool) (a : Act) (w : World), listed.size = ops.size → listed.getD n true = false →
      wpAny P md (ops.setIfInBounds n (idle on)) (Exit.then (fun a w => wpOp P ops Q n (Q .normal) a w) Q) fuel listed a w → wpAny P md ops Q fuel listed a w
  | 0, listed, a, w, hsz, hl, h => by
    obtain ⟨j, hj⟩ := ready_some (md := md) hacy hsz n (by omega) hl
    have h1 := h.1
    rw [idle_ready ho] at h1
    rw [h1] at hj
    cases hj
  | fuel + 1, listed, a, w, hsz, hl, h => by
    obtain ⟨_, h2⟩ := h
    rw [idle_ready ho] at h2
    refine ⟨fun h1 => ?_, fun i hi => ?_⟩
    · obtain ⟨j, hj⟩ := ready_some (md := md) hacy hsz n (by omega) hl
      rw [h1] at hj
      cases hj
    · have h3 := h2 i hi
      by_cases hin : i = n
      · subst hin
        obtain ⟨_, o, ho', hall⟩ := mem_ready.1 hi
        obtain rfl : on = o := Option.some.inj (ho.symm.trans ho')
        have hdone : Region.ready md ops (listed.setIfInBounds i true) = [] := by
          refine List.eq_nil_iff_forall_not_mem.2 fun j hj => ?_
          obtain ⟨hjl, oj, hoj, _⟩ := mem_ready.1 hj
          have hjs := (Array.getElem?_eq_some_iff.1 hoj).1
          by_cases hji : j = i
          · subst hji
            simp [hsz, hjs] at hjl
          · obtain ⟨e, he, hb, heq⟩ := hdep j (by omega)
            have := getD_set_true (i := i) (hall e he hb)
            rw [heq] at this
            have hlt : j < (listed.setIfInBounds i true).size := by simp [hsz, hjs]
            have e2 : (listed.setIfInBounds i true)[j]? = some (listed.setIfInBounds i true)[j] := Array.getElem?_eq_getElem hlt
            rw [Array.getD_eq_getD_getElem?, e2] at this hjl
            simp only [Option.getD_some] at this hjl
            rw [this] at hjl
            cases hjl
        have hK : wpAny P md (ops.setIfInBounds i (idle on)) (Exit.then (fun a w => wpOp P ops Q i (Q .normal) a w) Q) fuel (listed.setIfInBounds i true) a w := by
          unfold wpOp at h3
          rw [idle_at ho] at h3
          simp only at h3
          have hw : Region.wanted (idle on) (yielded (ops.setIfInBounds i (idle on)) a.tmps) = true := want_none hg
          rw [if_pos hw] at h3
          rcases h3 with h3 | h3
          · have h4 : wpAny P md (ops.setIfInBounds i (idle on)) (Exit.then (fun a w => wpOp P ops Q i (Q .normal) a w) Q) fuel (listed.setIfInBounds i true) (a.put on.dst (.bool true)) w := h3
            rw [hd] at h4
            exact h4
          · exfalso
            have h5 : noRoomEvent ∈ (#[] : Array Event) := h3.1.1
            simp at h5
        have hN : wpOp P ops Q i (Q .normal) a w := by
          cases fuel with
          | zero => exact hK.2
          | succ fuel => exact hK.1 (by rw [idle_ready ho]; exact hdone)
        exact wpOp_mono (fun a' w' hq => wpAny_done hdone hq fuel) hN
      · refine wpOp_mono (fun a' w' hq => last_any ho hd hg hn hdep hacy fuel _ a' w' (by simpa using hsz) ?_ hq) (wpOp_then ho hin h3)
        rw [getD_set_ne true hin]
        exact hl
end
section
variable {P : Program} {ops ops1 : Array Oper} {Q : Exit → Act → World → Prop} {calls : List Nat} {n : Nat} {on : Oper}
/-- As region_lex; but the last operation is done behind all others, and nothing need be held behind it. -/
theorem region_last {id : Nat} {l : Array Oper} {a : Act} {w : World} (n : Nat) (on : Oper) (ord : List Nat) (S : World → Prop) (he : l = ops) (h1 : ops1 = ops.setIfInBounds n (idle on)) (ho : ops[n]? = some on) (hd : on.dst = none) (hg : on.guard = none)
    (hsz : ops.size = n + 1) (hdep : (List.range n).all (fun i => on.after.any (fun e => Region.binds .any e && e.on == i)) = true)
    (hacy : (List.range ops.size).all (fun i => ((ops[i]?).map (fun o => o.after.all (fun e => decide (e.on < i)))).getD true) = true)
    (hm : P.follows .mixedOrders = true) (hs : Region.noSelect ops1 = true) (hn : ord.length = ops1.size) (hk : ord.all (fun k => decide (k < ops1.size)) = true) (hL : lexH ops1 calls ord (Array.replicate ops1.size false) = true) (hS : S w.drew)
    (h : walkH P ops1 (Exit.then (fun a w => wpOp P ops (NoPanic Q) n (NoPanic Q .normal) a w) (NoPanic Q)) calls ord S a w.drew) : (Code.region id l true).wp P Q a w := by
  subst he h1
  refine wp_region_noPanic (wp_region_any hm ?_)
  have hacy' : ∀ (i : Nat) (o : Oper), l[i]? = some o → ∀ e ∈ o.after, e.on < i := fun i o hi e hm => by
    have hlt := (Array.getElem?_eq_some_iff.1 hi).1
    have := List.all_eq_true.1 hacy i (List.mem_range.2 hlt)
    rw [hi] at this
    simp only [Option.map_some, Option.getD_some] at this
    exact of_decide_eq_true (Array.all_eq_true_iff_forall_mem.1 this e hm)
  have hdep' : ∀ i, i < n → ∃ e ∈ on.after, Region.binds .any e = true ∧ e.on = i := fun i hi => by
    have := List.all_eq_true.1 hdep i (List.mem_range.2 hi)
    rw [Array.any_eq_true] at this
    obtain ⟨k, hk, hk2⟩ := this
    simp only [Bool.and_eq_true, beq_iff_eq] at hk2
    exact ⟨_, Array.getElem_mem hk, hk2.1, hk2.2⟩
  have hsz1 : (l.setIfInBounds n (idle on)).size = l.size := Array.size_setIfInBounds
  rw [hsz1] at hn hL
  refine last_any ho hd hg hsz.symm hdep' hacy' l.size _ a _ (by simp) (by simp [hsz]) ?_
  refine wpAny_of_held (S := S) _ _ _ _ ?_
  rw [← hn] at hL ⊢
  exact of_walk hs (fun _ _ _ _ _ h => h) ord S _ a _ (fun k h => by simpa using List.all_eq_true.1 hk k h) hL hS h
/-- The last operation itself. -/
theorem last_op {a : Act} {w : World} (ho : ops[n]? = some on) (hg : on.guard = none) (h : ∀ K : Act → World → Prop, Shut (∀ a w, Q .normal a w → K a w) → Oper.wp P on a w K (NoPanic Q)) : wpOp P ops (NoPanic Q) n (NoPanic Q .normal) a w := by
  unfold wpOp
  rw [ho]
  simp only
  rw [if_pos (want_none hg)]
  exact Or.inl (h _ fun a w hq => hq)
end
theorem want_undef {ops : Array Oper} {o : Oper} {a : Act} {g d : Nat} {b : Bool} {og : Oper} (h : o.guard = some (g, b)) (hg : ops[g]? = some og) (hd : og.dst = some d) (ha : a.tmps[d]? = some undef) : Region.wanted o (yielded ops a.tmps) = false := by
  unfold Region.wanted yielded
  rw [h]
  simp only [hg, Option.bind_some, hd, ha]
  rfl
end Go.Proofs.YtiacdpfodhggmaaDoor.Lex
