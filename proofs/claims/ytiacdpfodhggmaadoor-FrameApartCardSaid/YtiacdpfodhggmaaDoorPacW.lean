/- A region that draws its order, with calls that write: walked once, in the order of the text, if each operation that is no call yields its value in every world that meets what is held then. No program. -/
import Derived.OrdersHeld
import Derived.Deep.RegionHeld3
namespace Go.Proofs.YtiacdpfodhggmaaDoor.Lex
open Go

/-- In this order: each may come up, apart from all that is left; a call comes up alone. -/
def lexH (ops : Array Oper) (calls : List Nat) : List Nat → Array Bool → Bool
  | [], listed => Region.ready .any ops listed == []
  | k :: l, listed => (if calls.contains k then Region.ready .any ops listed == [k] else (Region.free .any ops listed k && (Region.ready .any ops listed).contains k)) && lexH ops calls l (listed.setIfInBounds k true)

def walkH (P : Program) (ops : Array Oper) (Q : Exit → Act → World → Prop) (calls : List Nat) : List Nat → (World → Prop) → Act → World → Prop
  | [], _, a, w => Q .normal a w
  | k :: l, S, a, w => ∀ o, ops[k]? = some o →
      if calls.contains k = true then
        (if Region.wanted o (yielded ops a.tmps) = true then Oper.wp P o a w (fun a' w' => ∃ S' : World → Prop, (∀ w, S' w → S w) ∧ S' w' ∧ walkH P ops Q calls l S' a' w') Q
         else walkH P ops Q calls l S (a.put o.dst undef) w)
      else ∃ v, YieldsIf P ops S o v a ∧ walkH P ops Q calls l S (a.put o.dst v) w

section
variable {P : Program} {ops : Array Oper} {Q : Exit → Act → World → Prop} {calls : List Nat}

theorem turn {md : Region.Mode} {S S' : World → Prop} (h : ∀ w, S' w → S w) : ∀ (n : Nat) (listed : Array Bool) (a : Act) (w : World), wpAnyH P md ops Q S' n listed a w → wpAnyH P md ops Q S n listed a w
  | 0, _, _, _, k => k
  | n + 1, _, _, _, k => ⟨k.1, fun i hi => wpOp_mono (fun a' w' k' => ⟨h _ k'.1, turn h n _ a' w' k'.2⟩) (k.2 i hi)⟩

theorem of_walk (hs : Region.noSelect ops = true) (hQ : ∀ c a d v w, Q (.panic c) (a.put d v) w → Q (.panic c) a w) :
    ∀ (l : List Nat) (S : World → Prop) (listed : Array Bool) (a : Act) (w : World), (∀ k ∈ l, k < ops.size) → lexH ops calls l listed = true → S w → walkH P ops Q calls l S a w → wpAnyH P .any ops Q S l.length listed a w
  | [], S, listed, a, w, _, hL, _, h => by
    simp only [lexH, beq_iff_eq] at hL
    exact ⟨hL, h⟩
  | k :: l, S, listed, a, w, hk, hL, hS, h => by
    have hlt : k < ops.size := hk k (by simp)
    have hk' : ∀ j ∈ l, j < ops.size := fun j hj => hk j (by simp [hj])
    have ho : ops[k]? = some ops[k] := Array.getElem?_eq_getElem hlt
    have h' := h _ ho
    simp only [lexH, Bool.and_eq_true] at hL
    obtain ⟨h1, h2⟩ := hL
    cases hc : calls.contains k with
    | true =>
      rw [hc, if_pos rfl] at h1
      rw [if_pos hc] at h'
      have hr : Region.ready .any ops listed = [k] := by simpa using h1
      refine wpAnyH_all hr (by simp) fun i hi => ?_
      obtain rfl : i = k := by simpa using hi
      unfold wpOp
      rw [ho]
      show if Region.wanted ops[i] (yielded ops a.tmps) = true then _ else _
      by_cases hw : Region.wanted ops[i] (yielded ops a.tmps) = true
      · rw [if_pos hw] at h' ⊢
        refine Or.inl (Oper.wp_mono (fun a' w' hh => ?_) h')
        obtain ⟨S', hSS, hS', hh⟩ := hh
        exact ⟨hSS _ hS', turn hSS _ _ _ _ (of_walk hs hQ l S' _ a' w' hk' h2 hS' hh)⟩
      · rw [if_neg hw] at h' ⊢
        exact ⟨hS, of_walk hs hQ l S _ _ w hk' h2 hS h'⟩
    | false =>
      rw [hc, if_neg (by simp), Bool.and_eq_true] at h1
      rw [if_neg (by rw [hc]; simp)] at h'
      obtain ⟨v, hy, hh⟩ := h'
      exact wpAnyH_take ho hs h1.1 h1.2 (fun c a w => hQ c a _ _ w) hy hS (of_walk hs hQ l S _ _ w hk' h2 hS hh)

theorem region_lex {id : Nat} {l : Array Oper} {a : Act} {w : World} (ord : List Nat) (S : World → Prop) (he : l = ops) (hm : P.follows .mixedOrders = true) (hs : Region.noSelect ops = true)
    (hn : ord.length = ops.size) (hk : ord.all (fun k => decide (k < ops.size)) = true) (hL : lexH ops calls ord (Array.replicate ops.size false) = true) (hS : S w.drew) (h : walkH P ops (NoPanic Q) calls ord S a w.drew) : (Code.region id l true).wp P Q a w := by
  subst he
  refine wp_region_noPanic (wp_region_held_drew (S := S) hm hS fun _ => ?_)
  rw [← hn]
  exact of_walk hs (fun _ _ _ _ _ h => h) ord S _ a _ (fun k h => by simpa using List.all_eq_true.1 hk k h) (by rw [hn]; exact hL) hS h

variable {l : List Nat} {k : Nat} {S : World → Prop} {o : Oper} {a : Act} {w : World}
theorem step_take (v : Value) (ho : ops[k]? = some o) (hc : calls.contains k = false) (hw : Region.wanted o (yielded ops a.tmps) = true)
    (hv : ∀ w, S w → (execOp a.eval o).run P w = .ok (.value v) w) (h : walkH P ops Q calls l S (a.put o.dst v) w) : walkH P ops Q calls (k :: l) S a w := by
  intro o' ho'
  obtain rfl : o' = o := Option.some.inj (ho'.symm.trans ho)
  rw [if_neg (by rw [hc]; simp)]
  exact ⟨v, Or.inl ⟨hw, hv⟩, h⟩
theorem step_skip (ho : ops[k]? = some o) (hw : Region.wanted o (yielded ops a.tmps) = false)
    (h : walkH P ops Q calls l S (a.put o.dst undef) w) : walkH P ops Q calls (k :: l) S a w := by
  intro o' ho'
  obtain rfl : o' = o := Option.some.inj (ho'.symm.trans ho)
  by_cases hc : calls.contains k = true
  · rw [if_pos hc, if_neg (by rw [hw]; simp)]
    exact h
  · rw [if_neg hc]
    exact ⟨undef, Or.inr ⟨hw, rfl⟩, h⟩
theorem step_call (ho : ops[k]? = some o) (hc : calls.contains k = true) (hw : Region.wanted o (yielded ops a.tmps) = true)
    (h : ∀ K : Act → World → Prop, Shut (∀ (S' : World → Prop) a' w', (∀ w, S' w → S w) → S' w' → walkH P ops Q calls l S' a' w' → K a' w') → Oper.wp P o a w K Q) : walkH P ops Q calls (k :: l) S a w := by
  intro o' ho'
  obtain rfl : o' = o := Option.some.inj (ho'.symm.trans ho)
  rw [if_pos hc, if_pos hw]
  exact h _ fun S' a' w' h1 h2 h3 => ⟨S', h1, h2, h3⟩
theorem want_none {y : Nat → Option Bool} (h : o.guard = none) : Region.wanted o y = true := by
  unfold Region.wanted
  rw [h]
theorem want_some {g d : Nat} {b b' : Bool} {og : Oper} (h : o.guard = some (g, b)) (hg : ops[g]? = some og) (hd : og.dst = some d) (ha : a.tmps[d]? = some (.bool b')) {r : Bool} (hr : (b' == b) = r) : Region.wanted o (yielded ops a.tmps) = r := by
  subst hr
  unfold Region.wanted yielded
  rw [h]
  simp only [hg, Option.bind_some, hd, ha]
  rfl
end
end Go.Proofs.YtiacdpfodhggmaaDoor.Lex
