/- A region that draws its order, cut in two: what all that is behind waits for is walked first. No program. -/
import Derived.Test.YtjjedadhkdpceaaLeB
namespace Go.Proofs.Ytjjedadhkdpceaa.Lex
open Go

/-- Of the whole region's marks: those of the first part, and none. -/
def extL (L : Array Bool) (N : Nat) : Array Bool := L ++ Array.replicate (N - L.size) false
theorem extL_low {L : Array Bool} {N i : Nat} (h : i < L.size) (d : Bool) : (extL L N).getD i d = L.getD i d := by
  unfold extL
  rw [Array.getD_eq_getD_getElem?, Array.getD_eq_getD_getElem?, Array.getElem?_append_left h]
theorem extL_high {L : Array Bool} {N i : Nat} (h : L.size ≤ i) (hN : i < N) (d : Bool) : (extL L N).getD i d = false := by
  unfold extL
  rw [Array.getD_eq_getD_getElem?, Array.getElem?_append_right h, Array.getElem?_replicate, if_pos (by omega)]
  rfl
theorem extL_set {L : Array Bool} {N i : Nat} (h : i < L.size) : (extL L N).setIfInBounds i true = extL (L.setIfInBounds i true) N := by
  unfold extL
  rw [Array.size_setIfInBounds]
  apply Array.ext_getElem?
  intro j
  rw [Array.getElem?_setIfInBounds, Array.size_append]
  by_cases hj : i = j
  · subst hj
    rw [if_pos rfl, if_pos (by omega), Array.getElem?_append_left (by rw [Array.size_setIfInBounds]; exact h), Array.getElem?_setIfInBounds, if_pos rfl, if_pos h]
  · rw [if_neg hj]
    by_cases hjl : j < L.size
    · rw [Array.getElem?_append_left hjl, Array.getElem?_append_left (by rw [Array.size_setIfInBounds]; exact hjl), Array.getElem?_setIfInBounds, if_neg hj]
    · rw [Array.getElem?_append_right (by omega), Array.getElem?_append_right (by rw [Array.size_setIfInBounds]; omega), Array.size_setIfInBounds]
/-- What waits for i, by whatever way. -/
def reaches (md : Region.Mode) (ops : Array Oper) : Nat → Nat → Nat → Bool
  | 0, _, _ => false
  | f + 1, j, i => ((ops[j]?).map (fun o => o.after.any (fun e => Region.binds md e && (e.on == i || reaches md ops f e.on i)))).getD false
/-- Whatever is marked, all that it waits for is marked. -/
def Closed (md : Region.Mode) (ops : Array Oper) (L : Nat → Bool) : Prop := ∀ (i : Nat) (o : Oper), ops[i]? = some o → L i = true → ∀ e ∈ o.after, Region.binds md e = true → L e.on = true
theorem reaches_out {md : Region.Mode} {ops : Array Oper} {L : Nat → Bool} (hc : Closed md ops L) : ∀ (f j i : Nat) (o : Oper), ops[j]? = some o → (∀ e ∈ o.after, Region.binds md e = true → L e.on = true) → reaches md ops f j i = true → L i = true
  | 0, _, _, _, _, _, h => by simp [reaches] at h
  | f + 1, j, i, o, ho, hd, h => by
    unfold reaches at h
    rw [ho] at h
    simp only [Option.map_some, Option.getD_some] at h
    rw [Array.any_eq_true] at h
    obtain ⟨k, hk, hk2⟩ := h
    simp only [Bool.and_eq_true, Bool.or_eq_true, beq_iff_eq] at hk2
    have hm := hd _ (Array.getElem_mem hk) hk2.1
    rcases hk2.2 with he | hr
    · rw [← he]
      exact hm
    · cases ho2 : ops[(o.after[k]).on]? with
      | none =>
        cases f with
        | zero => simp [reaches] at hr
        | succ f =>
          unfold reaches at hr
          rw [ho2] at hr
          cases hr
      | some o2 => exact reaches_out hc f _ i o2 ho2 (fun e he hb => hc _ o2 ho2 hm e he hb) hr
section
variable {P : Program} {ops ops1 : Array Oper} {Q : Exit → Act → World → Prop} {n : Nat} {md : Region.Mode}
theorem cut_op (h1 : ops1 = ops.extract 0 n) {i : Nat} (hi : i < n) : ops1[i]? = ops[i]? := by
  subst h1
  by_cases hs : i < ops.size
  · rw [Array.getElem?_extract, if_pos (by omega), Nat.zero_add]
  · rw [Array.getElem?_eq_none (by rw [Array.size_extract]; omega), Array.getElem?_eq_none (by omega)]
theorem cut_wpOp {K next : Act → World → Prop} (h1 : ops1 = ops.extract 0 n) (hgd : ∀ (i : Nat) (o : Oper), i < n → ops[i]? = some o → ∀ g b, o.guard = some (g, b) → g < n) {i : Nat} (hi : i < n) {a : Act} {w : World} (h : wpOp P ops1 (Exit.then K Q) i next a w) : wpOp P ops Q i next a w := by
  unfold wpOp at h ⊢
  rw [cut_op h1 hi] at h
  cases h2 : ops[i]? with
  | none => rw [h2] at h; exact h
  | some o =>
    rw [h2] at h
    have hw : Region.wanted o (yielded ops1 a.tmps) = Region.wanted o (yielded ops a.tmps) := by
      unfold Region.wanted
      cases hg : o.guard with
      | none => rfl
      | some p =>
        obtain ⟨g, b⟩ := p
        have hgn := hgd i o hi h2 g b hg
        show (yielded ops1 a.tmps g == some b) = (yielded ops a.tmps g == some b)
        unfold yielded
        rw [cut_op h1 hgn]
    simp only at h ⊢
    rw [hw] at h
    split
    · rename_i hw
      rw [if_pos hw] at h
      rcases h with h | h
      · exact Or.inl (upon_then h)
      · exact Or.inr h
    · rename_i hw
      rw [if_neg hw] at h
      exact h
theorem cut_any (h1 : ops1 = ops.extract 0 n) (hn : n ≤ ops.size) (hacy : ∀ (i : Nat) (o : Oper), i < n → ops[i]? = some o → ∀ e ∈ o.after, e.on < i)
    (hgd : ∀ (i : Nat) (o : Oper), i < n → ops[i]? = some o → ∀ g b, o.guard = some (g, b) → g < n)
    (hdep : ∀ (j : Nat) (o : Oper), n ≤ j → ops[j]? = some o → ∀ i, i < n → reaches md ops ops.size j i = true) :
    ∀ (fuel : Nat) (L : Array Bool) (a : Act) (w : World), L.size = n → Closed md ops (fun i => (extL L ops.size).getD i false) →
      wpAny P md ops1 (Exit.then (fun a w => ∀ m, ops.size - n ≤ m → wpAny P md ops Q m (extL (Array.replicate n true) ops.size) a w) Q) fuel L a w →
      ∀ m, ops.size - n ≤ m → wpAny P md ops Q (fuel + m) (extL L ops.size) a w := by
  have hs1 : ops1.size = n := by rw [h1, Array.size_extract]; omega
  have hacy1 : ∀ (i : Nat) (o : Oper), ops1[i]? = some o → ∀ e ∈ o.after, e.on < i := fun i o ho => by
    have hi : i < n := by rw [← hs1]; exact (Array.getElem?_eq_some_iff.1 ho).1
    rw [cut_op h1 hi] at ho
    exact hacy i o hi ho
  have hfull : ∀ L : Array Bool, L.size = n → Region.ready md ops1 L = [] → L = Array.replicate n true := fun L hL hr => by
    apply Array.ext_getElem?
    intro i
    rw [Array.getElem?_replicate]
    by_cases hi : i < n
    · rw [if_pos hi]
      have e : L[i]? = some L[i] := Array.getElem?_eq_getElem (by omega)
      rw [e]
      cases hb : L[i] with
      | true => rfl
      | false =>
        exfalso
        obtain ⟨j, hj⟩ := ready_some (md := md) (ops := ops1) hacy1 (listed := L) (by omega) i (by omega) (by
          rw [Array.getD_eq_getD_getElem?, e, hb]
          rfl)
        rw [hr] at hj
        cases hj
    · rw [if_neg hi, Array.getElem?_eq_none (by omega)]
  have hsup : ∀ (L : Array Bool) (i : Nat), L.size = n → i ∈ Region.ready md ops1 L → i < n ∧ i ∈ Region.ready md ops (extL L ops.size) := fun L i hL hi => by
    obtain ⟨hl, o, ho, hall⟩ := mem_ready.1 hi
    have hin : i < n := by rw [← hs1]; exact (Array.getElem?_eq_some_iff.1 ho).1
    rw [cut_op h1 hin] at ho
    refine ⟨hin, mem_ready.2 ⟨by rw [extL_low (by omega)]; exact hl, o, ho, fun e he hb => ?_⟩⟩
    have := hacy i o hin ho e he
    rw [extL_low (by omega)]
    exact hall e he hb
  have hsub : ∀ (L : Array Bool) (i u : Nat), L.size = n → Closed md ops (fun i => (extL L ops.size).getD i false) → u < n → L.getD u true = false → i ∈ Region.ready md ops (extL L ops.size) → i ∈ Region.ready md ops1 L := fun L i u hL hcl hu hul hi => by
    obtain ⟨hl, o, ho, hall⟩ := mem_ready.1 hi
    by_cases hin : i < n
    · refine mem_ready.2 ⟨by rw [extL_low (by omega)] at hl; exact hl, o, by rw [cut_op h1 hin]; exact ho, fun e he hb => ?_⟩
      have h := hall e he hb
      have := hacy i o hin ho e he
      rw [extL_low (by omega)] at h
      exact h
    · exfalso
      have h : (extL L ops.size).getD u false = true := reaches_out hcl ops.size i u o ho hall (hdep i o (by omega) ho u hu)
      rw [extL_low (by omega)] at h
      have e2 : L[u]? = some L[u] := Array.getElem?_eq_getElem (by omega)
      rw [Array.getD_eq_getD_getElem?, e2] at h hul
      simp only [Option.getD_some] at h hul
      rw [h] at hul
      cases hul
  intro fuel
  induction fuel with
  | zero =>
    intro L a w hL _ h m hm
    rw [hfull L hL h.1, Nat.zero_add]
    exact h.2 m hm
  | succ fuel ih =>
    intro L a w hL hcl h m hm
    obtain ⟨ha, hb⟩ := h
    by_cases hr : Region.ready md ops1 L = []
    · rw [hfull L hL hr]
      have h := ha hr
      exact h (fuel + 1 + m) (by omega)
    · obtain ⟨u, hu⟩ := List.exists_mem_of_ne_nil _ hr
      obtain ⟨hun, hu2⟩ := hsup L u hL hu
      have hul := (mem_ready.1 hu).1
      rw [show fuel + 1 + m = fuel + m + 1 by omega]
      refine ⟨fun e => ?_, fun i hi => ?_⟩
      · rw [e] at hu2
        cases hu2
      · have hi1 := hsub L i u hL hcl hun hul hi
        have hin := (hsup L i hL hi1).1
        refine wpOp_mono (fun a' w' hq => ?_) (cut_wpOp h1 hgd hin (hb i hi1))
        rw [extL_set (by omega)]
        refine ih _ a' w' (by rw [Array.size_setIfInBounds]; exact hL) ?_ hq m hm
        obtain ⟨_, oi, hoi, hall⟩ := mem_ready.1 hi
        rw [← extL_set (by omega)]
        have hsz : (extL L ops.size).size = ops.size := by unfold extL; rw [Array.size_append, Array.size_replicate]; omega
        have hset : ∀ k, (extL L ops.size).getD k false = true → ((extL L ops.size).setIfInBounds i true).getD k false = true := fun k hk => getD_set_true hk
        intro k o hk hl e he hbd
        by_cases hki : k = i
        · subst hki
          obtain rfl : oi = o := Option.some.inj (hoi.symm.trans hk)
          exact hset _ (hall e he hbd)
        · refine hset _ (hcl k o hk ?_ e he hbd)
          have hl : ((extL L ops.size).setIfInBounds i true).getD k false = true := hl
          rw [getD_set_ne false (Ne.symm hki)] at hl
          exact hl
end
section
variable {P : Program} {ops ops1 : Array Oper} {Q : Exit → Act → World → Prop} {calls : List Nat}
/-- The first part in an order of its own; the rest behind it. -/
theorem region_parts {id : Nat} {l : Array Oper} {a : Act} {w : World} (n : Nat) (ord : List Nat) (S : World → Prop) (he : l = ops) (h1 : ops1 = ops.extract 0 n) (hn : n ≤ ops.size)
    (hacy : (List.range n).all (fun i => ((ops[i]?).map (fun o => o.after.all (fun e => decide (e.on < i)) && (o.guard.map (fun g => decide (g.1 < n))).getD true)).getD true) = true)
    (hdep : (List.range (ops.size - n)).all (fun j => (List.range n).all (fun i => reaches .any ops ops.size (n + j) i)) = true)
    (hm : P.follows .mixedOrders = true) (hs : Region.noSelect ops1 = true) (hsz : ord.length = ops1.size) (hk : ord.all (fun k => decide (k < ops1.size)) = true) (hL : lexH ops1 calls ord (Array.replicate ops1.size false) = true) (hS : S w.drew)
    (h : walkH P ops1 (Exit.then (fun a w => ∀ m, ops.size - n ≤ m → wpAny P .any ops (NoPanic Q) m (extL (Array.replicate n true) ops.size) a w) (NoPanic Q)) calls ord S a w.drew) : (Code.region id l true).wp P Q a w := by
  subst he
  have hs1 : ops1.size = n := by rw [h1, Array.size_extract]; omega
  refine wp_region_noPanic (wp_region_any hm ?_)
  have hA : ∀ (i : Nat) (o : Oper), i < n → l[i]? = some o → (∀ e ∈ o.after, e.on < i) ∧ ∀ g b, o.guard = some (g, b) → g < n := fun i o hi ho => by
    have := List.all_eq_true.1 hacy i (List.mem_range.2 hi)
    rw [ho] at this
    simp only [Option.map_some, Option.getD_some, Bool.and_eq_true] at this
    refine ⟨fun e he => of_decide_eq_true (Array.all_eq_true_iff_forall_mem.1 this.1 e he), fun g b hg => ?_⟩
    rw [hg] at this
    simpa using this.2
  have hD : ∀ (j : Nat) (o : Oper), n ≤ j → l[j]? = some o → ∀ i, i < n → reaches .any l l.size j i = true := fun j o hj ho i hi => by
    have hlt := (Array.getElem?_eq_some_iff.1 ho).1
    have := List.all_eq_true.1 hdep (j - n) (List.mem_range.2 (by omega))
    rw [show n + (j - n) = j by omega] at this
    exact List.all_eq_true.1 this i (List.mem_range.2 hi)
  have e1 : n + (l.size - n) = l.size := by omega
  have e2 : extL (Array.replicate n false) l.size = Array.replicate l.size false := by
    unfold extL
    rw [Array.size_replicate, Array.replicate_append_replicate, e1]
  have hmain := cut_any (P := P) (Q := NoPanic Q) (md := .any) h1 hn (fun i o hi ho => (hA i o hi ho).1) (fun i o hi ho => (hA i o hi ho).2) hD n (Array.replicate n false) a w.drew (by simp) (by
    rw [e2]
    intro k o _ hl
    have hl : (Array.replicate l.size false).getD k false = true := hl
    rw [Array.getD_eq_getD_getElem?, Array.getElem?_replicate] at hl
    split at hl <;> cases hl) (wpAny_of_held (S := S) _ _ _ _ (by
    have := of_walk hs (fun _ _ _ _ _ h => h) ord S (Array.replicate ops1.size false) a _ (fun k h => by simpa using List.all_eq_true.1 hk k h) hL hS h
    rw [hsz, hs1] at this
    exact this)) (l.size - n) (Nat.le_refl _)
  rw [e1, e2] at hmain
  exact hmain
/-- Two that are left, one behind the other. -/
theorem tail_two {n : Nat} {a : Act} {w : World} (hr0 : Region.ready .any ops (extL (Array.replicate n true) ops.size) = [n]) (hr1 : Region.ready .any ops ((extL (Array.replicate n true) ops.size).setIfInBounds n true) = [n + 1])
    (hr2 : Region.ready .any ops (((extL (Array.replicate n true) ops.size).setIfInBounds n true).setIfInBounds (n + 1) true) = []) (hsz : 2 ≤ ops.size - n)
    (h : wpOp P ops Q n (wpOp P ops Q (n + 1) (Q .normal)) a w) : ∀ m, ops.size - n ≤ m → wpAny P .any ops Q m (extL (Array.replicate n true) ops.size) a w := by
  intro m hm
  obtain ⟨m, rfl⟩ : ∃ k, m = k + 2 := ⟨m - 2, by omega⟩
  refine ⟨fun e => (by rw [hr0] at e; cases e), fun i hi => ?_⟩
  rw [hr0] at hi
  obtain rfl := List.mem_singleton.1 hi
  refine wpOp_mono (fun a' w' hq => ⟨fun e => (by rw [hr1] at e; cases e), fun j hj => ?_⟩) h
  rw [hr1] at hj
  obtain rfl := List.mem_singleton.1 hj
  exact wpOp_mono (fun a2 w2 hq2 => wpAny_done hr2 hq2 _) hq
end
section
variable {P : Program} {ops : Array Oper} {Q : Exit → Act → World → Prop} {n : Nat} {on : Oper}
/-- One of them. -/
theorem tail_op {next : Act → World → Prop} {a : Act} {w : World} (ho : ops[n]? = some on) (hg : on.guard = none) (h : ∀ K : Act → World → Prop, Shut (∀ a w, next a w → K a w) → Oper.wp P on a w K Q) : wpOp P ops Q n next a w := by
  unfold wpOp
  rw [ho]
  simp only
  rw [if_pos (want_none hg)]
  exact Or.inl (h _ fun a w hq => hq)
end
end Go.Proofs.Ytjjedadhkdpceaa.Lex
