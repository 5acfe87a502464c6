/- A region that draws its order, cut in two; the first part along a tree of orders. No program. -/
import Derived.Test.YtjjedadhkdpceaaLeD
import Derived.Test.YtjjedadhkdpceaaTreW
namespace Go.Proofs.Ytjjedadhkdpceaa.Lex
open Go

section
variable {P : Program} {ops ops1 : Array Oper} {Q : Exit → Act → World → Prop}
/-- The first part along a tree of orders; the rest behind it. -/
theorem region_parts_tree {id : Nat} {l : Array Oper} {a : Act} {w : World} (n : Nat) (t : Tr) (S : World → Prop) (he : l = ops) (h1 : ops1 = ops.extract 0 n) (hn : n ≤ ops.size)
    (hacy : (List.range n).all (fun i => ((ops[i]?).map (fun o => o.after.all (fun e => decide (e.on < i)) && (o.guard.map (fun g => decide (g.1 < n))).getD true)).getD true) = true)
    (hdep : (List.range (ops.size - n)).all (fun j => (List.range n).all (fun i => reaches .any ops ops.size (n + j) i)) = true)
    (hm : P.follows .mixedOrders = true) (hs : Region.noSelect ops1 = true) (hL : lexT ops1 ops1.size [] t (Array.replicate ops1.size false) = true) (hS : S w.drew)
    (h : walkT P ops1 (Exit.then (fun a w => ∀ m, ops.size - n ≤ m → wpAny P .any ops (NoPanic Q) m (extL (Array.replicate n true) ops.size) a w) (NoPanic Q)) false t S a w.drew) : (Code.region id l true).wp P Q a w := by
  subst he
  have hs1 : ops1.size = n := by rw [h1, Array.size_extract]; omega
  refine wp_region_noPanic (wp_region_any hm ?_)
  have hA : ∀ (i : Nat) (o : Oper), i < n → l[i]? = some o → (∀ e ∈ o.after, e.on < i) ∧ ∀ g b, o.guard = some (g, b) → g < n := fun i o hi ho => by
    have := List.all_eq_true.1 hacy i (List.mem_range.2 hi)
    rw [ho] at this
    simp only [Option.map_some, Option.getD_some, Bool.and_eq_true] at this
    refine ⟨fun e he => of_decide_eq_true (Array.all_eq_true_iff_forall_mem.1 this.1 e he), fun g b hg => ?_⟩
    rw [hg] at this
    simpa using this.2
  have hD : ∀ (j : Nat) (o : Oper), n ≤ j → l[j]? = some o → ∀ i, i < n → reaches .any l l.size j i = true := fun j o hj ho i hi => by
    have hlt := (Array.getElem?_eq_some_iff.1 ho).1
    have := List.all_eq_true.1 hdep (j - n) (List.mem_range.2 (by omega))
    rw [show n + (j - n) = j by omega] at this
    exact List.all_eq_true.1 this i (List.mem_range.2 hi)
  have e1 : n + (l.size - n) = l.size := by omega
  have e2 : extL (Array.replicate n false) l.size = Array.replicate l.size false := by
    unfold extL
    rw [Array.size_replicate, Array.replicate_append_replicate, e1]
  have hmain := cut_any (P := P) (Q := NoPanic Q) (md := .any) h1 hn (fun i o hi ho => (hA i o hi ho).1) (fun i o hi ho => (hA i o hi ho).2) hD n (Array.replicate n false) a w.drew (by simp) (by
    rw [e2]
    intro k o _ hl
    have hl : (Array.replicate l.size false).getD k false = true := hl
    rw [Array.getD_eq_getD_getElem?, Array.getElem?_replicate] at hl
    split at hl <;> cases hl) (wpAny_of_held (S := S) _ _ _ _ (by
    have := (of_tree hs (fun _ _ _ _ _ h => h) t).1 _ S (Array.replicate ops1.size false) a _ hL hS h
    rw [hs1] at this
    exact this)) (l.size - n) (Nat.le_refl _)
  rw [e1, e2] at hmain
  exact hmain
end
end Go.Proofs.Ytjjedadhkdpceaa.Lex
