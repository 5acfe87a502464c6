/- A region that draws its order, cut in two: what is left, walked in an order of its own. No program. -/
import Derived.Test.YtjjedadhkdpceaaLeC
namespace Go.Proofs.Ytjjedadhkdpceaa.Lex
open Go

section
variable {P : Program} {ops : Array Oper} {Q : Exit → Act → World → Prop} {md : Region.Mode}
theorem wpAny_more : ∀ (k j : Nat) (listed : Array Bool) (a : Act) (w : World), wpAny P md ops Q k listed a w → wpAny P md ops Q (k + j) listed a w
  | 0, j, _, _, _, h => by rw [Nat.zero_add]; exact wpAny_done h.1 h.2 j
  | k + 1, j, listed, a, w, h => by
    rw [show k + 1 + j = (k + j) + 1 by omega]
    exact ⟨h.1, fun i hi => wpOp_mono (fun a' w' h' => wpAny_more k j _ a' w' h') (h.2 i hi)⟩
theorem tail_lex {calls : List Nat} {n : Nat} {a : Act} {w : World} (ord : List Nat) (S : World → Prop) (hs : Region.noSelect ops = true) (hn : ord.length = ops.size - n)
    (hk : ord.all (fun k => decide (k < ops.size)) = true) (hL : lexH ops calls ord (extL (Array.replicate n true) ops.size) = true) (hS : S w)
    (h : walkH P ops (NoPanic Q) calls ord S a w) : ∀ m, ops.size - n ≤ m → wpAny P .any ops (NoPanic Q) m (extL (Array.replicate n true) ops.size) a w := by
  intro m hm
  obtain ⟨j, rfl⟩ : ∃ j, m = ops.size - n + j := ⟨m - (ops.size - n), by omega⟩
  refine wpAny_more _ j _ a w ?_
  rw [← hn]
  exact wpAny_of_held _ _ _ _ (of_walk hs (fun _ _ _ _ _ h => h) ord S _ a w (fun k h => by simpa using List.all_eq_true.1 hk k h) hL hS h)
end
end Go.Proofs.Ytjjedadhkdpceaa.Lex
