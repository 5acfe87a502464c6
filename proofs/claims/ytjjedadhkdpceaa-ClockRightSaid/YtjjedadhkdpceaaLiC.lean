/- Lists in blocks of their own, whatever their elements are, and a row of them. -/
import Derived.Test.YtjjedadhkdpceaaLiB
import Derived.Deep.AppendLies
namespace Go.Proofs.Ytjjedadhkdpceaa.Li
open Go.RowKit Pac

/-- A list in a block of its own. -/
structure OG (α : Type) where
  b : Nat
  cp : Nat
  l : List α
section
variable {α : Type}
def OG.v (x : OG α) : Value := .slice (some ⟨x.b, 0, none⟩) x.l.length x.cp
def OG.gr (x : OG α) : Gr α := ⟨some ⟨x.b, 0, none⟩, x.cp, x.l⟩
theorem cells_one {β : Type} (f : β → Value) (l : List β) : cellsL (fun x => [f x]) l = l.map f := by unfold cellsL; rw [List.map_eq_flatMap]
theorem cellsG_map (hs : List (Gr α)) : cellsL cellsG hs = hs.map (fun x => Value.slice x.A x.l.length x.cp) := cells_one (fun x : Gr α => Value.slice x.A x.l.length x.cp) hs
theorem cells_og (ks : List (OG α)) : cellsL cellsG (ks.map OG.gr) = ks.map OG.v := by
  rw [cellsG_map, List.map_map]
  rfl
end
theorem own_base {w : World} {B B' : Nat} {e : TypeId} {size : Nat} {v : Value} {n : Nat} {xs : List Value} (h : w.ownsRow B e size v n xs) (hB : B' ≤ B) : w.ownsRow B' e size v n xs := by
  refine ⟨h.1, ?_⟩
  rcases h.2 with h2 | ⟨g, cap, cur, e1, e2, r⟩
  · exact Or.inl h2
  · exact Or.inr ⟨g, cap, cur, e1, Nat.le_trans hB e2, r⟩
theorem own_tag {w : World} {B : Nat} {e : TypeId} {size : Nat} {v : Value} {n : Nat} {xs : List Value} (h : w.ownsRow B e size v n xs) : ∀ g, v.ownBlock = some g → ∃ c fz, w.heap[g]? = some (.cells c e fz) := by
  intro g hg
  rcases h.2 with ⟨rfl, _⟩ | ⟨g', cap, cur, rfl, _, hgg, _⟩
  · simp [Value.ownBlock] at hg
  · simp [Value.ownBlock] at hg
    subst hg
    exact ⟨cur, (0, 0), hgg⟩
theorem own_kind {w : World} {B B' : Nat} {e e' : TypeId} {s s' : Nat} {v v' : Value} {n n' : Nat} {xs xs' : List Value} (h : w.ownsRow B e s v n xs) (h' : w.ownsRow B' e' s' v' n' xs') (he : e ≠ e') {b : Nat} (hb : v.ownBlock = some b) : v'.ownBlock ≠ some b := by
  intro hb'
  obtain ⟨c, fz, h1⟩ := own_tag h b hb
  obtain ⟨c', fz', h2⟩ := own_tag h' b hb'
  rw [h1] at h2
  injection h2 with h2
  injection h2 with _ e2
  exact he e2
theorem own_other {w w' : World} {B : Nat} {e : TypeId} {size : Nat} {v : Value} {n : Nat} {xs : List Value} {row : Option Nat} (h : w.ownsRow B e size v n xs) (hg : w.grownBy w' row) (hne : v.ownBlock = none ∨ v.ownBlock ≠ row) : w'.ownsRow B e size v n xs := by
  refine ⟨h.1, ?_⟩
  rcases h.2 with h2 | ⟨g, cap, cur, rfl, e2, e3, r⟩
  · exact Or.inl h2
  · refine Or.inr ⟨g, cap, cur, rfl, e2, ?_, r⟩
    rw [hg.block g (Array.getElem?_eq_some_iff.1 e3).1 (by simpa [Value.ownBlock] using hne)]
    exact e3
/-- Each list owns its block, and no other one's. -/
structure FreeG {α : Type} (R : α → List Value) (k : Nat) (t : TypeId) (w : World) (B : Nat) (ks : List (OG α)) : Prop where
  own : ∀ x ∈ ks, w.ownsRow B t k x.v x.l.length (cellsL R x.l)
  nd : (ks.map OG.b).Nodup
section
variable {α : Type} {R : α → List Value} {k : Nat} {t e : TypeId} {w w' : World} {B B' : Nat} {ks : List (OG α)}
theorem FreeG.nil (R : α → List Value) (k : Nat) (t : TypeId) (w : World) (B : Nat) : FreeG R k t w B [] := ⟨fun x hx => by simp at hx, List.nodup_nil⟩
theorem FreeG.below (h : FreeG R k t w B ks) (hb : Below B' w w') (hB : w.heap.size ≤ B') : FreeG R k t w' B ks := ⟨fun x hx => own_below (h.own x hx) hb hB, h.nd⟩
theorem FreeG.lt (h : FreeG R k t w B ks) {x : OG α} (hx : x ∈ ks) : B ≤ x.b ∧ x.b < w.heap.size := by
  rcases (h.own x hx).2 with ⟨h2, _⟩ | ⟨g, cap, cur, e1, e2, e3, r⟩
  · cases h2
  · unfold OG.v at e1
    injection e1 with e1
    injection e1 with e1
    injection e1 with e1
    subst e1
    exact ⟨e2, (Array.getElem?_eq_some_iff.1 e3).1⟩
/-- A row of another kind grows. -/
theorem FreeG.grown {s n : Nat} {sv : Value} {xs : List Value} (h : FreeG R k t w B ks) (hrow : w.ownsRow B' e s sv n xs) (hte : t ≠ e) (hg : w.grownBy w' sv.ownBlock) : FreeG R k t w' B ks :=
  ⟨fun x hx => own_other (h.own x hx) hg (Or.inr (fun e1 => own_kind (h.own x hx) hrow hte rfl (by rw [← e1]; rfl))), h.nd⟩
theorem FreeG.push (h : FreeG R k t w B ks) {x : OG α} (hx : w.ownsRow B t k x.v x.l.length (cellsL R x.l)) (hb : ∀ z ∈ ks, z.b ≠ x.b) : FreeG R k t w B (ks ++ [x]) := by
  refine ⟨fun z hz => ?_, ?_⟩
  · rcases List.mem_append.1 hz with hz | hz
    · exact h.own z hz
    · rw [List.mem_singleton] at hz
      subst hz
      exact hx
  · rw [List.map_append]
    refine List.nodup_append.2 ⟨h.nd, by simp, fun a ha b hb' => ?_⟩
    obtain ⟨z, hz, rfl⟩ := List.mem_map.1 ha
    rw [List.map_singleton, List.mem_singleton] at hb'
    subst hb'
    exact hb z hz
theorem FreeG.has (hR : ∀ x, (R x).length = k) (h : FreeG R k t w B ks) {x : Gr α} (hx : x ∈ ks.map OG.gr) : HasL R k w B x.A x.l ∧ x.l.length ≤ x.cp := by
  obtain ⟨z, hz, rfl⟩ := List.mem_map.1 hx
  obtain ⟨A', c', e', hc, hl⟩ := list_of_own hR (h.own z hz) rfl
  unfold OG.v at e'
  injection e' with e1 e2 e3
  subst e1 e3
  exact ⟨hl, hc⟩
theorem FreeG.ne (h : FreeG R k t w B ks) {i j : Nat} {x y : OG α} (hi : ks[i]? = some x) (hj : ks[j]? = some y) (hij : i ≠ j) : x.b ≠ y.b := fun e => by
  have h1 : (ks.map OG.b)[i]? = some x.b := by rw [List.getElem?_map, hi]; rfl
  have h2 : (ks.map OG.b)[j]? = some y.b := by rw [List.getElem?_map, hj]; rfl
  rw [e] at h1
  obtain ⟨j1, e1⟩ := List.getElem?_eq_some_iff.1 h1
  obtain ⟨j2, e2⟩ := List.getElem?_eq_some_iff.1 h2
  exact hij ((List.getElem_inj h.nd (i := i) (j := j) (h₀ := j1) (h₁ := j2)).1 (e1.trans e2.symm))
end
end Go.Proofs.Ytjjedadhkdpceaa.Li
