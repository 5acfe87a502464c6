/- Lists of lists in memory, whatever their elements are. -/
import Derived.Test.YtjjedadhkdpceaaLiA
import Derived.OwnWalk
import Derived.Laws.OwnMore
namespace Go.Proofs.Ytjjedadhkdpceaa.Li
open Go.RowKit Pac

/-- A list, and where it lies. -/
structure Gr (α : Type) where
  A : Option Addr
  cp : Nat
  l : List α
def cellsG {α : Type} (x : Gr α) : List Value := [.slice x.A x.l.length x.cp]
theorem cellsG_len {α : Type} (x : Gr α) : (cellsG x).length = 1 := rfl
/-- The slice at A holds these lists. -/
def HasLs {α : Type} (R : α → List Value) (k : Nat) (w : World) (lo : Nat) (A : Option Addr) (ls : List (List α)) : Prop :=
  ∃ hs : List (Gr α), hs.map Gr.l = ls ∧ HasL cellsG 1 w lo A hs ∧ ∀ x ∈ hs, HasL R k w lo x.A x.l ∧ x.l.length ≤ x.cp
section
variable {α : Type} {R : α → List Value} {k : Nat} {w w' : World} {lo lo' B g : Nat} {A : Option Addr} {ls : List (List α)}
theorem HasLs.at (h : HasLs R k w lo A ls) {q : Nat} {r : List α} (hq : ls[q]? = some r) :
    ∃ b o A2 cp2, A = some ⟨b, o, none⟩ ∧ lo ≤ b ∧ b < w.heap.size ∧ w.cell? ⟨b, o + q, none⟩ = some (.slice A2 r.length cp2) ∧ HasL R k w lo A2 r ∧ r.length ≤ cp2 := by
  obtain ⟨hs, rfl, hA, hI⟩ := h
  rw [List.getElem?_map] at hq
  obtain ⟨x, hx, rfl⟩ := Option.map_eq_some_iff.1 hq
  obtain ⟨b, o, hA, hlo, hlt, hc⟩ := hA (fun e => by rw [e] at hx; simp at hx)
  have := hc q x hx 0 _ rfl
  rw [Nat.mul_one, Nat.add_zero] at this
  obtain ⟨h1, h2⟩ := hI x (List.mem_of_getElem? hx)
  exact ⟨b, o, x.A, x.cp, hA, hlo, hlt, this, h1, h2⟩
theorem HasLs.below (h : HasLs R k w lo A ls) (hb : Below B w w') (hB : w.heap.size ≤ B) : HasLs R k w' lo A ls := by
  obtain ⟨hs, e, hA, hI⟩ := h
  exact ⟨hs, e, hA.below hb hB, fun x hx => ⟨(hI x hx).1.below hb hB, (hI x hx).2⟩⟩
theorem HasLs.bar (h : HasLs R k w lo A ls) (hb : Bar g w w') (hg : g < lo ∨ w.heap.size ≤ g) : HasLs R k w' lo A ls := by
  obtain ⟨hs, e, hA, hI⟩ := h
  exact ⟨hs, e, hA.bar hb hg, fun x hx => ⟨(hI x hx).1.bar hb hg, (hI x hx).2⟩⟩
theorem HasLs.lower (h : HasLs R k w lo A ls) (hl : lo' ≤ lo) : HasLs R k w lo' A ls := by
  obtain ⟨hs, e, hA, hI⟩ := h
  exact ⟨hs, e, hA.lower hl, fun x hx => ⟨(hI x hx).1.lower hl, (hI x hx).2⟩⟩
theorem HasLs.nil (R : α → List Value) (k : Nat) (w : World) (lo : Nat) (A : Option Addr) : HasLs R k w lo A [] := ⟨[], rfl, HasL.nil _ _ _, fun x hx => by simp at hx⟩
end
/-- A list that no row of lists, from base on, lies in (t: its elements' type). -/
structure In1 {α : Type} (R : α → List Value) (k : Nat) (t : TypeId) (w : World) (lo base : Nat) (x : Gr α) : Prop where
  has : HasL R k w lo x.A x.l
  cap : x.l.length ≤ x.cp
  tag : ∀ b o s, x.A = some ⟨b, o, s⟩ → x.l ≠ [] → b < base ∨ ∃ cs fr, w.heap[b]? = some (.cells cs t fr)
section
variable {α : Type} {R : α → List Value} {k : Nat} {t e : TypeId} {w w' : World} {lo base B n g : Nat} {x : Gr α} {hs : List (Gr α)} {sv sv' : Value}
theorem In1.below (h : In1 R k t w lo base x) (hb : Below B w w') (hB : w.heap.size ≤ B) : In1 R k t w' lo base x := by
  refine ⟨h.has.below hb hB, h.cap, fun b o s e hn => ?_⟩
  rcases h.tag b o s e hn with h1 | ⟨cs, fr, h1⟩
  · exact Or.inl h1
  · have hlt : b < w.heap.size := (Array.getElem?_eq_some_iff.1 h1).1
    exact Or.inr ⟨cs, fr, (hb.block b (Nat.lt_of_lt_of_le hlt hB)).trans h1⟩
theorem In1.grown (hte : t ≠ e) (h : In1 R k t w lo base x) (hown : w.ownsRow base e 1 sv n (cellsL cellsG hs)) (hg : w.grownBy w' sv.ownBlock) : In1 R k t w' lo base x := by
  have key : ∀ b o s, x.A = some ⟨b, o, s⟩ → x.l ≠ [] → some b ≠ sv.ownBlock := fun b o s e hn hb => by
    have hlt := hown.lt b hb.symm
    rcases h.tag b o s e hn with h1 | ⟨cs, fr, h1⟩
    · omega
    · rcases hown.2 with ⟨rfl, _⟩ | ⟨g, cap, cur, rfl, _, hg2, _⟩
      · cases hb
      · injection hb with hb
        have hb : b = g := hb
        subst hb
        rw [h1] at hg2
        injection hg2 with hg2
        injection hg2 with _ e2
        exact hte e2
  refine ⟨fun hn => ?_, h.cap, fun b o s e hn => ?_⟩
  · obtain ⟨b, o, hA, hlo, hlt, hc⟩ := h.has hn
    refine ⟨b, o, hA, hlo, Nat.lt_of_lt_of_le hlt hg.size, fun j y hj i v hv => ?_⟩
    exact hg.cell (hc j y hj i v hv) (key b o none hA hn)
  · rcases h.tag b o s e hn with h1 | ⟨cs, fr, h1⟩
    · exact Or.inl h1
    · have hlt : b < w.heap.size := (Array.getElem?_eq_some_iff.1 h1).1
      exact Or.inr ⟨cs, fr, (hg.block b hlt (key b o s e hn)).trans h1⟩
/-- One list more. -/
theorem own_push (hte : t ≠ e) (hI : ∀ z ∈ hs, In1 R k t w lo base z) (hown : w.ownsRow base e 1 sv n (cellsL cellsG hs)) (hx : In1 R k t w lo base x) (hown' : w'.ownsRow base e 1 sv' (n + 1) (cellsL cellsG hs ++ [.slice x.A x.l.length x.cp])) (hg : w.grownBy w' sv.ownBlock) :
    w'.ownsRow base e 1 sv' (n + 1) (cellsL cellsG (hs ++ [x])) ∧ ∀ z ∈ hs ++ [x], In1 R k t w' lo base z := by
  refine ⟨by rw [cellsL_snoc]; exact hown', fun z hz => ?_⟩
  rcases List.mem_append.1 hz with hz | hz
  · exact (hI z hz).grown hte hown hg
  · rw [List.mem_singleton] at hz
    subst hz
    exact hx.grown hte hown hg
theorem In1.bar (h : In1 R k t w lo base x) (hb : Bar g w w') (hg : g < lo) : In1 R k t w' lo base x := by
  refine ⟨h.has.bar hb (Or.inl hg), h.cap, fun b o s e hn => ?_⟩
  rcases h.tag b o s e hn with h1 | ⟨cs, fr, h1⟩
  · exact Or.inl h1
  · have hlt : b < w.heap.size := (Array.getElem?_eq_some_iff.1 h1).1
    obtain ⟨b', o', hA, hlo, _, _⟩ := h.has hn
    rw [e] at hA
    injection hA with hA
    injection hA with e1 _ _
    exact Or.inr ⟨cs, fr, (hb.block b hlt (by omega)).trans h1⟩
theorem In1.of_own {b0 u c : Nat} {A : Option Addr} {l : List α} (hR : ∀ x, (R x).length = k) (h : w.ownsRow b0 t k (.slice A u c) u (cellsL R l)) (hu : l.length = u) (hlo : lo ≤ b0) : In1 R k t w lo base ⟨A, c, l⟩ := by
  obtain ⟨A', c', e, hc, hl⟩ := list_of_own hR h hu
  injection e with e1 e2 e3
  subst e1 e3
  refine ⟨hl.lower hlo, by show l.length ≤ c; omega, fun b o s e hn => Or.inr ?_⟩
  rcases h.2 with ⟨_, h0⟩ | ⟨g, cap, cur, e4, _, hg, _⟩
  · exact absurd (List.eq_nil_of_length_eq_zero (by rw [hu]; exact h0)) hn
  · injection e4 with e4
    have e' : A = some ⟨b, o, s⟩ := e
    rw [e'] at e4
    injection e4 with e4
    injection e4 with e4
    subst e4
    exact ⟨_, _, hg⟩
theorem In1.old {A : Option Addr} {c : Nat} {l : List α} (h : HasL R k w lo A l) (hc : l.length ≤ c) (hB : Below w.heap.size w w') : In1 R k t w' lo w.heap.size ⟨A, c, l⟩ := by
  refine ⟨h.below hB (Nat.le_refl _), hc, fun b o s e hn => Or.inl ?_⟩
  obtain ⟨b', o', hA, _, hlt, _⟩ := h hn
  have e' : A = some ⟨b, o, s⟩ := e
  rw [hA] at e'
  injection e' with e'
  injection e' with e1 _ _
  omega
end
/-- Lists of one's own, in an answer. -/
def LsPost {α : Type} (R : α → List Value) (k : Nat) (lo : Nat) (ls : List (List α)) (w : World) (e : Ending) (w' : World) : Prop :=
  ∃ A cp, e = .returned (.slice A ls.length cp) ∧ ls.length ≤ cp ∧ HasLs R k w' lo A ls ∧ Below w.heap.size w w'
theorem ls_of_own {α : Type} {R : α → List Value} {k lo n base : Nat} {t e : TypeId} {ls : List (List α)} {w' : World} {sv : Value} {hs : List (Gr α)} (hlo : lo ≤ base) (hown : w'.ownsRow base e 1 sv n (cellsL cellsG hs)) (hn : hs.length = n) (hI : ∀ z ∈ hs, In1 R k t w' lo base z) (el : hs.map Gr.l = ls) :
    ∃ A cp, sv = .slice A ls.length cp ∧ ls.length ≤ cp ∧ HasLs R k w' lo A ls := by
  obtain ⟨A, c, rfl, hc, hl⟩ := list_of_own cellsG_len hown hn
  subst el
  rw [← hn] at hc
  exact ⟨A, c, by rw [List.length_map, hn], by rw [List.length_map]; exact hc, ⟨hs, rfl, hl.lower hlo, fun x hx => ⟨(hI x hx).has, (hI x hx).cap⟩⟩⟩
theorem LsPost.own {α : Type} {R : α → List Value} {k lo n : Nat} {t e : TypeId} {ls : List (List α)} {w w' : World} {sv : Value} {hs : List (Gr α)} (hlo : lo ≤ w.heap.size) (hown : w'.ownsRow w.heap.size e 1 sv n (cellsL cellsG hs)) (hn : hs.length = n) (hI : ∀ z ∈ hs, In1 R k t w' lo w.heap.size z) (el : hs.map Gr.l = ls) (hB : Below w.heap.size w w') : LsPost R k lo ls w (.returned sv) w' := by
  obtain ⟨A, cp, rfl, h1, h2⟩ := ls_of_own hlo hown hn hI el
  exact ⟨A, cp, rfl, h1, h2, hB⟩
end Go.Proofs.Ytjjedadhkdpceaa.Li
