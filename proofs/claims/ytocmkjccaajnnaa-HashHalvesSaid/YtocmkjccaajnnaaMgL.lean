/- Texts LiA, LiB, LiC, one behind the other. -/
import Derived.Test.YtocmkjccaajnnaaMgP
import Derived.Deep.AppendLies
import Derived.Deep.Slices
import Derived.Deep.Fields
import Derived.OwnWalk
import Derived.Laws.OwnMore
/- Lists in memory: elements of k cells each, one behind the other. No program. -/
namespace Go.Proofs.Ytocmkjccaajnnaa.Li
open Go.RowKit Pac

/-- The slice at A holds these, in memory from lo on: each as the k cells that R tells. -/
def HasL {α : Type} (R : α → List Value) (k : Nat) (w : World) (lo : Nat) (A : Option Addr) (l : List α) : Prop :=
  l ≠ [] → ∃ b o, A = some ⟨b, o, none⟩ ∧ lo ≤ b ∧ b < w.heap.size ∧ ∀ (j : Nat) (x : α), l[j]? = some x → ∀ (i : Nat) (v : Value), (R x)[i]? = some v → w.cell? ⟨b, o + j * k + i, none⟩ = some v
section
variable {α : Type} {R : α → List Value} {k : Nat} {w w' : World} {lo lo' B g : Nat} {A : Option Addr} {l : List α}
theorem HasL.below (h : HasL R k w lo A l) (hb : Below B w w') (hB : w.heap.size ≤ B) : HasL R k w' lo A l := by
  intro hl
  obtain ⟨b, o, hA, hlo, hlt, hc⟩ := h hl
  exact ⟨b, o, hA, hlo, Nat.lt_of_lt_of_le hlt hb.size, fun j x hj i v hv => (hb.cell (p := ⟨b, o + j * k + i, none⟩) (Nat.lt_of_lt_of_le hlt hB)).trans (hc j x hj i v hv)⟩
theorem HasL.bar (h : HasL R k w lo A l) (hb : Bar g w w') (hg : g < lo ∨ w.heap.size ≤ g) : HasL R k w' lo A l := by
  intro hl
  obtain ⟨b, o, hA, hlo, hlt, hc⟩ := h hl
  exact ⟨b, o, hA, hlo, Nat.lt_of_lt_of_le hlt hb.size, fun j x hj i v hv => (hb.cell (p := ⟨b, o + j * k + i, none⟩) hlt (by show b ≠ g; omega)).trans (hc j x hj i v hv)⟩
theorem HasL.lower (h : HasL R k w lo A l) (hl : lo' ≤ lo) : HasL R k w lo' A l := by
  intro hn
  obtain ⟨b, o, hA, hlo, r⟩ := h hn
  exact ⟨b, o, hA, Nat.le_trans hl hlo, r⟩
theorem HasL.take (h : HasL R k w lo A l) (q : Nat) : HasL R k w lo A (l.take q) := by
  intro hn
  have hl : l ≠ [] := fun e => hn (by rw [e]; simp)
  obtain ⟨b, o, hA, hlo, hlt, hc⟩ := h hl
  refine ⟨b, o, hA, hlo, hlt, fun j x hj => hc j x ?_⟩
  rw [List.getElem?_take] at hj
  split at hj
  · exact hj
  · cases hj
/-- The rest, from place q on. -/
theorem HasL.drop {b o q : Nat} (h : HasL R k w lo (some ⟨b, o, none⟩) l) : HasL R k w lo (some ⟨b, o + q * k, none⟩) (l.drop q) := by
  intro hn
  have hl : l ≠ [] := fun e => hn (by rw [e]; simp)
  obtain ⟨b', o', hA, hlo, hlt, hc⟩ := h hl
  injection hA with hA
  injection hA with e1 e2
  subst e1 e2
  refine ⟨b, o + q * k, rfl, hlo, hlt, fun j x hj i v hv => ?_⟩
  rw [List.getElem?_drop] at hj
  have := hc (q + j) x hj i v hv
  rw [Nat.add_mul, ← Nat.add_assoc] at this
  exact this
theorem HasL.nil (w : World) (lo : Nat) (A : Option Addr) : HasL R k w lo A [] := fun h => absurd rfl h

/-- All cells, one behind the other. -/
def cellsL {α : Type} (R : α → List Value) (l : List α) : List Value := l.flatMap R
theorem cellsL_snoc (l : List α) (x : α) : cellsL R (l ++ [x]) = cellsL R l ++ R x := by unfold cellsL; simp
theorem cellsL_len (hR : ∀ x, (R x).length = k) (l : List α) : (cellsL R l).length = l.length * k := by
  unfold cellsL
  induction l with
  | nil => simp
  | cons x l ih => rw [List.flatMap_cons, List.length_append, ih, hR, List.length_cons, Nat.add_mul]; omega
theorem cellsL_at (hR : ∀ x, (R x).length = k) : ∀ (l : List α) (j : Nat) (x : α), l[j]? = some x → ∀ (i : Nat) (v : Value), (R x)[i]? = some v → (cellsL R l)[j * k + i]? = some v
  | [], j, x, h, _, _, _ => by simp at h
  | y :: l, 0, x, h, i, v, hv => by
    have h : y = x := by simpa using h
    subst h
    show (R y ++ l.flatMap R)[0 * k + i]? = some v
    have hi := (List.getElem?_eq_some_iff.1 hv).1
    rw [Nat.zero_mul, Nat.zero_add, List.getElem?_append_left hi]
    exact hv
  | y :: l, j + 1, x, h, i, v, hv => by
    have h : l[j]? = some x := by simpa using h
    have ih := cellsL_at hR l j x h i v hv
    show (R y ++ l.flatMap R)[(j + 1) * k + i]? = some v
    rw [List.getElem?_append_right (by rw [hR, Nat.add_mul]; omega), hR, show (j + 1) * k + i - k = j * k + i by rw [Nat.add_mul]; omega]
    exact ih
/-- A row of one's own is a slice of these. -/
theorem list_of_own {base n : Nat} {e : TypeId} {v : Value} (hR : ∀ x, (R x).length = k) (h : w.ownsRow base e k v n (cellsL R l)) (hn : l.length = n) : ∃ A c, v = .slice A n c ∧ n ≤ c ∧ HasL R k w base A l := by
  have h' := h
  rcases h.2 with ⟨rfl, rfl⟩ | ⟨g, cap, cur, rfl, e2, e3, e4, e5, e6, e7⟩
  · refine ⟨none, 0, rfl, Nat.le_refl _, ?_⟩
    rw [List.length_eq_zero_iff.1 hn]
    exact HasL.nil w base none
  · refine ⟨_, cap, rfl, e4, fun _ => ⟨g, 0, rfl, e2, (Array.getElem?_eq_some_iff.1 e3).1, fun j x hx i u hu => ?_⟩⟩
    have hj : j < n := by rw [← hn]; exact (List.getElem?_eq_some_iff.1 hx).1
    have hi : i < k := by rw [← hR x]; exact (List.getElem?_eq_some_iff.1 hu).1
    have hlt : j * k + i < n * k := by
      have h1 : (j + 1) * k ≤ n * k := Nat.mul_le_mul_right k hj
      rw [Nat.add_mul] at h1
      omega
    rw [Nat.zero_add, h'.cellAt (j * k + i) hlt]
    exact cellsL_at hR l j x hx i u hu
end
theorem own_below {w w' : World} {B base : Nat} {e : TypeId} {size : Nat} {v : Value} {n : Nat} {xs : List Value} (h : w.ownsRow base e size v n xs) (hb : Below B w w') (hB : w.heap.size ≤ B) : w'.ownsRow base e size v n xs := by
  refine ⟨h.1, ?_⟩
  rcases h.2 with h2 | ⟨g, cap, cur, e1, e2, e3, r⟩
  · exact Or.inl h2
  · refine Or.inr ⟨g, cap, cur, e1, e2, ?_, r⟩
    have hg : g < w.heap.size := (Array.getElem?_eq_some_iff.1 e3).1
    rw [hb.block g (Nat.lt_of_lt_of_le hg hB)]
    exact e3
theorem own_bar {w w' : World} {g base : Nat} {e : TypeId} {size : Nat} {v : Value} {n : Nat} {xs : List Value} (h : w.ownsRow base e size v n xs) (hb : Bar g w w') (hg : g < base) : w'.ownsRow base e size v n xs := by
  refine ⟨h.1, ?_⟩
  rcases h.2 with h2 | ⟨k, cap, cur, e1, e2, e3, r⟩
  · exact Or.inl h2
  · refine Or.inr ⟨k, cap, cur, e1, e2, ?_, r⟩
    have hk : k < w.heap.size := (Array.getElem?_eq_some_iff.1 e3).1
    rw [hb.block k hk (by omega)]
    exact e3
/-- A literal: a block that is known whole. -/
theorem list_of_block {α : Type} {R : α → List Value} {k : Nat} {w : World} {b : Nat} {l : List α} {cs : Array Value} {t : TypeId} (hR : ∀ x, (R x).length = k) (h : w.heap[b]? = some (.cells cs t (0, 0))) (hc : cs.toList = cellsL R l) : HasL R k w b (some ⟨b, 0, none⟩) l := by
  intro _
  refine ⟨b, 0, rfl, Nat.le_refl _, (Array.getElem?_eq_some_iff.1 h).1, fun j x hj i v hv => ?_⟩
  rw [cell_of_row w b _ cs t (0, 0) h, Nat.zero_add]
  have := cellsL_at hR l j x hj i v hv
  rw [← hc] at this
  simpa using this

/-- A slice that came in, out of its reading, by the reading of an element. -/
theorem open_list {H : Type} {enc : TypeId × Value → H} {P : Program} {w : World} {base : Nat} {spare : Nat → Bool} {held : Bool} {α : Type} {R : α → List Value} {Ok : α → Prop} {k : Nat} {t e : TypeId} [Inhabited α]
    (ht : P.underlying t = some (.slice e)) (hk : P.cellsOf e = k) (hk0 : 0 < k) (hR : ∀ x, (R x).length = k)
    (one : ∀ (fuel : Nat) (cs : List Value) (x : DataW H × List MemPlace), DataW.trod enc P w base spare held fuel e cs = some x → ∃ a : α, Ok a ∧ cs = R a)
    {fuel : Nat} {cs : List Value} {x : DataW H × List MemPlace} (h : DataW.trod enc P w base spare held fuel t cs = some x) :
    ∃ (A : Option Addr) (cp : Nat) (l : List α), cs = [.slice A l.length cp] ∧ l.length ≤ cp ∧ l.length ≤ 9223372036854775807 ∧ (∀ (j : Nat) (a : α), l[j]? = some a → Ok a) ∧ HasL R k w 0 A l := by
  rcases Go.Deep.open_slice ht h with ⟨rfl, _⟩ | ⟨a, len, cap, m, n, D, Pl, rfl, hb, hl, hm, hmm, _, hi⟩
  · exact ⟨none, 0, [], rfl, Nat.le_refl _, Nat.zero_le _, fun j c h => by simp at h, HasL.nil _ _ _⟩
  · have hlm : len ≤ m := by rw [hmm]; split <;> omega
    unfold maxLen at hm
    have each : ∀ j, ∃ E : α, j < len → Ok E ∧ ∀ (i : Nat) (v : Value), (R E)[i]? = some v → w.cell? ((a.add (j * k)).add i) = some v := by
      intro j
      by_cases hj : j < len
      · obtain ⟨cs', hc, ht⟩ := hi j (by omega)
        rw [hk] at hc
        obtain ⟨E, hok, rfl⟩ := one _ _ _ ht
        obtain ⟨_, _, hat⟩ := World.cells?_some hc
        refine ⟨E, fun _ => ⟨hok, fun i v hv => ?_⟩⟩
        have hik : i < k := by rw [← hR E]; exact (List.getElem?_eq_some_iff.1 hv).1
        rw [hat i hik]
        exact hv
      · exact ⟨default, fun h => absurd h hj⟩
    obtain ⟨L, hL⟩ := Classical.axiomOfChoice each
    have hlen : ((List.range len).map L).length = len := by rw [List.length_map, List.length_range]
    have hat : ∀ (j : Nat) (c : α), ((List.range len).map L)[j]? = some c → j < len ∧ c = L j := fun j c hc => by
      have hj : j < len := by
        have := (List.getElem?_eq_some_iff.1 hc).1
        rw [hlen] at this
        exact this
      rw [List.getElem?_map, List.getElem?_range hj] at hc
      exact ⟨hj, (Option.some.inj hc).symm⟩
    refine ⟨some a, cap, (List.range len).map L, by rw [hlen], by rw [hlen]; exact hl, by rw [hlen]; omega, fun j c hc => ?_, fun hne => ?_⟩
    · obtain ⟨hj, rfl⟩ := hat j c hc
      exact (hL j hj).1
    · have h0 : 0 < len := by
        rcases Nat.eq_zero_or_pos len with h | h
        · subst h; exact absurd rfl hne
        · exact h
      have hv0 : ∃ v, (R (L 0))[0]? = some v := ⟨_, List.getElem?_eq_getElem (by rw [hR]; exact hk0)⟩
      obtain ⟨v0, hv0⟩ := hv0
      have hsp : a.spot = none := by
        have := World.cell?_spot ((hL 0 h0).2 0 v0 hv0)
        obtain ⟨b, off, spot⟩ := a
        simpa [Addr.add] using this
      have hadd : ∀ i j, (a.add (i * k)).add j = ⟨a.block, a.off + i * k + j, none⟩ := fun i j => by
        obtain ⟨b, off, spot⟩ := a
        simp only at hsp
        subst hsp
        unfold Addr.add
        split <;> split <;> simp_all <;> omega
      have hlt : a.block < w.heap.size := by
        have := World.block_lt_of_cell? w _ ((hL 0 h0).2 0 v0 hv0)
        rw [hadd] at this
        exact this
      refine ⟨a.block, a.off, ?_, Nat.zero_le _, hlt, fun j c hc i v hv => ?_⟩
      · obtain ⟨b, off, spot⟩ := a
        simp only at hsp
        subst hsp
        rfl
      · obtain ⟨hj, rfl⟩ := hat j c hc
        have h := (hL j hj).2 i v hv
        rw [hadd] at h
        exact h
end Go.Proofs.Ytocmkjccaajnnaa.Li

/- Lists of lists in memory, whatever their elements are. -/
namespace Go.Proofs.Ytocmkjccaajnnaa.Li
open Go.RowKit Pac

/-- A list, and where it lies. -/
structure Gr (α : Type) where
  A : Option Addr
  cp : Nat
  l : List α
def cellsG {α : Type} (x : Gr α) : List Value := [.slice x.A x.l.length x.cp]
theorem cellsG_len {α : Type} (x : Gr α) : (cellsG x).length = 1 := rfl
/-- The slice at A holds these lists. -/
def HasLs {α : Type} (R : α → List Value) (k : Nat) (w : World) (lo : Nat) (A : Option Addr) (ls : List (List α)) : Prop :=
  ∃ hs : List (Gr α), hs.map Gr.l = ls ∧ HasL cellsG 1 w lo A hs ∧ ∀ x ∈ hs, HasL R k w lo x.A x.l ∧ x.l.length ≤ x.cp
section
variable {α : Type} {R : α → List Value} {k : Nat} {w w' : World} {lo lo' B g : Nat} {A : Option Addr} {ls : List (List α)}
theorem HasLs.at (h : HasLs R k w lo A ls) {q : Nat} {r : List α} (hq : ls[q]? = some r) :
    ∃ b o A2 cp2, A = some ⟨b, o, none⟩ ∧ lo ≤ b ∧ b < w.heap.size ∧ w.cell? ⟨b, o + q, none⟩ = some (.slice A2 r.length cp2) ∧ HasL R k w lo A2 r ∧ r.length ≤ cp2 := by
  obtain ⟨hs, rfl, hA, hI⟩ := h
  rw [List.getElem?_map] at hq
  obtain ⟨x, hx, rfl⟩ := Option.map_eq_some_iff.1 hq
  obtain ⟨b, o, hA, hlo, hlt, hc⟩ := hA (fun e => by rw [e] at hx; simp at hx)
  have := hc q x hx 0 _ rfl
  rw [Nat.mul_one, Nat.add_zero] at this
  obtain ⟨h1, h2⟩ := hI x (List.mem_of_getElem? hx)
  exact ⟨b, o, x.A, x.cp, hA, hlo, hlt, this, h1, h2⟩
theorem HasLs.below (h : HasLs R k w lo A ls) (hb : Below B w w') (hB : w.heap.size ≤ B) : HasLs R k w' lo A ls := by
  obtain ⟨hs, e, hA, hI⟩ := h
  exact ⟨hs, e, hA.below hb hB, fun x hx => ⟨(hI x hx).1.below hb hB, (hI x hx).2⟩⟩
theorem HasLs.bar (h : HasLs R k w lo A ls) (hb : Bar g w w') (hg : g < lo ∨ w.heap.size ≤ g) : HasLs R k w' lo A ls := by
  obtain ⟨hs, e, hA, hI⟩ := h
  exact ⟨hs, e, hA.bar hb hg, fun x hx => ⟨(hI x hx).1.bar hb hg, (hI x hx).2⟩⟩
theorem HasLs.lower (h : HasLs R k w lo A ls) (hl : lo' ≤ lo) : HasLs R k w lo' A ls := by
  obtain ⟨hs, e, hA, hI⟩ := h
  exact ⟨hs, e, hA.lower hl, fun x hx => ⟨(hI x hx).1.lower hl, (hI x hx).2⟩⟩
theorem HasLs.nil (R : α → List Value) (k : Nat) (w : World) (lo : Nat) (A : Option Addr) : HasLs R k w lo A [] := ⟨[], rfl, HasL.nil _ _ _, fun x hx => by simp at hx⟩
end
/-- A list that no row of lists, from base on, lies in (t: its elements' type). -/
structure In1 {α : Type} (R : α → List Value) (k : Nat) (t : TypeId) (w : World) (lo base : Nat) (x : Gr α) : Prop where
  has : HasL R k w lo x.A x.l
  cap : x.l.length ≤ x.cp
  tag : ∀ b o s, x.A = some ⟨b, o, s⟩ → x.l ≠ [] → b < base ∨ ∃ cs fr, w.heap[b]? = some (.cells cs t fr)
section
variable {α : Type} {R : α → List Value} {k : Nat} {t e : TypeId} {w w' : World} {lo base B n g : Nat} {x : Gr α} {hs : List (Gr α)} {sv sv' : Value}
theorem In1.below (h : In1 R k t w lo base x) (hb : Below B w w') (hB : w.heap.size ≤ B) : In1 R k t w' lo base x := by
  refine ⟨h.has.below hb hB, h.cap, fun b o s e hn => ?_⟩
  rcases h.tag b o s e hn with h1 | ⟨cs, fr, h1⟩
  · exact Or.inl h1
  · have hlt : b < w.heap.size := (Array.getElem?_eq_some_iff.1 h1).1
    exact Or.inr ⟨cs, fr, (hb.block b (Nat.lt_of_lt_of_le hlt hB)).trans h1⟩
theorem In1.grown (hte : t ≠ e) (h : In1 R k t w lo base x) (hown : w.ownsRow base e 1 sv n (cellsL cellsG hs)) (hg : w.grownBy w' sv.ownBlock) : In1 R k t w' lo base x := by
  have key : ∀ b o s, x.A = some ⟨b, o, s⟩ → x.l ≠ [] → some b ≠ sv.ownBlock := fun b o s e hn hb => by
    have hlt := hown.lt b hb.symm
    rcases h.tag b o s e hn with h1 | ⟨cs, fr, h1⟩
    · omega
    · rcases hown.2 with ⟨rfl, _⟩ | ⟨g, cap, cur, rfl, _, hg2, _⟩
      · cases hb
      · injection hb with hb
        have hb : b = g := hb
        subst hb
        rw [h1] at hg2
        injection hg2 with hg2
        injection hg2 with _ e2
        exact hte e2
  refine ⟨fun hn => ?_, h.cap, fun b o s e hn => ?_⟩
  · obtain ⟨b, o, hA, hlo, hlt, hc⟩ := h.has hn
    refine ⟨b, o, hA, hlo, Nat.lt_of_lt_of_le hlt hg.size, fun j y hj i v hv => ?_⟩
    exact hg.cell (hc j y hj i v hv) (key b o none hA hn)
  · rcases h.tag b o s e hn with h1 | ⟨cs, fr, h1⟩
    · exact Or.inl h1
    · have hlt : b < w.heap.size := (Array.getElem?_eq_some_iff.1 h1).1
      exact Or.inr ⟨cs, fr, (hg.block b hlt (key b o s e hn)).trans h1⟩
theorem In1.bar (h : In1 R k t w lo base x) (hb : Bar g w w') (hg : g < lo) : In1 R k t w' lo base x := by
  refine ⟨h.has.bar hb (Or.inl hg), h.cap, fun b o s e hn => ?_⟩
  rcases h.tag b o s e hn with h1 | ⟨cs, fr, h1⟩
  · exact Or.inl h1
  · have hlt : b < w.heap.size := (Array.getElem?_eq_some_iff.1 h1).1
    obtain ⟨b', o', hA, hlo, _, _⟩ := h.has hn
    rw [e] at hA
    injection hA with hA
    injection hA with e1 _ _
    exact Or.inr ⟨cs, fr, (hb.block b hlt (by omega)).trans h1⟩
end
/-- Lists of one's own, in an answer. -/
def LsPost {α : Type} (R : α → List Value) (k : Nat) (lo : Nat) (ls : List (List α)) (w : World) (e : Ending) (w' : World) : Prop :=
  ∃ A cp, e = .returned (.slice A ls.length cp) ∧ ls.length ≤ cp ∧ HasLs R k w' lo A ls ∧ Below w.heap.size w w'
theorem ls_of_own {α : Type} {R : α → List Value} {k lo n base : Nat} {t e : TypeId} {ls : List (List α)} {w' : World} {sv : Value} {hs : List (Gr α)} (hlo : lo ≤ base) (hown : w'.ownsRow base e 1 sv n (cellsL cellsG hs)) (hn : hs.length = n) (hI : ∀ z ∈ hs, In1 R k t w' lo base z) (el : hs.map Gr.l = ls) :
    ∃ A cp, sv = .slice A ls.length cp ∧ ls.length ≤ cp ∧ HasLs R k w' lo A ls := by
  obtain ⟨A, c, rfl, hc, hl⟩ := list_of_own cellsG_len hown hn
  subst el
  rw [← hn] at hc
  exact ⟨A, c, by rw [List.length_map, hn], by rw [List.length_map]; exact hc, ⟨hs, rfl, hl.lower hlo, fun x hx => ⟨(hI x hx).has, (hI x hx).cap⟩⟩⟩
theorem LsPost.own {α : Type} {R : α → List Value} {k lo n : Nat} {t e : TypeId} {ls : List (List α)} {w w' : World} {sv : Value} {hs : List (Gr α)} (hlo : lo ≤ w.heap.size) (hown : w'.ownsRow w.heap.size e 1 sv n (cellsL cellsG hs)) (hn : hs.length = n) (hI : ∀ z ∈ hs, In1 R k t w' lo w.heap.size z) (el : hs.map Gr.l = ls) (hB : Below w.heap.size w w') : LsPost R k lo ls w (.returned sv) w' := by
  obtain ⟨A, cp, rfl, h1, h2⟩ := ls_of_own hlo hown hn hI el
  exact ⟨A, cp, rfl, h1, h2, hB⟩
end Go.Proofs.Ytocmkjccaajnnaa.Li

/- Lists in blocks of their own, whatever their elements are, and a row of them. -/
namespace Go.Proofs.Ytocmkjccaajnnaa.Li
open Go.RowKit Pac

/-- A list in a block of its own. -/
structure OG (α : Type) where
  b : Nat
  cp : Nat
  l : List α
section
variable {α : Type}
def OG.v (x : OG α) : Value := .slice (some ⟨x.b, 0, none⟩) x.l.length x.cp
def OG.gr (x : OG α) : Gr α := ⟨some ⟨x.b, 0, none⟩, x.cp, x.l⟩
theorem cells_one {β : Type} (f : β → Value) (l : List β) : cellsL (fun x => [f x]) l = l.map f := by unfold cellsL; rw [List.map_eq_flatMap]
theorem cellsG_map (hs : List (Gr α)) : cellsL cellsG hs = hs.map (fun x => Value.slice x.A x.l.length x.cp) := cells_one (fun x : Gr α => Value.slice x.A x.l.length x.cp) hs
end
theorem own_base {w : World} {B B' : Nat} {e : TypeId} {size : Nat} {v : Value} {n : Nat} {xs : List Value} (h : w.ownsRow B e size v n xs) (hB : B' ≤ B) : w.ownsRow B' e size v n xs := by
  refine ⟨h.1, ?_⟩
  rcases h.2 with h2 | ⟨g, cap, cur, e1, e2, r⟩
  · exact Or.inl h2
  · exact Or.inr ⟨g, cap, cur, e1, Nat.le_trans hB e2, r⟩
theorem own_tag {w : World} {B : Nat} {e : TypeId} {size : Nat} {v : Value} {n : Nat} {xs : List Value} (h : w.ownsRow B e size v n xs) : ∀ g, v.ownBlock = some g → ∃ c fz, w.heap[g]? = some (.cells c e fz) := by
  intro g hg
  rcases h.2 with ⟨rfl, _⟩ | ⟨g', cap, cur, rfl, _, hgg, _⟩
  · simp [Value.ownBlock] at hg
  · simp [Value.ownBlock] at hg
    subst hg
    exact ⟨cur, (0, 0), hgg⟩
theorem own_kind {w : World} {B B' : Nat} {e e' : TypeId} {s s' : Nat} {v v' : Value} {n n' : Nat} {xs xs' : List Value} (h : w.ownsRow B e s v n xs) (h' : w.ownsRow B' e' s' v' n' xs') (he : e ≠ e') {b : Nat} (hb : v.ownBlock = some b) : v'.ownBlock ≠ some b := by
  intro hb'
  obtain ⟨c, fz, h1⟩ := own_tag h b hb
  obtain ⟨c', fz', h2⟩ := own_tag h' b hb'
  rw [h1] at h2
  injection h2 with h2
  injection h2 with _ e2
  exact he e2
theorem own_other {w w' : World} {B : Nat} {e : TypeId} {size : Nat} {v : Value} {n : Nat} {xs : List Value} {row : Option Nat} (h : w.ownsRow B e size v n xs) (hg : w.grownBy w' row) (hne : v.ownBlock = none ∨ v.ownBlock ≠ row) : w'.ownsRow B e size v n xs := by
  refine ⟨h.1, ?_⟩
  rcases h.2 with h2 | ⟨g, cap, cur, rfl, e2, e3, r⟩
  · exact Or.inl h2
  · refine Or.inr ⟨g, cap, cur, rfl, e2, ?_, r⟩
    rw [hg.block g (Array.getElem?_eq_some_iff.1 e3).1 (by simpa [Value.ownBlock] using hne)]
    exact e3
/-- Each list owns its block, and no other one's. -/
structure FreeG {α : Type} (R : α → List Value) (k : Nat) (t : TypeId) (w : World) (B : Nat) (ks : List (OG α)) : Prop where
  own : ∀ x ∈ ks, w.ownsRow B t k x.v x.l.length (cellsL R x.l)
  nd : (ks.map OG.b).Nodup
section
variable {α : Type} {R : α → List Value} {k : Nat} {t e : TypeId} {w w' : World} {B B' : Nat} {ks : List (OG α)}
theorem FreeG.nil (R : α → List Value) (k : Nat) (t : TypeId) (w : World) (B : Nat) : FreeG R k t w B [] := ⟨fun x hx => by simp at hx, List.nodup_nil⟩
theorem FreeG.below (h : FreeG R k t w B ks) (hb : Below B' w w') (hB : w.heap.size ≤ B') : FreeG R k t w' B ks := ⟨fun x hx => own_below (h.own x hx) hb hB, h.nd⟩
theorem FreeG.lt (h : FreeG R k t w B ks) {x : OG α} (hx : x ∈ ks) : B ≤ x.b ∧ x.b < w.heap.size := by
  rcases (h.own x hx).2 with ⟨h2, _⟩ | ⟨g, cap, cur, e1, e2, e3, r⟩
  · cases h2
  · unfold OG.v at e1
    injection e1 with e1
    injection e1 with e1
    injection e1 with e1
    subst e1
    exact ⟨e2, (Array.getElem?_eq_some_iff.1 e3).1⟩
/-- A row of another kind grows. -/
theorem FreeG.grown {s n : Nat} {sv : Value} {xs : List Value} (h : FreeG R k t w B ks) (hrow : w.ownsRow B' e s sv n xs) (hte : t ≠ e) (hg : w.grownBy w' sv.ownBlock) : FreeG R k t w' B ks :=
  ⟨fun x hx => own_other (h.own x hx) hg (Or.inr (fun e1 => own_kind (h.own x hx) hrow hte rfl (by rw [← e1]; rfl))), h.nd⟩
theorem FreeG.has (hR : ∀ x, (R x).length = k) (h : FreeG R k t w B ks) {x : Gr α} (hx : x ∈ ks.map OG.gr) : HasL R k w B x.A x.l ∧ x.l.length ≤ x.cp := by
  obtain ⟨z, hz, rfl⟩ := List.mem_map.1 hx
  obtain ⟨A', c', e', hc, hl⟩ := list_of_own hR (h.own z hz) rfl
  unfold OG.v at e'
  injection e' with e1 e2 e3
  subst e1 e3
  exact ⟨hl, hc⟩
theorem FreeG.ne (h : FreeG R k t w B ks) {i j : Nat} {x y : OG α} (hi : ks[i]? = some x) (hj : ks[j]? = some y) (hij : i ≠ j) : x.b ≠ y.b := fun e => by
  have h1 : (ks.map OG.b)[i]? = some x.b := by rw [List.getElem?_map, hi]; rfl
  have h2 : (ks.map OG.b)[j]? = some y.b := by rw [List.getElem?_map, hj]; rfl
  rw [e] at h1
  obtain ⟨j1, e1⟩ := List.getElem?_eq_some_iff.1 h1
  obtain ⟨j2, e2⟩ := List.getElem?_eq_some_iff.1 h2
  exact hij ((List.getElem_inj h.nd (i := i) (j := j) (h₀ := j1) (h₁ := j2)).1 (e1.trans e2.symm))
end
end Go.Proofs.Ytocmkjccaajnnaa.Li
