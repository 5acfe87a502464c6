/- Lists in memory: elements of k cells each, one behind the other. No program. -/
import Derived.Test.YtjjedadhkdpceaaPacH
import Derived.Deep.AppendLies
import Derived.Deep.Slices
import Derived.Deep.Fields
namespace Go.Proofs.Ytjjedadhkdpceaa.Li
open Go.RowKit Pac

/-- The slice at A holds these, in memory from lo on: each as the k cells that R tells. -/
def HasL {α : Type} (R : α → List Value) (k : Nat) (w : World) (lo : Nat) (A : Option Addr) (l : List α) : Prop :=
  l ≠ [] → ∃ b o, A = some ⟨b, o, none⟩ ∧ lo ≤ b ∧ b < w.heap.size ∧ ∀ (j : Nat) (x : α), l[j]? = some x → ∀ (i : Nat) (v : Value), (R x)[i]? = some v → w.cell? ⟨b, o + j * k + i, none⟩ = some v
section
variable {α : Type} {R : α → List Value} {k : Nat} {w w' : World} {lo lo' B g : Nat} {A : Option Addr} {l : List α}
theorem HasL.below (h : HasL R k w lo A l) (hb : Below B w w') (hB : w.heap.size ≤ B) : HasL R k w' lo A l := by
  intro hl
  obtain ⟨b, o, hA, hlo, hlt, hc⟩ := h hl
  exact ⟨b, o, hA, hlo, Nat.lt_of_lt_of_le hlt hb.size, fun j x hj i v hv => (hb.cell (p := ⟨b, o + j * k + i, none⟩) (Nat.lt_of_lt_of_le hlt hB)).trans (hc j x hj i v hv)⟩
theorem HasL.bar (h : HasL R k w lo A l) (hb : Bar g w w') (hg : g < lo ∨ w.heap.size ≤ g) : HasL R k w' lo A l := by
  intro hl
  obtain ⟨b, o, hA, hlo, hlt, hc⟩ := h hl
  exact ⟨b, o, hA, hlo, Nat.lt_of_lt_of_le hlt hb.size, fun j x hj i v hv => (hb.cell (p := ⟨b, o + j * k + i, none⟩) hlt (by show b ≠ g; omega)).trans (hc j x hj i v hv)⟩
theorem HasL.lower (h : HasL R k w lo A l) (hl : lo' ≤ lo) : HasL R k w lo' A l := by
  intro hn
  obtain ⟨b, o, hA, hlo, r⟩ := h hn
  exact ⟨b, o, hA, Nat.le_trans hl hlo, r⟩
theorem HasL.take (h : HasL R k w lo A l) (q : Nat) : HasL R k w lo A (l.take q) := by
  intro hn
  have hl : l ≠ [] := fun e => hn (by rw [e]; simp)
  obtain ⟨b, o, hA, hlo, hlt, hc⟩ := h hl
  refine ⟨b, o, hA, hlo, hlt, fun j x hj => hc j x ?_⟩
  rw [List.getElem?_take] at hj
  split at hj
  · exact hj
  · cases hj
/-- The rest, from place q on. -/
theorem HasL.drop {b o q : Nat} (h : HasL R k w lo (some ⟨b, o, none⟩) l) : HasL R k w lo (some ⟨b, o + q * k, none⟩) (l.drop q) := by
  intro hn
  have hl : l ≠ [] := fun e => hn (by rw [e]; simp)
  obtain ⟨b', o', hA, hlo, hlt, hc⟩ := h hl
  injection hA with hA
  injection hA with e1 e2
  subst e1 e2
  refine ⟨b, o + q * k, rfl, hlo, hlt, fun j x hj i v hv => ?_⟩
  rw [List.getElem?_drop] at hj
  have := hc (q + j) x hj i v hv
  rw [Nat.add_mul, ← Nat.add_assoc] at this
  exact this
theorem HasL.nil (w : World) (lo : Nat) (A : Option Addr) : HasL R k w lo A [] := fun h => absurd rfl h

/-- All cells, one behind the other. -/
def cellsL {α : Type} (R : α → List Value) (l : List α) : List Value := l.flatMap R
theorem cellsL_snoc (l : List α) (x : α) : cellsL R (l ++ [x]) = cellsL R l ++ R x := by unfold cellsL; simp
theorem cellsL_len (hR : ∀ x, (R x).length = k) (l : List α) : (cellsL R l).length = l.length * k := by
  unfold cellsL
  induction l with
  | nil => simp
  | cons x l ih => rw [List.flatMap_cons, List.length_append, ih, hR, List.length_cons, Nat.add_mul]; omega
theorem cellsL_at (hR : ∀ x, (R x).length = k) : ∀ (l : List α) (j : Nat) (x : α), l[j]? = some x → ∀ (i : Nat) (v : Value), (R x)[i]? = some v → (cellsL R l)[j * k + i]? = some v
  | [], j, x, h, _, _, _ => by simp at h
  | y :: l, 0, x, h, i, v, hv => by
    have h : y = x := by simpa using h
    subst h
    show (R y ++ l.flatMap R)[0 * k + i]? = some v
    have hi := (List.getElem?_eq_some_iff.1 hv).1
    rw [Nat.zero_mul, Nat.zero_add, List.getElem?_append_left hi]
    exact hv
  | y :: l, j + 1, x, h, i, v, hv => by
    have h : l[j]? = some x := by simpa using h
    have ih := cellsL_at hR l j x h i v hv
    show (R y ++ l.flatMap R)[(j + 1) * k + i]? = some v
    rw [List.getElem?_append_right (by rw [hR, Nat.add_mul]; omega), hR, show (j + 1) * k + i - k = j * k + i by rw [Nat.add_mul]; omega]
    exact ih
/-- A row of one's own is a slice of these. -/
theorem list_of_own {base n : Nat} {e : TypeId} {v : Value} (hR : ∀ x, (R x).length = k) (h : w.ownsRow base e k v n (cellsL R l)) (hn : l.length = n) : ∃ A c, v = .slice A n c ∧ n ≤ c ∧ HasL R k w base A l := by
  have h' := h
  rcases h.2 with ⟨rfl, rfl⟩ | ⟨g, cap, cur, rfl, e2, e3, e4, e5, e6, e7⟩
  · refine ⟨none, 0, rfl, Nat.le_refl _, ?_⟩
    rw [List.length_eq_zero_iff.1 hn]
    exact HasL.nil w base none
  · refine ⟨_, cap, rfl, e4, fun _ => ⟨g, 0, rfl, e2, (Array.getElem?_eq_some_iff.1 e3).1, fun j x hx i u hu => ?_⟩⟩
    have hj : j < n := by rw [← hn]; exact (List.getElem?_eq_some_iff.1 hx).1
    have hi : i < k := by rw [← hR x]; exact (List.getElem?_eq_some_iff.1 hu).1
    have hlt : j * k + i < n * k := by
      have h1 : (j + 1) * k ≤ n * k := Nat.mul_le_mul_right k hj
      rw [Nat.add_mul] at h1
      omega
    rw [Nat.zero_add, h'.cellAt (j * k + i) hlt]
    exact cellsL_at hR l j x hx i u hu
end
theorem own_below {w w' : World} {B base : Nat} {e : TypeId} {size : Nat} {v : Value} {n : Nat} {xs : List Value} (h : w.ownsRow base e size v n xs) (hb : Below B w w') (hB : w.heap.size ≤ B) : w'.ownsRow base e size v n xs := by
  refine ⟨h.1, ?_⟩
  rcases h.2 with h2 | ⟨g, cap, cur, e1, e2, e3, r⟩
  · exact Or.inl h2
  · refine Or.inr ⟨g, cap, cur, e1, e2, ?_, r⟩
    have hg : g < w.heap.size := (Array.getElem?_eq_some_iff.1 e3).1
    rw [hb.block g (Nat.lt_of_lt_of_le hg hB)]
    exact e3
theorem own_bar {w w' : World} {g base : Nat} {e : TypeId} {size : Nat} {v : Value} {n : Nat} {xs : List Value} (h : w.ownsRow base e size v n xs) (hb : Bar g w w') (hg : g < base) : w'.ownsRow base e size v n xs := by
  refine ⟨h.1, ?_⟩
  rcases h.2 with h2 | ⟨k, cap, cur, e1, e2, e3, r⟩
  · exact Or.inl h2
  · refine Or.inr ⟨k, cap, cur, e1, e2, ?_, r⟩
    have hk : k < w.heap.size := (Array.getElem?_eq_some_iff.1 e3).1
    rw [hb.block k hk (by omega)]
    exact e3
/-- A literal: a block that is known whole. -/
theorem list_of_block {α : Type} {R : α → List Value} {k : Nat} {w : World} {b : Nat} {l : List α} {cs : Array Value} {t : TypeId} (hR : ∀ x, (R x).length = k) (h : w.heap[b]? = some (.cells cs t (0, 0))) (hc : cs.toList = cellsL R l) : HasL R k w b (some ⟨b, 0, none⟩) l := by
  intro _
  refine ⟨b, 0, rfl, Nat.le_refl _, (Array.getElem?_eq_some_iff.1 h).1, fun j x hj i v hv => ?_⟩
  rw [cell_of_row w b _ cs t (0, 0) h, Nat.zero_add]
  have := cellsL_at hR l j x hj i v hv
  rw [← hc] at this
  simpa using this

/-- A slice that came in, out of its reading, by the reading of an element. -/
theorem open_list {H : Type} {enc : TypeId × Value → H} {P : Program} {w : World} {base : Nat} {spare : Nat → Bool} {held : Bool} {α : Type} {R : α → List Value} {Ok : α → Prop} {k : Nat} {t e : TypeId} [Inhabited α]
    (ht : P.underlying t = some (.slice e)) (hk : P.cellsOf e = k) (hk0 : 0 < k) (hR : ∀ x, (R x).length = k)
    (one : ∀ (fuel : Nat) (cs : List Value) (x : DataW H × List MemPlace), DataW.trod enc P w base spare held fuel e cs = some x → ∃ a : α, Ok a ∧ cs = R a)
    {fuel : Nat} {cs : List Value} {x : DataW H × List MemPlace} (h : DataW.trod enc P w base spare held fuel t cs = some x) :
    ∃ (A : Option Addr) (cp : Nat) (l : List α), cs = [.slice A l.length cp] ∧ l.length ≤ cp ∧ l.length ≤ 9223372036854775807 ∧ (∀ (j : Nat) (a : α), l[j]? = some a → Ok a) ∧ HasL R k w 0 A l := by
  rcases Go.Deep.open_slice ht h with ⟨rfl, _⟩ | ⟨a, len, cap, m, n, D, Pl, rfl, hb, hl, hm, hmm, _, hi⟩
  · exact ⟨none, 0, [], rfl, Nat.le_refl _, Nat.zero_le _, fun j c h => by simp at h, HasL.nil _ _ _⟩
  · have hlm : len ≤ m := by rw [hmm]; split <;> omega
    unfold maxLen at hm
    have each : ∀ j, ∃ E : α, j < len → Ok E ∧ ∀ (i : Nat) (v : Value), (R E)[i]? = some v → w.cell? ((a.add (j * k)).add i) = some v := by
      intro j
      by_cases hj : j < len
      · obtain ⟨cs', hc, ht⟩ := hi j (by omega)
        rw [hk] at hc
        obtain ⟨E, hok, rfl⟩ := one _ _ _ ht
        obtain ⟨_, _, hat⟩ := World.cells?_some hc
        refine ⟨E, fun _ => ⟨hok, fun i v hv => ?_⟩⟩
        have hik : i < k := by rw [← hR E]; exact (List.getElem?_eq_some_iff.1 hv).1
        rw [hat i hik]
        exact hv
      · exact ⟨default, fun h => absurd h hj⟩
    obtain ⟨L, hL⟩ := Classical.axiomOfChoice each
    have hlen : ((List.range len).map L).length = len := by rw [List.length_map, List.length_range]
    have hat : ∀ (j : Nat) (c : α), ((List.range len).map L)[j]? = some c → j < len ∧ c = L j := fun j c hc => by
      have hj : j < len := by
        have := (List.getElem?_eq_some_iff.1 hc).1
        rw [hlen] at this
        exact this
      rw [List.getElem?_map, List.getElem?_range hj] at hc
      exact ⟨hj, (Option.some.inj hc).symm⟩
    refine ⟨some a, cap, (List.range len).map L, by rw [hlen], by rw [hlen]; exact hl, by rw [hlen]; omega, fun j c hc => ?_, fun hne => ?_⟩
    · obtain ⟨hj, rfl⟩ := hat j c hc
      exact (hL j hj).1
    · have h0 : 0 < len := by
        rcases Nat.eq_zero_or_pos len with h | h
        · subst h; exact absurd rfl hne
        · exact h
      have hv0 : ∃ v, (R (L 0))[0]? = some v := ⟨_, List.getElem?_eq_getElem (by rw [hR]; exact hk0)⟩
      obtain ⟨v0, hv0⟩ := hv0
      have hsp : a.spot = none := by
        have := World.cell?_spot ((hL 0 h0).2 0 v0 hv0)
        obtain ⟨b, off, spot⟩ := a
        simpa [Addr.add] using this
      have hadd : ∀ i j, (a.add (i * k)).add j = ⟨a.block, a.off + i * k + j, none⟩ := fun i j => by
        obtain ⟨b, off, spot⟩ := a
        simp only at hsp
        subst hsp
        unfold Addr.add
        split <;> split <;> simp_all <;> omega
      have hlt : a.block < w.heap.size := by
        have := World.block_lt_of_cell? w _ ((hL 0 h0).2 0 v0 hv0)
        rw [hadd] at this
        exact this
      refine ⟨a.block, a.off, ?_, Nat.zero_le _, hlt, fun j c hc i v hv => ?_⟩
      · obtain ⟨b, off, spot⟩ := a
        simp only at hsp
        subst hsp
        rfl
      · obtain ⟨hj, rfl⟩ := hat j c hc
        have h := (hL j hj).2 i v hv
        rw [hadd] at h
        exact h
end Go.Proofs.Ytjjedadhkdpceaa.Li
