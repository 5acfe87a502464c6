/- Lists in memory: elements of k cells each, one behind the other (without the rest of LiA). No program. -/
import Derived.ProofKit
import Derived.OpenShut
import Derived.Carry
import Derived.ChangeArms
import Derived.RowKit
import Derived.Deep.AppendLies
import Derived.Deep.Slices
import Derived.Deep.Fields
namespace Go.Proofs.YtdbemkdfndjakaaDoor.Li
open Go.RowKit

/-- The slice at A holds these, in memory from lo on: each as the k cells that R tells. -/
def HasL {α : Type} (R : α → List Value) (k : Nat) (w : World) (lo : Nat) (A : Option Addr) (l : List α) : Prop :=
  l ≠ [] → ∃ b o, A = some ⟨b, o, none⟩ ∧ lo ≤ b ∧ b < w.heap.size ∧ ∀ (j : Nat) (x : α), l[j]? = some x → ∀ (i : Nat) (v : Value), (R x)[i]? = some v → w.cell? ⟨b, o + j * k + i, none⟩ = some v
section
variable {α : Type} {R : α → List Value} {k : Nat} {w w' : World} {lo lo' B g : Nat} {A : Option Addr} {l : List α}
theorem HasL.below (h : HasL R k w lo A l) (hb : Below B w w') (hB : w.heap.size ≤ B) : HasL R k w' lo A l := by
  intro hl
  obtain ⟨b, o, hA, hlo, hlt, hc⟩ := h hl
  exact ⟨b, o, hA, hlo, Nat.lt_of_lt_of_le hlt hb.size, fun j x hj i v hv => (hb.cell (p := ⟨b, o + j * k + i, none⟩) (Nat.lt_of_lt_of_le hlt hB)).trans (hc j x hj i v hv)⟩
theorem HasL.nil (w : World) (lo : Nat) (A : Option Addr) : HasL R k w lo A [] := fun h => absurd rfl h
end
theorem open_list {H : Type} {enc : TypeId × Value → H} {P : Program} {w : World} {base : Nat} {spare : Nat → Bool} {held : Bool} {α : Type} {R : α → List Value} {Ok : α → Prop} {k : Nat} {t e : TypeId} [Inhabited α]
    (ht : P.underlying t = some (.slice e)) (hk : P.cellsOf e = k) (hk0 : 0 < k) (hR : ∀ x, (R x).length = k)
    (one : ∀ (fuel : Nat) (cs : List Value) (x : DataW H × List MemPlace), DataW.trod enc P w base spare held fuel e cs = some x → ∃ a : α, Ok a ∧ cs = R a)
    {fuel : Nat} {cs : List Value} {x : DataW H × List MemPlace} (h : DataW.trod enc P w base spare held fuel t cs = some x) :
    ∃ (A : Option Addr) (cp : Nat) (l : List α), cs = [.slice A l.length cp] ∧ l.length ≤ cp ∧ l.length ≤ 9223372036854775807 ∧ (∀ (j : Nat) (a : α), l[j]? = some a → Ok a) ∧ HasL R k w 0 A l := by
  rcases Go.Deep.open_slice ht h with ⟨rfl, _⟩ | ⟨a, len, cap, m, n, D, Pl, rfl, hb, hl, hm, hmm, _, hi⟩
  · exact ⟨none, 0, [], rfl, Nat.le_refl _, Nat.zero_le _, fun j c h => by simp at h, HasL.nil _ _ _⟩
  · have hlm : len ≤ m := by rw [hmm]; split <;> omega
    unfold maxLen at hm
    have each : ∀ j, ∃ E : α, j < len → Ok E ∧ ∀ (i : Nat) (v : Value), (R E)[i]? = some v → w.cell? ((a.add (j * k)).add i) = some v := by
      intro j
      by_cases hj : j < len
      · obtain ⟨cs', hc, ht⟩ := hi j (by omega)
        rw [hk] at hc
        obtain ⟨E, hok, rfl⟩ := one _ _ _ ht
        obtain ⟨_, _, hat⟩ := World.cells?_some hc
        refine ⟨E, fun _ => ⟨hok, fun i v hv => ?_⟩⟩
        have hik : i < k := by rw [← hR E]; exact (List.getElem?_eq_some_iff.1 hv).1
        rw [hat i hik]
        exact hv
      · exact ⟨default, fun h => absurd h hj⟩
    obtain ⟨L, hL⟩ := Classical.axiomOfChoice each
    have hlen : ((List.range len).map L).length = len := by rw [List.length_map, List.length_range]
    have hat : ∀ (j : Nat) (c : α), ((List.range len).map L)[j]? = some c → j < len ∧ c = L j := fun j c hc => by
      have hj : j < len := by
        have := (List.getElem?_eq_some_iff.1 hc).1
        rw [hlen] at this
        exact this
      rw [List.getElem?_map, List.getElem?_range hj] at hc
      exact ⟨hj, (Option.some.inj hc).symm⟩
    refine ⟨some a, cap, (List.range len).map L, by rw [hlen], by rw [hlen]; exact hl, by rw [hlen]; omega, fun j c hc => ?_, fun hne => ?_⟩
    · obtain ⟨hj, rfl⟩ := hat j c hc
      exact (hL j hj).1
    · have h0 : 0 < len := by
        rcases Nat.eq_zero_or_pos len with h | h
        · subst h; exact absurd rfl hne
        · exact h
      have hv0 : ∃ v, (R (L 0))[0]? = some v := ⟨_, List.getElem?_eq_getElem (by rw [hR]; exact hk0)⟩
      obtain ⟨v0, hv0⟩ := hv0
      have hsp : a.spot = none := by
        have := World.cell?_spot ((hL 0 h0).2 0 v0 hv0)
        obtain ⟨b, off, spot⟩ := a
        simpa [Addr.add] using this
      have hadd : ∀ i j, (a.add (i * k)).add j = ⟨a.block, a.off + i * k + j, none⟩ := fun i j => by
        obtain ⟨b, off, spot⟩ := a
        simp only at hsp
        subst hsp
        unfold Addr.add
        split <;> split <;> simp_all <;> omega
      have hlt : a.block < w.heap.size := by
        have := World.block_lt_of_cell? w _ ((hL 0 h0).2 0 v0 hv0)
        rw [hadd] at this
        exact this
      refine ⟨a.block, a.off, ?_, Nat.zero_le _, hlt, fun j c hc i v hv => ?_⟩
      · obtain ⟨b, off, spot⟩ := a
        simp only at hsp
        subst hsp
        rfl
      · obtain ⟨hj, rfl⟩ := hat j c hc
        have h := (hL j hj).2 i v hv
        rw [hadd] at h
        exact h
end Go.Proofs.YtdbemkdfndjakaaDoor.Li
