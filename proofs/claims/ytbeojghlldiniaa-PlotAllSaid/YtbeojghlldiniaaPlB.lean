/- Which pages are taken: numbers in memory; what the functions answer. -/
import Derived.Test.YtbeojghlldiniaaPlA
import Derived.Test.YtbeojghlldiniaaLiA
import Derived.Test.YtbeojghlldiniaaProg
import Derived.WalkKit
import Derived.WalkSpells
import Derived.WalkLawsBesides
import Derived.Lib.Hide
import Derived.IntWalk
import Derived.Deep.DeepCutAuto
import Derived.Deep.DeepFit
import Derived.Deep.CutBlock
import Derived.Deep.QuietTactic
import Derived.BigQuiet
import Derived.Outline
import Derived.WalkSmall
namespace Go.Proofs.Ytbeojghlldiniaa.Pl
open Go.RowKit
/-- The slice at A holds these numbers. -/
abbrev HasN (w : World) (lo : Nat) (A : Option Addr) (l : List Nat) : Prop := Li.HasL (fun i : Nat => [Value.int .i64 (i : Int)]) 1 w lo A l
theorem HasN.at {w : World} {lo : Nat} {A : Option Addr} {l : List Nat} (h : HasN w lo A l) {q : Nat} {a : Nat} (hq : l[q]? = some a) : ∃ b o, A = some ⟨b, o, none⟩ ∧ w.cell? ⟨b, o + q, none⟩ = some (.int .i64 (a : Int)) := by
  have hn : l ≠ [] := fun e => by rw [e] at hq; simp at hq
  obtain ⟨b, o, hA, _, _, hc⟩ := h hn
  have := hc q a hq 0 _ rfl
  rw [Nat.mul_one, Nat.add_zero] at this
  exact ⟨b, o, hA, this⟩
def tkI (s : ByteArray) (n : Int) : Bool := decide (0 ≤ n) && tk s.data.toList n.toNat
def mkB (s : ByteArray) (n : Int) (t : Bool) : ByteArray := if 0 ≤ n then ⟨(mk s.data.toList n.toNat t).toArray⟩ else s
def setRB (s : ByteArray) (n : Int) : ByteArray := if 0 ≤ n then ⟨(setR s.data.toList n.toNat).toArray⟩ else s
def PickPost (o : Option (List Nat)) (w : World) (e : Ending) (w' : World) : Prop :=
  ∃ (A : Option Addr) (n cp : Nat), e = .returned (.tuple #[.slice A n cp, .bool o.isSome]) ∧ (o.getD []).length = n ∧ n ≤ cp ∧ HasN w' 0 A (o.getD []) ∧ Below w.heap.size w w'
theorem tkI_nat (s : ByteArray) (i : Nat) : tkI s (i : Int) = tk s.data.toList i := by unfold tkI; simp
theorem mkB_nat (s : ByteArray) (i : Nat) (t : Bool) : (mkB s (i : Int) t).data.toList = mk s.data.toList i t := by unfold mkB; rw [if_pos (by omega)]; simp
theorem setRB_nat (s : ByteArray) (i : Nat) : (setRB s (i : Int)).data.toList = setR s.data.toList i := by unfold setRB; rw [if_pos (by omega)]; simp
theorem below_drewN {B : Nat} {a w : World} (h : Below B a w) (n : Nat) : Below B a (w.drewN n) := h.trans ⟨rfl, rfl, rfl, Nat.le_refl _, fun _ _ => rfl⟩
end Go.Proofs.Ytbeojghlldiniaa.Pl
