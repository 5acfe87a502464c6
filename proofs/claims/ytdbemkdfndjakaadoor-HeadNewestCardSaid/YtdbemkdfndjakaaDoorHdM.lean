/- Heads on devices that have power, plainly: what counts behind what was put; a torn one. -/
import Derived.Test.YtdbemkdfndjakaaDoorHdL
namespace Go.Proofs.YtdbemkdfndjakaaDoor.Hd
open Tal Sla Fr
/-- A device of n sectors with power, with nothing that isn't sure. -/
structure Calm (D : Dev) (n : Nat) (S : Nat → ByteArray) (k : Nat) : Prop where
  n : D.n = n
  s : D.S = S
  m : D.m = 0
  dead : D.dead = false
  left : D.left = -1
  d0 : 0 ≤ D.deeds
  d1 : D.deeds ≤ k
def putS (S : Nat → ByteArray) (h : H) : Nat → ByteArray := fun j => if h.e % 2 = (j : Int) then headB h else S j
section
variable {D : Dev} {n k : Nat} {S : Nat → ByteArray} {h f : H}
theorem Calm.ok (c : Calm D n S k) (h1 : 1 ≤ n) (h2 : n ≤ 2000) (hs : ∀ j, j < n → (S j).size = 256) : D.Ok k :=
  ⟨by rw [c.n]; exact h1, by rw [c.n]; exact h2, by rw [c.m]; exact Nat.zero_le _, c.d0, c.d1, by rw [c.left]; decide, by rw [c.left]; decide, fun j hj => by rw [c.s]; exact hs j (by rw [← c.n]; exact hj), fun j hj => absurd hj (by rw [c.m]; omega), fun j hj => absurd hj (by rw [c.m]; omega)⟩
theorem pad_full {d : ByteArray} (h : d.size = 256) : padB d = d := by
  unfold padB
  rw [h]
  apply ByteArray.ext
  simp [ByteArray.data_append]
theorem calm_pow (c : Calm D n S k) : D.pow = true := by
  unfold Dev.pow
  rw [c.dead, c.left]
  rfl
theorem up_calm (c : Calm D n S k) : Calm D.up n S (k + 1) :=
  ⟨c.n, c.s, c.m, c.dead, by show lessLeft D.left = -1; rw [c.left]; rfl, by show 0 ≤ D.deeds + 1; have := c.d0; omega, by show D.deeds + 1 ≤ _; have := c.d1; push_cast; omega⟩
theorem putS_size (hs : ∀ j, j < n → (S j).size = 256) : ∀ j, j < n → (putS S h j).size = 256 := fun j hj => by
  unfold putS
  split
  · exact headB_size h
  · exact hs j hj
theorem put_calm (c : Calm D n S k) (hr : RightH h) : ∃ D', putH D h = (D', 0) ∧ Calm D' n (putS S h) (k + 2) := by
  have hp := calm_pow c
  have h1 : putR D (h.e % 2) (headB h) = (D.putAt (h.e % 2) (headB h), 0) := if_pos hp
  have hp2 : (D.putAt (h.e % 2) (headB h)).pow = true := by
    unfold Dev.pow
    show (!D.dead && !(lessLeft D.left == 0)) = true
    rw [c.dead, c.left]
    rfl
  refine ⟨(D.putAt (h.e % 2) (headB h)).flushed, ?_, ⟨c.n, ?_, rfl, c.dead, ?_, ?_, ?_⟩⟩
  · unfold putH
    rw [if_pos hr, h1]
    exact (if_pos rfl).trans (if_pos hp2)
  · show flushS D.S (snocI D.LA D.m (h.e % 2)) (snocD D.LD D.m (padB (headB h))) (D.m + 1) = putS S h
    rw [c.m, c.s, pad_full (headB_size h)]
    rfl
  · show lessLeft (lessLeft D.left) = -1
    rw [c.left]
    rfl
  · show 0 ≤ D.deeds + 1 + 1
    have := c.d0
    omega
  · show D.deeds + 1 + 1 ≤ _
    have := c.d1
    push_cast
    omega
theorem calm_get (c : Calm D n S k) (q : Nat) : getR D q = (D.up, S q, 0) := by
  unfold getR
  rw [if_pos (calm_pow c), c.m, c.s]
  rfl
theorem newest_calm (c : Calm D n S k) : ∃ D', newestR D = (if (bestH (S 0) (S 1)).e = 0 then (D', noH, 2) else (D', bestH (S 0) (S 1), 0)) ∧ Calm D' n S (k + 2) := by
  have c1 := up_calm c
  have g0 : getR (DQ D 0) 0 = (D.up, S 0, 0) := calm_get c 0
  have d1 : DQ D 1 = D.up := congrArg Prod.fst g0
  have g1 : getR (DQ D 1) 1 = (D.up.up, S 1, 0) := by rw [d1]; exact calm_get c1 1
  have d2 : DQ D 2 = D.up.up := congrArg Prod.fst g1
  have e0 : ERq D 0 = 0 := by unfold ERq; rw [g0]
  have e1 : ERq D 1 = 0 := by unfold ERq; rw [g1]
  have t0 : TXq D 0 = S 0 := by unfold TXq; rw [g0]
  have t1 : TXq D 1 = S 1 := by unfold TXq; rw [g1]
  have hc : CUR D 2 = bestH (S 0) (S 1) := by
    show stepH (stepH noH (TXq D 0)) (TXq D 1) = _
    rw [t0, t1]
    rfl
  refine ⟨D.up.up, ?_, up_calm c1⟩
  unfold newestR
  rw [e0, e1, hc, d2, if_neg (by decide), if_neg (by decide)]
theorem step_none {t : ByteArray} (h : parseH t = none) (cur : H) : stepH cur t = cur := by
  unfold stepH
  rw [h]
theorem step_some {t : ByteArray} (h : parseH t = some f) (cur : H) : stepH cur t = if cur.e < f.e then f else cur := by
  unfold stepH
  rw [h]
theorem step_first {t : ByteArray} (h : parseH t = some f) : stepH noH t = f := by
  rw [step_some h, if_pos]
  have := (parse_iff.1 h).1.e0
  show (0 : Int) < f.e
  omega
/-- Of two sectors with heads the greater one counts. -/
theorem best_two {a b : ByteArray} {g : H} (ha : parseH a = some f) (hb : parseH b = some g) : bestH a b = if f.e < g.e then g else f := by
  unfold bestH
  rw [step_first ha, step_some hb]
theorem best_none {a b : ByteArray} (ha : parseH a = none) (hb : parseH b = none) : bestH a b = noH := by
  unfold bestH
  rw [step_none ha, step_none hb]
def nought : ByteArray := padB ⟨#[]⟩
theorem nought_list : nought.data.toList = List.replicate 256 0 := rfl
theorem nought_size : nought.size = 256 := padB_size _ (by decide)
theorem parse_nought : parseH nought = none := parse_first (by rw [nought_list]; decide)
theorem fresh_calm (n : Nat) : Calm (fresh n) n (fun _ => nought) 0 := ⟨rfl, rfl, rfl, rfl, rfl, Int.le_refl _, Int.le_refl _⟩
end
/-- The document's examples. -/
def hOne : H := ⟨8, 4, 1⟩
def hTwo : H := ⟨8, 4, 2⟩
theorem one_right : RightH hOne := ⟨by decide, by decide, by decide, by decide, by decide, by decide⟩
theorem two_right : RightH hTwo := ⟨by decide, by decide, by decide, by decide, by decide, by decide⟩
def sTwo : Nat → ByteArray := putS (putS (fun _ => nought) hOne) hTwo
theorem best_example : bestH (sTwo 0) (sTwo 1) = hTwo := by
  have e0 : sTwo 0 = headB hTwo := by unfold sTwo putS; exact if_pos (by decide)
  have e1 : sTwo 1 = headB hOne := by unfold sTwo putS; exact (if_neg (by decide)).trans (if_pos (by decide))
  rw [e0, e1, best_two (parse_own two_right) (parse_own one_right), if_neg (by decide)]
section
variable {f g old next : H} {U : ByteArray}
end
end Go.Proofs.YtdbemkdfndjakaaDoor.Hd
