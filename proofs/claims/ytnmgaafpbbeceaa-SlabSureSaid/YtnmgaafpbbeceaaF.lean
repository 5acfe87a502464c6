/- slices.Backward over the writes that are not sure. -/
import Derived.Test.YtnmgaafpbbeceaaE
import Derived.RangeFuncNested
import Derived.RangeFuncBound
import Derived.RangeFuncCalls
import Derived.RangeFuncLeaves
import Derived.Shelf.Abstract
import Derived.Shelf.RegionOpen
import Derived.OwnWalkIn
import Derived.TacticsInMore
import Derived.LoopNIn
import Derived.LoopIn
namespace Go.Proofs.Ytnmgaafpbbeceaa
open Go.RowKit Go.Shelf

attribute [local go_sem] Oper.semAt_some

/-- What has come when k rounds are over. -/
def upto (f : Nat → Nat) (k : Nat) : List Nat := (List.range k).map f
theorem upto_succ (f : Nat → Nat) (k : Nat) : upto f (k + 1) = upto f k ++ [f k] := by simp [upto, List.range_succ]
theorem upto_length (f : Nat → Nat) (k : Nat) : (upto f k).length = k := by simp [upto]

/-- The writes from the last to the first. -/
def rev (m : Nat) : Nat → Nat := fun j => m - 1 - j
def lateArgs (LA : Nat → Int) (LD : Nat → ByteArray) (i : Nat) : Array Value := #[.int .i64 (i : Int), .agg #[.int .i64 (LA i), .string (LD i)]]

set_option maxRecDepth 100000 in
set_option maxHeartbeats 2000000 in
theorem back1_in (F : Fence) (n : Nat) (h38 : F.fn 38) (hro : F.round = none) (hn : 1 ≤ n) (l Bs n₀ b m cap : Nat) (LA : Nat → Int) (LD : Nat → ByteArray) (hm : m ≤ 1000000) (hb : b < n₀) (J Jx : List Nat → World → Prop)
    (hY : ∀ pre x W, J pre W → pre.length < m → YieldAt F (n - 1) Try.prog l (lateArgs LA LD x) W fun e W' =>
      (e = .returned (.bool true) ∧ J (pre ++ [x]) W' ∧ Below n₀ W W') ∨ (e = .returned (.bool false) ∧ Jx (pre ++ [x]) W'))
    (W : World) (hBs : W.cell? ⟨Bs, 0, none⟩ = some (.slice (some ⟨b, 0, none⟩) m cap)) (hBn : Bs < n₀)
    (hc : ∀ j, j < m → W.cell? ⟨b, j * 2, none⟩ = some (.int .i64 (LA j)) ∧ W.cell? ⟨b, j * 2 + 1, none⟩ = some (.string (LD j))) (h0 : J [] W) :
    CallsIn F n Try.prog 38 #[.func (.yield l) #[] #[], .pointer (some ⟨Bs, 0, none⟩)] W fun e W' => (∃ v, e = .returned v) ∧
      ((∃ ys, ys = upto (rev m) m ∧ J ys W') ∨ (∃ pre, (∃ k, k ≤ m ∧ pre = upto (rev m) k) ∧ Jx pre W')) := by
  refine callsIn_of_wp Try.func38 rfl h38 ?_ hro
  simp only [Try.ntmps38, List.size_toArray, List.length_cons, List.length_nil, Nat.reduceAdd, Nat.reduceSub, Array.replicate_succ, Array.replicate_zero, List.push_toArray, List.append_toArray, List.nil_append, List.cons_append]
  gi_wp2
  gi_loopw [3] (fun i wr => ∃ r : Nat, r ≤ m ∧ i = .int .i64 ((r : Int) - 1) ∧ J (upto (rev m) (m - r)) wr ∧ Below n₀ W wr)
    (fun i _ => (intOf i + 1).toNat)
  case atStart => exact ⟨m, Nat.le_refl _, rfl, by rw [Nat.sub_self]; exact h0, Below.refl _ _⟩
  case round =>
    obtain ⟨r, hr, rfl, hJs, hnx⟩ := hrel
    have hbs := (hnx.cell (p := ⟨Bs, 0, none⟩) hBn).trans hBs
    cases r with
    | zero =>
      have e0 : ((0 : Nat) : Int) - 1 = -1 := rfl
      rw [e0]
      gi_wp2
      go_end0
      exact ⟨⟨_, rfl⟩, .inl ⟨_, rfl, by simpa using hJs⟩⟩
    | succ q =>
      have e0 : ((q + 1 : Nat) : Int) - 1 = (q : Int) := by omega
      rw [e0]
      have hq : q < m := hr
      obtain ⟨fn, tmps, assign, body, hy, hR⟩ := hY _ q wr hJs (by rw [upto_length]; omega)
      dsimp only [lateArgs] at hy
      obtain ⟨k1, k2⟩ := hc q hq
      have hA := (hnx.cell (p := ⟨b, q * 2, none⟩) hb).trans k1
      have hD := (hnx.cell (p := ⟨b, q * 2 + 1, none⟩) hb).trans k2
      have hup : upto (rev m) (m - (q + 1)) ++ [q] = upto (rev m) (m - q) := by
        have e1 : m - q = m - (q + 1) + 1 := by omega
        have e2 : rev m (m - (q + 1)) = q := by unfold rev; omega
        rw [e1, upto_succ, e2]
      have HUP := Lib.hid hup
      clear hup k1 k2 e0
      gi_wp2
      refine hR.mono ?_
      rintro e W3 (⟨rfl, hJ3, hk3⟩ | ⟨rfl, hJx3⟩)
      · gi_wp2
        go_roundw
        case rel => exact ⟨q, by omega, by simp, by rw [← HUP.out]; exact hJ3, hnx.trans hk3⟩
        case measure => simp [intOf]
      · gi_wp2
        refine bodyPost_ret (results_none rfl _ _ _) rfl ?_
        exact ⟨⟨_, rfl⟩, .inr ⟨_, ⟨m - q, by omega, HUP.out⟩, hJx3⟩⟩

set_option maxRecDepth 100000 in
set_option maxHeartbeats 1000000 in
theorem back1_nil_in (F : Fence) (n : Nat) (h38 : F.fn 38) (hro : F.round = none) (l Bs : Nat) (J : List Nat → World → Prop) (W : World) (hBs : W.cell? ⟨Bs, 0, none⟩ = some (.slice none 0 0)) (h0 : J [] W) :
    CallsIn F n Try.prog 38 #[.func (.yield l) #[] #[], .pointer (some ⟨Bs, 0, none⟩)] W fun e W' => (∃ v, e = .returned v) ∧ J [] W' := by
  refine callsIn_of_wp Try.func38 rfl h38 ?_ hro
  simp only [Try.ntmps38, List.size_toArray, List.length_cons, List.length_nil, Nat.reduceAdd, Nat.reduceSub, Array.replicate_succ, Array.replicate_zero, List.push_toArray, List.append_toArray, List.nil_append, List.cons_append]
  gi_wp2
  gi_loopw [3] (fun i wr => i = .int .i64 (-1) ∧ J [] wr) (fun _ _ => 0)
  case atStart => exact ⟨rfl, h0⟩
  case round =>
    obtain ⟨rfl, hJs⟩ := hrel
    gi_wp2
    go_end0
    exact ⟨⟨_, rfl⟩, hJs⟩

set_option maxHeartbeats 1000000 in
theorem back_in (F : Fence) (n : Nat) (h30 : F.fn 30) (hro : F.round = none) (a : Option Addr) (len cap : Nat) (w : World) :
    CallsIn F n Try.prog 30 #[.slice a len cap] w fun e w' => e = .returned (.func (.func 38) #[] #[.pointer (some ⟨w.heap.size, 0, none⟩)]) ∧ w' = w.alloc (.cells #[.slice a len cap] 29) := by
  refine callsIn_of_wp Try.func30 rfl h30 ?_ hro
  simp only [Try.ntmps30, List.size_toArray, List.length_cons, List.length_nil, Nat.reduceAdd, Nat.reduceSub, Array.replicate_succ, Array.replicate_zero, List.push_toArray, List.append_toArray, List.nil_append, List.cons_append]
  gi_wp2
  go_ret
  exact ⟨rfl, rfl⟩

theorem back_stops (F : Fence) (n : Nat) (h38 : F.fn 38) (hro : F.round = none) (hn : 1 ≤ n) (Bs n₀ : Nat) (A : Option Addr) (m cap : Nat) (LA : Nat → Int) (LD : Nat → ByteArray) (hm : m ≤ 1000000) (w : World) (hBs : Bs < n₀) (hn₀ : n₀ ≤ w.heap.size)
    (hc : w.cell? ⟨Bs, 0, none⟩ = some (.slice A m cap)) (hl : HasLate w A m LA LD) (hlb : ∀ a, A = some a → a.block < n₀) (h0 : m = 0 → A = none ∧ cap = 0) :
    SeqStopsK F n Try.prog 38 #[.pointer (some ⟨Bs, 0, none⟩)] (lateArgs LA LD) (Below n₀) (fun ys => ys = upto (rev m) m) (fun pre => ∃ k, k ≤ m ∧ pre = upto (rev m) k) m w := fun l J Jx W hW _ _ hY hJ0 => by
  have hc' := (hW.cell (p := ⟨Bs, 0, none⟩) (Nat.lt_of_lt_of_le hBs hn₀)).trans hc
  rcases Nat.eq_zero_or_pos m with hm0 | hm0
  · obtain ⟨rfl, rfl⟩ := h0 hm0
    subst hm0
    exact (back1_nil_in F n h38 hro l Bs J W hc' hJ0).mono fun e W' ⟨he, hj⟩ => ⟨he, .inl ⟨_, rfl, hj⟩⟩
  · obtain ⟨b, rfl, hb, hcs⟩ := hl hm0
    refine back1_in F n h38 hro hn l Bs n₀ b m cap LA LD hm (hlb _ rfl) J Jx hY W hc' hBs (fun j hj => ?_) hJ0
    obtain ⟨k1, k2⟩ := hcs j hj
    exact ⟨(hW.cell (p := ⟨b, j * 2, none⟩) hb).trans k1, (hW.cell (p := ⟨b, j * 2 + 1, none⟩) hb).trans k2⟩

/-- What was written last there: the writes from the last on, else what is sure. -/
def look (LA : Nat → Int) (LD : Nat → ByteArray) (x : Int) (d : ByteArray) : Nat → ByteArray
  | 0 => d
  | k + 1 => if LA k = x then LD k else look LA LD x d k
end Go.Proofs.Ytnmgaafpbbeceaa
