/- A device of five sectors with nothing unsure. -/
import Derived.Test.YtnmgaafpbbeceaaN
import Derived.Test.YtnmgaafpbbeceaaO
namespace Go.Proofs.Ytnmgaafpbbeceaa
open Go.RowKit Go.Shelf

def mkE (S : Nat → ByteArray) (dead : Bool) (left : Int) : Dev := ⟨5, S, 0, fun _ => 0, fun _ => ⟨#[]⟩, dead, left, 0⟩

/-- v tells a device of the sectors S, nothing unsure, no deed done. -/
def IsE (w : World) (v : Value) (S : Nat → ByteArray) (dead : Bool) (left : Int) : Prop :=
  ∃ b c, v = .agg #[.slice (some ⟨b, 0, none⟩) 5 c, .slice none 0 0, .bool dead, .int .i64 left, .int .i64 0] ∧ b < w.heap.size ∧ 5 ≤ c ∧ ∀ j, j < 5 → w.cell? ⟨b, j, none⟩ = some (.string (S j))
theorem IsE.below {w w' : World} {v : Value} {S : Nat → ByteArray} {dead : Bool} {left : Int} {B : Nat} (h : IsE w v S dead left) (hb : Below B w w') (hB : w.heap.size ≤ B) : IsE w' v S dead left := by
  obtain ⟨b, c, hv, hlt, hc5, hc⟩ := h
  exact ⟨b, c, hv, Nat.lt_of_lt_of_le hlt hb.size, hc5, fun j hj => (hb.cell (p := ⟨b, j, none⟩) (Nat.lt_of_lt_of_le hlt hB)).trans (hc j hj)⟩
theorem IsE.dev {w : World} {v : Value} {S : Nat → ByteArray} {dead : Bool} {left : Int} (h : IsE w v S dead left) : IsDev w v (mkE S dead left) := by
  obtain ⟨b, c, hv, hlt, hc5, hc⟩ := h
  exact ⟨b, none, c, 0, hv, hlt, hc5, hc, fun h => absurd h (Nat.lt_irrefl 0), fun _ => ⟨rfl, rfl⟩⟩
theorem isE_of {w : World} {v : Value} {S : Nat → ByteArray} {dead : Bool} {left : Int} (h : IsDev w v (mkE S dead left)) : IsE w v S dead left := by
  obtain ⟨b, B, c, k, hv, hlt, hnc, hc, hl, h0⟩ := h
  obtain ⟨rfl, rfl⟩ := h0 rfl
  exact ⟨b, c, hv, hlt, hnc, hc⟩

def RetE (S : Nat → ByteArray) (dead : Bool) (left : Int) (w : World) (e : Ending) (w' : World) : Prop := ∃ v, e = .returned v ∧ IsE w' v S dead left ∧ Below w.heap.size w w'
def ErrE (S : Nat → ByteArray) (dead : Bool) (left err : Int) (w : World) (e : Ending) (w' : World) : Prop := ∃ v, e = .returned (.tuple #[v, .int .i64 err]) ∧ IsE w' v S dead left ∧ Below w.heap.size w w'
def StrE (S : Nat → ByteArray) (dead : Bool) (left err : Int) (w : World) (e : Ending) (w' : World) : Prop := ∃ v s, e = .returned (.tuple #[v, .string s, .int .i64 err]) ∧ IsE w' v S dead left ∧ Below w.heap.size w w'

theorem armE (v : Value) (S : Nat → ByteArray) (w : World) (h : IsE w v S false (-1)) : Calls Try.prog 14 #[v, .int .i64 0] w (RetE S false 0 w) :=
  (arm_dev v _ 0 w h.dev).mono fun _ _ ⟨v', he, hd, hb⟩ => ⟨v', he, isE_of hd, hb⟩
theorem putE (v : Value) (S : Nat → ByteArray) (dead : Bool) (x : Int) (d : ByteArray) (w : World) (h : IsE w v S dead 0) (hx : 0 ≤ x ∧ x < 5) (hs : d.size ≤ 256) : Calls Try.prog 12 #[v, .int .i64 x, .string d] w (ErrE S true 0 10 w) :=
  (put_down v _ x d w h.dev hs (decide_eq_true hx) (by cases dead <;> rfl)).mono fun _ _ ⟨v', he, hd, hb⟩ => ⟨v', he, isE_of hd, hb⟩
theorem getE (v : Value) (S : Nat → ByteArray) (dead : Bool) (x : Int) (w : World) (h : IsE w v S dead 0) (hx : 0 ≤ x ∧ x < 5) : Calls Try.prog 15 #[v, .int .i64 x] w (StrE S true 0 10 w) :=
  (get_down v _ x w h.dev (decide_eq_true hx) (by cases dead <;> rfl)).mono fun _ _ ⟨v', he, hd, hb⟩ => ⟨v', _, he, isE_of hd, hb⟩
theorem flushE (v : Value) (S : Nat → ByteArray) (dead : Bool) (w : World) (h : IsE w v S dead 0) : Calls Try.prog 9 #[v] w (ErrE S true 0 10 w) :=
  (flush_down v _ w h.dev (by cases dead <;> rfl)).mono fun _ _ ⟨v', he, hd, hb⟩ => ⟨v', he, isE_of hd, hb⟩
theorem mkE_ok (S : Nat → ByteArray) (dead : Bool) (left : Int) (hS : ∀ j, j < 5 → (S j).size = 256) (h1 : -9223372036854775808 ≤ left) (h2 : left ≤ 9223372036854775807) : (mkE S dead left).Ok 0 :=
  ⟨by show 1 ≤ 5; omega, by show 5 ≤ 2000; omega, Nat.le_refl _, by show (0 : Int) ≤ 0; omega, by show (0 : Int) ≤ ((0 : Nat) : Int); omega, h1, h2, hS, fun j hj => absurd hj (Nat.not_lt_zero j), fun j hj => absurd hj (Nat.not_lt_zero j)⟩
theorem startE (v : Value) (S : Nat → ByteArray) (dead : Bool) (left : Int) (st tn bt : Int) (w : World) (h : IsE w v S dead left) (hS : ∀ j, j < 5 → (S j).size = 256) (h1 : -9223372036854775808 ≤ left) (h2 : left ≤ 9223372036854775807) (f0 : 0 ≤ st) (f1 : st < 18446744073709551616) :
    Calls Try.prog 10 #[v, .agg #[.int .u64 st, .int .i64 tn, .int .i64 bt]] w (RetE S false (-1) w) :=
  (start_any v _ ⟨st, tn, bt⟩ w h.dev (mkE_ok S dead left hS h1 h2) (by omega) f0 f1).mono fun _ _ ⟨v', he, hd, hb⟩ => ⟨v', he, isE_of hd, hb⟩
/-- Any device of five sectors, started with no write that stays half. -/
theorem start5 (v : Value) (D : Dev) (w : World) (h : IsDev w v D) (hok : D.Ok 1000) (hn : D.n = 5) :
    Calls Try.prog 10 #[v, .agg #[.int .u64 0, .int .i64 (-1), .int .i64 0]] w fun e w' => ∃ v' S, e = .returned v' ∧ IsE w' v' S false (-1) ∧ (∀ j, j < 5 → (S j).size = 256) ∧ Below w.heap.size w w' := by
  refine (start_any v D ⟨0, -1, 0⟩ w h hok (by omega) (by decide) (by decide)).mono ?_
  rintro e w' ⟨v', he, hd, hb⟩
  obtain ⟨n, S, m, LA, LD, dead, left, deeds⟩ := D
  obtain rfl : n = 5 := hn
  exact ⟨v', _, he, isE_of hd, (hok.started ⟨0, -1, 0⟩).sz, hb⟩
end Go.Proofs.Ytnmgaafpbbeceaa
