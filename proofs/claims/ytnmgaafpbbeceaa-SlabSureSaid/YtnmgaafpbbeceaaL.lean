/- What each call makes of a device is a device again; whatever its arguments are. -/
import Derived.Test.YtnmgaafpbbeceaaK
namespace Go.Proofs.Ytnmgaafpbbeceaa
open Go.RowKit Go.Shelf

theorem lessLeft_le (x : Int) (h1 : -9223372036854775808 ≤ x) (h2 : x ≤ 9223372036854775807) : -9223372036854775808 ≤ lessLeft x ∧ lessLeft x ≤ 9223372036854775807 := by
  unfold lessLeft
  split <;> omega

theorem Dev.Ok.more {D : Dev} {K K' : Nat} (h : D.Ok K) (hK : K ≤ K') : D.Ok K' :=
  { h with m2 := Nat.le_trans h.m2 hK, d2 := by have := h.d2; omega }
theorem Dev.Ok.down {D : Dev} {K : Nat} (h : D.Ok K) : D.down.Ok K := { h with }
theorem Dev.Ok.up {D : Dev} {K : Nat} (h : D.Ok K) : D.up.Ok (K + 1) :=
  ⟨h.n1, h.n2, by have := h.m2; show D.m ≤ K + 1; omega, by have := h.d1; show 0 ≤ D.deeds + 1; omega, by have := h.d2; show D.deeds + 1 ≤ ((K + 1 : Nat) : Int); omega,
   (lessLeft_le _ h.l1 h.l2).1, (lessLeft_le _ h.l1 h.l2).2, h.sz, h.lz, h.la⟩
theorem Dev.Ok.put {D : Dev} {K : Nat} (h : D.Ok K) (x : Int) (d : ByteArray) (hx : D.has x = true) (hd : d.size ≤ 256) : (D.putAt x d).Ok (K + 1) := by
  have hx' : 0 ≤ x ∧ x < D.n := by unfold Dev.has at hx; simpa using hx
  refine ⟨h.n1, h.n2, by have := h.m2; show D.m + 1 ≤ K + 1; omega, h.up.d1, h.up.d2, h.up.l1, h.up.l2, h.sz, fun j hj => ?_, fun j hj => ?_⟩
  · show (snocD D.LD D.m (padB d) j).size = 256
    have hj' : j < D.m + 1 := hj
    unfold snocD
    split
    · exact padB_size d hd
    · exact h.lz j (by omega)
  · show 0 ≤ snocI D.LA D.m x j ∧ snocI D.LA D.m x j < D.n
    have hj' : j < D.m + 1 := hj
    unfold snocI
    split
    · exact hx'
    · exact h.la j (by omega)
theorem flushS_size (S : Nat → ByteArray) (LA : Nat → Int) (LD : Nat → ByteArray) (n k : Nat) (hS : ∀ j, j < n → (S j).size = 256) (hL : ∀ j, j < k → (LD j).size = 256) : ∀ j, j < n → (flushS S LA LD k j).size = 256 := by
  induction k with
  | zero => exact hS
  | succ k ih =>
    intro j hj
    simp only [flushS]
    split
    · exact hL k (by omega)
    · exact ih (fun i hi => hL i (by omega)) j hj
theorem Dev.Ok.flushed {D : Dev} {K : Nat} (h : D.Ok K) : D.flushed.Ok (K + 1) :=
  ⟨h.n1, h.n2, Nat.zero_le _, h.up.d1, h.up.d2, h.up.l1, h.up.l2, flushS_size D.S D.LA D.LD D.n D.m h.sz h.lz, fun j hj => absurd hj (Nat.not_lt_zero j), fun j hj => absurd hj (Nat.not_lt_zero j)⟩
theorem Dev.Ok.started {D : Dev} {K : Nat} (h : D.Ok K) (f : Fat) : (D.started f).Ok 0 :=
  ⟨h.n1, h.n2, Nat.le_refl _, by simp [Dev.started], by simp [Dev.started], by simp [Dev.started], by simp [Dev.started], startS_size f D.S D.LA D.LD D.n D.m h.sz h.lz, fun j hj => absurd hj (Nat.not_lt_zero j), fun j hj => absurd hj (Nat.not_lt_zero j)⟩
theorem Dev.Ok.armed {D : Dev} {K : Nat} (h : D.Ok K) (x : Int) (hx : x ≤ 9223372036854775807) : (armed D x).Ok K :=
  { h with l1 := by show -9223372036854775808 ≤ max x (-1); omega, l2 := by show max x (-1) ≤ 9223372036854775807; omega }

/-- v' tells some device of n sectors, in a world where all that was there stays. -/
def Weak (n K : Nat) (w w' : World) (v' : Value) : Prop := ∃ D : Dev, IsDev w' v' D ∧ D.Ok K ∧ D.n = n ∧ Below w.heap.size w w'

theorem put_weak {K : Nat} (v : Value) (D : Dev) (x : Int) (d : ByteArray) (w : World) (h : IsDev w v D) (hok : D.Ok K) (hK : K ≤ 100000) (hs : d.size ≤ 100000) :
    Calls Try.prog 12 #[v, .int .i64 x, .string d] w fun e w' => ∃ v' err, e = .returned (.tuple #[v', .int .i64 err]) ∧ Weak D.n (K + 1) w w' v' := by
  by_cases ha : D.has x = false ∨ 256 < d.size
  · exact (put_arg v D x d w h hs ha).mono fun e w' ⟨v', he, hd, hb⟩ => ⟨v', 1, he, D, hd, hok.more (by omega), rfl, hb⟩
  · have h1 : D.has x = true := by
      cases hh : D.has x
      · exact absurd (Or.inl hh) ha
      · rfl
    have h2 : d.size ≤ 256 := by omega
    cases hp : D.pow
    · exact (put_down v D x d w h h2 h1 hp).mono fun e w' ⟨v', he, hd, hb⟩ => ⟨v', 10, he, D.down, hd, hok.down.more (by omega), rfl, hb⟩
    · exact (put_ok v D x d w h hok hK h2 h1 hp).mono fun e w' ⟨v', he, hd, hb⟩ => ⟨v', 0, he, _, hd, hok.put x d h1 h2, rfl, hb⟩

theorem get_weak {K : Nat} (v : Value) (D : Dev) (x : Int) (w : World) (h : IsDev w v D) (hok : D.Ok K) (hK : K ≤ 100000) :
    Calls Try.prog 15 #[v, .int .i64 x] w fun e w' => ∃ v' s err, e = .returned (.tuple #[v', .string s, .int .i64 err]) ∧ Weak D.n (K + 1) w w' v' := by
  cases ha : D.has x
  · exact (get_arg v D x w h ha).mono fun e w' ⟨v', he, hd, hb⟩ => ⟨v', _, 1, he, D, hd, hok.more (by omega), rfl, hb⟩
  · cases hp : D.pow
    · exact (get_down v D x w h ha hp).mono fun e w' ⟨v', he, hd, hb⟩ => ⟨v', _, 10, he, D.down, hd, hok.down.more (by omega), rfl, hb⟩
    · have hx : 0 ≤ x := by unfold Dev.has at ha; simp at ha; exact ha.1
      obtain ⟨k, rfl⟩ := Int.eq_ofNat_of_zero_le hx
      exact (get_ok v D k w h hok hK ha hp).mono fun e w' ⟨v', he, hd, hb⟩ => ⟨v', _, 0, he, _, hd, hok.up, rfl, hb⟩

theorem flush_weak {K : Nat} (v : Value) (D : Dev) (w : World) (h : IsDev w v D) (hok : D.Ok K) (hK : K ≤ 100000) :
    Calls Try.prog 9 #[v] w fun e w' => ∃ v' err, e = .returned (.tuple #[v', .int .i64 err]) ∧ Weak D.n (K + 1) w w' v' := by
  cases hp : D.pow
  · exact (flush_down v D w h hp).mono fun e w' ⟨v', he, hd, hb⟩ => ⟨v', 10, he, D.down, hd, hok.down.more (by omega), rfl, hb⟩
  · exact (flush_ok v D w h hok hK hp).mono fun e w' ⟨v', he, hd, hb⟩ => ⟨v', 0, he, _, hd, hok.flushed, rfl, hb⟩

theorem arm_weak {K : Nat} (v : Value) (D : Dev) (x : Int) (w : World) (h : IsDev w v D) (hok : D.Ok K) (hx : x ≤ 9223372036854775807) :
    Calls Try.prog 14 #[v, .int .i64 x] w fun e w' => ∃ v', e = .returned v' ∧ Weak D.n (K + 1) w w' v' :=
  (arm_dev v D x w h).mono fun e w' ⟨v', he, hd, hb⟩ => ⟨v', he, _, hd, (hok.armed x hx).more (by omega), rfl, hb⟩

theorem start_weak {K : Nat} (v : Value) (D : Dev) (f : Fat) (w : World) (h : IsDev w v D) (hok : D.Ok K) (hK : K ≤ 100000) (f0 : 0 ≤ f.stay) (f1 : f.stay < 18446744073709551616) :
    Calls Try.prog 10 #[v, .agg #[.int .u64 f.stay, .int .i64 f.torn, .int .i64 f.bytes]] w fun e w' => ∃ v', e = .returned v' ∧ Weak D.n (K + 1) w w' v' :=
  (start_any v D f w h hok hK f0 f1).mono fun e w' ⟨v', he, hd, hb⟩ => ⟨v', he, _, hd, (hok.started f).more (by omega), rfl, hb⟩
end Go.Proofs.Ytnmgaafpbbeceaa
