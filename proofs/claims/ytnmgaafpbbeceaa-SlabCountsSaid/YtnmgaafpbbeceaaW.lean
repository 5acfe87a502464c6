/- The law SlabCounts, walked: each deed that is done is counted. -/
import Derived.Test.YtnmgaafpbbeceaaT
namespace Go.Proofs.Ytnmgaafpbbeceaa
open Go.RowKit Go.Shelf

/-- A device of three sectors that was armed with t: dn deeds are done. -/
structure Cnt (D : Dev) (t dn : Nat) : Prop where
  n3 : D.n = 3
  dd : D.deeds = dn
  lf : D.left = (t : Int) - dn
  le : dn ≤ t
  de : D.dead = true → dn = t

def Came (t dn a : Nat) (err : Int) (dn' : Nat) : Prop := (a = 3 ∧ err = 1 ∧ dn' = dn) ∨ (a < 3 ∧ dn < t ∧ err = 0 ∧ dn' = dn + 1) ∨ (a < 3 ∧ dn = t ∧ err = 10 ∧ dn' = dn)

theorem Cnt.down {D : Dev} {t dn : Nat} (h : Cnt D t dn) (e : dn = t) : Cnt D.down t dn := ⟨h.n3, h.dd, h.lf, h.le, fun _ => e⟩
theorem Cnt.up {D : Dev} {t dn : Nat} (h : Cnt D t dn) (e : dn < t) : Cnt D.up t (dn + 1) := by
  refine ⟨h.n3, ?_, ?_, e, fun hd => ?_⟩
  · show D.deeds + 1 = _; rw [h.dd]; omega
  · show lessLeft D.left = _; rw [h.lf]; unfold lessLeft; rw [if_pos (by omega)]; omega
  · have := h.de hd; omega
theorem Cnt.put {D : Dev} {t dn : Nat} (h : Cnt D t dn) (e : dn < t) (x : Int) (d : ByteArray) : Cnt (D.putAt x d) t (dn + 1) :=
  let k := h.up e
  ⟨k.n3, k.dd, k.lf, k.le, k.de⟩
theorem Cnt.pow {D : Dev} {t dn : Nat} (h : Cnt D t dn) : D.pow = decide (dn < t) := by
  have hl := h.lf
  have hle := h.le
  unfold Dev.pow
  by_cases e : dn < t
  · have h1 : D.dead = false := by
      cases hd : D.dead
      · rfl
      · exact absurd (h.de hd) (by omega)
    have h2 : (D.left == 0) = false := by simp; omega
    rw [h1, h2]; simp [e]
  · have h2 : (D.left == 0) = true := by simp; omega
    rw [h2]; simp [e]
theorem Cnt.has {D : Dev} {t dn : Nat} (h : Cnt D t dn) (a : Nat) : D.has a = decide (a < 3) := by
  unfold Dev.has
  rw [h.n3]
  by_cases e : a < 3
  · simp [e]; omega
  · simp [e]; omega

def Stepped (t dn K a : Nat) (w w' : World) (v' : Value) (err : Int) : Prop := ∃ D dn', IsDev w' v' D ∧ D.Ok (K + 1) ∧ Cnt D t dn' ∧ Came t dn a err dn' ∧ Below w.heap.size w w'

theorem putC {K : Nat} (v : Value) (D : Dev) (t dn a : Nat) (d : ByteArray) (w : World) (h : IsDev w v D) (hok : D.Ok K) (hK : K ≤ 100000) (hc : Cnt D t dn) (hs : d.size ≤ 256) (ha : a < 4) :
    Calls Try.prog 12 #[v, .int .i64 a, .string d] w fun e w' => ∃ v' err, e = .returned (.tuple #[v', .int .i64 err]) ∧ Stepped t dn K a w w' v' err := by
  have hp := hc.pow
  have hh := hc.has a
  by_cases h3 : a < 3
  · by_cases e : dn < t
    · refine (put_ok v D a d w h hok hK hs (by rw [hh]; simp [h3]) (by rw [hp]; simp [e])).mono ?_
      rintro _ w' ⟨v', rfl, hd, hb⟩
      exact ⟨v', _, rfl, _, _, hd, hok.put a d (by rw [hh]; simp [h3]) hs, hc.put e a d, Or.inr (Or.inl ⟨h3, e, rfl, rfl⟩), hb⟩
    · have e' : dn = t := by have := hc.le; omega
      refine (put_down v D a d w h hs (by rw [hh]; simp [h3]) (by rw [hp]; simp [e])).mono ?_
      rintro _ w' ⟨v', rfl, hd, hb⟩
      exact ⟨v', _, rfl, _, _, hd, (hok.more (Nat.le_succ K)).down, hc.down e', Or.inr (Or.inr ⟨h3, e', rfl, rfl⟩), hb⟩
  · refine (put_arg v D a d w h (by omega) (Or.inl (by rw [hh]; simp [h3]))).mono ?_
    rintro _ w' ⟨v', rfl, hd, hb⟩
    exact ⟨v', _, rfl, _, _, hd, hok.more (Nat.le_succ K), hc, Or.inl ⟨by omega, rfl, rfl⟩, hb⟩
theorem getC {K : Nat} (v : Value) (D : Dev) (t dn a : Nat) (w : World) (h : IsDev w v D) (hok : D.Ok K) (hK : K ≤ 100000) (hc : Cnt D t dn) (ha : a < 4) :
    Calls Try.prog 15 #[v, .int .i64 a] w fun e w' => ∃ v' s err, e = .returned (.tuple #[v', .string s, .int .i64 err]) ∧ Stepped t dn K a w w' v' err := by
  have hp := hc.pow
  have hh := hc.has a
  by_cases h3 : a < 3
  · by_cases e : dn < t
    · refine (get_ok v D a w h hok hK (by rw [hh]; simp [h3]) (by rw [hp]; simp [e])).mono ?_
      rintro _ w' ⟨v', rfl, hd, hb⟩
      exact ⟨v', _, _, rfl, _, _, hd, hok.up, hc.up e, Or.inr (Or.inl ⟨h3, e, rfl, rfl⟩), hb⟩
    · have e' : dn = t := by have := hc.le; omega
      refine (get_down v D a w h (by rw [hh]; simp [h3]) (by rw [hp]; simp [e])).mono ?_
      rintro _ w' ⟨v', rfl, hd, hb⟩
      exact ⟨v', _, _, rfl, _, _, hd, (hok.more (Nat.le_succ K)).down, hc.down e', Or.inr (Or.inr ⟨h3, e', rfl, rfl⟩), hb⟩
  · refine (get_arg v D a w h (by rw [hh]; simp [h3])).mono ?_
    rintro _ w' ⟨v', rfl, hd, hb⟩
    exact ⟨v', _, _, rfl, _, _, hd, hok.more (Nat.le_succ K), hc, Or.inl ⟨by omega, rfl, rfl⟩, hb⟩
theorem start3 (v : Value) (D : Dev) (w : World) {K : Nat} (h : IsDev w v D) (hok : D.Ok K) (hK : K ≤ 100000) :
    Calls Try.prog 10 #[v, .agg #[.int .u64 0, .int .i64 (-1), .int .i64 0]] w fun e w' => ∃ v', e = .returned v' ∧ IsDev w' v' (D.started ⟨0, -1, 0⟩) ∧ Below w.heap.size w w' :=
  start_any v D ⟨0, -1, 0⟩ w h hok hK (by decide) (by decide)
theorem flush3 (v : Value) (D : Dev) (w : World) {K : Nat} (hok : D.Ok K) (h : IsDev w v (D.started ⟨0, -1, 0⟩)) :
    Calls Try.prog 9 #[v] w fun e w' => ∃ v' D', e = .returned (.tuple #[v', .int .i64 0]) ∧ IsDev w' v' D' ∧ Below w.heap.size w w' :=
  (flush_ok v _ w h (hok.started ⟨0, -1, 0⟩) (by omega) rfl).mono fun _ _ ⟨v', he, hd, hb⟩ => ⟨v', _, he, hd, hb⟩
theorem cnt0 (t : Nat) : Cnt (armed (fresh 3) t) t 0 := ⟨rfl, rfl, by show max (t : Int) (-1) = _; omega, Nat.zero_le _, fun h => by cases h⟩
end Go.Proofs.Ytnmgaafpbbeceaa
