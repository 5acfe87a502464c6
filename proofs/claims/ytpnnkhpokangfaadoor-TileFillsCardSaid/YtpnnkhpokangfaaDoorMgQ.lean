/- Texts TiA, TiB, one behind the other. -/
import Derived.Test.YtpnnkhpokangfaaDoorMgA
import Derived.Test.YtpnnkhpokangfaaDoorMgG
/- Stage 10, tiles plainly: eight rows of cells, each group's part of them, which places are taken. -/
namespace Go.Proofs.YtpnnkhpokangfaaDoor.Ti
open Pac Va Sc Mi Sp

def cellAt (r : List V) (c : Int) : V := (r[c.toNat]?).getD vZ
/-- A group's part of eight rows. -/
def gcells (g : List Int) (M : List (List V)) : List (List V) := M.map fun r => g.map (cellAt r)
def setM (M : List (List V)) (s c : Nat) (v : V) : List (List V) := M.set s ((M[s]?.getD []).set c v)
theorem cellAt_of {r : List V} {c : Nat} {v : V} (h : r[c]? = some v) : cellAt r (c : Int) = v := by
  unfold cellAt
  rw [Int.toNat_natCast, h]
  rfl
theorem gcells_len (g : List Int) (M : List (List V)) : (gcells g M).length = M.length := by unfold gcells; simp
theorem gcells_at {g : List Int} {M : List (List V)} {s : Nat} {r : List V} (h : M[s]? = some r) : (gcells g M)[s]? = some (g.map (cellAt r)) := by
  unfold gcells
  rw [List.getElem?_map, h]
  rfl
/-- A group's kinds, out of all columns'. -/
def allK (cs : List C) : List Int := cs.map C.k
theorem kinds_all (cs : List C) (g : List Int) : kindsL cs g = g.map fun c => ((allK cs)[c.toNat]?).getD 0 := by
  unfold kindsL allK
  refine List.map_congr_left fun c _ => ?_
  rw [List.getElem?_map]
theorem gcells_right {cs : List C} {g : List Int} {M : List (List V)} (h : RightM (allK cs) M) (hg : ∀ c ∈ g, 0 ≤ c ∧ c < cs.length) : RightM (kindsL cs g) (gcells g M) := by
  have hal : (allK cs).length = cs.length := by unfold allK; simp
  refine ⟨by rw [gcells_len, h.len], fun r hr => ?_, fun p hp => ?_⟩
  · unfold gcells at hr
    obtain ⟨x, _, rfl⟩ := List.mem_map.1 hr
    rw [List.length_map, kinds_len]
  · obtain ⟨r, hr, j, h1, h2⟩ := mem_flat hp
    unfold gcells at hr
    obtain ⟨x, hx, rfl⟩ := List.mem_map.1 hr
    obtain ⟨i, hi⟩ := List.mem_iff_getElem?.1 hx
    have hxl := h.row x hx
    rw [List.getElem?_map] at h2
    obtain ⟨c, hc, e⟩ := Option.map_eq_some_iff.1 h2
    have hcr := hg c (List.mem_of_getElem? hc)
    obtain ⟨cn, rfl⟩ : ∃ cn : Nat, c = (cn : Int) := ⟨c.toNat, by omega⟩
    have hv : x[cn]? = some (x[cn]'(by omega)) := List.getElem?_eq_getElem _
    have hk : (allK cs)[cn]? = some ((allK cs)[cn]'(by omega)) := List.getElem?_eq_getElem _
    have hok := h.ok _ (List.mem_of_getElem? (flat_at h.row hi hv hk))
    rw [cellAt_of hv] at e
    rw [kinds_all, List.getElem?_map, hc] at h1
    have h1 : some (((allK cs)[((cn : Int)).toNat]?).getD 0) = some p.1 := h1
    rw [Int.toNat_natCast, hk] at h1
    injection h1 with h1
    have h1 : (allK cs)[cn]'(by omega) = p.1 := h1
    obtain ⟨pk, pv⟩ := p
    simp only at h1 e
    rw [← h1, ← e]
    exact hok
theorem setM_right {ks : List Int} {M : List (List V)} {s c : Nat} {v : V} {k : Int} (h : RightM ks M) (hk : ks[c]? = some k) (hv : CellOk (k, v)) : RightM ks (setM M s c v) := by
  unfold setM
  by_cases hs : s < M.length
  · have hr : M[s]? = some (M[s]'hs) := List.getElem?_eq_getElem _
    generalize (M[s]'hs) = r at hr
    have hrl := h.row r (List.mem_of_getElem? hr)
    rw [hr]
    show RightM ks (M.set s (r.set c v))
    refine ⟨by rw [List.length_set, h.len], fun x hx => ?_, fun p hp => ?_⟩
    · rcases List.mem_or_eq_of_mem_set hx with hx | rfl
      · exact h.row x hx
      · rw [List.length_set]
        exact hrl
    · obtain ⟨x, hx, j, h1, h2⟩ := mem_flat hp
      obtain ⟨pk, pv⟩ := p
      simp only at h1 h2
      rcases List.mem_or_eq_of_mem_set hx with hx | rfl
      · obtain ⟨i, hi⟩ := List.mem_iff_getElem?.1 hx
        exact h.ok _ (List.mem_of_getElem? (flat_at h.row hi h2 h1))
      · by_cases e : j = c
        · subst e
          rw [List.getElem?_set_self (by have := (List.getElem?_eq_some_iff.1 h2).1; rwa [List.length_set] at this)] at h2
          injection h2 with h2
          rw [hk] at h1
          injection h1 with h1
          rw [← h1, ← h2]
          exact hv
        · rw [List.getElem?_set_ne (Ne.symm e)] at h2
          exact h.ok _ (List.mem_of_getElem? (flat_at h.row hr h2 h1))
  · rw [List.set_eq_of_length_le (by omega)]
    exact h
/-- Which places are taken, bit by bit. -/
def liveN (f : Nat → Bool) : Nat := Mi.part f 0 8
theorem live_lt (f : Nat → Bool) : liveN f < 256 := by
  have := Mi.part_lt f 0 8
  unfold liveN
  simpa using this
theorem part_bit (f : Nat → Bool) : ∀ m i, i < m → Mi.part f 0 m / 2 ^ i % 2 = if f i then 1 else 0
  | 0, i, h => absurd h (Nat.not_lt_zero _)
  | m + 1, i, h => by
    have hl := Mi.part_lt f 0 m
    show (Mi.part f 0 m + if f (8 * 0 + m) then 2 ^ m else 0) / 2 ^ i % 2 = _
    rw [show 8 * 0 + m = m by omega]
    by_cases e : i = m
    · subst e
      split
      · rw [Nat.add_div_right _ (Nat.two_pow_pos _), Nat.div_eq_of_lt hl]
      · rw [Nat.add_zero, Nat.div_eq_of_lt hl]
    · have ih := part_bit f m i (by omega)
      split
      · obtain ⟨d, hd⟩ : ∃ d, m = i + (d + 1) := ⟨m - i - 1, by omega⟩
        have e2 : 2 ^ m = 2 ^ i * (2 * 2 ^ d) := by rw [hd, Nat.pow_add, Nat.pow_succ, Nat.mul_comm 2]
        rw [e2, Nat.add_mul_div_left _ _ (Nat.two_pow_pos _), Nat.add_mul_mod_self_left]
        exact ih
      · rw [Nat.add_zero]
        exact ih
theorem live_bit (f : Nat → Bool) {i : Nat} (h : i < 8) : liveN f / 2 ^ i % 2 = if f i then 1 else 0 := part_bit f 8 i h
theorem live_set {f : Nat → Bool} {i : Nat} (h : i < 8) (hf : f i = false) : liveN (fun j => if j = i then true else f j) = liveN f + 2 ^ i := by
  unfold liveN
  rw [Mi.part_add (f := f) (t := i) (b := true) (fun j hj => by rw [if_neg (by omega)]) (by rw [show 8 * 0 + i = i by omega]; exact hf) (by rw [if_pos (by omega)]) 8, if_pos ⟨h, rfl⟩]
end Go.Proofs.YtpnnkhpokangfaaDoor.Ti

/- Stage 10, tiles plainly: what a tile is, a cell of it set, laid by another split. -/
namespace Go.Proofs.YtpnnkhpokangfaaDoor.Ti
open Pac Va Sc Mi Sp

/-- A tile: its split, which places are taken, its cells. -/
structure R where
  l : List (List Int)
  f : Nat → Bool
  M : List (List V)
def minis (cs : List C) (r : R) : List ByteArray := r.l.map fun g => printM (kindsL cs g) (gcells g r.M)
/-- It may be (a schema's columns cs). -/
structure Tile (cs : List C) (r : R) : Prop where
  s : IsSplit r.l cs.length
  m : RightM (allK cs) r.M
  z : ∀ (i : Nat) (x : List V), i < 8 → r.f i = false → r.M[i]? = some x → x = List.replicate cs.length vZ
theorem allK_len (cs : List C) : (allK cs).length = cs.length := by unfold allK; simp
/-- An empty tile. -/
def newR (l : List (List Int)) (n : Nat) : R := ⟨l, fun _ => false, emptyM n⟩
theorem newR_tile {nm : ByteArray} {cs : List C} {l : List (List Int)} (hs : IsSplit l cs.length) (hr : rightS nm cs = true) : Tile cs (newR l cs.length) := by
  refine ⟨hs, ?_, fun i x hi _ hx => ?_⟩
  · have : RightM (allK cs) (emptyM (allK cs).length) := empty_right fun k hk => by
      unfold allK at hk
      obtain ⟨c, hc, rfl⟩ := List.mem_map.1 hk
      obtain ⟨j, hj⟩ := List.mem_iff_getElem?.1 hc
      exact col_kind hr hj
    rw [allK_len] at this
    exact this
  · have hx : (emptyM cs.length)[i]? = some x := hx
    unfold emptyM at hx
    exact List.eq_of_mem_replicate (List.mem_of_getElem? hx)
end Go.Proofs.YtpnnkhpokangfaaDoor.Ti
