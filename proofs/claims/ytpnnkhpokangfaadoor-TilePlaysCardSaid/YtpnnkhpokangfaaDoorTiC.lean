/- Stage 10, tiles plainly: what each call makes of one. -/
import Derived.Test.YtpnnkhpokangfaaDoorMgQ
import Derived.Test.YtpnnkhpokangfaaDoorMgG
namespace Go.Proofs.YtpnnkhpokangfaaDoor.Ti
open Pac Va Sc Mi Sp Ro

def takenB (r : R) (s : Int) : Bool := decide (0 ≤ s) && decide (s < 8) && r.f s.toNat
/-- The first place that isn't taken. -/
def freeO (f : Nat → Bool) : Option Nat := (List.range 8).find? fun i => !f i
def freeI (f : Nat → Bool) : Int := match freeO f with
 | some i => (i : Int)
 | none => -1
def rowR (r : R) (s : Int) : Option (List V) := if takenB r s = true then r.M[s.toNat]? else none
def cellR (cs : List C) (r : R) (s c : Int) : Option V := if takenB r s = true ∧ 0 ≤ c ∧ c < cs.length then some (((r.M[s.toNat]?.getD [])[c.toNat]?).getD vZ) else none
def setR (cs : List C) (r : R) (s c : Int) (v : V) : R × Int :=
 if takenB r s = true ∧ 0 ≤ c ∧ c < cs.length then
  match cs[c.toNat]? with
  | some x => if Ro.fitsE x v = 0 then (⟨r.l, r.f, setM r.M s.toNat c.toNat v⟩, 0) else (r, Ro.fitsE x v)
  | none => (r, 3)
 else (r, 3)
def addR (cs : List C) (r : R) (row : List V) : R × Int × Int :=
 if Ro.checkE cs row ≠ 0 then (r, 0, Ro.checkE cs row) else
 match freeO r.f with
 | some i => (⟨r.l, fun j => if j = i then true else r.f j, r.M.set i row⟩, (i : Int), 0)
 | none => (r, 0, 9)
def dropR (cs : List C) (r : R) (s : Int) : R × Int :=
 if takenB r s = true then (⟨r.l, fun j => if j = s.toNat then false else r.f j, r.M.set s.toNat (List.replicate cs.length vZ)⟩, 0) else (r, 3)
noncomputable def layR (cs : List C) (r : R) (l : List (List Int)) : R × Bool := if rightSp l cs.length = true then (⟨l, r.f, r.M⟩, true) else (r, false)
/-- A deed. -/
structure Ac where
 k : Int
 s : Int
 c : Int
 row : List V
 v : V
 l : List (List Int)
noncomputable def doesR (cs : List C) (r : R) (a : Ac) : R × Int × Int :=
 if a.k = 0 then addR cs r a.row else
 if a.k = 1 then ((setR cs r a.s a.c a.v).1, 0, (setR cs r a.s a.c a.v).2) else
 if a.k = 2 then ((dropR cs r a.s).1, 0, (dropR cs r a.s).2) else
 if a.k = 3 then ((layR cs r a.l).1, (if (layR cs r a.l).2 = true then 1 else 0), 0) else (r, 0, 0)

theorem taken_in {r : R} {s : Int} (h : takenB r s = true) : 0 ≤ s ∧ s < 8 ∧ r.f s.toNat = true := by
 unfold takenB at h
 simp only [Bool.and_eq_true, decide_eq_true_eq] at h
 exact ⟨h.1.1, h.1.2, h.2⟩
theorem free_some {f : Nat → Bool} {i : Nat} (h : freeO f = some i) : i < 8 ∧ f i = false ∧ ∀ j < i, f j = true := by
 unfold freeO at h
 have h1 := List.find?_some h
 have h2 := List.mem_range.1 (List.mem_of_find?_eq_some h)
 refine ⟨h2, by simpa using h1, fun j hj => ?_⟩
 rw [List.find?_eq_some_iff_getElem] at h
 obtain ⟨_, k, hk, e, hb⟩ := h
 rw [List.getElem_range] at e
 subst e
 have := hb j hj
 rw [List.getElem_range] at this
 simpa using this
theorem free_none {f : Nat → Bool} (h : freeO f = none) : ∀ i < 8, f i = true := fun i hi => by
 unfold freeO at h
 rw [List.find?_eq_none] at h
 have := h i (List.mem_range.2 hi)
 simpa using this
theorem free_at {f : Nat → Bool} {i : Nat} (hi : i < 8) (hf : f i = false) (hb : ∀ j < i, f j = true) : freeO f = some i := by
 cases h : freeO f with
 | none => rw [free_none h i hi] at hf; cases hf
 | some k =>
  have hk := free_some h
  rcases Nat.lt_trichotomy i k with h1 | h1 | h1
  ·rw [hk.2.2 i h1] at hf; cases hf
  ·rw [h1]
  ·have := hb k h1; rw [hk.2.1] at this; cases this
theorem free_all {f : Nat → Bool} (h : ∀ i < 8, f i = true) : freeO f = none := by
 cases h' : freeO f with
 | none => rfl
 | some k => have hk := free_some h'; rw [h k hk.1] at hk; cases hk.2.1

theorem Tile.row {cs : List C} {r : R} (h : Tile cs r) {i : Nat} {x : List V} (hx : r.M[i]? = some x) : x.length = cs.length := by
 rw [h.m.row x (List.mem_of_getElem? hx), allK_len]
theorem Tile.at {cs : List C} {r : R} (h : Tile cs r) {i : Nat} (hi : i < 8) : ∃ x, r.M[i]? = some x ∧ x.length = cs.length := by
 have hl := h.m.len
 have e : r.M[i]? = some (r.M[i]'(by omega)) := List.getElem?_eq_getElem _
 exact ⟨_, e, h.row e⟩
/-- Any row that may be is one of the cells. -/
theorem row_right {ks : List Int} {M : List (List V)} {i : Nat} {x : List V} (h : RightM ks M) (hx : x.length = ks.length) (hok : ∀ (j : Nat) (k : Int) (v : V), ks[j]? = some k → x[j]? = some v → CellOk (k, v)) : RightM ks (M.set i x) := by
 refine ⟨by rw [List.length_set, h.len], fun y hy => ?_, fun p hp => ?_⟩
 ·rcases List.mem_or_eq_of_mem_set hy with hy | rfl
  ·exact h.row y hy
  ·exact hx
 ·obtain ⟨y, hy, j, h1, h2⟩ := mem_flat hp
  rcases List.mem_or_eq_of_mem_set hy with hy | rfl
  ·obtain ⟨i', hi'⟩ := List.mem_iff_getElem?.1 hy
   exact h.ok _ (List.mem_of_getElem? (flat_at h.row hi' h2 h1))
  ·exact hok j p.1 p.2 h1 h2
theorem allK_at {cs : List C} {j : Nat} {k : Int} (h : (allK cs)[j]? = some k) : ∃ c, cs[j]? = some c ∧ c.k = k := by
 unfold allK at h
 rw [List.getElem?_map] at h
 exact Option.map_eq_some_iff.1 h
theorem fit_cell {nm : ByteArray} {cs : List C} {c : C} {j : Nat} {v : V} (hr : rightS nm cs = true) (hc : cs[j]? = some c) (hv : v.Ok) (h : Ro.fitsE c v = 0) : CellOk (c.k, v) := by
 have hk := col_kind hr hc
 have hf := (Ro.fits_good c v (by omega)).1 h
 refine ⟨hk, hf.1, ?_, hv⟩
 rcases hf.2 with e | e
 ·exact Or.inr e
 ·exact Or.inl e.1
theorem zero_row {nm : ByteArray} {cs : List C} (hr : rightS nm cs = true) : ∀ (j : Nat) (k : Int) (v : V), (allK cs)[j]? = some k → (List.replicate cs.length vZ)[j]? = some v → CellOk (k, v) := fun j k v h1 h2 => by
 obtain ⟨c, hc, rfl⟩ := allK_at h1
 rw [List.eq_of_mem_replicate (List.mem_of_getElem? h2)]
 exact vZ_ok (col_kind hr hc)
section
variable {nm : ByteArray} {cs : List C} {r : R}
theorem set_tile {s c : Int} {v : V} (hr : rightS nm cs = true) (h : Tile cs r) (hv : v.Ok) : Tile cs (setR cs r s c v).1 := by
 unfold setR
 split
 ·rename_i ht
  split
  ·rename_i x hx
   split
   ·rename_i hf
    have ht1 := taken_in ht.1
    refine ⟨h.s, setM_right h.m (k := x.k) (by unfold allK; rw [List.getElem?_map, hx]; rfl) (fit_cell hr hx hv hf), fun i y hi hf2 hy => ?_⟩
    have hne : s.toNat ≠ i := fun e => by rw [← e] at hf2; have : r.f s.toNat = false := hf2; rw [ht1.2.2] at this; cases this
    have hy : (setM r.M s.toNat c.toNat v)[i]? = some y := hy
    unfold setM at hy
    rw [List.getElem?_set_ne hne] at hy
    exact h.z i y hi hf2 hy
   ·exact h
  ·exact h
 ·exact h
theorem add_tile {row : List V} (hr : rightS nm cs = true) (h : Tile cs r) (hv : ∀ v ∈ row, v.Ok) : Tile cs (addR cs r row).1 := by
 unfold addR
 split
 ·exact h
 ·rename_i hc
  have hc : Ro.checkE cs row = 0 := by simpa using hc
  rw [Ro.check_ok] at hc
  split
  ·rename_i i hi
   refine ⟨h.s, row_right h.m (by rw [allK_len]; exact hc.1) fun j k v h1 h2 => ?_, fun j y hj hf hy => ?_⟩
   ·obtain ⟨c, hcc, rfl⟩ := allK_at h1
    exact fit_cell hr hcc (hv v (List.mem_of_getElem? h2)) (hc.2 j c v hcc h2)
   ·have hf : (if j = i then true else r.f j) = false := hf
    have hy : (r.M.set i row)[j]? = some y := hy
    split at hf
    ·cases hf
    ·rename_i hne
     rw [List.getElem?_set_ne (Ne.symm hne)] at hy
     exact h.z j y hj hf hy
  ·exact h
theorem drop_tile {s : Int} (hr : rightS nm cs = true) (h : Tile cs r) : Tile cs (dropR cs r s).1 := by
 unfold dropR
 split
 ·rename_i ht
  have ht1 := taken_in ht
  refine ⟨h.s, row_right h.m (by rw [allK_len, List.length_replicate]) (zero_row hr), fun j y hj hf hy => ?_⟩
  have hf : (if j = s.toNat then false else r.f j) = false := hf
  have hy : (r.M.set s.toNat (List.replicate cs.length vZ))[j]? = some y := hy
  by_cases e : j = s.toNat
  ·subst e
   rw [List.getElem?_set_self (by rw [h.m.len]; omega)] at hy
   injection hy with hy
   exact hy.symm
  ·rw [if_neg e] at hf
   rw [List.getElem?_set_ne (Ne.symm e)] at hy
   exact h.z j y hj hf hy
 ·exact h
theorem right_split {l : List (List Int)} (h : rightSp l cs.length = true) : IsSplit l cs.length := by
 by_cases hs : IsSplit l cs.length
 ·exact hs
 ·rw [rightSp_nat.2 hs] at h
  cases h
structure Ac.Ok (a : Ac) : Prop where
 k0 : -9223372036854775808 ≤ a.k
 k1 : a.k ≤ 9223372036854775807
 s0 : -9223372036854775808 ≤ a.s
 s1 : a.s ≤ 9223372036854775807
 c0 : -9223372036854775808 ≤ a.c
 c1 : a.c ≤ 9223372036854775807
 r : ∀ v ∈ a.row, v.Ok
 v : a.v.Ok
end
end Go.Proofs.YtpnnkhpokangfaaDoor.Ti
