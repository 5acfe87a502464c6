/- Texts TiA, TiB, one behind the other. -/
import Derived.Test.YtpnnkhpokangfaaDoorMgA
import Derived.Test.YtpnnkhpokangfaaDoorMgG
/- Stage 10, tiles plainly: eight rows of cells, each group's part of them, which places are taken. -/
namespace Go.Proofs.YtpnnkhpokangfaaDoor.Ti
open Pac Va Sc Mi Sp

def cellAt (r : List V) (c : Int) : V := (r[c.toNat]?).getD vZ
/-- A group's part of eight rows. -/
def gcells (g : List Int) (M : List (List V)) : List (List V) := M.map fun r => g.map (cellAt r)
def setM (M : List (List V)) (s c : Nat) (v : V) : List (List V) := M.set s ((M[s]?.getD []).set c v)
theorem cellAt_of {r : List V} {c : Nat} {v : V} (h : r[c]? = some v) : cellAt r (c : Int) = v := by
 unfold cellAt
 rw [Int.toNat_natCast, h]
 rfl
theorem cellAt_set {r : List V} {c : Nat} {v : V} (h : c < r.length) (x : Int) (hx : 0 ≤ x) : cellAt (r.set c v) x = if x = (c : Int) then v else cellAt r x := by
 unfold cellAt
 split
 ·rename_i e
  rw [e, Int.toNat_natCast, List.getElem?_set_self h]
  rfl
 ·rw [List.getElem?_set_ne (by omega)]
theorem gcells_len (g : List Int) (M : List (List V)) : (gcells g M).length = M.length := by unfold gcells; simp
theorem gcells_at {g : List Int} {M : List (List V)} {s : Nat} {r : List V} (h : M[s]? = some r) : (gcells g M)[s]? = some (g.map (cellAt r)) := by
 unfold gcells
 rw [List.getElem?_map, h]
 rfl
theorem gcells_out {g : List Int} {M : List (List V)} {s c : Nat} {v : V} (hc : ∀ r ∈ M, c < r.length) (hg : ∀ x ∈ g, 0 ≤ x) (h : (c : Int) ∉ g) : gcells g (setM M s c v) = gcells g M := by
 unfold setM gcells
 by_cases hs : s < M.length
 ·have hr : M[s]? = some (M[s]'hs) := List.getElem?_eq_getElem _
  rw [hr, List.map_set]
  apply List.ext_getElem?
  intro j
  by_cases hj : j = s
  ·subst hj
   rw [List.getElem?_set_self (by simpa using hs), List.getElem?_map, hr]
   show some _ = some _
   congr 1
   refine List.map_congr_left fun x hx => ?_
   rw [show (some M[j]).getD [] = M[j] from rfl, cellAt_set (hc _ (List.getElem_mem hs)) x (hg x hx), if_neg (fun e => h (by rw [← e]; exact hx))]
  ·rw [List.getElem?_set_ne (Ne.symm hj)]
 ·rw [List.set_eq_of_length_le (by omega)]
theorem gcells_in {g : List Int} {M : List (List V)} {s c k : Nat} {v : V} {r : List V} (hr : M[s]? = some r) (hc : c < r.length) (hg : ∀ x ∈ g, 0 ≤ x) (hn : g.Nodup) (hk : g[k]? = some (c : Int)) : gcells g (setM M s c v) = (gcells g M).set s ((g.map (cellAt r)).set k v) := by
 unfold setM gcells
 rw [hr, List.map_set]
 congr 1
 apply List.ext_getElem?
 intro j
 have hkl := (List.getElem?_eq_some_iff.1 hk).1
 rw [List.getElem?_map]
 by_cases hj : j = k
 ·subst hj
  rw [List.getElem?_set_self (by simpa using hkl), hk]
  show some _ = some _
  rw [show (some r).getD [] = r from rfl, cellAt_set hc _ (by omega), if_pos rfl]
 ·rw [List.getElem?_set_ne (Ne.symm hj), List.getElem?_map]
  cases hx : g[j]? with
  | none => rfl
  | some x =>
   show some _ = some _
   rw [show (some r).getD [] = r from rfl, cellAt_set hc _ (hg x (List.mem_of_getElem? hx)), if_neg (fun e => by
    subst e
    obtain ⟨hl1, h1⟩ := List.getElem?_eq_some_iff.1 hx
    obtain ⟨hl2, h2⟩ := List.getElem?_eq_some_iff.1 hk
    rcases Nat.lt_or_gt_of_ne hj with hlt | hlt
    ·exact List.pairwise_iff_getElem.1 hn j k hl1 hl2 hlt (h1.trans h2.symm)
    ·exact List.pairwise_iff_getElem.1 hn k j hl2 hl1 hlt (h2.trans h1.symm))]
/-- A group's kinds, out of all columns'. -/
def allK (cs : List C) : List Int := cs.map C.k
theorem kinds_all (cs : List C) (g : List Int) : kindsL cs g = g.map fun c => ((allK cs)[c.toNat]?).getD 0 := by
 unfold kindsL allK
 refine List.map_congr_left fun c _ => ?_
 rw [List.getElem?_map]
theorem gcells_right {cs : List C} {g : List Int} {M : List (List V)} (h : RightM (allK cs) M) (hg : ∀ c ∈ g, 0 ≤ c ∧ c < cs.length) : RightM (kindsL cs g) (gcells g M) := by
 have hal : (allK cs).length = cs.length := by unfold allK; simp
 refine ⟨by rw [gcells_len, h.len], fun r hr => ?_, fun p hp => ?_⟩
 ·unfold gcells at hr
  obtain ⟨x, _, rfl⟩ := List.mem_map.1 hr
  rw [List.length_map, kinds_len]
 ·obtain ⟨r, hr, j, h1, h2⟩ := mem_flat hp
  unfold gcells at hr
  obtain ⟨x, hx, rfl⟩ := List.mem_map.1 hr
  obtain ⟨i, hi⟩ := List.mem_iff_getElem?.1 hx
  have hxl := h.row x hx
  rw [List.getElem?_map] at h2
  obtain ⟨c, hc, e⟩ := Option.map_eq_some_iff.1 h2
  have hcr := hg c (List.mem_of_getElem? hc)
  obtain ⟨cn, rfl⟩ : ∃ cn : Nat, c = (cn : Int) := ⟨c.toNat, by omega⟩
  have hv : x[cn]? = some (x[cn]'(by omega)) := List.getElem?_eq_getElem _
  have hk : (allK cs)[cn]? = some ((allK cs)[cn]'(by omega)) := List.getElem?_eq_getElem _
  have hok := h.ok _ (List.mem_of_getElem? (flat_at h.row hi hv hk))
  rw [cellAt_of hv] at e
  rw [kinds_all, List.getElem?_map, hc] at h1
  have h1 : some (((allK cs)[((cn : Int)).toNat]?).getD 0) = some p.1 := h1
  rw [Int.toNat_natCast, hk] at h1
  injection h1 with h1
  have h1 : (allK cs)[cn]'(by omega) = p.1 := h1
  obtain ⟨pk, pv⟩ := p
  simp only at h1 e
  rw [← h1, ← e]
  exact hok
theorem setM_right {ks : List Int} {M : List (List V)} {s c : Nat} {v : V} {k : Int} (h : RightM ks M) (hk : ks[c]? = some k) (hv : CellOk (k, v)) : RightM ks (setM M s c v) := by
 unfold setM
 by_cases hs : s < M.length
 ·have hr : M[s]? = some (M[s]'hs) := List.getElem?_eq_getElem _
  generalize (M[s]'hs) = r at hr
  have hrl := h.row r (List.mem_of_getElem? hr)
  rw [hr]
  show RightM ks (M.set s (r.set c v))
  refine ⟨by rw [List.length_set, h.len], fun x hx => ?_, fun p hp => ?_⟩
  ·rcases List.mem_or_eq_of_mem_set hx with hx | rfl
   ·exact h.row x hx
   ·rw [List.length_set]
    exact hrl
  ·obtain ⟨x, hx, j, h1, h2⟩ := mem_flat hp
   obtain ⟨pk, pv⟩ := p
   simp only at h1 h2
   rcases List.mem_or_eq_of_mem_set hx with hx | rfl
   ·obtain ⟨i, hi⟩ := List.mem_iff_getElem?.1 hx
    exact h.ok _ (List.mem_of_getElem? (flat_at h.row hi h2 h1))
   ·by_cases e : j = c
    ·subst e
     rw [List.getElem?_set_self (by have := (List.getElem?_eq_some_iff.1 h2).1; rwa [List.length_set] at this)] at h2
     injection h2 with h2
     rw [hk] at h1
     injection h1 with h1
     rw [← h1, ← h2]
     exact hv
    ·rw [List.getElem?_set_ne (Ne.symm e)] at h2
     exact h.ok _ (List.mem_of_getElem? (flat_at h.row hr h2 h1))
 ·rw [List.set_eq_of_length_le (by omega)]
  exact h
/-- Which places are taken, bit by bit. -/
def liveN (f : Nat → Bool) : Nat := Mi.part f 0 8
theorem live_lt (f : Nat → Bool) : liveN f < 256 := by
 have := Mi.part_lt f 0 8
 unfold liveN
 simpa using this
theorem part_bit (f : Nat → Bool) : ∀ m i, i < m → Mi.part f 0 m / 2 ^ i % 2 = if f i then 1 else 0
 | 0, i, h => absurd h (Nat.not_lt_zero _)
 | m + 1, i, h => by
  have hl := Mi.part_lt f 0 m
  show (Mi.part f 0 m + if f (8 * 0 + m) then 2 ^ m else 0) / 2 ^ i % 2 = _
  rw [show 8 * 0 + m = m by omega]
  by_cases e : i = m
  ·subst e
   split
   ·rw [Nat.add_div_right _ (Nat.two_pow_pos _), Nat.div_eq_of_lt hl]
   ·rw [Nat.add_zero, Nat.div_eq_of_lt hl]
  ·have ih := part_bit f m i (by omega)
   split
   ·obtain ⟨d, hd⟩ : ∃ d, m = i + (d + 1) := ⟨m - i - 1, by omega⟩
    have e2 : 2 ^ m = 2 ^ i * (2 * 2 ^ d) := by rw [hd, Nat.pow_add, Nat.pow_succ, Nat.mul_comm 2]
    rw [e2, Nat.add_mul_div_left _ _ (Nat.two_pow_pos _), Nat.add_mul_mod_self_left]
    exact ih
   ·rw [Nat.add_zero]
    exact ih
theorem live_bit (f : Nat → Bool) {i : Nat} (h : i < 8) : liveN f / 2 ^ i % 2 = if f i then 1 else 0 := part_bit f 8 i h
theorem live_set {f : Nat → Bool} {i : Nat} (h : i < 8) (hf : f i = false) : liveN (fun j => if j = i then true else f j) = liveN f + 2 ^ i := by
 unfold liveN
 rw [Mi.part_add (f := f) (t := i) (b := true) (fun j hj => by rw [if_neg (by omega)]) (by rw [show 8 * 0 + i = i by omega]; exact hf) (by rw [if_pos (by omega)]) 8, if_pos ⟨h, rfl⟩]
end Go.Proofs.YtpnnkhpokangfaaDoor.Ti

/- Stage 10, tiles plainly: what a tile is, a cell of it set, laid by another split. -/
namespace Go.Proofs.YtpnnkhpokangfaaDoor.Ti
open Pac Va Sc Mi Sp

/-- A tile: its split, which places are taken, its cells. -/
structure R where
 l : List (List Int)
 f : Nat → Bool
 M : List (List V)
def minis (cs : List C) (r : R) : List ByteArray := r.l.map fun g => printM (kindsL cs g) (gcells g r.M)
/-- It may be (a schema's columns cs). -/
structure Tile (cs : List C) (r : R) : Prop where
 s : IsSplit r.l cs.length
 m : RightM (allK cs) r.M
 z : ∀ (i : Nat) (x : List V), i < 8 → r.f i = false → r.M[i]? = some x → x = List.replicate cs.length vZ
theorem allK_len (cs : List C) : (allK cs).length = cs.length := by unfold allK; simp
theorem group_in {l : List (List Int)} {n : Nat} (h : IsSplit l n) {g : List Int} (hg : g ∈ l) : (∀ c ∈ g, 0 ≤ c ∧ c < (n : Int)) ∧ g.Nodup ∧ g ≠ [] :=
 ⟨fun c hc => h.rng c (List.mem_flatten.2 ⟨g, hg, hc⟩), nodup_of_ris (h.ris g hg), h.ne g hg⟩
/-- A cell set: one group's bytes are others. -/
theorem minis_set {cs : List C} {r : R} {i k s c : Nat} {g : List Int} {x : List V} {v : V} (hs : IsSplit r.l cs.length) (hM : RightM (allK cs) r.M) (hg : r.l[i]? = some g) (hk : g[k]? = some (c : Int)) (hx : r.M[s]? = some x) :
  minis cs { r with M := setM r.M s c v } = (minis cs r).set i (printM (kindsL cs g) ((gcells g r.M).set s ((g.map (cellAt x)).set k v))) := by
 have hgm := List.mem_of_getElem? hg
 have hgi := group_in hs hgm
 have hcn : c < cs.length := by have := (hgi.1 c (List.mem_of_getElem? hk)).2; omega
 have hrl : ∀ y ∈ r.M, y.length = cs.length := fun y hy => by rw [hM.row y hy, allK_len]
 unfold minis
 apply List.ext_getElem?
 intro j
 have hil := (List.getElem?_eq_some_iff.1 hg).1
 rw [List.getElem?_map]
 by_cases hj : j = i
 ·subst hj
  rw [List.getElem?_set_self (by simpa using hil), hg]
  show some (printM (kindsL cs g) (gcells g (setM r.M s c v))) = some _
  rw [gcells_in hx (by rw [hrl x (List.mem_of_getElem? hx)]; exact hcn) (fun y hy => (hgi.1 y hy).1) hgi.2.1 hk]
 ·rw [List.getElem?_set_ne (Ne.symm hj), List.getElem?_map]
  cases hy : r.l[j]? with
  | none => rfl
  | some g' =>
   show some (printM (kindsL cs g') (gcells g' (setM r.M s c v))) = some (printM (kindsL cs g') (gcells g' r.M))
   have hgi' := group_in hs (List.mem_of_getElem? hy)
   rw [gcells_out (fun y hy => by rw [hrl y hy]; exact hcn) (fun y hy => (hgi'.1 y hy).1) (fun hc => hj (one_group hs.nd hy hg hc (List.mem_of_getElem? hk)))]
/-- A row set cell by cell. -/
def rowM (M : List (List V)) (s : Nat) (l : List V) : Nat → List (List V)
 | 0 => M
 | q + 1 => match l[q]? with
  | some v => setM (rowM M s l q) s q v
  | none => rowM M s l q
theorem rowM_next {M : List (List V)} {s q : Nat} {l : List V} {v : V} (h : l[q]? = some v) : rowM M s l (q + 1) = setM (rowM M s l q) s q v := by
 show (match l[q]? with | some v => _ | none => _) = _
 rw [h]
theorem rowM_at {M : List (List V)} {s n : Nat} {l x : List V} (hx : M[s]? = some x) (hn : x.length = n) (hl : l.length = n) : ∀ q, q ≤ n → rowM M s l q = M.set s (l.take q ++ x.drop q)
 | 0, _ => by
  show M = M.set s ([] ++ x)
  obtain ⟨h1, h2⟩ := List.getElem?_eq_some_iff.1 hx
  rw [List.nil_append, ← h2, List.set_getElem_self]
 | q + 1, hq => by
  have hv : l[q]? = some (l[q]'(by omega)) := List.getElem?_eq_getElem _
  have hs := (List.getElem?_eq_some_iff.1 hx).1
  rw [rowM_next hv, rowM_at hx hn hl q (by omega)]
  unfold setM
  rw [List.getElem?_set_self hs, List.set_set]
  congr 1
  show (l.take q ++ x.drop q).set q _ = _
  rw [take_snoc hv, List.set_append_right _ _ (by rw [List.length_take]; omega), List.length_take, Nat.min_eq_left (by omega), Nat.sub_self, List.append_assoc]
  congr 1
  have hd : x.drop q = (x[q]'(by omega)) :: x.drop (q + 1) := List.drop_eq_getElem_cons (by omega)
  rw [hd]
  rfl
theorem rowM_all {M : List (List V)} {s n : Nat} {l x : List V} (hx : M[s]? = some x) (hn : x.length = n) (hl : l.length = n) : rowM M s l n = M.set s l := by
 rw [rowM_at hx hn hl n (Nat.le_refl _), List.take_of_length_le (by omega), List.drop_of_length_le (by omega), List.append_nil]
/-- An empty tile. -/
def newR (l : List (List Int)) (n : Nat) : R := ⟨l, fun _ => false, emptyM n⟩
theorem gcells_empty {g : List Int} {n : Nat} (h : ∀ c ∈ g, 0 ≤ c ∧ c < (n : Int)) : gcells g (emptyM n) = emptyM g.length := by
 unfold gcells emptyM
 rw [List.map_replicate]
 congr 1
 apply List.ext_getElem?
 intro j
 rw [List.getElem?_map]
 by_cases hj : j < g.length
 ·have hc : g[j]? = some (g[j]'hj) := List.getElem?_eq_getElem _
  have hr := h _ (List.mem_of_getElem? hc)
  rw [hc, List.getElem?_replicate, if_pos hj]
  show some _ = some _
  unfold cellAt
  rw [List.getElem?_replicate, if_pos (by omega)]
  rfl
 ·rw [List.getElem?_eq_none (by omega), List.getElem?_eq_none (by rw [List.length_replicate]; omega)]
  rfl
theorem newR_tile {nm : ByteArray} {cs : List C} {l : List (List Int)} (hs : IsSplit l cs.length) (hr : rightS nm cs = true) : Tile cs (newR l cs.length) := by
 refine ⟨hs, ?_, fun i x hi _ hx => ?_⟩
 ·have : RightM (allK cs) (emptyM (allK cs).length) := empty_right fun k hk => by
   unfold allK at hk
   obtain ⟨c, hc, rfl⟩ := List.mem_map.1 hk
   obtain ⟨j, hj⟩ := List.mem_iff_getElem?.1 hc
   exact col_kind hr hj
  rw [allK_len] at this
  exact this
 ·have hx : (emptyM cs.length)[i]? = some x := hx
  unfold emptyM at hx
  exact List.eq_of_mem_replicate (List.mem_of_getElem? hx)
end Go.Proofs.YtpnnkhpokangfaaDoor.Ti
