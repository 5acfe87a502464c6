/- Rows, plainly: may a value stand in a column, a row be of a schema; some of a row's values. No program. -/
import Derived.Test.YtpnnkhpokangfaaDoorVaA
import Derived.Test.YtpnnkhpokangfaaDoorMgS
namespace Go.Proofs.YtpnnkhpokangfaaDoor.Ro
open Go.RowKit Pac Va Sc

/-- The error of a value in a column: 0 if there is none. -/
def fitsE (c : C) (v : V) : Int := if rightV v = false then 1 else if v.k = 0 then (if c.z then 0 else 6) else if v.k = c.k then 0 else 5
def errs : List C → List V → Int
 | c :: cs, v :: l => if fitsE c v = 0 then errs cs l else fitsE c v
 | _, _ => 0
def checkE (cs : List C) (l : List V) : Int := if l.length = cs.length then errs cs l else 1
theorem errs_ok : ∀ (cs : List C) (l : List V), errs cs l = 0 ↔ ∀ (j : Nat) (c : C) (v : V), cs[j]? = some c → l[j]? = some v → fitsE c v = 0
 | [], l => by simp [errs]
 | c :: cs, [] => by simp [errs]
 | c :: cs, v :: l => by
  unfold errs
  constructor
  ·intro h j
   split at h
   ·rename_i h0
    cases j with
    | zero =>
     intro c' v' hc hv
     have hc : c = c' := by simpa using hc
     have hv : v = v' := by simpa using hv
     subst hc hv
     exact h0
    | succ j =>
     intro c' v' hc hv
     exact (errs_ok cs l).1 h j c' v' (by simpa using hc) (by simpa using hv)
   ·rename_i h0
    exact absurd h h0
  ·intro h
   rw [if_pos (h 0 c v rfl rfl)]
   exact (errs_ok cs l).2 fun j c' v' hc hv => h (j + 1) c' v' (by simpa using hc) (by simpa using hv)
/-- Before place q nothing is wrong; there it is: that is the error. -/
theorem errs_at : ∀ (cs : List C) (l : List V) (q : Nat) (c : C) (v : V), (∀ (j : Nat) (c : C) (v : V), j < q → cs[j]? = some c → l[j]? = some v → fitsE c v = 0) → cs[q]? = some c → l[q]? = some v → fitsE c v ≠ 0 → errs cs l = fitsE c v
 | [], _, q, c, v, _, hc, _, _ => by simp at hc
 | _ :: _, [], q, c, v, _, _, hv, _ => by simp at hv
 | a :: cs, b :: l, q, c, v, h, hc, hv, hn => by
  unfold errs
  cases q with
  | zero =>
   have hc : a = c := by simpa using hc
   have hv : b = v := by simpa using hv
   subst hc hv
   rw [if_neg hn]
  | succ q =>
   rw [if_pos (h 0 a b (Nat.succ_pos q) rfl rfl)]
   exact errs_at cs l q c v (fun j c' v' hj hc' hv' => h (j + 1) c' v' (by omega) (by simpa using hc') (by simpa using hv')) (by simpa using hc) (by simpa using hv) hn
theorem check_ok {cs : List C} {l : List V} : checkE cs l = 0 ↔ l.length = cs.length ∧ ∀ (j : Nat) (c : C) (v : V), cs[j]? = some c → l[j]? = some v → fitsE c v = 0 := by
 unfold checkE
 split
 ·rename_i h
  rw [errs_ok]
  exact ⟨fun h' => ⟨h, h'⟩, fun h' => h'.2⟩
 ·rename_i h
  constructor
  ·intro h'; cases h'
  ·intro h'; exact absurd h'.1 h
theorem fits_good (c : C) (v : V) (hc : c.k ≠ 0) : fitsE c v = 0 ↔ rightV v = true ∧ (v.k = c.k ∨ (v.k = 0 ∧ c.z = true)) := by
 unfold fitsE
 cases hr : rightV v with
 | false => simp
 | true =>
  rw [if_neg (by simp)]
  by_cases h0 : v.k = 0
  ·rw [if_pos h0]
   cases hz : c.z with
   | false => simp [h0, Ne.symm hc]
   | true => simp [h0]
  ·rw [if_neg h0]
   by_cases hk : v.k = c.k
   ·simp [hk]
   ·simp [h0, hk]

/-- Some of a row's values; none, if there is no such place. -/
def pickO (l : List V) : List Int → Option (List V)
 | [] => some []
 | c :: cols => if 0 ≤ c ∧ c < l.length then (match l[c.toNat]?, pickO l cols with
   | some v, some p => some (v :: p)
   | _, _ => none) else none
theorem pick_some {l : List V} : ∀ {cols : List Int}, (∀ c ∈ cols, 0 ≤ c ∧ c < l.length) → ∃ p, pickO l cols = some p ∧ p.length = cols.length ∧ ∀ (j : Nat) (c : Int), cols[j]? = some c → p[j]? = l[c.toNat]?
 | [], _ => ⟨[], rfl, rfl, fun j c h => by simp at h⟩
 | c :: cols, h => by
  obtain ⟨p, hp, hl, hat⟩ := pick_some (fun x hx => h x (List.mem_cons_of_mem _ hx) : ∀ x ∈ cols, 0 ≤ x ∧ x < l.length)
  have hc := h c (List.mem_cons_self ..)
  have hv : l[c.toNat]? = some (l[c.toNat]'(by omega)) := List.getElem?_eq_getElem _
  refine ⟨l[c.toNat]'(by omega) :: p, ?_, by simp [hl], fun j x hx => ?_⟩
  ·unfold pickO
   rw [if_pos hc, hv, hp]
  ·cases j with
   | zero =>
    have hx : c = x := by simpa using hx
    subst hx
    rw [hv]
    rfl
   | succ j => exact hat j x (by simpa using hx)
theorem pick_none {l : List V} : ∀ {cols : List Int}, (∃ c ∈ cols, ¬ (0 ≤ c ∧ c < l.length)) → pickO l cols = none
 | [], h => by obtain ⟨c, hc, _⟩ := h; cases hc
 | c :: cols, h => by
  unfold pickO
  by_cases hc : 0 ≤ c ∧ c < l.length
  ·rw [if_pos hc]
   have : pickO l cols = none := pick_none (by
    obtain ⟨x, hx, hn⟩ := h
    rcases List.mem_cons.1 hx with rfl | hx
    ·exact absurd hc hn
    ·exact ⟨x, hx, hn⟩)
   rw [this]
   cases l[c.toNat]? <;> rfl
  ·rw [if_neg hc]
end Go.Proofs.YtpnnkhpokangfaaDoor.Ro
