/- Where a column is: the document's, walked. -/
import Derived.Test.YtifcepjflkgbmaaSpC
namespace Go.Proofs.Ytifcepjflkgbmaa.Sp
open Go.RowKit Pac Lex

/-- A column's place in a group, and its group: the first ones. -/
def at1 (c : Int) : List Int → Option Nat
  | [] => none
  | x :: g => if x = c then some 0 else (at1 c g).map (· + 1)
def atG (c : Int) : List (List Int) → Option (Nat × Nat)
  | [] => none
  | g :: l => match at1 c g with
    | some k => some (0, k)
    | none => (atG c l).map (fun p => (p.1 + 1, p.2))
theorem at1_none {c : Int} : ∀ {g : List Int}, at1 c g = none ↔ c ∉ g
  | [] => by simp [at1]
  | x :: g => by
    unfold at1
    by_cases h : x = c
    · subst h
      simp
    · have ih := at1_none (c := c) (g := g)
      rw [if_neg h, Option.map_eq_none_iff, ih, List.mem_cons]
      constructor
      · intro h1 h2
        rcases h2 with h2 | h2
        · exact h h2.symm
        · exact h1 h2
      · intro h1 h2
        exact h1 (Or.inr h2)
theorem at1_some {c : Int} : ∀ {g : List Int} {t : Nat}, (∀ j < t, g[j]? ≠ some c) → g[t]? = some c → at1 c g = some t
  | [], t, _, h => by simp at h
  | x :: g, 0, _, h => by
    have h : x = c := by simpa using h
    unfold at1
    rw [if_pos h]
  | x :: g, t + 1, hn, h => by
    have hx : ¬ x = c := fun e => hn 0 (Nat.succ_pos t) (by rw [e]; rfl)
    unfold at1
    rw [if_neg hx, at1_some (t := t) (fun j hj => hn (j + 1) (by omega)) h]
    rfl
theorem at1_get {c : Int} : ∀ {g : List Int} {t : Nat}, at1 c g = some t → g[t]? = some c
  | [], t, h => by simp [at1] at h
  | x :: g, t, h => by
    unfold at1 at h
    by_cases hx : x = c
    · rw [if_pos hx] at h
      injection h with h
      subst h hx
      rfl
    · rw [if_neg hx] at h
      obtain ⟨k, hk, rfl⟩ := Option.map_eq_some_iff.1 h
      exact at1_get (g := g) hk
theorem atG_none {c : Int} : ∀ {l : List (List Int)}, atG c l = none ↔ ∀ g ∈ l, c ∉ g
  | [] => by simp [atG]
  | g :: l => by
    have ih := atG_none (c := c) (l := l)
    unfold atG
    cases h : at1 c g with
    | none =>
      have := at1_none.1 h
      simp only [Option.map_eq_none_iff, ih, List.mem_cons]
      constructor
      · rintro h1 k (rfl | hk)
        · exact this
        · exact h1 k hk
      · exact fun h1 k hk => h1 k (Or.inr hk)
    | some k =>
      simp only [reduceCtorEq, false_iff]
      intro h1
      have := at1_none.2 (h1 g (List.mem_cons_self ..))
      rw [h] at this
      cases this
theorem atG_some {c : Int} : ∀ {l : List (List Int)} {q t : Nat} {g : List Int}, (∀ j < q, ∀ k, l[j]? = some k → c ∉ k) → l[q]? = some g → at1 c g = some t → atG c l = some (q, t)
  | [], q, t, g, _, h, _ => by simp at h
  | k :: l, 0, t, g, _, h, h1 => by
    have h : k = g := by simpa using h
    subst h
    unfold atG
    rw [h1]
  | k :: l, q + 1, t, g, hn, h, h1 => by
    have hk := at1_none.2 (hn 0 (Nat.succ_pos q) k rfl)
    unfold atG
    rw [hk, atG_some (q := q) (fun j hj => hn (j + 1) (by omega)) h h1]
    rfl
def FindPost (l : List (List Int)) (c : Int) (w : World) (e : Ending) (w' : World) : Prop :=
  ∃ (i k : Nat) (b : Bool), e = .returned (.tuple #[.int .i64 i, .int .i64 k, .bool b]) ∧ (b = true → atG c l = some (i, k)) ∧ (b = false → atG c l = none ∧ i = 0 ∧ k = 0) ∧ Below w.heap.size w w'
theorem FindPost.bad {l : List (List Int)} {c : Int} {w w' : World} (h : atG c l = none) (hB : Below w.heap.size w w') : FindPost l c w (.returned (.tuple #[.int .i64 0, .int .i64 0, .bool false])) w' :=
  ⟨0, 0, false, rfl, (fun h => by cases h), (fun _ => ⟨h, rfl, rfl⟩), hB⟩
theorem FindPost.good {l : List (List Int)} {c : Int} {w w' : World} {i k : Nat} (h : atG c l = some (i, k)) (hB : Below w.heap.size w w') : FindPost l c w (.returned (.tuple #[.int .i64 i, .int .i64 k, .bool true])) w' :=
  ⟨i, k, true, rfl, (fun _ => h), (fun h => by cases h), hB⟩

set_option maxRecDepth 20000 in
set_option maxHeartbeats 3200000 in
theorem refFind_any (A1 : Option Addr) (cp1 : Nat) (l1 : List (List Int)) (c : Int) (lo1 : Nat) (w : World) (h1 : HasLL w lo1 A1 l1) (hl1 : l1.length ≤ 9223372036854775807) (hg1 : ∀ g ∈ l1, g.length ≤ 9223372036854775807) :
    Calls Try.prog 18 #[.slice A1 l1.length cp1, .int .i64 c] w (FindPost l1 c w) := by
  have hPB := fun (w' : World) (h : atG c l1 = none) => FindPost.bad (w := w) (w' := w') h
  have hPG := fun (w' : World) (i k : Nat) (h : atG c l1 = some (i, k)) => FindPost.good (w := w) (w' := w') h
  generalize FindPost l1 c w = post at hPB hPG ⊢
  have HPB := Lib.hid hPB
  have HPG := Lib.hid hPG
  clear hPB hPG
  obtain ⟨m, hm⟩ : ∃ m, l1.length = m := ⟨_, rfl⟩
  rw [hm] at hl1 ⊢
  have HA := Lib.hid h1
  have HM := Lib.hid hm
  have HG := Lib.hid hg1
  clear h1 hm hg1
  go_enter Try.func18, Try.ntmps18
  go_wp2
  go_loopw [7] (fun i wr => ∃ q : Nat, q ≤ m ∧ i = .int .i64 q ∧ Hid (∀ j < q, ∀ k, l1[j]? = some k → c ∉ k) ∧ Below w.heap.size w wr) (fun i _ => m - (intOf i).toNat)
  case atStart => exact ⟨0, Nat.zero_le _, rfl, Lib.hid (fun j hj => absurd hj (Nat.not_lt_zero j)), Below.refl _ w⟩
  case round =>
    obtain ⟨q, hq, rfl, hH, hB⟩ := hrel
    by_cases hlt : q < m
    · have hg1 : l1[q]? = some (l1[q]'(by rw [HM.out]; exact hlt)) := List.getElem?_eq_getElem _
      generalize (l1[q]'(by rw [HM.out]; exact hlt)) = g at hg1
      have sg := HG.out g (List.mem_of_getElem? hg1)
      obtain ⟨b1, o1, A3, cp3, rfl, hlo1, hlb1, d1, hI1, _⟩ := (HA.out.below hB (Nat.le_refl _)).at hg1
      have HG1 := Lib.hid hg1
      obtain ⟨p, hp⟩ : ∃ p, g.length = p := ⟨_, rfl⟩
      rw [hp] at d1 sg
      have HP := Lib.hid hp
      clear hp hg1 hI1
      have i1 : (q : Int) < (m : Int) := by omega
      have i0 : (0 : Int) ≤ (q : Int) := by omega
      go_wp2
      clear d1
      go_loopw [8] (fun i wr => ∃ t : Nat, t ≤ p ∧ i = .int .i64 t ∧ Hid (∀ j < t, g[j]? ≠ some c) ∧ Below w.heap.size w wr) (fun i _ => p - (intOf i).toNat)
      case atStart => exact ⟨0, Nat.zero_le _, rfl, Lib.hid (fun j hj => absurd hj (Nat.not_lt_zero j)), hB⟩
      case round =>
        clear hB
        obtain ⟨t, ht, rfl, hT, hB⟩ := hrel
        obtain ⟨b1', o1', A5, cp5, e1, hlo1', hlb1', d1, hI1, _⟩ := (HA.out.below hB (Nat.le_refl _)).at HG1.out
        injection e1 with e1
        injection e1 with e1 e1'
        subst e1 e1'
        rw [HP.out] at d1
        clear hlo1' hlb1'
        by_cases htp : t < p
        · have hx1 : g[t]? = some (g[t]'(by rw [HP.out]; exact htp)) := List.getElem?_eq_getElem _
          generalize (g[t]'(by rw [HP.out]; exact htp)) = x at hx1
          obtain ⟨b5, o5, rfl, _, hlb5, f1⟩ := hI1.at hx1
          have j1 : (t : Int) < (p : Int) := by omega
          have j0 : (0 : Int) ≤ (t : Int) := by omega
          have HX1 := Lib.hid hx1
          clear hI1 hx1
          by_cases hxy : x = c
          · subst hxy
            have HS := Lib.hid (atG_some hH.out HG1.out (at1_some hT.out HX1.out))
            go_wp2
            refine bodyPost_ret (results_tmp3 rfl _ _ _) rfl ?_
            exact HPG.out _ q t HS.out hB
          · have HS : Hid (∀ j < t + 1, g[j]? ≠ some c) := Lib.hid (fun j hj => by
              by_cases hjt : j < t
              · exact hT.out j hjt
              · obtain rfl : j = t := by omega
                rw [HX1.out]
                intro h
                injection h with h
                exact hxy h)
            have hxy' : (x == c) = false := beq_eq_false_iff_ne.2 hxy
            go_wp2
            clear d1 f1
            go_roundw
            case rel => exact ⟨t + 1, by omega, by go_num, HS, hB⟩
            case measure => simp [intOf]; omega
        · obtain rfl : t = p := by omega
          have HE : Hid (∀ j < q + 1, ∀ k, l1[j]? = some k → c ∉ k) := Lib.hid (fun j hj k hk => by
            by_cases hjq : j < q
            · exact hH.out j hjq k hk
            · obtain rfl : j = q := by omega
              rw [HG1.out] at hk
              injection hk with hk
              subst hk
              intro hc
              obtain ⟨i, hi, e⟩ := List.mem_iff_getElem.1 hc
              exact hT.out i (by rw [← HP.out]; exact hi) (by rw [List.getElem?_eq_getElem hi, e]))
          go_wp2
          clear d1 hI1
          go_roundw
          case rel => exact ⟨q + 1, by omega, by go_num, HE, hB⟩
          case measure => simp [intOf]; omega
    · obtain rfl : q = m := by omega
      have HQ : Hid (atG c l1 = none) := Lib.hid (atG_none.2 (fun g hg => by
        obtain ⟨i, hi, e⟩ := List.mem_iff_getElem.1 hg
        exact hH.out i (by rw [← HM.out]; exact hi) g (by rw [List.getElem?_eq_getElem hi, e])))
      go_wp2
      refine bodyPost_ret (results_tmp3 rfl _ _ _) rfl ?_
      exact HPB.out _ HQ.out hB
end Go.Proofs.Ytifcepjflkgbmaa.Sp
