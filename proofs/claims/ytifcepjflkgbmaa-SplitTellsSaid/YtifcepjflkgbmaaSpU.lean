/- Whether numbers stand in order: the library's, walked. -/
import Derived.Test.YtifcepjflkgbmaaSpC
import Derived.BigQuiet
namespace Go.Proofs.Ytifcepjflkgbmaa.Sp
open Go.RowKit Pac Lex

set_option maxRecDepth 20000 in
theorem less_any (x y : Int) (w : World) : Calls Try.prog 45 #[.int .i64 x, .int .i64 y] w fun e w' => e = .returned (.bool (decide (x < y))) ∧ w' = w := by
  go_enter Try.func45, Try.ntmps45
  have e1 : (x != x) = false := by simp
  have e2 : (y != y) = false := by simp
  go_wp2
  go_ret
  exact ⟨rfl, rfl⟩

/-- Does it stand in order? -/
def sortB (g : List Int) : Bool := decide (g.Pairwise (· ≤ ·))
theorem le_of_step : ∀ (l : List Int), (∀ (k : Nat) (a b : Int), l[k]? = some a → l[k + 1]? = some b → a ≤ b) → l.Pairwise (· ≤ ·)
  | [], _ => List.Pairwise.nil
  | [a], _ => List.pairwise_singleton _ _
  | a :: b :: l, h => by
    have ih := le_of_step (b :: l) (fun k x y hx hy => h (k + 1) x y (by simpa using hx) (by simpa using hy))
    have hab : a ≤ b := h 0 a b rfl rfl
    refine List.pairwise_cons.2 ⟨fun x hx => ?_, ih⟩
    rcases List.mem_cons.1 hx with rfl | hx
    · exact hab
    · exact Int.le_trans hab ((List.pairwise_cons.1 ih).1 x hx)
theorem step_of_le {l : List Int} (h : l.Pairwise (· ≤ ·)) {k : Nat} {a b : Int} (ha : l[k]? = some a) (hb : l[k + 1]? = some b) : a ≤ b := by
  obtain ⟨hk, rfl⟩ := List.getElem?_eq_some_iff.1 ha
  obtain ⟨hk2, rfl⟩ := List.getElem?_eq_some_iff.1 hb
  exact List.pairwise_iff_getElem.1 h k (k + 1) hk hk2 (Nat.lt_succ_self k)

set_option maxRecDepth 20000 in
set_option maxHeartbeats 3200000 in
theorem sorted_any (A : Option Addr) (cp : Nat) (g : List Int) (lo : Nat) (w : World) (h : HasI w lo A g) (hl : g.length ≤ 1000000) :
    Calls Try.prog 38 #[.slice A g.length cp] w fun e w' => e = .returned (.bool (sortB g)) ∧ Below w.heap.size w w' := by
  have hR : ((∀ (k : Nat) (a b : Int), g[k]? = some a → g[k + 1]? = some b → a ≤ b) → sortB g = true) ∧ (∀ (k : Nat) (a b : Int), g[k]? = some a → g[k + 1]? = some b → b < a → sortB g = false) := by
    unfold sortB
    refine ⟨fun h => decide_eq_true (le_of_step g h), fun k a b ha hb hba => decide_eq_false fun h => ?_⟩
    have := step_of_le h ha hb
    omega
  generalize sortB g = r at hR ⊢
  have HR := Lib.hid hR
  have HA := Lib.hid h
  clear hR h
  obtain ⟨p, hp⟩ : ∃ p, g.length = p := ⟨_, rfl⟩
  rw [hp] at hl ⊢
  have HP := Lib.hid hp
  clear hp
  go_enter Try.func38, Try.ntmps38
  by_cases hp0 : p = 0
  · have HQ : Hid (r = true) := Lib.hid (HR.out.1 (fun k a b ha => by
      have := (List.getElem?_eq_some_iff.1 ha).1
      have := HP.out
      omega))
    subst hp0
    go_wp2
    go_loopw [3] (fun i wr => i = .int .i64 (-1) ∧ wr = w) (fun i _ => 0)
    case atStart => exact ⟨rfl, rfl⟩
    case round =>
      obtain ⟨rfl, rfl⟩ := hrel
      go_wp2
      go_ret
      exact ⟨by rw [HQ.out]; rfl, Below.refl _ _⟩
  · have hs : (p : Int) - 1 = ((p - 1 : Nat) : Int) := by omega
    go_wp2
    go_loopw [3] (fun i wr => ∃ q : Nat, q < p ∧ i = .int .i64 q ∧ Hid (∀ (k : Nat) (a b : Int), q ≤ k → g[k]? = some a → g[k + 1]? = some b → a ≤ b) ∧ Below w.heap.size w wr) (fun i _ => (intOf i).toNat)
    case atStart => exact ⟨p - 1, by omega, by rw [← hs], Lib.hid (fun k a b hk _ hb => by
      have := (List.getElem?_eq_some_iff.1 hb).1
      have := HP.out
      omega), Below.refl _ w⟩
    case round =>
      obtain ⟨q, hq, rfl, hH, hB⟩ := hrel
      by_cases hq0 : 0 < q
      · have hx1 : g[q]? = some (g[q]'(by rw [HP.out]; exact hq)) := List.getElem?_eq_getElem _
        generalize (g[q]'(by rw [HP.out]; exact hq)) = x at hx1
        obtain ⟨t, ht1, ht2⟩ : ∃ t : Nat, (q : Int) - 1 = (t : Int) ∧ q = t + 1 := ⟨q - 1, by omega, by omega⟩
        have htp : t < p := by omega
        have hx2 : g[t]? = some (g[t]'(by rw [HP.out]; exact htp)) := List.getElem?_eq_getElem _
        generalize (g[t]'(by rw [HP.out]; exact htp)) = y at hx2
        have HI : HasI wr lo A g := HA.out.below hB (Nat.le_refl _)
        obtain ⟨b5, o5, rfl, _, hlb5, f1⟩ := HI.at hx1
        obtain ⟨b6, o6, e6, _, hlb6, f2⟩ := HI.at hx2
        injection e6 with e6
        injection e6 with e6 e6'
        subst e6 e6'
        have j1 : (q : Int) < (p : Int) := by omega
        have j0 : (0 : Int) ≤ (q : Int) := by omega
        have j2 : (t : Int) < (p : Int) := by omega
        have j3 : (0 : Int) ≤ (t : Int) := by omega
        have j4 : (0 : Int) < (q : Int) := by omega
        have j5 : IntKind.i64.wrap (t : Int) = (t : Int) := by rw [IntKind.wrap_i64]; omega
        have HX1 := Lib.hid hx1
        have HX2 := Lib.hid hx2
        have HT2 := Lib.hid ht2
        clear hx1 hx2 HI ht2
        have hc := fun W : World => less_any x y W
        by_cases hxy : x < y
        · have HQ : Hid (r = false) := Lib.hid (HR.out.2 t y x HX2.out (by rw [← HT2.out]; exact HX1.out) hxy)
          have hd : decide (x < y) = true := decide_eq_true hxy
          simp only [hd] at hc
          go_wp2
          go_quiet ((go_at_call 45; exact Calls.quiet_of_same (hc _)))
          have hB := hB.trans (below_drewN (Below.refl w.heap.size wr) nq)
          go_wp2
          go_ret
          exact ⟨by rw [HQ.out]; rfl, hB⟩
        · have HE : Hid (∀ (k : Nat) (a b : Int), t ≤ k → g[k]? = some a → g[k + 1]? = some b → a ≤ b) := Lib.hid (fun k a b hk ha hb => by
            by_cases hkt : k = t
            · subst hkt
              rw [HX2.out] at ha
              rw [← HT2.out, HX1.out] at hb
              injection ha with ha
              injection hb with hb
              omega
            · exact hH.out k a b (by have := HT2.out; omega) ha hb)
          have hd : decide (x < y) = false := decide_eq_false hxy
          simp only [hd] at hc
          go_wp2
          go_quiet ((go_at_call 45; exact Calls.quiet_of_same (hc _)))
          have hB := hB.trans (below_drewN (Below.refl w.heap.size wr) nq)
          clear f1 f2
          go_wp2
          go_roundw
          case rel => exact ⟨t, by omega, by go_num, HE, hB⟩
          case measure => simp [intOf]; omega
      · have HQ : Hid (r = true) := Lib.hid (HR.out.1 (fun k a b => hH.out k a b (by omega)))
        obtain rfl : q = 0 := by omega
        go_wp2
        go_ret
        exact ⟨by rw [HQ.out]; rfl, hB⟩
end Go.Proofs.Ytifcepjflkgbmaa.Sp
