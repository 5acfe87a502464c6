/- Texts SpU, SpX, one behind the other. -/
import Derived.Test.YtpnnkhpokangfaaDoorMgG
import Derived.BigQuiet
import Derived.Test.YtpnnkhpokangfaaDoorShelf
/- Whether numbers stand in order: the library's, walked. -/
namespace Go.Proofs.YtpnnkhpokangfaaDoor.Sp
open Go.RowKit Pac Lex

set_option maxRecDepth 20000 in
theorem less_any (x y : Int) (w : World) : Calls Tryd.prog 80 #[.int .i64 x, .int .i64 y] w fun e w' => e = .returned (.bool (decide (x < y))) ∧ w' = w := by
 go_enter Tryd.func80, Tryd.ntmps80
 have e1 : (x != x) = false := by simp
 have e2 : (y != y) = false := by simp
 go_wp2
 go_ret
 exact ⟨rfl, rfl⟩

/-- Does it stand in order? -/
def sortB (g : List Int) : Bool := decide (g.Pairwise (· ≤ ·))
theorem le_of_step : ∀ (l : List Int), (∀ (k : Nat) (a b : Int), l[k]? = some a → l[k + 1]? = some b → a ≤ b) → l.Pairwise (· ≤ ·)
 | [], _ => List.Pairwise.nil
 | [a], _ => List.pairwise_singleton _ _
 | a :: b :: l, h => by
  have ih := le_of_step (b :: l) (fun k x y hx hy => h (k + 1) x y (by simpa using hx) (by simpa using hy))
  have hab : a ≤ b := h 0 a b rfl rfl
  refine List.pairwise_cons.2 ⟨fun x hx => ?_, ih⟩
  rcases List.mem_cons.1 hx with rfl | hx
  ·exact hab
  ·exact Int.le_trans hab ((List.pairwise_cons.1 ih).1 x hx)
theorem step_of_le {l : List Int} (h : l.Pairwise (· ≤ ·)) {k : Nat} {a b : Int} (ha : l[k]? = some a) (hb : l[k + 1]? = some b) : a ≤ b := by
 obtain ⟨hk, rfl⟩ := List.getElem?_eq_some_iff.1 ha
 obtain ⟨hk2, rfl⟩ := List.getElem?_eq_some_iff.1 hb
 exact List.pairwise_iff_getElem.1 h k (k + 1) hk hk2 (Nat.lt_succ_self k)

set_option maxRecDepth 20000 in
set_option maxHeartbeats 3200000 in
theorem sorted_any (A : Option Addr) (cp : Nat) (g : List Int) (lo : Nat) (w : World) (h : HasI w lo A g) (hl : g.length ≤ 17592186044416) :
  Calls Tryd.prog 77 #[.slice A g.length cp] w fun e w' => e = .returned (.bool (sortB g)) ∧ Below w.heap.size w w' := by
 have hR : ((∀ (k : Nat) (a b : Int), g[k]? = some a → g[k + 1]? = some b → a ≤ b) → sortB g = true) ∧ (∀ (k : Nat) (a b : Int), g[k]? = some a → g[k + 1]? = some b → b < a → sortB g = false) := by
  unfold sortB
  refine ⟨fun h => decide_eq_true (le_of_step g h), fun k a b ha hb hba => decide_eq_false fun h => ?_⟩
  have := step_of_le h ha hb
  omega
 generalize sortB g = r at hR ⊢
 have HR := Lib.hid hR
 have HA := Lib.hid h
 clear hR h
 obtain ⟨p, hp⟩ : ∃ p, g.length = p := ⟨_, rfl⟩
 rw [hp] at hl ⊢
 have HP := Lib.hid hp
 clear hp
 go_enter Tryd.func77, Tryd.ntmps77
 by_cases hp0 : p = 0
 ·have HQ : Hid (r = true) := Lib.hid (HR.out.1 (fun k a b ha => by
   have := (List.getElem?_eq_some_iff.1 ha).1
   have := HP.out
   omega))
  subst hp0
  go_wp2
  go_loopw [3] (fun i wr => i = .int .i64 (-1) ∧ wr = w) (fun i _ => 0)
  case atStart => exact ⟨rfl, rfl⟩
  case round =>
   obtain ⟨rfl, rfl⟩ := hrel
   go_wp2
   go_ret
   exact ⟨by rw [HQ.out]; rfl, Below.refl _ _⟩
 ·have hs : (p : Int) - 1 = ((p - 1 : Nat) : Int) := by omega
  go_wp2
  go_loopw [3] (fun i wr => ∃ q : Nat, q < p ∧ i = .int .i64 q ∧ Hid (∀ (k : Nat) (a b : Int), q ≤ k → g[k]? = some a → g[k + 1]? = some b → a ≤ b) ∧ Below w.heap.size w wr) (fun i _ => (intOf i).toNat)
  case atStart => exact ⟨p - 1, by omega, by rw [← hs], Lib.hid (fun k a b hk _ hb => by
   have := (List.getElem?_eq_some_iff.1 hb).1
   have := HP.out
   omega), Below.refl _ w⟩
  case round =>
   obtain ⟨q, hq, rfl, hH, hB⟩ := hrel
   by_cases hq0 : 0 < q
   ·have hx1 : g[q]? = some (g[q]'(by rw [HP.out]; exact hq)) := List.getElem?_eq_getElem _
    generalize (g[q]'(by rw [HP.out]; exact hq)) = x at hx1
    obtain ⟨t, ht1, ht2⟩ : ∃ t : Nat, (q : Int) - 1 = (t : Int) ∧ q = t + 1 := ⟨q - 1, by omega, by omega⟩
    have htp : t < p := by omega
    have hx2 : g[t]? = some (g[t]'(by rw [HP.out]; exact htp)) := List.getElem?_eq_getElem _
    generalize (g[t]'(by rw [HP.out]; exact htp)) = y at hx2
    have HI : HasI wr lo A g := HA.out.below hB (Nat.le_refl _)
    obtain ⟨b5, o5, rfl, _, hlb5, f1⟩ := HI.at hx1
    obtain ⟨b6, o6, e6, _, hlb6, f2⟩ := HI.at hx2
    injection e6 with e6
    injection e6 with e6 e6'
    subst e6 e6'
    have j1 : (q : Int) < (p : Int) := by omega
    have j0 : (0 : Int) ≤ (q : Int) := by omega
    have j2 : (t : Int) < (p : Int) := by omega
    have j3 : (0 : Int) ≤ (t : Int) := by omega
    have j4 : (0 : Int) < (q : Int) := by omega
    have j5 : IntKind.i64.wrap (t : Int) = (t : Int) := by rw [IntKind.wrap_i64]; omega
    have HX1 := Lib.hid hx1
    have HX2 := Lib.hid hx2
    have HT2 := Lib.hid ht2
    clear hx1 hx2 HI ht2
    have hc := fun W : World => less_any x y W
    by_cases hxy : x < y
    ·have HQ : Hid (r = false) := Lib.hid (HR.out.2 t y x HX2.out (by rw [← HT2.out]; exact HX1.out) hxy)
     have hd : decide (x < y) = true := decide_eq_true hxy
     simp only [hd] at hc
     go_wp2
     go_quiet ((go_at_call 80; exact Calls.quiet_of_same (hc _)))
     have hB := hB.trans (below_drewN (Below.refl w.heap.size wr) nq)
     go_wp2
     go_ret
     exact ⟨by rw [HQ.out]; rfl, hB⟩
    ·have HE : Hid (∀ (k : Nat) (a b : Int), t ≤ k → g[k]? = some a → g[k + 1]? = some b → a ≤ b) := Lib.hid (fun k a b hk ha hb => by
      by_cases hkt : k = t
      ·subst hkt
       rw [HX2.out] at ha
       rw [← HT2.out, HX1.out] at hb
       injection ha with ha
       injection hb with hb
       omega
      ·exact hH.out k a b (by have := HT2.out; omega) ha hb)
     have hd : decide (x < y) = false := decide_eq_false hxy
     simp only [hd] at hc
     go_wp2
     go_quiet ((go_at_call 80; exact Calls.quiet_of_same (hc _)))
     have hB := hB.trans (below_drewN (Below.refl w.heap.size wr) nq)
     clear f1 f2
     go_wp2
     go_roundw
     case rel => exact ⟨t, by omega, by go_num, HE, hB⟩
     case measure => simp [intOf]; omega
   ·have HQ : Hid (r = true) := Lib.hid (HR.out.1 (fun k a b => hH.out k a b (by omega)))
    obtain rfl : q = 0 := by omega
    go_wp2
    go_ret
    exact ⟨by rw [HQ.out]; rfl, hB⟩
end Go.Proofs.YtpnnkhpokangfaaDoor.Sp

/- Where a column is, and whether groups are a split: the program's, walked. -/
namespace Go.Proofs.YtpnnkhpokangfaaDoor.Sp
open Go.RowKit Pac Lex

/-- A column's place in a group, or -1. -/
def atI (c : Int) (g : List Int) : Int := match at1 c g with
 | some k => (k : Int)
 | none => -1
theorem at1_first {c : Int} : ∀ {g : List Int} {t : Nat}, at1 c g = some t → t < g.length ∧ g[t]? = some c ∧ ∀ j < t, g[j]? ≠ some c
 | [], t, h => by simp [at1] at h
 | x :: g, t, h => by
  unfold at1 at h
  by_cases hx : x = c
  ·rw [if_pos hx] at h
   injection h with h
   subst h hx
   exact ⟨by simp, rfl, fun j hj => absurd hj (Nat.not_lt_zero j)⟩
  ·rw [if_neg hx] at h
   obtain ⟨k, hk, rfl⟩ := Option.map_eq_some_iff.1 h
   obtain ⟨h1, h2, h3⟩ := at1_first (g := g) hk
   refine ⟨by simpa using h1, by simpa using h2, fun j hj => ?_⟩
   cases j with
   | zero => simpa using hx
   | succ j => simpa using h3 j (by omega)
theorem index_any (A : Option Addr) (cp : Nat) (g : List Int) (c : Int) (lo : Nat) (w : World) (h : HasI w lo A g) (hl : g.length ≤ 17592186044416) :
  Calls Tryd.prog 60 #[.slice A g.length cp, .int .i64 c] w fun e w' => e = .returned (.int .i64 (atI c g)) ∧ w' = w := by
 by_cases hg : g = []
 ·subst hg
  exact Tryd.slices_Index_int_empty A cp c w
 ·obtain ⟨b, o, rfl, _, _, hc⟩ := h hg
  have key := Tryd.slices_Index_int b o g.length cp g c w (Nat.le_refl _) (by omega) (fun j hj => by
   have := hc j _ (List.getElem?_eq_getElem hj) 0 _ rfl
   rw [Nat.mul_one, Nat.add_zero] at this
   rw [List.getD_eq_getElem?_getD, List.getElem?_eq_getElem hj]
   exact this)
  refine key.mono ?_
  rintro e w' ⟨rfl, rfl⟩
  refine ⟨?_, rfl⟩
  congr 2
  unfold atI
  cases h1 : at1 c g with
  | some k =>
   obtain ⟨h2, h3, h4⟩ := at1_first h1
   refine Lib.idxOf_hit g g.length k c h2 (Nat.le_refl _) (by rw [List.getD_eq_getElem?_getD, h3]; rfl) (fun j hj e => ?_)
   have hjl : j < g.length := Nat.lt_trans hj h2
   apply h4 j hj
   rw [List.getD_eq_getElem?_getD, List.getElem?_eq_getElem hjl] at e
   rw [List.getElem?_eq_getElem hjl]
   exact congrArg some e
  | none =>
   refine Lib.idxOf_miss g g.length c (fun j hj e => at1_none.1 h1 ?_)
   rw [List.getD_eq_getElem?_getD, List.getElem?_eq_getElem hj] at e
   rw [← e]
   exact List.getElem_mem hj

set_option maxRecDepth 20000 in
set_option maxHeartbeats 3200000 in
theorem find_any (A1 : Option Addr) (cp1 : Nat) (l1 : List (List Int)) (c : Int) (lo1 : Nat) (w : World) (h1 : HasLL w lo1 A1 l1) (hl1 : l1.length ≤ 200000) (hg1 : ∀ g ∈ l1, g.length ≤ 17592186044416) :
  Calls Tryd.prog 43 #[.slice A1 l1.length cp1, .int .i64 c] w (FindPost l1 c w) := by
 have hPB := fun (w' : World) (h : atG c l1 = none) => FindPost.bad (w := w) (w' := w') h
 have hPG := fun (w' : World) (i k : Nat) (h : atG c l1 = some (i, k)) => FindPost.good (w := w) (w' := w') h
 generalize FindPost l1 c w = post at hPB hPG ⊢
 have HPB := Lib.hid hPB
 have HPG := Lib.hid hPG
 clear hPB hPG
 obtain ⟨m, hm⟩ : ∃ m, l1.length = m := ⟨_, rfl⟩
 rw [hm] at hl1 ⊢
 have HA := Lib.hid h1
 have HM := Lib.hid hm
 have HG := Lib.hid hg1
 clear h1 hm hg1
 go_enter Tryd.func43, Tryd.ntmps43
 go_wp2
 go_loopw [12] (fun i wr => ∃ q : Nat, q ≤ m ∧ i = .int .i64 q ∧ Hid (∀ j < q, ∀ k, l1[j]? = some k → c ∉ k) ∧ Below w.heap.size w wr) (fun i _ => m - (intOf i).toNat)
 case atStart => exact ⟨0, Nat.zero_le _, rfl, Lib.hid (fun j hj => absurd hj (Nat.not_lt_zero j)), Below.refl _ w⟩
 case round =>
  obtain ⟨q, hq, rfl, hH, hB⟩ := hrel
  by_cases hlt : q < m
  ·have hg1 : l1[q]? = some (l1[q]'(by rw [HM.out]; exact hlt)) := List.getElem?_eq_getElem _
   generalize (l1[q]'(by rw [HM.out]; exact hlt)) = g at hg1
   have sg := HG.out g (List.mem_of_getElem? hg1)
   obtain ⟨b1, o1, A3, cp3, rfl, hlo1, hlb1, d1, hI1, _⟩ := (HA.out.below hB (Nat.le_refl _)).at hg1
   have hc := fun W (h : HasI W lo1 A3 g) => index_any A3 cp3 g c lo1 W h sg
   have HG1 := Lib.hid hg1
   have HI1 := Lib.hid hI1
   obtain ⟨p, hp⟩ : ∃ p, g.length = p := ⟨_, rfl⟩
   rw [hp] at d1 hc
   clear hp hg1 hI1
   have i1 : (q : Int) < (m : Int) := by omega
   have i0 : (0 : Int) ≤ (q : Int) := by omega
   cases h1 : at1 c g with
   | some k =>
    have HS := Lib.hid (atG_some hH.out HG1.out h1)
    have ha : atI c g = (k : Int) := by unfold atI; rw [h1]
    rw [ha] at hc
    clear h1 ha
    go_wp2_with fail
    refine (hc _ HI1.out).mono ?_
    rintro e w2 ⟨rfl, rfl⟩
    clear d1 hc
    go_wp2
    refine bodyPost_ret (results_tmp3 rfl _ _ _) rfl ?_
    exact HPG.out _ q k HS.out hB
   | none =>
    have hn := at1_none.1 h1
    have HE : Hid (∀ j < q + 1, ∀ k, l1[j]? = some k → c ∉ k) := Lib.hid (fun j hj k hk => by
     by_cases hjq : j < q
     ·exact hH.out j hjq k hk
     ·obtain rfl : j = q := by omega
      rw [HG1.out] at hk
      injection hk with hk
      subst hk
      exact hn)
    have ha : atI c g = -1 := by unfold atI; rw [h1]
    rw [ha] at hc
    clear h1 ha hn
    go_wp2_with fail
    refine (hc _ HI1.out).mono ?_
    rintro e w2 ⟨rfl, rfl⟩
    clear d1 hc
    go_wp2
    go_roundw
    case rel => exact ⟨q + 1, by omega, by go_num, HE, hB⟩
    case measure => simp [intOf]; omega
  ·obtain rfl : q = m := by omega
   have HQ : Hid (atG c l1 = none) := Lib.hid (atG_none.2 (fun g hg => by
    obtain ⟨i, hi, e⟩ := List.mem_iff_getElem.1 hg
    exact hH.out i (by rw [← HM.out]; exact hi) g (by rw [List.getElem?_eq_getElem hi, e])))
   go_wp2
   refine bodyPost_ret (results_tmp3 rfl _ _ _) rfl ?_
   exact HPB.out _ HQ.out hB

/-- As long as another one, and all of it there: in another order. -/
theorem perm_of_sub : ∀ (l m : List Int), l.Nodup → (∀ x ∈ l, x ∈ m) → m.length ≤ l.length → m.Perm l
 | [], m, _, _, h => by
  have : m = [] := List.eq_nil_of_length_eq_zero (by simpa using h)
  rw [this]
 | a :: l, m, hn, hs, h => by
  have ha : a ∈ m := hs a (List.mem_cons_self ..)
  have hn' := List.nodup_cons.1 hn
  have ih := perm_of_sub l (m.erase a) hn'.2 (fun x hx => by
   have hxa : x ≠ a := fun e => hn'.1 (by rw [← e]; exact hx)
   exact (List.mem_erase_of_ne hxa).2 (hs x (List.mem_cons_of_mem _ hx))) (by
   rw [List.length_erase_of_mem ha]
   simp only [List.length_cons] at h
   omega)
  exact (List.perm_cons_erase ha).trans (ih.cons a)
theorem sub_flat : ∀ {l : List (List Int)} {g : List Int}, g ∈ l → g.Sublist l.flatten
 | [], g, h => by simp at h
 | k :: l, g, h => by
  rw [List.flatten_cons]
  rcases List.mem_cons.1 h with rfl | h
  ·exact List.sublist_append_left _ _
  ·exact (sub_flat h).trans (List.sublist_append_right _ _)
theorem heads_sub : ∀ {l : List (List Int)}, (∀ g ∈ l, g ≠ []) → (l.map (fun g => g.headD 0)).Sublist l.flatten
 | [], _ => List.Sublist.refl _
 | g :: l, h => by
  have ih := heads_sub (fun k hk => h k (List.mem_cons_of_mem _ hk) : ∀ k ∈ l, k ≠ [])
  cases g with
  | nil => exact absurd rfl (h [] (List.mem_cons_self ..))
  | cons a g =>
   rw [List.flatten_cons, List.map_cons, List.cons_append]
   exact List.Sublist.cons_cons a (ih.trans (List.sublist_append_right _ _))
theorem lt_of_le {l : List Int} (h : l.Pairwise (· ≤ ·)) (hn : l.Nodup) : l.Pairwise (· < ·) := (h.and hn).imp (fun {a b} hab => by have := hab.1; have := hab.2; omega)
theorem split_of {l : List (List Int)} {n : Nat} (n1 : 1 ≤ n) (n8 : n ≤ 8) (hl : l.flatten.length = n) (ha : ∀ c < n, (c : Int) ∈ l.flatten) (hg : ∀ g ∈ l, g ≠ [] ∧ g.Pairwise (· ≤ ·)) (hh : (l.map (fun g => g.headD 0)).Pairwise (· ≤ ·)) : IsSplit l n := by
 have hp : l.flatten.Perm (upTo n) := perm_of_sub _ _ (nodup_of_ris (upTo_ris n)) (fun x hx => by
  have hx := mem_upTo.1 hx
  have := ha x.toNat (by omega)
  rwa [show ((x.toNat : Nat) : Int) = x by omega] at this) (by rw [upTo_len]; omega)
 have hn : l.flatten.Nodup := hp.nodup_iff.2 (nodup_of_ris (upTo_ris n))
 have hne : ∀ g ∈ l, g ≠ [] := fun g h => (hg g h).1
 exact ⟨n1, n8, hne, fun g h => lt_of_le (hg g h).2 (List.Nodup.sublist (sub_flat h) hn), lt_of_le hh (List.Nodup.sublist (heads_sub hne) hn), fun x hx => mem_upTo.1 (hp.mem_iff.1 hx), hn, hl⟩
theorem le_of_lt {l : List Int} (h : l.Pairwise (· < ·)) : l.Pairwise (· ≤ ·) := h.imp (fun {a b} hab => Int.le_of_lt hab)
open Classical in
/-- Just the columns 0, 1 and so on, in so many places? -/
noncomputable def wholeB (l : List (List Int)) (n : Nat) : Bool := decide (l.flatten.length = n ∧ ∀ c < n, (c : Int) ∈ l.flatten)
/-- Groups of columns in order, in order? -/
def orderB (l : List (List Int)) : Bool := decide ((∀ g ∈ l, g ≠ [] ∧ g.Pairwise (· ≤ ·)) ∧ (l.map (fun g => g.headD 0)).Pairwise (· ≤ ·))
theorem right_whole {l : List (List Int)} {n : Nat} (n1 : 1 ≤ n) (n8 : n ≤ 8) : (wholeB l n = false → rightSp l n = false) ∧ (wholeB l n = true → rightSp l n = orderB l) := by
 unfold wholeB orderB
 refine ⟨fun h => rightSp_nat.2 fun hs => of_decide_eq_false h ⟨hs.len, fun c hc => hs.all (by omega) (by omega)⟩, fun h => ?_⟩
 obtain ⟨h1, h2⟩ := of_decide_eq_true h
 by_cases h3 : (∀ g ∈ l, g ≠ [] ∧ g.Pairwise (· ≤ ·)) ∧ (l.map (fun g => g.headD 0)).Pairwise (· ≤ ·)
 ·rw [decide_eq_true h3]
  exact rightSp_nat.1 (split_of n1 n8 h1 h2 h3.1 h3.2)
 ·rw [decide_eq_false h3]
  exact rightSp_nat.2 fun hs => h3 ⟨fun g hg => ⟨hs.ne g hg, le_of_lt (hs.ris g hg)⟩, le_of_lt hs.hd⟩
theorem flat_le : ∀ {l : List (List Int)} {B : Nat}, (∀ g ∈ l, g.length ≤ B) → l.flatten.length ≤ l.length * B
 | [], B, _ => by simp
 | g :: l, B, h => by
  have ih := flat_le (fun k hk => h k (List.mem_cons_of_mem _ hk) : ∀ k ∈ l, k.length ≤ B)
  have := h g (List.mem_cons_self ..)
  rw [List.flatten_cons, List.length_append, List.length_cons, Nat.add_mul]
  omega

set_option maxRecDepth 20000 in
set_option maxHeartbeats 3200000 in
theorem whole_any (A1 : Option Addr) (cp1 : Nat) (l1 : List (List Int)) (n : Nat) (lo1 : Nat) (w : World) (h1 : HasLL w lo1 A1 l1) (hl1 : l1.length ≤ 200000) (hg1 : ∀ g ∈ l1, g.length ≤ 17592186044416) (hn : n ≤ 8) :
  Calls Tryd.prog 70 #[.slice A1 l1.length cp1, .int .i64 n] w fun e w' => e = .returned (.bool (wholeB l1 n)) ∧ Below w.heap.size w w' := by
 have hR : (l1.flatten.length = n → (∀ c < n, (c : Int) ∈ l1.flatten) → wholeB l1 n = true) ∧ (l1.flatten.length ≠ n → wholeB l1 n = false) ∧ (∀ c < n, (c : Int) ∉ l1.flatten → wholeB l1 n = false) := by
  unfold wholeB
  exact ⟨fun h1 h2 => decide_eq_true ⟨h1, h2⟩, fun h => decide_eq_false fun h' => h h'.1, fun c hc h => decide_eq_false fun h' => h (h'.2 c hc)⟩
 generalize wholeB l1 n = r at hR ⊢
 have HR := Lib.hid hR
 have hf := fun (c : Int) (W : World) (h : HasLL W lo1 A1 l1) => find_any A1 cp1 l1 c lo1 W h hl1 hg1
 have hsz : ∀ q ≤ l1.length, (l1.take q).flatten.length ≤ 3518437208883200000 := fun q hq => by
  have := flat_le (l := l1.take q) (B := 17592186044416) (fun g hg => hg1 g (List.mem_of_mem_take hg))
  rw [List.length_take] at this
  have h2 : min q l1.length * 17592186044416 ≤ 200000 * 17592186044416 := Nat.mul_le_mul_right _ (by omega)
  omega
 obtain ⟨m, hm⟩ : ∃ m, l1.length = m := ⟨_, rfl⟩
 rw [hm] at hl1 hsz hf ⊢
 have HA := Lib.hid h1
 have HM := Lib.hid hm
 have HG := Lib.hid hg1
 have HSZ := Lib.hid hsz
 clear h1 hm hg1 hR hsz
 go_enter Tryd.func70, Tryd.ntmps70
 go_wp2
 go_loopw [5, 14] (fun x i wr => ∃ q u : Nat, q ≤ m ∧ i = .int .i64 q ∧ x = .int .i64 u ∧ u ≤ 3518437208883200000 ∧ Hid (u = (l1.take q).flatten.length) ∧ Below w.heap.size w wr) (fun _ i _ => m - (intOf i).toNat)
 case atStart => exact ⟨0, 0, Nat.zero_le _, rfl, rfl, by omega, Lib.hid (by simp), Below.refl _ w⟩
 case round =>
  obtain ⟨q, u, hq, rfl, rfl, hu, hH, hB⟩ := hrel
  by_cases hlt : q < m
  ·have hg1 : l1[q]? = some (l1[q]'(by rw [HM.out]; exact hlt)) := List.getElem?_eq_getElem _
   generalize (l1[q]'(by rw [HM.out]; exact hlt)) = g at hg1
   have sg := HG.out g (List.mem_of_getElem? hg1)
   obtain ⟨b1, o1, A3, cp3, rfl, hlo1, hlb1, d1, hI1, _⟩ := (HA.out.below hB (Nat.le_refl _)).at hg1
   have hu2 : u + g.length = (l1.take (q + 1)).flatten.length := by rw [take_flat hg1, List.length_append, hH.out]
   have hu3 := HSZ.out (q + 1) (by omega)
   rw [← hu2] at hu3
   obtain ⟨p, hp⟩ : ∃ p, g.length = p := ⟨_, rfl⟩
   rw [hp] at d1 sg hu2 hu3
   have HU := Lib.hid hu2
   clear hp hg1 hI1 hu2
   have i1 : (q : Int) < (m : Int) := by omega
   have i0 : (0 : Int) ≤ (q : Int) := by omega
   go_wp2
   clear d1
   go_roundw
   case rel => exact ⟨q + 1, u + p, by omega, by go_num, by go_num, hu3, HU, hB⟩
   case measure => simp [intOf]; omega
  ·obtain rfl : q = m := by omega
   have e : l1.take q = l1 := by rw [← HM.out]; exact List.take_length
   have hu2 := hH.out
   rw [e] at hu2
   by_cases hun : u = n
   ·have HU : Hid (l1.flatten.length = n) := Lib.hid (by rw [← hu2]; exact hun)
    subst hun
    have hne : ((u : Int) != (u : Int)) = false := by simp
    clear hu2 e hu
    go_wp2
    go_loopw [27] (fun i wr => ∃ k : Nat, k ≤ u ∧ i = .int .i64 k ∧ Hid (∀ c < k, (c : Int) ∈ l1.flatten) ∧ Below w.heap.size w wr) (fun i _ => u - (intOf i).toNat)
    case atStart => exact ⟨0, Nat.zero_le _, rfl, Lib.hid (fun c hc => absurd hc (Nat.not_lt_zero c)), hB⟩
    case round =>
     clear hB
     obtain ⟨k, hk, rfl, hK, hB⟩ := hrel
     by_cases hku : k < u
     ·have k1 : (k : Int) < (u : Int) := by omega
      go_wp2_with fail
      refine (hf (k : Int) _ (HA.out.below hB (Nat.le_refl _))).mono ?_
      rintro e w2 ⟨a1, a2, bb, rfl, hT, hF, hw2⟩
      have hB := hB.trans (hw2.mono hB.size)
      cases bb with
      | true =>
       have HE : Hid (∀ c < k + 1, (c : Int) ∈ l1.flatten) := Lib.hid (fun c hc => by
        by_cases hck : c < k
        ·exact hK.out c hck
        ·obtain rfl : c = k := by omega
         apply Classical.byContradiction
         intro hn
         have := atG_none.2 (fun g hg hcg => hn (List.mem_flatten.2 ⟨g, hg, hcg⟩))
         rw [this] at hT
         cases hT rfl)
       clear hT hF hw2
       go_wp2
       go_roundw
       case rel => exact ⟨k + 1, by omega, by go_num, HE, hB⟩
       case measure => simp [intOf]; omega
      | false =>
       have HQ : Hid (r = false) := Lib.hid (HR.out.2.2 k hku (fun hm => by
        obtain ⟨g, hg, hcg⟩ := List.mem_flatten.1 hm
        exact atG_none.1 (hF rfl).1 g hg hcg))
       clear hT hF hw2
       go_wp2
       go_ret
       exact ⟨by rw [HQ.out]; rfl, hB⟩
     ·obtain rfl : k = u := by omega
      have HQ : Hid (r = true) := Lib.hid (HR.out.1 HU.out hK.out)
      go_wp2
      go_ret
      exact ⟨by rw [HQ.out]; rfl, hB⟩
   ·have HQ : Hid (r = false) := Lib.hid (HR.out.2.1 (by rw [← hu2]; exact hun))
    have hne : ((u : Int) != (n : Int)) = true := bne_iff_ne.2 (by omega)
    clear hu2 e
    go_wp2
    go_ret
    exact ⟨by rw [HQ.out]; rfl, hB⟩

set_option maxRecDepth 20000 in
set_option maxHeartbeats 3200000 in
theorem order_any (A1 : Option Addr) (cp1 : Nat) (l1 : List (List Int)) (lo1 : Nat) (w : World) (h1 : HasLL w lo1 A1 l1) (hl1 : l1.length ≤ 200000) (hg1 : ∀ g ∈ l1, g.length ≤ 17592186044416) :
  Calls Tryd.prog 71 #[.slice A1 l1.length cp1] w fun e w' => e = .returned (.bool (orderB l1)) ∧ Below w.heap.size w w' := by
 obtain ⟨i0, hi, hz0, hz1, hz2⟩ := info_parts infoI
 have hR : ((∀ g ∈ l1, g ≠ [] ∧ g.Pairwise (· ≤ ·)) → orderB l1 = sortB (l1.map (fun g => g.headD 0))) ∧ (∀ g ∈ l1, ¬ (g ≠ [] ∧ g.Pairwise (· ≤ ·)) → orderB l1 = false) := by
  unfold orderB sortB
  exact ⟨fun h1 => decide_eq_decide.2 ⟨fun h => h.2, fun h => ⟨h1, h⟩⟩, fun g hg h => decide_eq_false fun h' => h (h'.1 g hg)⟩
 generalize orderB l1 = r at hR ⊢
 have HR := Lib.hid hR
 obtain ⟨m, hm⟩ : ∃ m, l1.length = m := ⟨_, rfl⟩
 rw [hm] at hl1 ⊢
 have HA := Lib.hid h1
 have HM := Lib.hid hm
 have HG := Lib.hid hg1
 clear h1 hm hg1 hR
 go_enter Tryd.func71, Tryd.ntmps71
 go_wp2
 go_loopw [3, 8] (fun x i wr => ∃ (q : Nat) (sv : Value), q ≤ m ∧ i = .int .i64 q ∧ x = sv ∧ wr.ownsRow w.heap.size 3 1 sv q (Li.cellsL cellsI ((l1.take q).map (fun g => g.headD 0))) ∧ Hid (∀ j < q, ∀ g, l1[j]? = some g → g ≠ [] ∧ g.Pairwise (· ≤ ·)) ∧ Below w.heap.size w wr) (fun _ i _ => m - (intOf i).toNat)
 case atStart => exact ⟨0, _, Nat.zero_le _, rfl, rfl, by simpa [Li.cellsL] using World.ownsRow_nil _ _ _ _, Lib.hid (fun j hj => absurd hj (Nat.not_lt_zero j)), Below.refl _ w⟩
 case round =>
  obtain ⟨q, sv, hq, rfl, rfl, hown, hH, hB⟩ := hrel
  by_cases hlt : q < m
  ·have hg1 : l1[q]? = some (l1[q]'(by rw [HM.out]; exact hlt)) := List.getElem?_eq_getElem _
   generalize (l1[q]'(by rw [HM.out]; exact hlt)) = g at hg1
   have sg := HG.out g (List.mem_of_getElem? hg1)
   obtain ⟨b1, o1, A3, cp3, rfl, hlo1, hlb1, d1, hI1, _⟩ := (HA.out.below hB (Nat.le_refl _)).at hg1
   have hc := fun W (h : HasI W lo1 A3 g) => sorted_any A3 cp3 g lo1 W h sg
   have HG1 := Lib.hid hg1
   obtain ⟨p, hp⟩ : ∃ p, g.length = p := ⟨_, rfl⟩
   rw [hp] at d1 hc
   have HP := Lib.hid hp
   have i1 : (q : Int) < (m : Int) := by omega
   have i0' : (0 : Int) ≤ (q : Int) := by omega
   by_cases hp0 : p = 0
   ·have HQ : Hid (r = false) := Lib.hid (HR.out.2 g (List.mem_of_getElem? HG1.out) (fun h => h.1 (List.eq_nil_of_length_eq_zero (by rw [HP.out]; exact hp0))))
    subst hp0
    clear hc hp hg1 hI1
    go_wp2
    go_ret
    exact ⟨by rw [HQ.out]; rfl, hB⟩
   have hp0' : ((p : Int) == 0) = false := beq_eq_false_iff_ne.2 (by omega)
   have hx0 : g[0]? = some (g[0]'(by rw [HP.out]; omega)) := List.getElem?_eq_getElem _
   generalize (g[0]'(by rw [HP.out]; omega)) = y0 at hx0
   have HX0 := Lib.hid hx0
   have HI1 := Lib.hid hI1
   clear hx0 hp hg1 hI1
   cases hs : sortB g with
   | false =>
    have HQ : Hid (r = false) := Lib.hid (HR.out.2 g (List.mem_of_getElem? HG1.out) (fun h => of_decide_eq_false hs h.2))
    rw [hs] at hc
    clear hs
    go_wp2_with fail
    refine (hc _ HI1.out).mono ?_
    rintro e w2 ⟨rfl, hw2⟩
    have hB := hB.trans (hw2.mono hB.size)
    clear hw2 hc d1
    go_wp2
    go_ret
    exact ⟨by rw [HQ.out]; rfl, hB⟩
   | true =>
    have HE : Hid (∀ j < q + 1, ∀ g, l1[j]? = some g → g ≠ [] ∧ g.Pairwise (· ≤ ·)) := Lib.hid (fun j hj k hk => by
     by_cases hjq : j < q
     ·exact hH.out j hjq k hk
     ·obtain rfl : j = q := by omega
      rw [HG1.out] at hk
      injection hk with hk
      subst hk
      exact ⟨fun e => hp0 (by rw [← HP.out, e]; rfl), of_decide_eq_true hs⟩)
    have HF : Hid ((l1.take (q + 1)).map (fun g => g.headD 0) = (l1.take q).map (fun g => g.headD 0) ++ [y0]) := Lib.hid (by
     rw [List.take_add_one, HG1.out]
     simp only [Option.toList_some, List.map_append, List.map_cons, List.map_nil]
     rw [head_at HX0.out])
    generalize (l1.take q).map (fun g => g.headD 0) = L at HF hown
    rw [hs] at hc
    clear hs
    go_wp2_with fail
    refine (hc _ HI1.out).mono ?_
    rintro e w2 ⟨rfl, hw2⟩
    have hB := hB.trans (hw2.mono hB.size)
    have hown := Li.own_below hown hw2 (Nat.le_refl _)
    have hI2 : HasI w2 lo1 A3 g := HI1.out.below hw2 (Nat.le_refl _)
    clear hw2 hc d1
    obtain ⟨b5, o5, rfl, _, hlb5, f1⟩ := hI2.at HX0.out
    rw [Nat.add_zero] at f1
    have j1 : (0 : Int) < (p : Int) := by omega
    have HW := Lib.hid (And.intro (hown.alloc (.cells #[.int .i64 y0] 3)) (And.intro (hB.alloc hB.size (.cells #[.int .i64 y0] 3)) (heap_alloc_new w2 (.cells #[.int .i64 y0] 3))))
    clear hown hB hI2 hlb5
    go_wp2_with (at_builtin; go_must (refine wpList_append_own _ rfl _ _ 67 rfl w.heap.size 3 i0 (.int .i64 0) 1 8 Tryd.underlying67 hi hz0 hz1 hz2 rfl (by decide) u3 q (Li.cellsL cellsI L) rfl HW.out.1 ⟨w2.heap.size, 0, none⟩ 1 1 [.int .i64 y0] rfl rfl (World.news_of_block HW.out.2.2) (by simp [Value.oneCell']) (by unfold maxLen; omega) (by omega) HW.out.2.1.size ?_))
    intro v5 y5 hown5 hgrow5 _
    obtain ⟨hownW, hbW, hnW⟩ := HW.out
    have hB := hbW.grown hgrow5 hbW.size (fun k hk => (hownW.lt k hk).1)
    clear hownW hbW hnW hgrow5 HW f1
    go_wp2
    go_roundw
    case rel =>
     refine ⟨q + 1, _, by omega, by go_num, rfl, ?_, HE, hB⟩
     rw [HF.out, Li.cellsL_snoc]
     exact hown5
    case measure => simp [intOf]; omega
  ·obtain rfl : q = m := by omega
   have e : l1.take q = l1 := by rw [← HM.out]; exact List.take_length
   rw [e] at hown
   have hlen : (l1.map (fun g => g.headD 0)).length = q := by rw [List.length_map]; exact HM.out
   obtain ⟨A, c, rfl, hc', hl⟩ := Li.list_of_own cellsI_len hown hlen
   have hc := sorted_any A c _ w.heap.size wr hl (by omega)
   rw [hlen] at hc
   have HQ : Hid (r = sortB (l1.map (fun g => g.headD 0))) := Lib.hid (HR.out.1 (fun g hg => by
    obtain ⟨i, hi, e⟩ := List.mem_iff_getElem.1 hg
    exact hH.out i (by rw [← HM.out]; exact hi) g (by rw [List.getElem?_eq_getElem hi, e])))
   generalize sortB (l1.map (fun g => g.headD 0)) = z at hc HQ
   clear hown hl e hlen
   go_wp2_with fail
   refine hc.mono ?_
   rintro e w2 ⟨rfl, hw2⟩
   have hB := hB.trans (hw2.mono hB.size)
   clear hw2 hc
   go_wp2
   go_ret
   exact ⟨by rw [HQ.out]; rfl, hB⟩

set_option maxRecDepth 20000 in
set_option maxHeartbeats 3200000 in
theorem right_any (A1 : Option Addr) (cp1 : Nat) (l1 : List (List Int)) (cols : Int) (lo1 : Nat) (w : World) (h1 : HasLL w lo1 A1 l1) (hl1 : l1.length ≤ 200000) (hg1 : ∀ g ∈ l1, g.length ≤ 17592186044416) (hc0 : -9223372036854775808 ≤ cols) (hc1 : cols ≤ 9223372036854775807) :
  Calls Tryd.prog 51 #[.slice A1 l1.length cp1, .int .i64 cols] w fun e w' => e = .returned (.bool (rightSp l1 cols)) ∧ Below w.heap.size w w' := by
 by_cases q1 : cols < 1
 ·have hR := rightSp_out (l := l1) (Or.inl q1)
  generalize rightSp l1 cols = r at hR ⊢
  subst hR
  go_enter Tryd.func51, Tryd.ntmps51
  go_wp2
  go_ret
  exact ⟨rfl, Below.refl _ w⟩
 by_cases q2 : 8 < cols
 ·have hR := rightSp_out (l := l1) (Or.inr q2)
  generalize rightSp l1 cols = r at hR ⊢
  subst hR
  go_enter Tryd.func51, Tryd.ntmps51
  go_wp2
  go_ret
  exact ⟨rfl, Below.refl _ w⟩
 obtain ⟨n, rfl⟩ : ∃ n : Nat, cols = (n : Int) := ⟨cols.toNat, by omega⟩
 have hR := right_whole (l := l1) (n := n) (by omega) (by omega)
 have hw := whole_any A1 cp1 l1 n lo1 w h1 hl1 hg1 (by omega)
 have ho := fun (W : World) (h : HasLL W lo1 A1 l1) => order_any A1 cp1 l1 lo1 W h hl1 hg1
 generalize rightSp l1 (n : Int) = r at hR ⊢
 generalize wholeB l1 n = x at hR hw
 generalize orderB l1 = y at hR ho
 have n8 : (n : Int) ≤ 8 := by omega
 have n1 : (1 : Int) ≤ n := by omega
 have HA := Lib.hid h1
 generalize l1.length = m at hw ho ⊢
 clear q1 q2 hc0 hc1 h1 hl1 hg1
 cases x with
 | false =>
  have HQ := Lib.hid (hR.1 rfl)
  clear hR
  go_enter Tryd.func51, Tryd.ntmps51
  go_wp2_with fail
  refine hw.mono ?_
  rintro e w2 ⟨rfl, hB⟩
  clear hw
  go_wp2
  go_ret
  exact ⟨by rw [HQ.out]; rfl, hB⟩
 | true =>
  have HQ := Lib.hid (hR.2 rfl)
  clear hR
  go_enter Tryd.func51, Tryd.ntmps51
  go_wp2_with fail
  refine hw.mono ?_
  rintro e w2 ⟨rfl, hB⟩
  clear hw
  go_wp2_with fail
  refine (ho _ (HA.out.below hB (Nat.le_refl _))).mono ?_
  rintro e w3 ⟨rfl, hw3⟩
  have hB := hB.trans (hw3.mono hB.size)
  clear hw3 ho
  go_wp2
  go_ret
  exact ⟨by rw [HQ.out]; rfl, hB⟩
end Go.Proofs.YtpnnkhpokangfaaDoor.Sp
