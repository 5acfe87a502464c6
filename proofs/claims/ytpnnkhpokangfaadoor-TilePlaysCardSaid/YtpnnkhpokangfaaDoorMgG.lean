/- Texts SpA, SpB, SpC, SpD, SpE, SpF, SpG, one behind the other. -/
import Derived.Test.YtpnnkhpokangfaaDoorMgP
import Derived.Test.YtpnnkhpokangfaaDoorMgL
import Derived.OwnWalk
import Derived.Laws.OwnMore
/- Splits, plainly: what may be, where a column is, groups joined. No program. -/
namespace Go.Proofs.YtpnnkhpokangfaaDoor.Sp

/-- Is it a split of so many columns? -/
structure IsSplit (l : List (List Int)) (n : Nat) : Prop where
 n1 : 1 ≤ n
 n8 : n ≤ 8
 ne : ∀ g ∈ l, g ≠ []
 ris : ∀ g ∈ l, g.Pairwise (· < ·)
 hd : (l.map (fun g => g.headD 0)).Pairwise (· < ·)
 rng : ∀ x ∈ l.flatten, 0 ≤ x ∧ x < (n : Int)
 nd : l.flatten.Nodup
 len : l.flatten.length = n

theorem nodup_of_ris {l : List Int} (h : l.Pairwise (· < ·)) : l.Nodup := h.imp (fun {a b} hab e => by subst e; exact Int.lt_irrefl a hab)
/-- Rising from each to the next one, it rises. -/
theorem ris_of_step : ∀ (l : List Int), (∀ (k : Nat) (a b : Int), l[k]? = some a → l[k + 1]? = some b → a < b) → l.Pairwise (· < ·)
 | [], _ => List.Pairwise.nil
 | [a], _ => List.pairwise_singleton _ _
 | a :: b :: l, h => by
  have ih := ris_of_step (b :: l) (fun k x y hx hy => h (k + 1) x y (by simpa using hx) (by simpa using hy))
  have hab : a < b := h 0 a b rfl rfl
  refine List.pairwise_cons.2 ⟨fun x hx => ?_, ih⟩
  rcases List.mem_cons.1 hx with rfl | hx
  ·exact hab
  ·exact Int.lt_trans hab ((List.pairwise_cons.1 ih).1 x hx)
theorem step_of_ris {l : List Int} (h : l.Pairwise (· < ·)) {k : Nat} {a b : Int} (ha : l[k]? = some a) (hb : l[k + 1]? = some b) : a < b := by
 obtain ⟨hk, rfl⟩ := List.getElem?_eq_some_iff.1 ha
 obtain ⟨hk2, rfl⟩ := List.getElem?_eq_some_iff.1 hb
 exact List.pairwise_iff_getElem.1 h k (k + 1) hk hk2 (Nat.lt_succ_self k)

/-- No more unlike ones than there are. -/
theorem len_le_of_sub : ∀ (l m : List Int), l.Nodup → (∀ x ∈ l, x ∈ m) → l.length ≤ m.length
 | [], m, _, _ => Nat.zero_le _
 | a :: l, m, hn, hs => by
  have ha : a ∈ m := hs a (List.mem_cons_self ..)
  have hn' := List.nodup_cons.1 hn
  have ih := len_le_of_sub l (m.erase a) hn'.2 (fun x hx => by
   have hxa : x ≠ a := fun e => hn'.1 (by rw [← e]; exact hx)
   exact (List.mem_erase_of_ne hxa).2 (hs x (List.mem_cons_of_mem _ hx)))
  rw [List.length_erase_of_mem ha] at ih
  have : 0 < m.length := List.length_pos_of_mem ha
  simp only [List.length_cons]
  omega
def upTo (n : Nat) : List Int := (List.range n).map (fun (k : Nat) => (k : Int))
theorem mem_upTo {n : Nat} {c : Int} : c ∈ upTo n ↔ 0 ≤ c ∧ c < n := by
 unfold upTo
 simp only [List.mem_map, List.mem_range]
 constructor
 ·rintro ⟨k, hk, rfl⟩
  omega
 ·rintro ⟨h0, h1⟩
  exact ⟨c.toNat, by omega, by omega⟩
theorem upTo_len (n : Nat) : (upTo n).length = n := by unfold upTo; simp
/-- Each column is there. -/
theorem IsSplit.all {l : List (List Int)} {n : Nat} (h : IsSplit l n) {c : Int} (h0 : 0 ≤ c) (h1 : c < n) : c ∈ l.flatten := by
 apply Classical.byContradiction
 intro hc
 have := len_le_of_sub (c :: l.flatten) (upTo n) (List.nodup_cons.2 ⟨hc, h.nd⟩) (fun x hx => by
  rcases List.mem_cons.1 hx with rfl | hx
  ·exact mem_upTo.2 ⟨h0, h1⟩
  ·exact mem_upTo.2 (h.rng x hx))
 rw [List.length_cons, h.len, upTo_len] at this
 omega
/-- The group of a column. -/
theorem IsSplit.group {l : List (List Int)} {n : Nat} (h : IsSplit l n) {c : Int} (h0 : 0 ≤ c) (h1 : c < n) : ∃ (i : Nat) (g : List Int), l[i]? = some g ∧ c ∈ g := by
 obtain ⟨g, hg, hc⟩ := List.mem_flatten.1 (h.all h0 h1)
 obtain ⟨i, hi⟩ := List.mem_iff_getElem?.1 hg
 exact ⟨i, g, hi, hc⟩
theorem one_group : ∀ {l : List (List Int)} {i j : Nat} {g k : List Int} {c : Int}, l.flatten.Nodup → l[i]? = some g → l[j]? = some k → c ∈ g → c ∈ k → i = j
 | [], _, _, _, _, _, _, hi, _, _, _ => by simp at hi
 | x :: l, i, j, g, k, c, hn, hi, hj, hg, hk => by
  rw [List.flatten_cons, List.nodup_append] at hn
  obtain ⟨hx, hl, hd⟩ := hn
  cases i with
  | zero =>
   have hi : x = g := by simpa using hi
   subst hi
   cases j with
   | zero => rfl
   | succ j =>
    have hj : l[j]? = some k := by simpa using hj
    exact absurd rfl (hd c hg c (List.mem_flatten.2 ⟨k, List.mem_of_getElem? hj, hk⟩))
  | succ i =>
   have hi : l[i]? = some g := by simpa using hi
   cases j with
   | zero =>
    have hj : x = k := by simpa using hj
    subst hj
    exact absurd rfl (hd c hk c (List.mem_flatten.2 ⟨g, List.mem_of_getElem? hi, hg⟩))
   | succ j =>
    have hj : l[j]? = some k := by simpa using hj
    rw [one_group hl hi hj hg hk]
/-- Where a group has gone, when b has come to a (a < b). -/
def went (a b i : Nat) : Nat := if i = b then a else if i < b then i else i - 1
end Go.Proofs.YtpnnkhpokangfaaDoor.Sp

/- Splits, plainly: the plain ones, how many; printed and read. No program. -/
namespace Go.Proofs.YtpnnkhpokangfaaDoor.Sp
open Pac

theorem upTo_at {n k : Nat} {a : Int} (h : (upTo n)[k]? = some a) : k < n ∧ a = (k : Int) := by
 unfold upTo at h
 rw [List.getElem?_map] at h
 by_cases hk : k < n
 ·rw [List.getElem?_range hk] at h
  exact ⟨hk, (Option.some.inj h).symm⟩
 ·rw [List.getElem?_eq_none (by rw [List.length_range]; omega)] at h
  cases h
theorem upTo_ris (n : Nat) : (upTo n).Pairwise (· < ·) := ris_of_step _ fun k a b ha hb => by
 obtain ⟨_, rfl⟩ := upTo_at ha
 obtain ⟨_, rfl⟩ := upTo_at hb
 omega
def oneS (n : Nat) : List (List Int) := if n = 0 then [] else [upTo n]
def eachS (n : Nat) : List (List Int) := (upTo n).map (fun c => [c])
theorem each_flat (n : Nat) : (eachS n).flatten = upTo n := by
 unfold eachS
 generalize upTo n = l
 induction l with
 | nil => rfl
 | cons a l ih => simp only [List.map_cons, List.flatten_cons, ih]; rfl
theorem each_heads (n : Nat) : (eachS n).map (fun g => g.headD 0) = upTo n := by
 unfold eachS
 rw [List.map_map]
 exact (List.map_congr_left (fun x _ => rfl)).trans (List.map_id' _)
theorem one_split {n : Nat} (h1 : 1 ≤ n) (h8 : n ≤ 8) : IsSplit (oneS n) n := by
 have e : oneS n = [upTo n] := by unfold oneS; rw [if_neg (by omega)]
 rw [e]
 have hf : [upTo n].flatten = upTo n := by simp
 refine ⟨h1, h8, fun g hg => ?_, fun g hg => ?_, List.pairwise_singleton _ _, fun x hx => ?_, ?_, ?_⟩
 ·obtain rfl := List.mem_singleton.1 hg
  intro e
  have := upTo_len n
  rw [e] at this
  simp at this
  omega
 ·obtain rfl := List.mem_singleton.1 hg
  exact upTo_ris n
 ·rw [hf] at hx
  exact mem_upTo.1 hx
 ·rw [hf]
  exact nodup_of_ris (upTo_ris n)
 ·rw [hf]
  exact upTo_len n
theorem each_split {n : Nat} (h1 : 1 ≤ n) (h8 : n ≤ 8) : IsSplit (eachS n) n := by
 refine ⟨h1, h8, fun g hg => ?_, fun g hg => ?_, ?_, fun x hx => ?_, ?_, ?_⟩
 ·obtain ⟨c, _, rfl⟩ := List.mem_map.1 hg
  intro e
  cases e
 ·obtain ⟨c, _, rfl⟩ := List.mem_map.1 hg
  exact List.pairwise_singleton _ _
 ·rw [each_heads]
  exact upTo_ris n
 ·rw [each_flat] at hx
  exact mem_upTo.1 hx
 ·rw [each_flat]
  exact nodup_of_ris (upTo_ris n)
 ·rw [each_flat]
  exact upTo_len n
/-- As many as there are groups, at least. -/
theorem len_flat : ∀ {l : List (List Int)}, (∀ g ∈ l, g ≠ []) → l.length ≤ l.flatten.length
 | [], _ => Nat.zero_le _
 | g :: l, hne => by
  have ih := len_flat (fun k hk => hne k (List.mem_cons_of_mem _ hk) : ∀ k ∈ l, k ≠ [])
  have : 0 < g.length := List.length_pos_iff.2 (hne g (List.mem_cons_self ..))
  rw [List.flatten_cons, List.length_append, List.length_cons]
  omega
theorem IsSplit.few {l : List (List Int)} {n : Nat} (h : IsSplit l n) : l.length ≤ n := by
 have := len_flat h.ne
 rw [h.len] at this
 exact this
theorem IsSplit.only {l : List (List Int)} {n m : Nat} (h : IsSplit l n) (h' : IsSplit l m) : n = m := by rw [← h.len, h'.len]

theorem in_len : ∀ {l : List (List Int)} {g : List Int}, g ∈ l → g.length ≤ l.flatten.length
 | [], g, h => by simp at h
 | k :: l, g, h => by
  rw [List.flatten_cons, List.length_append]
  rcases List.mem_cons.1 h with rfl | h
  ·omega
  ·have := in_len h
   omega
end Go.Proofs.YtpnnkhpokangfaaDoor.Sp

/- Groups in memory; whether two are the same, where a column is: the document's, walked. -/
namespace Go.Proofs.YtpnnkhpokangfaaDoor.Sp
open Go.RowKit Pac Lex

def cellsI (i : Int) : List Value := [.int .i64 i]
theorem cellsI_len (i : Int) : (cellsI i).length = 1 := rfl
/-- The slice at A holds these numbers. -/
abbrev HasI (w : World) (lo : Nat) (A : Option Addr) (l : List Int) : Prop := Li.HasL cellsI 1 w lo A l
theorem HasI.at {w : World} {lo : Nat} {A : Option Addr} {l : List Int} (h : HasI w lo A l) {q : Nat} {a : Int} (hq : l[q]? = some a) : ∃ b o, A = some ⟨b, o, none⟩ ∧ lo ≤ b ∧ b < w.heap.size ∧ w.cell? ⟨b, o + q, none⟩ = some (.int .i64 a) := by
 obtain ⟨b, o, hA, hlo, hlt, hc⟩ := h (fun e => by rw [e] at hq; simp at hq)
 refine ⟨b, o, hA, hlo, hlt, ?_⟩
 have := hc q a hq 0 _ rfl
 rw [Nat.mul_one, Nat.add_zero] at this
 exact this
/-- A group, and where it lies. -/
structure G where
 A : Option Addr
 cp : Nat
 g : List Int
def cellsG (x : G) : List Value := [.slice x.A x.g.length x.cp]
theorem cellsG_len (x : G) : (cellsG x).length = 1 := rfl
/-- The slice at A holds these groups. -/
def HasLL (w : World) (lo : Nat) (A : Option Addr) (l : List (List Int)) : Prop :=
 ∃ hs : List G, hs.map G.g = l ∧ Li.HasL cellsG 1 w lo A hs ∧ ∀ x ∈ hs, HasI w lo x.A x.g ∧ x.g.length ≤ x.cp
theorem HasLL.at {w : World} {lo : Nat} {A : Option Addr} {l : List (List Int)} (h : HasLL w lo A l) {q : Nat} {g : List Int} (hq : l[q]? = some g) :
  ∃ b o A2 cp2, A = some ⟨b, o, none⟩ ∧ lo ≤ b ∧ b < w.heap.size ∧ w.cell? ⟨b, o + q, none⟩ = some (.slice A2 g.length cp2) ∧ HasI w lo A2 g ∧ g.length ≤ cp2 := by
 obtain ⟨hs, rfl, hA, hI⟩ := h
 rw [List.getElem?_map] at hq
 obtain ⟨x, hx, rfl⟩ := Option.map_eq_some_iff.1 hq
 obtain ⟨b, o, hA, hlo, hlt, hc⟩ := hA (fun e => by rw [e] at hx; simp at hx)
 have := hc q x hx 0 _ rfl
 rw [Nat.mul_one, Nat.add_zero] at this
 obtain ⟨h1, h2⟩ := hI x (List.mem_of_getElem? hx)
 exact ⟨b, o, x.A, x.cp, hA, hlo, hlt, this, h1, h2⟩
section
variable {w w' : World} {lo lo' B g : Nat} {A : Option Addr} {l : List (List Int)}
theorem HasLL.below (h : HasLL w lo A l) (hb : Below B w w') (hB : w.heap.size ≤ B) : HasLL w' lo A l := by
 obtain ⟨hs, e, hA, hI⟩ := h
 exact ⟨hs, e, hA.below hb hB, fun x hx => ⟨(hI x hx).1.below hb hB, (hI x hx).2⟩⟩
theorem HasLL.bar (h : HasLL w lo A l) (hb : Bar g w w') (hg : g < lo ∨ w.heap.size ≤ g) : HasLL w' lo A l := by
 obtain ⟨hs, e, hA, hI⟩ := h
 exact ⟨hs, e, hA.bar hb hg, fun x hx => ⟨(hI x hx).1.bar hb hg, (hI x hx).2⟩⟩
theorem HasLL.lower (h : HasLL w lo A l) (hl : lo' ≤ lo) : HasLL w lo' A l := by
 obtain ⟨hs, e, hA, hI⟩ := h
 exact ⟨hs, e, hA.lower hl, fun x hx => ⟨(hI x hx).1.lower hl, (hI x hx).2⟩⟩
theorem HasLL.nil (w : World) (lo : Nat) (A : Option Addr) : HasLL w lo A [] := ⟨[], rfl, Li.HasL.nil _ _ _, fun x hx => by simp at hx⟩
end
theorem ext_of {α : Type} {a b : List α} {m : Nat} (ha : a.length = m) (hb : b.length = m) (h : ∀ j < m, a[j]? = b[j]?) : a = b := by
 apply List.ext_getElem?
 intro j
 by_cases hj : j < m
 ·exact h j hj
 ·rw [List.getElem?_eq_none (by omega), List.getElem?_eq_none (by omega)]
theorem upto_succ {α : Type} {a b : List α} {q : Nat} {x : α} (h : ∀ j < q, a[j]? = b[j]?) (ha : a[q]? = some x) (hb : b[q]? = some x) : ∀ j < q + 1, a[j]? = b[j]? := fun j hj => by
 by_cases hq : j < q
 ·exact h j hq
 ·obtain rfl : j = q := by omega
  rw [ha, hb]

set_option maxRecDepth 20000 in
set_option maxHeartbeats 3200000 in
theorem refSame_any (A1 A2 : Option Addr) (cp1 cp2 : Nat) (l1 l2 : List (List Int)) (lo1 lo2 : Nat) (w : World) (h1 : HasLL w lo1 A1 l1) (h2 : HasLL w lo2 A2 l2) (hl1 : l1.length ≤ 9223372036854775807) (hl2 : l2.length ≤ 9223372036854775807) (hg1 : ∀ g ∈ l1, g.length ≤ 9223372036854775807) (hg2 : ∀ g ∈ l2, g.length ≤ 9223372036854775807) :
  Calls Tryd.prog 32 #[.slice A1 l1.length cp1, .slice A2 l2.length cp2] w fun e w' => e = .returned (.bool (decide (l1 = l2))) ∧ Below w.heap.size w w' := by
 have hR : (l1 ≠ l2 → decide (l1 = l2) = false) ∧ (l1 = l2 → decide (l1 = l2) = true) := ⟨fun h => decide_eq_false h, fun h => decide_eq_true h⟩
 generalize decide (l1 = l2) = r at hR ⊢
 have HR := Lib.hid hR
 clear hR
 obtain ⟨m, hm⟩ : ∃ m, l1.length = m := ⟨_, rfl⟩
 obtain ⟨m2, hm2⟩ : ∃ m, l2.length = m := ⟨_, rfl⟩
 rw [hm] at hl1 ⊢
 rw [hm2] at hl2 ⊢
 have HA := Lib.hid h1
 have HB := Lib.hid h2
 have HM := Lib.hid hm
 have HM2 := Lib.hid hm2
 have HG := Lib.hid (And.intro hg1 hg2)
 clear h1 h2 hm hm2 hg1 hg2
 go_enter Tryd.func32, Tryd.ntmps32
 by_cases hmm : m = m2
 ·subst hmm
  go_wp2
  go_loopw [5] (fun i wr => ∃ q : Nat, q ≤ m ∧ i = .int .i64 q ∧ Hid (∀ j < q, l1[j]? = l2[j]?) ∧ Below w.heap.size w wr) (fun i _ => m - (intOf i).toNat)
  case atStart => exact ⟨0, Nat.zero_le _, rfl, Lib.hid (fun j hj => absurd hj (Nat.not_lt_zero j)), Below.refl _ w⟩
  case round =>
   obtain ⟨q, hq, rfl, hH, hB⟩ := hrel
   by_cases hlt : q < m
   ·have hg1 : l1[q]? = some (l1[q]'(by rw [HM.out]; exact hlt)) := List.getElem?_eq_getElem _
    have hg2 : l2[q]? = some (l2[q]'(by rw [HM2.out]; exact hlt)) := List.getElem?_eq_getElem _
    generalize (l1[q]'(by rw [HM.out]; exact hlt)) = g at hg1
    generalize (l2[q]'(by rw [HM2.out]; exact hlt)) = k at hg2
    have sg := HG.out.1 g (List.mem_of_getElem? hg1)
    have sk := HG.out.2 k (List.mem_of_getElem? hg2)
    obtain ⟨b1, o1, A3, cp3, rfl, hlo1, hlb1, d1, hI1, _⟩ := (HA.out.below hB (Nat.le_refl _)).at hg1
    obtain ⟨b2, o2, A4, cp4, rfl, hlo2, hlb2, d2, hI2, _⟩ := (HB.out.below hB (Nat.le_refl _)).at hg2
    have HG1 := Lib.hid hg1
    have HG2 := Lib.hid hg2
    clear hg1 hg2
    obtain ⟨p, hp⟩ : ∃ p, g.length = p := ⟨_, rfl⟩
    obtain ⟨p2, hp2⟩ : ∃ p, k.length = p := ⟨_, rfl⟩
    rw [hp] at d1 sg
    rw [hp2] at d2 sk
    have HP := Lib.hid hp
    have HP2 := Lib.hid hp2
    clear hp hp2
    have HI1 := Lib.hid hI1
    have HI2 := Lib.hid hI2
    clear hI1 hI2
    have i1 : (q : Int) < (m : Int) := by omega
    have i0 : (0 : Int) ≤ (q : Int) := by omega
    by_cases hpp : p = p2
    ·subst hpp
     go_wp2
     go_quiet (fail)
     have hB := hB.trans (below_drewN (Below.refl w.heap.size wr) nq)
     go_wp2
     clear d1 d2
     go_loopw [6] (fun i wq => ∃ t : Nat, t ≤ p ∧ i = .int .i64 t ∧ Hid (∀ j < t, g[j]? = k[j]?) ∧ Below w.heap.size w wq) (fun i _ => p - (intOf i).toNat)
     case atStart => exact ⟨0, Nat.zero_le _, rfl, Lib.hid (fun j hj => absurd hj (Nat.not_lt_zero j)), hB⟩
     case round =>
      clear hB HI1 HI2
      obtain ⟨t, ht, rfl, hT, hB⟩ := hrel
      obtain ⟨b1', o1', A5, cp5, e1, hlo1', hlb1', d1, hI1, _⟩ := (HA.out.below hB (Nat.le_refl _)).at HG1.out
      obtain ⟨b2', o2', A6, cp6, e2, hlo2', hlb2', d2, hI2, _⟩ := (HB.out.below hB (Nat.le_refl _)).at HG2.out
      injection e1 with e1
      injection e1 with e1 e1'
      subst e1 e1'
      injection e2 with e2
      injection e2 with e2 e2'
      subst e2 e2'
      rw [HP.out] at d1
      rw [HP2.out] at d2
      clear hlo1' hlb1' hlo2' hlb2'
      by_cases htp : t < p
      ·have hx1 : g[t]? = some (g[t]'(by rw [HP.out]; exact htp)) := List.getElem?_eq_getElem _
       have hx2 : k[t]? = some (k[t]'(by rw [HP2.out]; exact htp)) := List.getElem?_eq_getElem _
       generalize (g[t]'(by rw [HP.out]; exact htp)) = x at hx1
       generalize (k[t]'(by rw [HP2.out]; exact htp)) = y at hx2
       obtain ⟨b5, o5, rfl, _, hlb5, f1⟩ := hI1.at hx1
       obtain ⟨b6, o6, rfl, _, hlb6, f2⟩ := hI2.at hx2
       have j1 : (t : Int) < (p : Int) := by omega
       have j0 : (0 : Int) ≤ (t : Int) := by omega
       have HX1 := Lib.hid hx1
       have HX2 := Lib.hid hx2
       clear hI1 hI2 hx1 hx2
       by_cases hxy : x = y
       ·subst hxy
        have HS : Hid (∀ j < t + 1, g[j]? = k[j]?) := Lib.hid (upto_succ hT.out HX1.out HX2.out)
        go_wp2
        go_quiet (fail)
        have hB := hB.trans (below_drewN (Below.refl w.heap.size wr) nq)
        clear d1 d2 f1 f2
        go_wp2
        go_roundw
        case rel => exact ⟨t + 1, by omega, by go_num, HS, hB⟩
        case measure => simp [intOf]; omega
       ·have HQ : Hid (r = false) := Lib.hid (HR.out.1 (fun e => by
         have h1 := HG1.out
         rw [e, HG2.out] at h1
         injection h1 with h1
         have h2 := HX1.out
         rw [← h1, HX2.out] at h2
         injection h2 with h2
         exact hxy h2.symm))
        go_wp2
        go_quiet (fail)
        have hB := hB.trans (below_drewN (Below.refl w.heap.size wr) nq)
        clear d1 d2 f1 f2
        go_wp2
        go_ret
        exact ⟨by rw [HQ.out]; rfl, hB⟩
      ·obtain rfl : t = p := by omega
       have HE : Hid (∀ j < q + 1, l1[j]? = l2[j]?) := Lib.hid (upto_succ hH.out HG1.out (by rw [HG2.out, ext_of HP.out HP2.out hT.out]))
       go_wp2
       clear d1 d2 hI1 hI2
       go_roundw
       case rel => exact ⟨q + 1, by omega, by go_num, HE, hB⟩
       case measure => simp [intOf]; omega
    ·have HQ : Hid (r = false) := Lib.hid (HR.out.1 (fun e => by
      have h1 := HG1.out
      rw [e, HG2.out] at h1
      injection h1 with h1
      apply hpp
      rw [← HP.out, ← HP2.out, h1]))
     have hpp' : ((p : Int) != (p2 : Int)) = true := bne_iff_ne.2 (by omega)
     go_wp2
     go_quiet (fail)
     have hB := hB.trans (below_drewN (Below.refl w.heap.size wr) nq)
     go_wp2
     go_ret
     exact ⟨by rw [HQ.out]; rfl, hB⟩
   ·obtain rfl : q = m := by omega
    have HQ : Hid (r = true) := Lib.hid (HR.out.2 (ext_of HM.out HM2.out hH.out))
    go_wp2
    go_ret
    exact ⟨by rw [HQ.out]; rfl, hB⟩
 ·have HQ : Hid (r = false) := Lib.hid (HR.out.1 (fun e => hmm (by rw [← HM.out, ← HM2.out, e])))
  have hmm' : ((m : Int) != (m2 : Int)) = true := bne_iff_ne.2 (by omega)
  go_wp2
  go_ret
  exact ⟨by rw [HQ.out]; rfl, Below.refl _ w⟩
end Go.Proofs.YtpnnkhpokangfaaDoor.Sp

/- Where a column is: the document's, walked. -/
namespace Go.Proofs.YtpnnkhpokangfaaDoor.Sp
open Go.RowKit Pac Lex

/-- A column's place in a group, and its group: the first ones. -/
def at1 (c : Int) : List Int → Option Nat
 | [] => none
 | x :: g => if x = c then some 0 else (at1 c g).map (· + 1)
def atG (c : Int) : List (List Int) → Option (Nat × Nat)
 | [] => none
 | g :: l => match at1 c g with
  | some k => some (0, k)
  | none => (atG c l).map (fun p => (p.1 + 1, p.2))
theorem at1_none {c : Int} : ∀ {g : List Int}, at1 c g = none ↔ c ∉ g
 | [] => by simp [at1]
 | x :: g => by
  unfold at1
  by_cases h : x = c
  ·subst h
   simp
  ·have ih := at1_none (c := c) (g := g)
   rw [if_neg h, Option.map_eq_none_iff, ih, List.mem_cons]
   constructor
   ·intro h1 h2
    rcases h2 with h2 | h2
    ·exact h h2.symm
    ·exact h1 h2
   ·intro h1 h2
    exact h1 (Or.inr h2)
theorem at1_some {c : Int} : ∀ {g : List Int} {t : Nat}, (∀ j < t, g[j]? ≠ some c) → g[t]? = some c → at1 c g = some t
 | [], t, _, h => by simp at h
 | x :: g, 0, _, h => by
  have h : x = c := by simpa using h
  unfold at1
  rw [if_pos h]
 | x :: g, t + 1, hn, h => by
  have hx : ¬ x = c := fun e => hn 0 (Nat.succ_pos t) (by rw [e]; rfl)
  unfold at1
  rw [if_neg hx, at1_some (t := t) (fun j hj => hn (j + 1) (by omega)) h]
  rfl
theorem at1_get {c : Int} : ∀ {g : List Int} {t : Nat}, at1 c g = some t → g[t]? = some c
 | [], t, h => by simp [at1] at h
 | x :: g, t, h => by
  unfold at1 at h
  by_cases hx : x = c
  ·rw [if_pos hx] at h
   injection h with h
   subst h hx
   rfl
  ·rw [if_neg hx] at h
   obtain ⟨k, hk, rfl⟩ := Option.map_eq_some_iff.1 h
   exact at1_get (g := g) hk
theorem atG_none {c : Int} : ∀ {l : List (List Int)}, atG c l = none ↔ ∀ g ∈ l, c ∉ g
 | [] => by simp [atG]
 | g :: l => by
  have ih := atG_none (c := c) (l := l)
  unfold atG
  cases h : at1 c g with
  | none =>
   have := at1_none.1 h
   simp only [Option.map_eq_none_iff, ih, List.mem_cons]
   constructor
   ·rintro h1 k (rfl | hk)
    ·exact this
    ·exact h1 k hk
   ·exact fun h1 k hk => h1 k (Or.inr hk)
  | some k =>
   simp only [reduceCtorEq, false_iff]
   intro h1
   have := at1_none.2 (h1 g (List.mem_cons_self ..))
   rw [h] at this
   cases this
theorem atG_some {c : Int} : ∀ {l : List (List Int)} {q t : Nat} {g : List Int}, (∀ j < q, ∀ k, l[j]? = some k → c ∉ k) → l[q]? = some g → at1 c g = some t → atG c l = some (q, t)
 | [], q, t, g, _, h, _ => by simp at h
 | k :: l, 0, t, g, _, h, h1 => by
  have h : k = g := by simpa using h
  subst h
  unfold atG
  rw [h1]
 | k :: l, q + 1, t, g, hn, h, h1 => by
  have hk := at1_none.2 (hn 0 (Nat.succ_pos q) k rfl)
  unfold atG
  rw [hk, atG_some (q := q) (fun j hj => hn (j + 1) (by omega)) h h1]
  rfl
def FindPost (l : List (List Int)) (c : Int) (w : World) (e : Ending) (w' : World) : Prop :=
 ∃ (i k : Nat) (b : Bool), e = .returned (.tuple #[.int .i64 i, .int .i64 k, .bool b]) ∧ (b = true → atG c l = some (i, k)) ∧ (b = false → atG c l = none ∧ i = 0 ∧ k = 0) ∧ Below w.heap.size w w'
theorem FindPost.bad {l : List (List Int)} {c : Int} {w w' : World} (h : atG c l = none) (hB : Below w.heap.size w w') : FindPost l c w (.returned (.tuple #[.int .i64 0, .int .i64 0, .bool false])) w' :=
 ⟨0, 0, false, rfl, (fun h => by cases h), (fun _ => ⟨h, rfl, rfl⟩), hB⟩
theorem FindPost.good {l : List (List Int)} {c : Int} {w w' : World} {i k : Nat} (h : atG c l = some (i, k)) (hB : Below w.heap.size w w') : FindPost l c w (.returned (.tuple #[.int .i64 i, .int .i64 k, .bool true])) w' :=
 ⟨i, k, true, rfl, (fun _ => h), (fun h => by cases h), hB⟩

set_option maxRecDepth 20000 in
set_option maxHeartbeats 3200000 in
theorem refFind_any (A1 : Option Addr) (cp1 : Nat) (l1 : List (List Int)) (c : Int) (lo1 : Nat) (w : World) (h1 : HasLL w lo1 A1 l1) (hl1 : l1.length ≤ 9223372036854775807) (hg1 : ∀ g ∈ l1, g.length ≤ 9223372036854775807) :
  Calls Tryd.prog 45 #[.slice A1 l1.length cp1, .int .i64 c] w (FindPost l1 c w) := by
 have hPB := fun (w' : World) (h : atG c l1 = none) => FindPost.bad (w := w) (w' := w') h
 have hPG := fun (w' : World) (i k : Nat) (h : atG c l1 = some (i, k)) => FindPost.good (w := w) (w' := w') h
 generalize FindPost l1 c w = post at hPB hPG ⊢
 have HPB := Lib.hid hPB
 have HPG := Lib.hid hPG
 clear hPB hPG
 obtain ⟨m, hm⟩ : ∃ m, l1.length = m := ⟨_, rfl⟩
 rw [hm] at hl1 ⊢
 have HA := Lib.hid h1
 have HM := Lib.hid hm
 have HG := Lib.hid hg1
 clear h1 hm hg1
 go_enter Tryd.func45, Tryd.ntmps45
 go_wp2
 go_loopw [7] (fun i wr => ∃ q : Nat, q ≤ m ∧ i = .int .i64 q ∧ Hid (∀ j < q, ∀ k, l1[j]? = some k → c ∉ k) ∧ Below w.heap.size w wr) (fun i _ => m - (intOf i).toNat)
 case atStart => exact ⟨0, Nat.zero_le _, rfl, Lib.hid (fun j hj => absurd hj (Nat.not_lt_zero j)), Below.refl _ w⟩
 case round =>
  obtain ⟨q, hq, rfl, hH, hB⟩ := hrel
  by_cases hlt : q < m
  ·have hg1 : l1[q]? = some (l1[q]'(by rw [HM.out]; exact hlt)) := List.getElem?_eq_getElem _
   generalize (l1[q]'(by rw [HM.out]; exact hlt)) = g at hg1
   have sg := HG.out g (List.mem_of_getElem? hg1)
   obtain ⟨b1, o1, A3, cp3, rfl, hlo1, hlb1, d1, hI1, _⟩ := (HA.out.below hB (Nat.le_refl _)).at hg1
   have HG1 := Lib.hid hg1
   obtain ⟨p, hp⟩ : ∃ p, g.length = p := ⟨_, rfl⟩
   rw [hp] at d1 sg
   have HP := Lib.hid hp
   clear hp hg1 hI1
   have i1 : (q : Int) < (m : Int) := by omega
   have i0 : (0 : Int) ≤ (q : Int) := by omega
   go_wp2
   clear d1
   go_loopw [8] (fun i wr => ∃ t : Nat, t ≤ p ∧ i = .int .i64 t ∧ Hid (∀ j < t, g[j]? ≠ some c) ∧ Below w.heap.size w wr) (fun i _ => p - (intOf i).toNat)
   case atStart => exact ⟨0, Nat.zero_le _, rfl, Lib.hid (fun j hj => absurd hj (Nat.not_lt_zero j)), hB⟩
   case round =>
    clear hB
    obtain ⟨t, ht, rfl, hT, hB⟩ := hrel
    obtain ⟨b1', o1', A5, cp5, e1, hlo1', hlb1', d1, hI1, _⟩ := (HA.out.below hB (Nat.le_refl _)).at HG1.out
    injection e1 with e1
    injection e1 with e1 e1'
    subst e1 e1'
    rw [HP.out] at d1
    clear hlo1' hlb1'
    by_cases htp : t < p
    ·have hx1 : g[t]? = some (g[t]'(by rw [HP.out]; exact htp)) := List.getElem?_eq_getElem _
     generalize (g[t]'(by rw [HP.out]; exact htp)) = x at hx1
     obtain ⟨b5, o5, rfl, _, hlb5, f1⟩ := hI1.at hx1
     have j1 : (t : Int) < (p : Int) := by omega
     have j0 : (0 : Int) ≤ (t : Int) := by omega
     have HX1 := Lib.hid hx1
     clear hI1 hx1
     by_cases hxy : x = c
     ·subst hxy
      have HS := Lib.hid (atG_some hH.out HG1.out (at1_some hT.out HX1.out))
      go_wp2
      refine bodyPost_ret (results_tmp3 rfl _ _ _) rfl ?_
      exact HPG.out _ q t HS.out hB
     ·have HS : Hid (∀ j < t + 1, g[j]? ≠ some c) := Lib.hid (fun j hj => by
       by_cases hjt : j < t
       ·exact hT.out j hjt
       ·obtain rfl : j = t := by omega
        rw [HX1.out]
        intro h
        injection h with h
        exact hxy h)
      have hxy' : (x == c) = false := beq_eq_false_iff_ne.2 hxy
      go_wp2
      clear d1 f1
      go_roundw
      case rel => exact ⟨t + 1, by omega, by go_num, HS, hB⟩
      case measure => simp [intOf]; omega
    ·obtain rfl : t = p := by omega
     have HE : Hid (∀ j < q + 1, ∀ k, l1[j]? = some k → c ∉ k) := Lib.hid (fun j hj k hk => by
      by_cases hjq : j < q
      ·exact hH.out j hjq k hk
      ·obtain rfl : j = q := by omega
       rw [HG1.out] at hk
       injection hk with hk
       subst hk
       intro hc
       obtain ⟨i, hi, e⟩ := List.mem_iff_getElem.1 hc
       exact hT.out i (by rw [← HP.out]; exact hi) (by rw [List.getElem?_eq_getElem hi, e]))
     go_wp2
     clear d1 hI1
     go_roundw
     case rel => exact ⟨q + 1, by omega, by go_num, HE, hB⟩
     case measure => simp [intOf]; omega
  ·obtain rfl : q = m := by omega
   have HQ : Hid (atG c l1 = none) := Lib.hid (atG_none.2 (fun g hg => by
    obtain ⟨i, hi, e⟩ := List.mem_iff_getElem.1 hg
    exact hH.out i (by rw [← HM.out]; exact hi) g (by rw [List.getElem?_eq_getElem hi, e])))
   go_wp2
   refine bodyPost_ret (results_tmp3 rfl _ _ _) rfl ?_
   exact HPB.out _ HQ.out hB
end Go.Proofs.YtpnnkhpokangfaaDoor.Sp

/- Whether groups are a split, index by index, plainly. No program. -/
namespace Go.Proofs.YtpnnkhpokangfaaDoor.Sp
open Go.RowKit Pac Lex

/-- The first i groups may be those of a split of n columns. -/
structure Good (l : List (List Int)) (n i : Nat) : Prop where
 grp : ∀ j < i, ∀ g, l[j]? = some g → g ≠ [] ∧ g.Pairwise (· < ·) ∧ ∀ x ∈ g, 0 ≤ x ∧ x < (n : Int)
 hd : ∀ j, j + 1 < i → ∀ g k, l[j]? = some g → l[j + 1]? = some k → g.headD 0 < k.headD 0
 nd : (l.take i).flatten.Nodup
theorem Good.zero (l : List (List Int)) (n : Nat) : Good l n 0 :=
 ⟨fun j hj => absurd hj (Nat.not_lt_zero j), fun j hj => absurd hj (Nat.not_lt_zero _), by simp⟩
theorem Good.split {l : List (List Int)} {n : Nat} (h : Good l n l.length) (n1 : 1 ≤ n) (n8 : n ≤ 8) (hn : l.flatten.length = n) : IsSplit l n := by
 have hg : ∀ g ∈ l, g ≠ [] ∧ g.Pairwise (· < ·) ∧ ∀ x ∈ g, 0 ≤ x ∧ x < (n : Int) := fun g hg => by
  obtain ⟨i, hi, e⟩ := List.mem_iff_getElem.1 hg
  exact h.grp i hi g (by rw [List.getElem?_eq_getElem hi, e])
 refine ⟨n1, n8, fun g k => (hg g k).1, fun g k => (hg g k).2.1, ?_, ?_, ?_, hn⟩
 ·refine ris_of_step _ fun k a b ha hb => ?_
  rw [List.getElem?_map] at ha hb
  obtain ⟨x, hx, rfl⟩ := Option.map_eq_some_iff.1 ha
  obtain ⟨y, hy, rfl⟩ := Option.map_eq_some_iff.1 hb
  exact h.hd k (List.getElem?_eq_some_iff.1 hy).1 x y hx hy
 ·intro x hx
  obtain ⟨g, hgl, hxg⟩ := List.mem_flatten.1 hx
  exact (hg g hgl).2.2 x hxg
 ·have := h.nd
  rwa [List.take_length] at this
theorem IsSplit.grp {l : List (List Int)} {n : Nat} (h : IsSplit l n) {j : Nat} {g : List Int} (hg : l[j]? = some g) : g ≠ [] ∧ g.Pairwise (· < ·) ∧ ∀ x ∈ g, 0 ≤ x ∧ x < (n : Int) :=
 have hm := List.mem_of_getElem? hg
 ⟨h.ne g hm, h.ris g hm, fun x hx => h.rng x (List.mem_flatten.2 ⟨g, hm, hx⟩)⟩
theorem IsSplit.heads {l : List (List Int)} {n : Nat} (h : IsSplit l n) {j : Nat} {g k : List Int} (hg : l[j]? = some g) (hk : l[j + 1]? = some k) : g.headD 0 < k.headD 0 :=
 step_of_ris h.hd (k := j) (by rw [List.getElem?_map, hg]; rfl) (by rw [List.getElem?_map, hk]; rfl)
theorem take_flat {l : List (List Int)} {i : Nat} {g : List Int} (hg : l[i]? = some g) : (l.take (i + 1)).flatten = (l.take i).flatten ++ g := by
 rw [List.take_add_one, hg]
 simp
/-- What was seen already stands in no later place. -/
theorem not_seen {l : List (List Int)} {i t : Nat} {g : List Int} {c : Int} (h : l.flatten.Nodup) (hg : l[i]? = some g) (hc : g[t]? = some c) : c ∉ (l.take i).flatten ++ g.take t := by
 have e : l.flatten = ((l.take i).flatten ++ g.take t) ++ (c :: (g.drop (t + 1) ++ (l.drop (i + 1)).flatten)) := by
  obtain ⟨hi, e1⟩ := List.getElem?_eq_some_iff.1 hg
  obtain ⟨ht, e2⟩ := List.getElem?_eq_some_iff.1 hc
  have h1 : l = l.take i ++ g :: l.drop (i + 1) := by rw [← e1, List.getElem_cons_drop, List.take_append_drop]
  have h2 : g = g.take t ++ c :: g.drop (t + 1) := by rw [← e2, List.getElem_cons_drop, List.take_append_drop]
  have h3 : l.flatten = (l.take i).flatten ++ (g ++ (l.drop (i + 1)).flatten) := by
   have := congrArg List.flatten h1
   rwa [List.flatten_append, List.flatten_cons] at this
  rw [h3]
  have h4 : g ++ (l.drop (i + 1)).flatten = g.take t ++ (c :: (g.drop (t + 1) ++ (l.drop (i + 1)).flatten)) := by
   have := congrArg (· ++ (l.drop (i + 1)).flatten) h2
   simpa using this
  rw [h4, List.append_assoc]
 rw [e] at h
 have := (List.nodup_append.1 h).2.2
 intro hm
 exact this c hm c (List.mem_cons_self ..) rfl
/-- The first t of a group, behind the groups ahead. -/
structure Part (l : List (List Int)) (n i : Nat) (g : List Int) (t : Nat) : Prop where
 good : Good l n i
 ne : g ≠ []
 hd : ∀ j k, j + 1 = i → l[j]? = some k → k.headD 0 < g.headD 0
 ris : (g.take t).Pairwise (· < ·)
 rng : ∀ x ∈ g.take t, 0 ≤ x ∧ x < (n : Int)
 nd : ((l.take i).flatten ++ g.take t).Nodup
theorem Part.zero {l : List (List Int)} {n i : Nat} {g : List Int} (h : Good l n i) (ne : g ≠ []) (hd : ∀ j k, j + 1 = i → l[j]? = some k → k.headD 0 < g.headD 0) : Part l n i g 0 :=
 ⟨h, ne, hd, by simp, by simp, by simpa using h.nd⟩
theorem Part.next {l : List (List Int)} {n i t : Nat} {g : List Int} {c : Int} (h : Part l n i g t) (hc : g[t]? = some c) (h0 : 0 ≤ c) (h1 : c < n) (hs : c ∉ (l.take i).flatten ++ g.take t) (hr : ∀ b, 0 < t → g[t - 1]? = some b → b < c) : Part l n i g (t + 1) := by
 have e : g.take (t + 1) = g.take t ++ [c] := by rw [List.take_add_one, hc]; rfl
 refine ⟨h.good, h.ne, h.hd, ?_, ?_, ?_⟩
 ·refine ris_of_step _ fun k a b ha hb => ?_
  rw [List.getElem?_take] at ha hb
  have hk : k + 1 < t + 1 := by
   split at hb
   ·assumption
   ·cases hb
  rw [if_pos (by omega)] at ha hb
  by_cases hkt : k + 1 < t
  ·exact step_of_ris h.ris (k := k) (by rw [List.getElem?_take, if_pos (by omega)]; exact ha) (by rw [List.getElem?_take, if_pos hkt]; exact hb)
  ·obtain rfl : t = k + 1 := by omega
   rw [hc] at hb
   injection hb with hb
   subst hb
   exact hr a (by omega) ha
 ·intro x hx
  rw [e, List.mem_append, List.mem_singleton] at hx
  rcases hx with hx | rfl
  ·exact h.rng x hx
  ·exact ⟨h0, h1⟩
 ·rw [e, ← List.append_assoc]
  refine List.nodup_append.2 ⟨h.nd, by simp, fun a ha b hb => ?_⟩
  rw [List.mem_singleton] at hb
  subst hb
  intro e
  subst e
  exact hs ha
theorem Part.done {l : List (List Int)} {n i : Nat} {g : List Int} (h : Part l n i g g.length) (hg : l[i]? = some g) : Good l n (i + 1) := by
 have e : g.take g.length = g := List.take_length
 have ris := h.ris
 have rng := h.rng
 have nd := h.nd
 rw [e] at ris rng nd
 refine ⟨fun j hj k hk => ?_, fun j hj k m hk hm => ?_, by rw [take_flat hg]; exact nd⟩
 ·by_cases hji : j < i
  ·exact h.good.grp j hji k hk
  ·obtain rfl : j = i := by omega
   rw [hg] at hk
   injection hk with hk
   subst hk
   exact ⟨h.ne, ris, rng⟩
 ·by_cases hji : j + 1 < i
  ·exact h.good.hd j hji k m hk hm
  ·obtain rfl : i = j + 1 := by omega
   rw [hg] at hm
   injection hm with hm
   subst hm
   exact h.hd j k rfl hk
/-- Which columns were seen. -/
def flags (F : List Int) (n : Nat) : List Value := (List.range n).map (fun (c : Nat) => Value.bool (decide ((c : Int) ∈ F)))
theorem flags_at {F : List Int} {n c : Nat} (hc : c < n) : (flags F n)[c]? = some (.bool (decide ((c : Int) ∈ F))) := by
 unfold flags
 rw [List.getElem?_map, List.getElem?_range hc]
 rfl
theorem flags_set {F : List Int} {n c : Nat} (hc : c < n) : (flags F n).set c (.bool true) = flags (F ++ [(c : Int)]) n := by
 have hl : ∀ F, (flags F n).length = n := fun F => by unfold flags; simp
 apply List.ext_getElem?
 intro j
 by_cases hj : j < n
 ·rw [List.getElem?_set, flags_at hj, hl]
  by_cases hjc : c = j
  ·subst hjc
   rw [if_pos rfl, if_pos hc, flags_at hc]
   congr 2
   exact (decide_eq_true (by simp)).symm
  ·rw [if_neg hjc, flags_at hj]
   congr 2
   apply decide_eq_decide.2
   rw [List.mem_append, List.mem_singleton]
   constructor
   ·exact Or.inl
   ·rintro (h | h)
    ·exact h
    ·omega
 ·rw [List.getElem?_eq_none (by rw [List.length_set, hl]; omega), List.getElem?_eq_none (by rw [hl]; omega)]
open Classical in
noncomputable def rightSp (l : List (List Int)) (cols : Int) : Bool := decide (∃ n : Nat, cols = n ∧ IsSplit l n)
open Classical in
theorem rightSp_nat {l : List (List Int)} {n : Nat} : (IsSplit l n → rightSp l n = true) ∧ (¬ IsSplit l n → rightSp l n = false) := by
 unfold rightSp
 constructor
 ·exact fun h => decide_eq_true ⟨n, rfl, h⟩
 ·refine fun h => decide_eq_false ?_
  rintro ⟨m, e, hm⟩
  obtain rfl : n = m := by omega
  exact h hm
open Classical in
theorem rightSp_out {l : List (List Int)} {cols : Int} (h : cols < 1 ∨ 8 < cols) : rightSp l cols = false := by
 unfold rightSp
 refine decide_eq_false ?_
 rintro ⟨m, e, hm⟩
 have := hm.n1
 have := hm.n8
 omega
end Go.Proofs.YtpnnkhpokangfaaDoor.Sp

/- Whether groups are a split: the document's, walked. -/
namespace Go.Proofs.YtpnnkhpokangfaaDoor.Sp
open Go.RowKit Pac Lex

theorem infoB : (Tryd.prog.info? 4).map (fun i => (i.zero, i.size, i.bytes)) = some (some (.bool false), 1, 1) := by kernel_rfl
theorem made_flags (n : Nat) : (madeCells (Value.bool false).cells (n * 1)).toList = flags [] n := by
 unfold madeCells flags
 simp [Value.cells, Nat.mod_one]
theorem head_at {g : List Int} {x : Int} (h : g[0]? = some x) : g.headD 0 = x := by
 cases g with
 | nil => simp at h
 | cons y g => simpa using h
theorem in_upTo {F : List Int} {n : Nat} (h : ∀ x ∈ F, 0 ≤ x ∧ x < (n : Int)) (hn : F.Nodup) : F.length ≤ n := by
 have := len_le_of_sub F (upTo n) hn (fun x hx => mem_upTo.2 (h x hx))
 rwa [upTo_len] at this
theorem Good.len {l : List (List Int)} {n i : Nat} (h : Good l n i) : (l.take i).flatten.length ≤ n := in_upTo (fun x hx => by
 obtain ⟨g, hg, hxg⟩ := List.mem_flatten.1 hx
 obtain ⟨j, hj, e⟩ := List.mem_iff_getElem.1 hg
 have hji : j < i := by rw [List.length_take] at hj; omega
 have e2 : l[j]? = some g := by
  have := List.getElem?_eq_getElem hj
  rw [e, List.getElem?_take, if_pos hji] at this
  exact this
 exact (h.grp j hji g e2).2.2 x hxg) h.nd
theorem Part.len {l : List (List Int)} {n i t : Nat} {g : List Int} (h : Part l n i g t) : ((l.take i).flatten ++ g.take t).length ≤ n := in_upTo (fun x hx => by
 rcases List.mem_append.1 hx with hx | hx
 ·obtain ⟨k, hk, hxk⟩ := List.mem_flatten.1 hx
  obtain ⟨j, hj, e⟩ := List.mem_iff_getElem.1 hk
  have hji : j < i := by rw [List.length_take] at hj; omega
  have e2 : l[j]? = some k := by
   have := List.getElem?_eq_getElem hj
   rw [e, List.getElem?_take, if_pos hji] at this
   exact this
  exact (h.good.grp j hji k e2).2.2 x hxk
 ·exact h.rng x hx) h.nd

set_option maxRecDepth 20000 in
set_option maxHeartbeats 6400000 in
theorem refRight_any (A1 : Option Addr) (cp1 : Nat) (l1 : List (List Int)) (cols : Int) (lo1 : Nat) (w : World) (h1 : HasLL w lo1 A1 l1) (hl1 : l1.length ≤ 9223372036854775807) (hg1 : ∀ g ∈ l1, g.length ≤ 9223372036854775807) (hc0 : -9223372036854775808 ≤ cols) (hc1 : cols ≤ 9223372036854775807) :
  Calls Tryd.prog 30 #[.slice A1 l1.length cp1, .int .i64 cols] w fun e w' => e = .returned (.bool (rightSp l1 cols)) ∧ Below w.heap.size w w' := by
 obtain ⟨i0, hi, hz0, hz1, hz2⟩ := info_parts infoB
 obtain ⟨m, hm⟩ : ∃ m, l1.length = m := ⟨_, rfl⟩
 rw [hm] at hl1 ⊢
 have HA := Lib.hid h1
 have HM := Lib.hid hm
 have HG := Lib.hid hg1
 clear h1 hm hg1
 by_cases q1 : cols < 1
 ·have hR := rightSp_out (l := l1) (Or.inl q1)
  generalize rightSp l1 cols = r at hR ⊢
  subst hR
  go_enter Tryd.func30, Tryd.ntmps30
  go_wp2
  go_ret
  exact ⟨rfl, Below.refl _ w⟩
 by_cases q2 : 8 < cols
 ·have hR := rightSp_out (l := l1) (Or.inr q2)
  generalize rightSp l1 cols = r at hR ⊢
  subst hR
  go_enter Tryd.func30, Tryd.ntmps30
  go_wp2
  go_ret
  exact ⟨rfl, Below.refl _ w⟩
 obtain ⟨n, rfl⟩ : ∃ n : Nat, cols = (n : Int) := ⟨cols.toNat, by omega⟩
 have hR := rightSp_nat (l := l1) (n := n)
 generalize rightSp l1 (n : Int) = r at hR ⊢
 have HR := Lib.hid hR
 clear hR
 have n8 : n ≤ 8 := by omega
 have n1 : 1 ≤ n := by omega
 by_cases q3 : n < m
 ·have HQ : Hid (r = false) := Lib.hid (HR.out.2 (fun h => by have := h.few; have := HM.out; omega))
  go_enter Tryd.func30, Tryd.ntmps30
  go_wp2
  go_ret
  exact ⟨by rw [HQ.out]; rfl, Below.refl _ w⟩
 have hmn : m ≤ n := by omega
 clear q1 q2 q3 hc0 hc1
 go_enter Tryd.func30, Tryd.ntmps30
 go_wp2_with (at_make; go_must (refine wpList_make_full _ rfl _ _ 83 rfl w.heap.size 4 i0 (.bool false) 1 Tryd.underlying83 hi hz0 hz1 _ _ _ _ n rfl rfl rfl rfl (by rw [hz2]; omega) (by unfold maxLen; omega) (Nat.le_refl _) ?_); intro w1 hown1 hgrow1)
 have hb1 : Below w.heap.size w w1 := (Below.refl _ _).grown hgrow1 (by simp) (fun k hk => by cases hk)
 rw [made_flags n] at hown1
 clear hgrow1
 go_wp2
 go_loopw [6, 7] (fun x i wr => ∃ (q u : Nat), q ≤ m ∧ i = .int .i64 q ∧ x = .int .i64 u ∧ u ≤ 8 ∧ wr.ownsRow w.heap.size 4 1 (.slice (some ⟨w.heap.size, 0, none⟩) n n) n (flags (l1.take q).flatten n) ∧ Hid (Good l1 n q ∧ u = (l1.take q).flatten.length) ∧ Below w.heap.size w wr) (fun _ i _ => m - (intOf i).toNat)
 case atStart => exact ⟨0, 0, Nat.zero_le _, rfl, rfl, by omega, by simpa using hown1, Lib.hid ⟨Good.zero _ _, by simp⟩, hb1⟩
 case round =>
  clear hown1 hb1
  obtain ⟨q, u, hq, rfl, rfl, hu8, hown, hH, hB⟩ := hrel
  by_cases hlt : q < m
  ·have hg1 : l1[q]? = some (l1[q]'(by rw [HM.out]; exact hlt)) := List.getElem?_eq_getElem _
   generalize (l1[q]'(by rw [HM.out]; exact hlt)) = g at hg1
   have sg := HG.out g (List.mem_of_getElem? hg1)
   have HL := (HA.out.below hB (Nat.le_refl _))
   obtain ⟨b1, o1, A3, cp3, rfl, hlo1, hlb1, d1, hI1, _⟩ := HL.at hg1
   have HG1 := Lib.hid hg1
   obtain ⟨p, hp⟩ : ∃ p, g.length = p := ⟨_, rfl⟩
   rw [hp] at d1 sg
   have HP := Lib.hid hp
   clear hp hg1
   have i1 : (q : Int) < (m : Int) := by omega
   have i0' : (0 : Int) ≤ (q : Int) := by omega
   by_cases hp0 : p = 0
   ·have HQ : Hid (r = false) := Lib.hid (HR.out.2 (fun h => (h.grp HG1.out).1 (List.eq_nil_of_length_eq_zero (by rw [HP.out]; exact hp0))))
    subst hp0
    go_wp2
    go_quiet (fail)
    have hB := hB.trans (below_drewN (Below.refl w.heap.size wr) nq)
    go_wp2
    go_ret
    exact ⟨by rw [HQ.out]; rfl, hB⟩
   have hp0' : ((p : Int) == 0) = false := beq_eq_false_iff_ne.2 (by omega)
   have hx0 : g[0]? = some (g[0]'(by rw [HP.out]; omega)) := List.getElem?_eq_getElem _
   generalize (g[0]'(by rw [HP.out]; omega)) = y0 at hx0
   obtain ⟨b5, o5, rfl, _, hlb5, f1⟩ := hI1.at hx0
   rw [Nat.add_zero] at f1
   have HX0 := Lib.hid hx0
   clear hx0
   have HZ : Hid (∀ (k0 : List Int), l1[q - 1]? = some k0 → 0 < q → k0.headD 0 < g.headD 0 → Part l1 n q g 0) := Lib.hid (fun k0 hk h0 h => Part.zero hH.out.1 (fun e => hp0 (by rw [← HP.out, e]; rfl)) (fun j k hj hk' => by
    obtain rfl : j = q - 1 := by omega
    rw [hk] at hk'
    injection hk' with hk'
    rw [← hk']
    exact h))
   by_cases hq0 : q = 0
   ·have HPT : Hid (Part l1 n q g 0) := Lib.hid (Part.zero hH.out.1 (fun e => hp0 (by rw [← HP.out, e]; rfl)) (fun j k hj _ => by omega))
    have hq0' : decide (0 < q) = false := decide_eq_false (by omega)
    clear HZ hq0
    go_wp2
    go_quiet (fail)
    have hB := hB.trans (below_drewN (Below.refl w.heap.size wr) nq)
    have hown := Li.own_below hown (below_drewN (Below.refl wr.heap.size wr) nq) (Nat.le_refl _)
    generalize wr.drewN nq = wx at hB hown ⊢
    clear d1 f1 hI1 hlb5 hlb1
    go_wp2
    go_loopw [6, 8] (fun x i wr => ∃ (t u : Nat), t ≤ p ∧ i = .int .i64 t ∧ x = .int .i64 u ∧ u ≤ 8 ∧ wr.ownsRow w.heap.size 4 1 (.slice (some ⟨w.heap.size, 0, none⟩) n n) n (flags ((l1.take q).flatten ++ g.take t) n) ∧ Hid (Part l1 n q g t ∧ u = ((l1.take q).flatten ++ g.take t).length) ∧ Below w.heap.size w wr) (fun _ i _ => p - (intOf i).toNat)
    case atStart => exact ⟨0, u, Nat.zero_le _, rfl, rfl, hu8, by simpa using hown, Lib.hid ⟨HPT.out, by simpa using hH.out.2⟩, hB⟩
    case round =>
     clear hown HPT hB
     obtain ⟨t, u, ht, rfl, rfl, hu8, hown, hT, hB⟩ := hrel
     obtain ⟨b1', o1', A5, cp5', e1, hlo1', hlb1', d1, hI1, _⟩ := (HA.out.below hB (Nat.le_refl _)).at HG1.out
     injection e1 with e1
     injection e1 with e1 e1'
     subst e1 e1'
     rw [HP.out] at d1
     clear hlo1' hlb1'
     by_cases htp : t < p
     ·have hx1 : g[t]? = some (g[t]'(by rw [HP.out]; exact htp)) := List.getElem?_eq_getElem _
      generalize (g[t]'(by rw [HP.out]; exact htp)) = c at hx1
      obtain ⟨b6, o6, rfl, _, hlb6, f1⟩ := hI1.at hx1
      have j1 : (t : Int) < (p : Int) := by omega
      have j0 : (0 : Int) ≤ (t : Int) := by omega
      have HX1 := Lib.hid hx1
      clear hx1
      by_cases hc0 : c < 0
      ·have HQ : Hid (r = false) := Lib.hid (HR.out.2 (fun h => by
        have := (h.grp HG1.out).2.2 c (List.mem_of_getElem? HX1.out)
        omega))
       go_wp2
       go_ret
       exact ⟨by rw [HQ.out]; rfl, hB⟩
      by_cases hcn : (n : Int) ≤ c
      ·have HQ : Hid (r = false) := Lib.hid (HR.out.2 (fun h => by
        have := (h.grp HG1.out).2.2 c (List.mem_of_getElem? HX1.out)
        omega))
       go_wp2
       go_ret
       exact ⟨by rw [HQ.out]; rfl, hB⟩
      obtain ⟨cn, rfl⟩ : ∃ cn : Nat, c = (cn : Int) := ⟨c.toNat, by omega⟩
      have hcn' : cn < n := by omega
      have c1 : (cn : Int) < (n : Int) := by omega
      have c0 : (0 : Int) ≤ (cn : Int) := by omega
      have s1 := hown.cellAt cn (by omega)
      have s2 := hown.frozenAt cn
      rw [flags_at hcn'] at s1
      by_cases hs : (cn : Int) ∈ (l1.take q).flatten ++ g.take t
      ·have HQ : Hid (r = false) := Lib.hid (HR.out.2 (fun h => not_seen h.nd HG1.out HX1.out hs))
       rw [decide_eq_true hs] at s1
       clear hc0 hcn hs
       go_wp2
       go_ret
       exact ⟨by rw [HQ.out]; rfl, hB⟩
      rw [decide_eq_false hs] at s1
      have HS := Lib.hid hs
      clear hc0 hcn hs
      have hst := hown.stored cn (.bool true)
      rw [flags_set hcn', List.append_assoc, show g.take t ++ [(cn : Int)] = g.take (t + 1) by rw [List.take_add_one, HX1.out]; rfl] at hst
      have HST := Lib.hid (And.intro hst.1 (hB.grown hst.2 hB.size (fun k hk => (hown.lt k hk).1)))
      clear hst hown
      have HU : Hid (u + 1 = ((l1.take q).flatten ++ g.take (t + 1)).length) := Lib.hid (by rw [hT.out.2, List.length_append, List.length_append, List.length_take, List.length_take, HP.out]; omega)
      by_cases ht0 : t = 0
      ·have HN : Hid (Part l1 n q g (t + 1)) := Lib.hid (hT.out.1.next HX1.out (by omega) (by omega) HS.out (fun b h => by omega))
       have ht0' : ¬ (0 : Int) < (t : Int) := by omega
       have hu9 : u + 1 ≤ 8 := by have := HN.out.len; have := HU.out; omega
       clear ht0
       go_wp2
       clear s1 s2 d1 f1 hI1
       go_roundw
       case rel => exact ⟨t + 1, u + 1, by omega, by go_num, by go_num, hu9, HST.out.1, Lib.hid ⟨HN.out, HU.out⟩, HST.out.2⟩
       case measure => simp [intOf]; omega
      ·obtain ⟨t', k1, k3⟩ : ∃ t' : Nat, (t : Int) - 1 = (t' : Int) ∧ t' = t - 1 := ⟨t - 1, by omega, rfl⟩
       have hxb : g[t']? = some (g[t']'(by rw [HP.out]; omega)) := List.getElem?_eq_getElem _
       generalize (g[t']'(by rw [HP.out]; omega)) = b at hxb
       obtain ⟨b7, o7, e7, _, hlb7, f2⟩ := hI1.at hxb
       injection e7 with e7
       injection e7 with e7 e7'
       subst e7 e7'
       have HXB := Lib.hid hxb
       have HK3 := Lib.hid k3
       have k2 : (0 : Int) < (t : Int) := by omega
       have k4 : (t' : Int) < (p : Int) := by omega
       have k5 : (0 : Int) ≤ (t' : Int) := by omega
       clear hxb k3
       by_cases hbc : b < (cn : Int)
       ·have HN : Hid (Part l1 n q g (t + 1)) := Lib.hid (hT.out.1.next HX1.out (by omega) (by omega) HS.out (fun b' h0 h' => by
         rw [← HK3.out, HXB.out] at h'
         injection h' with h'
         omega))
        have hu9 : u + 1 ≤ 8 := by have := HN.out.len; have := HU.out; omega
        go_wp2
        clear s1 s2 d1 f1 f2 hI1
        go_roundw
        case rel => exact ⟨t + 1, u + 1, by omega, by go_num, by go_num, hu9, HST.out.1, Lib.hid ⟨HN.out, HU.out⟩, HST.out.2⟩
        case measure => simp [intOf]; omega
       ·have HQ : Hid (r = false) := Lib.hid (HR.out.2 (fun h => hbc (step_of_ris (h.grp HG1.out).2.1 HXB.out (by rw [HK3.out, show t - 1 + 1 = t by omega]; exact HX1.out))))
        go_wp2
        go_ret
        exact ⟨by rw [HQ.out]; rfl, hB⟩
     ·obtain rfl : t = p := by omega
      have HD : Hid (Good l1 n (q + 1) ∧ u = (l1.take (q + 1)).flatten.length) := Lib.hid (by
       have h1 := hT.out.1
       have h2 := hT.out.2
       have e : g.take t = g := by rw [← HP.out]; exact List.take_length
       refine ⟨Part.done (by rw [HP.out]; exact h1) HG1.out, ?_⟩
       rw [take_flat HG1.out, h2, e])
      have HO : Hid (flags ((l1.take q).flatten ++ g.take t) n = flags (l1.take (q + 1)).flatten n) := Lib.hid (by
       have e : g.take t = g := by rw [← HP.out]; exact List.take_length
       rw [take_flat HG1.out, e])
      rw [HO.out] at hown
      go_wp2
      clear d1 hI1
      go_roundw
      case rel => exact ⟨q + 1, u, by omega, by go_num, rfl, hu8, hown, HD, hB⟩
      case measure => simp [intOf]; omega
   ·obtain ⟨q', m1, m3⟩ : ∃ q' : Nat, (q : Int) - 1 = (q' : Int) ∧ q' = q - 1 := ⟨q - 1, by omega, rfl⟩
    have hgp : l1[q']? = some (l1[q']'(by rw [HM.out]; omega)) := List.getElem?_eq_getElem _
    generalize (l1[q']'(by rw [HM.out]; omega)) = g0 at hgp
    obtain ⟨b8, o8, A8, cp8, e8, hlo8, hlb8, d2, hI8, _⟩ := HL.at hgp
    injection e8 with e8
    injection e8 with e8 e8'
    subst e8 e8'
    have hne := (hH.out.1.grp q' (by omega) g0 hgp).1
    obtain ⟨p0, hp1⟩ : ∃ p, g0.length = p := ⟨_, rfl⟩
    have hp00 : 0 < p0 := by
     rw [← hp1]
     exact List.length_pos_iff.2 hne
    rw [hp1] at d2
    have hx8 : g0[0]? = some (g0[0]'(by omega)) := List.getElem?_eq_getElem _
    generalize (g0[0]'(by omega)) = x0 at hx8
    obtain ⟨b9, o9, rfl, _, hlb9, f2⟩ := hI8.at hx8
    rw [Nat.add_zero] at f2
    have HX8 := Lib.hid hx8
    have HGP := Lib.hid hgp
    have HM3 := Lib.hid m3
    have m2 : decide (0 < q) = true := decide_eq_true (by omega)
    have m4 : (q' : Int) < (m : Int) := by omega
    have m5 : (0 : Int) ≤ (q' : Int) := by omega
    have m6 : (0 : Int) < (p0 : Int) := by omega
    have m7 : (0 : Int) < (p : Int) := by omega
    clear hx8 hgp m3 hne hp1 hI8 hlo8
    by_cases hxy : x0 < y0
    ·have HPT : Hid (Part l1 n q g 0) := Lib.hid (HZ.out g0 (by rw [← HM3.out]; exact HGP.out) (by omega) (by rw [head_at HX8.out, head_at HX0.out]; exact hxy))
     have hxy' : decide (y0 ≤ x0) = false := decide_eq_false (by omega)
     clear HZ hq0 hxy
     go_wp2
     go_quiet (fail)
     have hB := hB.trans (below_drewN (Below.refl w.heap.size wr) nq)
     have hown := Li.own_below hown (below_drewN (Below.refl wr.heap.size wr) nq) (Nat.le_refl _)
     generalize wr.drewN nq = wx at hB hown ⊢
     clear d1 f1 hI1 hlb5 hlb1 hlb8 hlb9 d2 f2
     go_wp2
     go_loopw [6, 8] (fun x i wr => ∃ (t u : Nat), t ≤ p ∧ i = .int .i64 t ∧ x = .int .i64 u ∧ u ≤ 8 ∧ wr.ownsRow w.heap.size 4 1 (.slice (some ⟨w.heap.size, 0, none⟩) n n) n (flags ((l1.take q).flatten ++ g.take t) n) ∧ Hid (Part l1 n q g t ∧ u = ((l1.take q).flatten ++ g.take t).length) ∧ Below w.heap.size w wr) (fun _ i _ => p - (intOf i).toNat)
     case atStart => exact ⟨0, u, Nat.zero_le _, rfl, rfl, hu8, by simpa using hown, Lib.hid ⟨HPT.out, by simpa using hH.out.2⟩, hB⟩
     case round =>
      clear hown HPT hB
      obtain ⟨t, u, ht, rfl, rfl, hu8, hown, hT, hB⟩ := hrel
      obtain ⟨b1', o1', A5, cp5', e1, hlo1', hlb1', d1, hI1, _⟩ := (HA.out.below hB (Nat.le_refl _)).at HG1.out
      injection e1 with e1
      injection e1 with e1 e1'
      subst e1 e1'
      rw [HP.out] at d1
      clear hlo1' hlb1'
      by_cases htp : t < p
      ·have hx1 : g[t]? = some (g[t]'(by rw [HP.out]; exact htp)) := List.getElem?_eq_getElem _
       generalize (g[t]'(by rw [HP.out]; exact htp)) = c at hx1
       obtain ⟨b6, o6, rfl, _, hlb6, f1⟩ := hI1.at hx1
       have j1 : (t : Int) < (p : Int) := by omega
       have j0 : (0 : Int) ≤ (t : Int) := by omega
       have HX1 := Lib.hid hx1
       clear hx1
       by_cases hc0 : c < 0
       ·have HQ : Hid (r = false) := Lib.hid (HR.out.2 (fun h => by
         have := (h.grp HG1.out).2.2 c (List.mem_of_getElem? HX1.out)
         omega))
        go_wp2
        go_ret
        exact ⟨by rw [HQ.out]; rfl, hB⟩
       by_cases hcn : (n : Int) ≤ c
       ·have HQ : Hid (r = false) := Lib.hid (HR.out.2 (fun h => by
         have := (h.grp HG1.out).2.2 c (List.mem_of_getElem? HX1.out)
         omega))
        go_wp2
        go_ret
        exact ⟨by rw [HQ.out]; rfl, hB⟩
       obtain ⟨cn, rfl⟩ : ∃ cn : Nat, c = (cn : Int) := ⟨c.toNat, by omega⟩
       have hcn' : cn < n := by omega
       have c1 : (cn : Int) < (n : Int) := by omega
       have c0 : (0 : Int) ≤ (cn : Int) := by omega
       have s1 := hown.cellAt cn (by omega)
       have s2 := hown.frozenAt cn
       rw [flags_at hcn'] at s1
       by_cases hs : (cn : Int) ∈ (l1.take q).flatten ++ g.take t
       ·have HQ : Hid (r = false) := Lib.hid (HR.out.2 (fun h => not_seen h.nd HG1.out HX1.out hs))
        rw [decide_eq_true hs] at s1
        clear hc0 hcn hs
        go_wp2
        go_ret
        exact ⟨by rw [HQ.out]; rfl, hB⟩
       rw [decide_eq_false hs] at s1
       have HS := Lib.hid hs
       clear hc0 hcn hs
       have hst := hown.stored cn (.bool true)
       rw [flags_set hcn', List.append_assoc, show g.take t ++ [(cn : Int)] = g.take (t + 1) by rw [List.take_add_one, HX1.out]; rfl] at hst
       have HST := Lib.hid (And.intro hst.1 (hB.grown hst.2 hB.size (fun k hk => (hown.lt k hk).1)))
       clear hst hown
       have HU : Hid (u + 1 = ((l1.take q).flatten ++ g.take (t + 1)).length) := Lib.hid (by rw [hT.out.2, List.length_append, List.length_append, List.length_take, List.length_take, HP.out]; omega)
       by_cases ht0 : t = 0
       ·have HN : Hid (Part l1 n q g (t + 1)) := Lib.hid (hT.out.1.next HX1.out (by omega) (by omega) HS.out (fun b h => by omega))
        have ht0' : ¬ (0 : Int) < (t : Int) := by omega
        have hu9 : u + 1 ≤ 8 := by have := HN.out.len; have := HU.out; omega
        clear ht0
        go_wp2
        clear s1 s2 d1 f1 hI1
        go_roundw
        case rel => exact ⟨t + 1, u + 1, by omega, by go_num, by go_num, hu9, HST.out.1, Lib.hid ⟨HN.out, HU.out⟩, HST.out.2⟩
        case measure => simp [intOf]; omega
       ·obtain ⟨t', k1, k3⟩ : ∃ t' : Nat, (t : Int) - 1 = (t' : Int) ∧ t' = t - 1 := ⟨t - 1, by omega, rfl⟩
        have hxb : g[t']? = some (g[t']'(by rw [HP.out]; omega)) := List.getElem?_eq_getElem _
        generalize (g[t']'(by rw [HP.out]; omega)) = b at hxb
        obtain ⟨b7, o7, e7, _, hlb7, f2⟩ := hI1.at hxb
        injection e7 with e7
        injection e7 with e7 e7'
        subst e7 e7'
        have HXB := Lib.hid hxb
        have HK3 := Lib.hid k3
        have k2 : (0 : Int) < (t : Int) := by omega
        have k4 : (t' : Int) < (p : Int) := by omega
        have k5 : (0 : Int) ≤ (t' : Int) := by omega
        clear hxb k3
        by_cases hbc : b < (cn : Int)
        ·have HN : Hid (Part l1 n q g (t + 1)) := Lib.hid (hT.out.1.next HX1.out (by omega) (by omega) HS.out (fun b' h0 h' => by
          rw [← HK3.out, HXB.out] at h'
          injection h' with h'
          omega))
         have hu9 : u + 1 ≤ 8 := by have := HN.out.len; have := HU.out; omega
         go_wp2
         clear s1 s2 d1 f1 f2 hI1
         go_roundw
         case rel => exact ⟨t + 1, u + 1, by omega, by go_num, by go_num, hu9, HST.out.1, Lib.hid ⟨HN.out, HU.out⟩, HST.out.2⟩
         case measure => simp [intOf]; omega
        ·have HQ : Hid (r = false) := Lib.hid (HR.out.2 (fun h => hbc (step_of_ris (h.grp HG1.out).2.1 HXB.out (by rw [HK3.out, show t - 1 + 1 = t by omega]; exact HX1.out))))
         go_wp2
         go_ret
         exact ⟨by rw [HQ.out]; rfl, hB⟩
      ·obtain rfl : t = p := by omega
       have HD : Hid (Good l1 n (q + 1) ∧ u = (l1.take (q + 1)).flatten.length) := Lib.hid (by
        have h1 := hT.out.1
        have h2 := hT.out.2
        have e : g.take t = g := by rw [← HP.out]; exact List.take_length
        refine ⟨Part.done (by rw [HP.out]; exact h1) HG1.out, ?_⟩
        rw [take_flat HG1.out, h2, e])
       have HO : Hid (flags ((l1.take q).flatten ++ g.take t) n = flags (l1.take (q + 1)).flatten n) := Lib.hid (by
        have e : g.take t = g := by rw [← HP.out]; exact List.take_length
        rw [take_flat HG1.out, e])
       rw [HO.out] at hown
       go_wp2
       clear d1 hI1
       go_roundw
       case rel => exact ⟨q + 1, u, by omega, by go_num, rfl, hu8, hown, HD, hB⟩
       case measure => simp [intOf]; omega
    ·have HQ : Hid (r = false) := Lib.hid (HR.out.2 (fun h => hxy (by
      have := h.heads (j := q') HGP.out (by rw [HM3.out, show q - 1 + 1 = q by omega]; exact HG1.out)
      rwa [head_at HX8.out, head_at HX0.out] at this)))
     have hxy' : decide (y0 ≤ x0) = true := decide_eq_true (by omega)
     clear HZ hq0 hxy
     go_wp2
     go_quiet (fail)
     have hB := hB.trans (below_drewN (Below.refl w.heap.size wr) nq)
     go_wp2
     go_ret
     exact ⟨by rw [HQ.out]; rfl, hB⟩
  ·obtain rfl : q = m := by omega
   have e : l1.take q = l1 := by rw [← HM.out]; exact List.take_length
   have hH1 := hH.out.1
   have hH2 := hH.out.2
   rw [e] at hH2
   have HU := Lib.hid hH2
   have HD : Hid (u = n → r = true) := Lib.hid (fun h => HR.out.1 (Good.split (by rw [HM.out]; exact hH1) n1 n8 (by rw [← hH2]; exact h)))
   have HE : Hid (u ≠ n → r = false) := Lib.hid (fun h => HR.out.2 (fun h' => h (by rw [hH2]; exact h'.len)))
   clear hH1 hH2 e hown
   by_cases hun : u = n
   ·have HQ := Lib.hid (HD.out hun)
    subst hun
    go_wp2
    go_ret
    exact ⟨by rw [HQ.out]; rfl, hB⟩
   ·have HQ := Lib.hid (HE.out hun)
    have hun' : ((u : Int) == (n : Int)) = false := beq_eq_false_iff_ne.2 (by omega)
    go_wp2
    go_ret
    exact ⟨by rw [HQ.out]; rfl, hB⟩
end Go.Proofs.YtpnnkhpokangfaaDoor.Sp

/- A list of groups of one's own that grows; the plain splits: the document's, walked. -/
namespace Go.Proofs.YtpnnkhpokangfaaDoor.Sp
open Go.RowKit Pac Lex

theorem infoI : (Tryd.prog.info? 3).map (fun i => (i.zero, i.size, i.bytes)) = some (some (.int .i64 0), 1, 8) := by kernel_rfl
theorem infoG : (Tryd.prog.info? 67).map (fun i => (i.zero, i.size, i.bytes)) = some (some (.slice none 0 0), 1, 24) := by kernel_rfl
/-- A group that no row of groups, from base on, lies in. -/
structure In1 (w : World) (lo base : Nat) (x : G) : Prop where
 has : HasI w lo x.A x.g
 cap : x.g.length ≤ x.cp
 tag : ∀ b o s, x.A = some ⟨b, o, s⟩ → x.g ≠ [] → b < base ∨ ∃ cs fr, w.heap[b]? = some (.cells cs 3 fr)
section
variable {w w' : World} {lo base B n : Nat} {x : G} {hs : List G} {sv sv' : Value}
theorem In1.below (h : In1 w lo base x) (hb : Below B w w') (hB : w.heap.size ≤ B) : In1 w' lo base x := by
 refine ⟨h.has.below hb hB, h.cap, fun b o s e hn => ?_⟩
 rcases h.tag b o s e hn with h1 | ⟨cs, fr, h1⟩
 ·exact Or.inl h1
 ·have hlt : b < w.heap.size := (Array.getElem?_eq_some_iff.1 h1).1
  exact Or.inr ⟨cs, fr, (hb.block b (Nat.lt_of_lt_of_le hlt hB)).trans h1⟩
theorem In1.grown (h : In1 w lo base x) (hown : w.ownsRow base 67 1 sv n (Li.cellsL cellsG hs)) (hg : w.grownBy w' sv.ownBlock) : In1 w' lo base x := by
 have key : ∀ b o s, x.A = some ⟨b, o, s⟩ → x.g ≠ [] → some b ≠ sv.ownBlock := fun b o s e hn hb => by
  have hlt := hown.lt b hb.symm
  rcases h.tag b o s e hn with h1 | ⟨cs, fr, h1⟩
  ·omega
  ·rcases hown.2 with ⟨rfl, _⟩ | ⟨g, cap, cur, rfl, _, hg2, _⟩
   ·cases hb
   ·injection hb with hb
    have hb : b = g := hb
    subst hb
    rw [h1] at hg2
    injection hg2 with hg2
    injection hg2 with _ e2
    cases e2
 refine ⟨fun hn => ?_, h.cap, fun b o s e hn => ?_⟩
 ·obtain ⟨b, o, hA, hlo, hlt, hc⟩ := h.has hn
  refine ⟨b, o, hA, hlo, Nat.lt_of_lt_of_le hlt hg.size, fun j y hj i v hv => ?_⟩
  exact hg.cell (hc j y hj i v hv) (key b o none hA hn)
 ·rcases h.tag b o s e hn with h1 | ⟨cs, fr, h1⟩
  ·exact Or.inl h1
  ·have hlt : b < w.heap.size := (Array.getElem?_eq_some_iff.1 h1).1
   exact Or.inr ⟨cs, fr, (hg.block b hlt (key b o s e hn)).trans h1⟩
/-- One group more. -/
theorem own_push (hI : ∀ z ∈ hs, In1 w lo base z) (hown : w.ownsRow base 67 1 sv n (Li.cellsL cellsG hs)) (hx : In1 w lo base x) (hown' : w'.ownsRow base 67 1 sv' (n + 1) (Li.cellsL cellsG hs ++ [.slice x.A x.g.length x.cp])) (hg : w.grownBy w' sv.ownBlock) :
  w'.ownsRow base 67 1 sv' (n + 1) (Li.cellsL cellsG (hs ++ [x])) ∧ ∀ z ∈ hs ++ [x], In1 w' lo base z := by
 refine ⟨by rw [Li.cellsL_snoc]; exact hown', fun z hz => ?_⟩
 rcases List.mem_append.1 hz with hz | hz
 ·exact (hI z hz).grown hown hg
 ·rw [List.mem_singleton] at hz
  subst hz
  exact hx.grown hown hg
end
/-- Groups of one's own, in an answer. -/
def LLPost (lo : Nat) (ls : List (List Int)) (w : World) (e : Ending) (w' : World) : Prop :=
 ∃ A cp, e = .returned (.slice A ls.length cp) ∧ ls.length ≤ cp ∧ HasLL w' lo A ls ∧ Below w.heap.size w w'
theorem LLPost.own {lo n : Nat} {ls : List (List Int)} {w w' : World} {sv : Value} {hs : List G} (hlo : lo ≤ w.heap.size) (hown : w'.ownsRow w.heap.size 67 1 sv n (Li.cellsL cellsG hs)) (hn : hs.length = n) (hI : ∀ z ∈ hs, In1 w' lo w.heap.size z) (e : hs.map G.g = ls) (hB : Below w.heap.size w w') : LLPost lo ls w (.returned sv) w' := by
 obtain ⟨A, c, rfl, hc, hl⟩ := Li.list_of_own cellsG_len hown hn
 subst e
 rw [← hn] at hc
 refine ⟨A, c, by rw [List.length_map, hn], by rw [List.length_map]; exact hc, ⟨hs, rfl, hl.lower hlo, fun x hx => ⟨(hI x hx).has, (hI x hx).cap⟩⟩, hB⟩
theorem upTo_snoc (q : Nat) : upTo (q + 1) = upTo q ++ [(q : Int)] := by unfold upTo; rw [List.range_succ, List.map_append]; rfl
def oneI (cols : Int) : List (List Int) := oneS cols.toNat
set_option maxRecDepth 20000 in
set_option maxHeartbeats 1600000 in
theorem refOne_any (cols : Int) (w : World) (h0 : -9223372036854775808 ≤ cols) (h1 : cols ≤ 1000000) : Calls Tryd.prog 9 #[.int .i64 cols] w (LLPost w.heap.size (oneI cols) w) := by
 obtain ⟨i0, hi, hz0, hz1, hz2⟩ := info_parts infoI
 by_cases hc : cols < 1
 ·have hP : LLPost w.heap.size (oneI cols) w (.returned (.slice none 0 0)) w := by
   have e : oneI cols = [] := by unfold oneI oneS; rw [if_pos (by omega)]
   rw [e]
   exact ⟨none, 0, rfl, Nat.le_refl _, HasLL.nil _ _ _, Below.refl _ w⟩
  generalize LLPost w.heap.size (oneI cols) w = post at hP ⊢
  have HP := Lib.hid hP
  clear hP
  go_enter Tryd.func9, Tryd.ntmps9
  go_wp2
  go_loopw [3, 4] (fun x i wr => x = .slice none 0 0 ∧ i = .int .i64 0 ∧ wr = w) (fun _ i _ => 0)
  case atStart => exact ⟨rfl, rfl, rfl⟩
  case round =>
   obtain ⟨rfl, rfl, rfl⟩ := hrel
   go_wp2
   exact HP.out
 ·obtain ⟨m, rfl⟩ : ∃ m : Nat, cols = (m : Int) := ⟨cols.toNat, by omega⟩
  have hPG := fun (w' : World) (A : Option Addr) (cp : Nat) (ww : World) (hl : HasI w' w.heap.size A (upTo m)) (hc : m ≤ cp) (hB : Below w.heap.size w w') =>
   (show LLPost w.heap.size (oneI m) w (.returned (.slice (some ⟨w'.heap.size, 0, none⟩) 1 1)) (w'.alloc (.cells #[.slice A m cp] 67)) from by
    have e : oneI m = [upTo m] := by unfold oneI oneS; rw [if_neg (by omega), Int.toNat_natCast]
    rw [e]
    refine ⟨_, 1, rfl, Nat.le_refl _, ⟨[⟨A, cp, upTo m⟩], rfl, (Li.list_of_block cellsG_len (heap_alloc_new w' _) (by unfold Li.cellsL cellsG; rw [List.flatMap_cons, upTo_len]; rfl)).lower hB.size, fun x hx => ?_⟩, hB.alloc hB.size _⟩
    rw [List.mem_singleton] at hx
    subst hx
    exact ⟨hl.below ((Below.refl w'.heap.size w').alloc (Nat.le_refl _) _) (Nat.le_refl _), by rw [upTo_len]; exact hc⟩)
  generalize LLPost w.heap.size (oneI m) w = post at hPG ⊢
  have HPG := Lib.hid hPG
  clear hPG
  go_enter Tryd.func9, Tryd.ntmps9
  go_wp2
  go_loopw [3, 4] (fun x i wr => ∃ (q : Nat) (sv : Value), q ≤ m ∧ i = .int .i64 q ∧ x = sv ∧ wr.ownsRow w.heap.size 3 1 sv q (Li.cellsL cellsI (upTo q)) ∧ Below w.heap.size w wr) (fun _ i _ => m - (intOf i).toNat)
  case atStart => exact ⟨0, _, Nat.zero_le _, rfl, rfl, World.ownsRow_nil _ _ _ _, Below.refl _ w⟩
  case round =>
   obtain ⟨q, sv, hq, rfl, rfl, hown, hB⟩ := hrel
   by_cases hlt : q < m
   ·have i1 : (q : Int) < (m : Int) := by omega
    have HW := Lib.hid (And.intro (hown.alloc (.cells #[.int .i64 q] 3)) (And.intro (hB.alloc hB.size (.cells #[.int .i64 q] 3)) (heap_alloc_new wr (.cells #[.int .i64 q] 3))))
    clear hown hB
    go_wp2_with (at_builtin; go_must (refine wpList_append_own _ rfl _ _ 67 rfl w.heap.size 3 i0 (.int .i64 0) 1 8 Tryd.underlying67 hi hz0 hz1 hz2 rfl (by decide) u3 q (Li.cellsL cellsI (upTo q)) rfl HW.out.1 ⟨wr.heap.size, 0, none⟩ 1 1 [.int .i64 q] rfl rfl (World.news_of_block HW.out.2.2) (by simp [Value.oneCell']) (by unfold maxLen; omega) (by omega) HW.out.2.1.size ?_))
    intro v5 y5 hown5 hgrow5 _
    obtain ⟨hownW, hbW, hnW⟩ := HW.out
    have hB := hbW.grown hgrow5 hbW.size (fun k hk => (hownW.lt k hk).1)
    clear hownW hbW hnW hgrow5 HW
    go_wp2
    go_roundw
    case rel =>
     refine ⟨q + 1, _, by omega, by go_num, rfl, ?_, hB⟩
     rw [upTo_snoc, Li.cellsL_snoc]
     exact hown5
    case measure => simp [intOf]; omega
   ·obtain rfl : q = m := by omega
    obtain ⟨A, c, rfl, hc', hl⟩ := Li.list_of_own cellsI_len hown (upTo_len q)
    have HL := Lib.hid (HPG.out wr A c w hl hc' hB)
    have hq0 : ((q : Int) == 0) = false := beq_eq_false_iff_ne.2 (by omega)
    go_wp2
    exact HL.out

end Go.Proofs.YtpnnkhpokangfaaDoor.Sp
