/- Texts MiA, MiB, MiC, MiD, MiE, MiF, MiG, one behind the other. -/
import Derived.Test.YtpnnkhpokangfaaDoorVaA
import Derived.Test.YtpnnkhpokangfaaDoorMgO
import Derived.Test.YtpnnkhpokangfaaDoorMgL
import Derived.Test.YtpnnkhpokangfaaDoorRoD
import Derived.Test.YtpnnkhpokangfaaDoorMgX
import Derived.Deep.AppendLies
import Derived.OwnWalk
import Derived.Laws.OwnMore
import Derived.Test.YtpnnkhpokangfaaDoorMgS
import Derived.Test.YtpnnkhpokangfaaDoorLeB
/- Stage 9, a group's bytes, plainly: written, what is of one width, one text for each group. -/
namespace Go.Proofs.YtpnnkhpokangfaaDoor.Mi
open Pac Va Go.Proofs.YtpnnkhpokangfaaDoor.Or

/-- A cell may be: its column's kind, its value. -/
structure CellOk (p : Int × V) : Prop where
 k : p.1 = 1 ∨ p.1 = 2 ∨ p.1 = 3
 r : rightV p.2 = true
 z : p.2.k = 0 ∨ p.2.k = p.1
 ok : p.2.Ok
/-- What is of one width: of a cell, with so many bytes behind all this already. -/
def one (k : Int) (v : V) (h : Nat) : List UInt8 :=
 if k = 1 then be 8 (v.n % 18446744073709551616).toNat else if k = 2 then [UInt8.ofNat (v.n % 256).toNat] else
 [UInt8.ofNat ((if v.s.size = 0 then 0 else h) / 256), UInt8.ofNat (if v.s.size = 0 then 0 else h), UInt8.ofNat v.s.size]
def oneW (k : Int) : Nat := if k = 1 then 8 else if k = 2 then 1 else 3
theorem one_len (k : Int) (v : V) (h : Nat) : (one k v h).length = oneW k := by
 unfold one oneW
 split
 ·exact be_len _ _
 ·split <;> rfl
def fix : Nat → List (Int × V) → List UInt8
 | _, [] => []
 | h, p :: c => one p.1 p.2 h ++ fix (h + p.2.s.size) c
def hp : List (Int × V) → List UInt8
 | [] => []
 | p :: c => p.2.s.data.toList ++ hp c
def wide : List Int → Nat
 | [] => 0
 | k :: ks => oneW k + wide ks
theorem fix_len : ∀ (h : Nat) (c : List (Int × V)), (fix h c).length = wide (c.map (·.1))
 | _, [] => rfl
 | h, p :: c => by
  show (one p.1 p.2 h ++ fix (h + p.2.s.size) c).length = oneW p.1 + wide (c.map (·.1))
  rw [List.length_append, one_len, fix_len]
theorem fix_app : ∀ (h : Nat) (c d : List (Int × V)), fix h (c ++ d) = fix h c ++ fix (h + (hp c).length) d
 | h, [], d => by simp [fix, hp]
 | h, p :: c, d => by
  show one p.1 p.2 h ++ fix (h + p.2.s.size) (c ++ d) = (one p.1 p.2 h ++ fix (h + p.2.s.size) c) ++ _
  rw [fix_app, List.append_assoc]
  congr 3
  show h + p.2.s.size + (hp c).length = h + (p.2.s.data.toList ++ hp c).length
  rw [List.length_append]
  show _ = h + (p.2.s.data.toList.length + _)
  have : p.2.s.data.toList.length = p.2.s.size := by simp
  omega
theorem hp_app : ∀ (c d : List (Int × V)), hp (c ++ d) = hp c ++ hp d
 | [], d => rfl
 | p :: c, d => by
  show p.2.s.data.toList ++ hp (c ++ d) = (p.2.s.data.toList ++ hp c) ++ hp d
  rw [hp_app, List.append_assoc]
theorem fix_snoc (h : Nat) (c : List (Int × V)) (k : Int) (v : V) : fix h (c ++ [(k, v)]) = fix h c ++ one k v (h + (hp c).length) := by
 rw [fix_app]
 show _ ++ (one k v _ ++ []) = _
 rw [List.append_nil]
theorem hp_snoc (c : List (Int × V)) (k : Int) (v : V) : hp (c ++ [(k, v)]) = hp c ++ v.s.data.toList := by
 rw [hp_app]
 show _ ++ (v.s.data.toList ++ []) = _
 rw [List.append_nil]
/-- A byte's lowest bits. -/
def part (f : Nat → Bool) (j : Nat) : Nat → Nat
 | 0 => 0
 | m + 1 => part f j m + if f (8 * j + m) then 2 ^ m else 0
theorem part_lt (f : Nat → Bool) (j : Nat) : ∀ m, part f j m < 2 ^ m
 | 0 => by simp [part]
 | m + 1 => by
  have h := part_lt f j m
  show part f j m + (if f (8 * j + m) then 2 ^ m else 0) < 2 ^ (m + 1)
  rw [Nat.pow_succ]
  split <;> omega
theorem part_inj {f g : Nat → Bool} {j : Nat} : ∀ m, part f j m = part g j m → ∀ i < m, f (8 * j + i) = g (8 * j + i)
 | 0, _, i, hi => absurd hi (Nat.not_lt_zero _)
 | m + 1, h, i, hi => by
  have h1 := part_lt f j m
  have h2 := part_lt g j m
  have h : part f j m + (if f (8 * j + m) then 2 ^ m else 0) = part g j m + (if g (8 * j + m) then 2 ^ m else 0) := h
  have e : f (8 * j + m) = g (8 * j + m) ∧ part f j m = part g j m := by
   cases hf : f (8 * j + m) <;> cases hg : g (8 * j + m) <;> rw [hf, hg] at h <;> simp at h
   ·exact ⟨rfl, h⟩
   ·omega
   ·omega
   ·exact ⟨rfl, by omega⟩
  by_cases him : i < m
  ·exact part_inj m e.2 i him
  ·obtain rfl : i = m := by omega
   exact e.1
def isAt (c : List (Int × V)) (n : Nat) : Bool := match c[n]? with
 | some p => p.2.k != 0
 | none => false
def mask (c : List (Int × V)) (M : Nat) : List UInt8 := (List.range M).map fun j => UInt8.ofNat (part (isAt c) j 8)
theorem mask_len (c : List (Int × V)) (M : Nat) : (mask c M).length = M := by unfold mask; simp
theorem mask_inj {c d : List (Int × V)} {M : Nat} (h : mask c M = mask d M) {n : Nat} (hn : n < 8 * M) : isAt c n = isAt d n := by
 have hj : n / 8 < M := by omega
 have h1 : (mask c M)[n / 8]? = (mask d M)[n / 8]? := by rw [h]
 unfold mask at h1
 rw [List.getElem?_map, List.getElem?_map, List.getElem?_range hj] at h1
 injection h1 with h1
 have h1 : UInt8.ofNat (part (isAt c) (n / 8) 8) = UInt8.ofNat (part (isAt d) (n / 8) 8) := h1
 have p1 := part_lt (isAt c) (n / 8) 8
 have p2 := part_lt (isAt d) (n / 8) 8
 have h2 : (UInt8.ofNat (part (isAt c) (n / 8) 8)).toNat = (UInt8.ofNat (part (isAt d) (n / 8) 8)).toNat := by rw [h1]
 rw [ofNat_toNat _ (by simpa using p1), ofNat_toNat _ (by simpa using p2)] at h2
 have := part_inj 8 h2 (n % 8) (by omega)
 rwa [show 8 * (n / 8) + n % 8 = n by omega] at this
theorem right_s {v : V} (h : rightV v = true) (h3 : v.k ≠ 3) : v.s = ⟨#[]⟩ ∧ (v.k = 0 → v.n = 0) ∧ (v.k = 2 → v.n = 0 ∨ v.n = 1) := by
 have he : ∀ s : ByteArray, s.toList.isEmpty = true → s = ⟨#[]⟩ := fun s h => by
  apply bytesEq'
  rw [ByteArray.toList_eq] at h
  rw [List.isEmpty_iff.1 h]
 unfold rightV at h
 split at h
 ·rename_i h0
  simp only [Bool.and_eq_true, beq_iff_eq] at h
  exact ⟨he _ h.2, fun _ => h.1, fun h2 => by rw [h0] at h2; cases h2⟩
 ·split at h
  ·rename_i h0 h1
   exact ⟨he _ h, fun h2 => absurd h2 h0, fun h2 => by rw [h1] at h2; cases h2⟩
  ·split at h
   ·rename_i h0 _ _
    simp only [Bool.and_eq_true, Bool.or_eq_true, beq_iff_eq] at h
    exact ⟨he _ h.2, fun h2 => absurd h2 h0, fun _ => h.1⟩
   ·cases h
theorem right_3 {v : V} (h : rightV v = true) (h3 : v.k = 3) : v.n = 0 ∧ v.s.size ≤ 60 := by
 unfold rightV at h
 rw [if_neg (by omega), if_neg (by omega), if_neg (by omega), if_pos h3] at h
 simp only [Bool.and_eq_true, beq_iff_eq, decide_eq_true_eq] at h
 exact ⟨h.1, by omega⟩
theorem right_sz {v : V} (h : rightV v = true) : v.s.size ≤ 60 := by
 by_cases h3 : v.k = 3
 ·exact (right_3 h h3).2
 ·rw [(right_s h h3).1]
  decide
theorem one_inj {k : Int} {v u : V} {h : Nat} (hv : CellOk (k, v)) (hu : CellOk (k, u)) (hz : v.k = 0 ↔ u.k = 0) (he : one k v h = one k u h) : v.k = u.k ∧ v.n = u.n ∧ v.s.size = u.s.size := by
 obtain ⟨hk, rv, zv, ov⟩ := hv
 obtain ⟨_, ru, zu, ou⟩ := hu
 simp only at hk rv zv ov ru zu ou
 have hvu : v.k = u.k := by
  rcases zv with h1 | h1
  ·rw [h1, hz.1 h1]
  ·rcases zu with h2 | h2
   ·rw [h2, hz.2 h2]
   ·rw [h1, h2]
 refine ⟨hvu, ?_⟩
 obtain ⟨a0, a1, a2, a3⟩ := ov
 obtain ⟨c0, c1, c2, c3⟩ := ou
 rcases hk with rfl | rfl | rfl
 ·have sv := right_s rv (by omega)
  have su := right_s ru (by omega)
  unfold one at he
  rw [if_pos rfl, if_pos rfl] at he
  have p8' : (256 : Nat) ^ 8 = 18446744073709551616 := by decide
  have := be_inj (by rw [p8']; omega) (by rw [p8']; omega) he
  exact ⟨by omega, by rw [sv.1, su.1]⟩
 ·have sv := right_s rv (by omega)
  have su := right_s ru (by omega)
  unfold one at he
  rw [if_neg (by decide), if_pos rfl, if_neg (by decide), if_pos rfl] at he
  injection he with he _
  have he := congrArg UInt8.toNat he
  rw [ofNat_toNat _ (by omega), ofNat_toNat _ (by omega)] at he
  refine ⟨?_, by rw [sv.1, su.1]⟩
  have b1 : v.n = 0 ∨ v.n = 1 := by
   rcases zv with z | z
   ·exact Or.inl (sv.2.1 z)
   ·exact sv.2.2 z
  have b2 : u.n = 0 ∨ u.n = 1 := by
   rcases zu with z | z
   ·exact Or.inl (su.2.1 z)
   ·exact su.2.2 z
  omega
 ·have zv' := right_sz rv
  have zu' := right_sz ru
  unfold one at he
  simp only [if_neg (show ¬ (3 : Int) = 1 by decide), if_neg (show ¬ (3 : Int) = 2 by decide)] at he
  injection he with _ he
  injection he with _ he
  injection he with he _
  have he := congrArg UInt8.toNat he
  rw [ofNat_toNat _ (by omega), ofNat_toNat _ (by omega)] at he
  refine ⟨?_, he⟩
  have n0 : ∀ x : V, rightV x = true → (x.k = 0 ∨ x.k = 3) → x.n = 0 := fun x hx hk => by
   rcases hk with z | z
   ·exact (right_s hx (by omega)).2.1 z
   ·exact (right_3 hx z).1
  rw [n0 v rv zv, n0 u ru zu]
/-- Two cells that agree, but for their bytes. -/
def Like (p q : Int × V) : Prop := p.1 = q.1 ∧ p.2.k = q.2.k ∧ p.2.n = q.2.n ∧ p.2.s.size = q.2.s.size
theorem fix_inj : ∀ (c d : List (Int × V)) (h : Nat), c.map (·.1) = d.map (·.1) → (∀ p ∈ c, CellOk p) → (∀ p ∈ d, CellOk p) → (∀ n, isAt c n = isAt d n) → fix h c = fix h d →
  ∀ (j : Nat) (p q : Int × V), c[j]? = some p → d[j]? = some q → Like p q
 | [], _, _, _, _, _, _, _, j, p, q, h1, _ => by simp at h1
 | _ :: _, [], _, _, _, _, _, _, j, p, q, _, h2 => by simp at h2
 | (k, v) :: c, (k', u) :: d, h, hk, hc, hd, hm, he, j, p, q, h1, h2 => by
  simp only [List.map_cons, List.cons.injEq] at hk
  obtain ⟨rfl, hk⟩ := hk
  have ov := hc (k, v) List.mem_cons_self
  have ou := hd (k, u) List.mem_cons_self
  have hz : v.k = 0 ↔ u.k = 0 := by
   have := hm 0
   simp only [isAt, List.getElem?_cons_zero] at this
   by_cases a : v.k = 0 <;> by_cases b : u.k = 0 <;> simp [a, b] at this ⊢
  have he : one k v h ++ fix (h + v.s.size) c = one k u h ++ fix (h + u.s.size) d := he
  have hl := List.append_inj he (by rw [one_len, one_len])
  have h0 := one_inj ov ou hz hl.1
  cases j with
  | zero =>
   simp only [List.getElem?_cons_zero, Option.some.injEq] at h1 h2
   subst h1 h2
   exact ⟨rfl, h0⟩
  | succ j =>
   rw [List.getElem?_cons_succ] at h1 h2
   refine fix_inj c d (h + v.s.size) hk (fun p hp => hc p (List.mem_cons_of_mem _ hp)) (fun p hp => hd p (List.mem_cons_of_mem _ hp)) (fun n => ?_) (by rw [hl.2, h0.2.2]) j p q h1 h2
   have := hm (n + 1)
   simpa only [isAt, List.getElem?_cons_succ] using this
theorem hp_like : ∀ (c d : List (Int × V)), c.length = d.length → (∀ (j : Nat) (p q : Int × V), c[j]? = some p → d[j]? = some q → Like p q) → (hp c).length = (hp d).length ∧ (hp c = hp d → c = d)
 | [], [], _, _ => ⟨rfl, fun _ => rfl⟩
 | [], _ :: _, h, _ => by simp at h
 | _ :: _, [], h, _ => by simp at h
 | (k, v) :: c, (k', u) :: d, h, hl => by
  obtain ⟨e1, e2, e3, e4⟩ := hl 0 (k, v) (k', u) rfl rfl
  simp only at e1 e2 e3 e4
  have hh := hp_like c d (by simpa using h) (fun j p q h1 h2 => hl (j + 1) p q h1 h2)
  have e5 : v.s.data.toList.length = u.s.data.toList.length := by
   have a1 : v.s.data.toList.length = v.s.size := by simp
   have a2 : u.s.data.toList.length = u.s.size := by simp
   omega
  refine ⟨?_, fun he => ?_⟩
  ·show (v.s.data.toList ++ hp c).length = (u.s.data.toList ++ hp d).length
   rw [List.length_append, List.length_append, e5, hh.1]
  ·have he : v.s.data.toList ++ hp c = u.s.data.toList ++ hp d := he
   have h6 := List.append_inj he e5
   obtain ⟨vk, vn, vs⟩ := v
   obtain ⟨uk, un, us⟩ := u
   simp only at e1 e2 e3 h6
   rw [hh.2 h6.2, e1, e2, e3, bytesEq' h6.1]
/-- A group's bytes, of cells in a row. -/
def printC (c : List (Int × V)) (M : Nat) : List UInt8 := mask c M ++ fix 0 c ++ hp c
theorem print_len (c : List (Int × V)) (M : Nat) : (printC c M).length = M + wide (c.map (·.1)) + (hp c).length := by
 unfold printC
 rw [List.length_append, List.length_append, mask_len, fix_len]
theorem print_like {c d : List (Int × V)} {M : Nat} (hk : c.map (·.1) = d.map (·.1)) (hn : c.length ≤ 8 * M) (hc : ∀ p ∈ c, CellOk p) (hd : ∀ p ∈ d, CellOk p) (h : (printC c M).take (M + wide (c.map (·.1))) = (printC d M).take (M + wide (c.map (·.1)))) :
  ∀ (j : Nat) (p q : Int × V), c[j]? = some p → d[j]? = some q → Like p q := by
 have hl : c.length = d.length := by simpa using congrArg List.length hk
 have t1 : (printC c M).take (M + wide (c.map (·.1))) = mask c M ++ fix 0 c := by
  unfold printC
  rw [List.take_left' (by rw [List.length_append, mask_len, fix_len])]
 have t2 : (printC d M).take (M + wide (c.map (·.1))) = mask d M ++ fix 0 d := by
  unfold printC
  rw [List.take_left' (by rw [List.length_append, mask_len, fix_len, hk])]
 rw [t1, t2] at h
 have h := List.append_inj h (by rw [mask_len, mask_len])
 refine fix_inj c d 0 hk hc hd (fun n => ?_) h.2
 by_cases hlt : n < 8 * M
 ·exact mask_inj h.1 hlt
 ·have a1 : c[n]? = none := List.getElem?_eq_none (by omega)
  have a2 : d[n]? = none := List.getElem?_eq_none (by omega)
  unfold isAt
  rw [a1, a2]
theorem print_inj {c d : List (Int × V)} {M : Nat} (hk : c.map (·.1) = d.map (·.1)) (hn : c.length ≤ 8 * M) (hc : ∀ p ∈ c, CellOk p) (hd : ∀ p ∈ d, CellOk p) (h : printC c M = printC d M) : c = d := by
 have hl : c.length = d.length := by simpa using congrArg List.length hk
 have h2 := hp_like c d hl (print_like hk hn hc hd (by rw [h]))
 refine h2.2 ?_
 unfold printC at h
 exact (List.append_inj h (by rw [List.length_append, List.length_append, mask_len, mask_len, fix_len, fix_len, hk])).2
/-- All cells of a group, in a row. -/
def flat (ks : List Int) (cells : List (List V)) : List (Int × V) := cells.flatMap fun r => ks.zip r
theorem zip_len {ks : List Int} {r : List V} (h : r.length = ks.length) : (ks.zip r).length = ks.length := by rw [List.length_zip, h, Nat.min_self]
theorem flat_len {ks : List Int} : ∀ {cells : List (List V)}, (∀ r ∈ cells, r.length = ks.length) → (flat ks cells).length = cells.length * ks.length
 | [], _ => by simp [flat]
 | r :: cells, h => by
  have h1 := flat_len (ks := ks) (cells := cells) (fun x hx => h x (List.mem_cons_of_mem _ hx))
  show (ks.zip r ++ flat ks cells).length = _
  rw [List.length_append, zip_len (h r List.mem_cons_self), h1, List.length_cons, Nat.add_mul, Nat.one_mul, Nat.add_comm]
theorem flat_kinds {ks : List Int} : ∀ {a b : List (List V)}, a.length = b.length → (∀ r ∈ a, r.length = ks.length) → (∀ r ∈ b, r.length = ks.length) → (flat ks a).map (·.1) = (flat ks b).map (·.1)
 | [], [], _, _, _ => rfl
 | [], _ :: _, h, _, _ => by simp at h
 | _ :: _, [], h, _, _ => by simp at h
 | r :: a, q :: b, h, ha, hb => by
  show (ks.zip r ++ flat ks a).map (·.1) = (ks.zip q ++ flat ks b).map (·.1)
  rw [List.map_append, List.map_append, flat_kinds (by simpa using h) (fun x hx => ha x (List.mem_cons_of_mem _ hx)) (fun x hx => hb x (List.mem_cons_of_mem _ hx))]
  congr 1
  rw [List.map_fst_zip (by rw [ha r List.mem_cons_self]; exact Nat.le_refl _), List.map_fst_zip (by rw [hb q List.mem_cons_self]; exact Nat.le_refl _)]
theorem flat_inj {ks : List Int} : ∀ {a b : List (List V)}, a.length = b.length → (∀ r ∈ a, r.length = ks.length) → (∀ r ∈ b, r.length = ks.length) → flat ks a = flat ks b → a = b
 | [], [], _, _, _, _ => rfl
 | [], _ :: _, h, _, _, _ => by simp at h
 | _ :: _, [], h, _, _, _ => by simp at h
 | r :: a, q :: b, h, ha, hb, he => by
  have he : ks.zip r ++ flat ks a = ks.zip q ++ flat ks b := he
  have lr := ha r List.mem_cons_self
  have lq := hb q List.mem_cons_self
  have h1 := List.append_inj he (by rw [zip_len lr, zip_len lq])
  rw [flat_inj (by simpa using h) (fun x hx => ha x (List.mem_cons_of_mem _ hx)) (fun x hx => hb x (List.mem_cons_of_mem _ hx)) h1.2]
  have h2 := congrArg (List.map (·.2)) h1.1
  rw [List.map_snd_zip (by omega), List.map_snd_zip (by omega)] at h2
  rw [h2]
theorem flat_at {ks : List Int} : ∀ {cells : List (List V)} {i c : Nat} {r : List V} {v : V} {k : Int}, (∀ r ∈ cells, r.length = ks.length) → cells[i]? = some r → r[c]? = some v → ks[c]? = some k → (flat ks cells)[i * ks.length + c]? = some (k, v)
 | [], i, c, r, v, k, _, h1, _, _ => by simp at h1
 | q :: cells, 0, c, r, v, k, ha, h1, h2, h3 => by
  simp only [List.getElem?_cons_zero, Option.some.injEq] at h1
  subst h1
  have hc : c < ks.length := (List.getElem?_eq_some_iff.1 h3).1
  show (ks.zip q ++ flat ks cells)[0 * ks.length + c]? = _
  rw [Nat.zero_mul, Nat.zero_add, List.getElem?_append_left (by rw [zip_len (ha q List.mem_cons_self)]; exact hc), List.getElem?_zip_eq_some]
  exact ⟨h3, h2⟩
 | q :: cells, i + 1, c, r, v, k, ha, h1, h2, h3 => by
  rw [List.getElem?_cons_succ] at h1
  have h4 := flat_at (fun x hx => ha x (List.mem_cons_of_mem _ hx)) h1 h2 h3
  show (ks.zip q ++ flat ks cells)[(i + 1) * ks.length + c]? = _
  have hq := zip_len (ha q List.mem_cons_self)
  rw [List.getElem?_append_right (by rw [hq, Nat.add_mul]; omega), hq, Nat.add_mul, Nat.one_mul, show i * ks.length + ks.length + c - ks.length = i * ks.length + c by omega]
  exact h4
/-- Cells may be a group's. -/
structure RightM (ks : List Int) (cells : List (List V)) : Prop where
 len : cells.length = 8
 row : ∀ r ∈ cells, r.length = ks.length
 ok : ∀ p ∈ flat ks cells, CellOk p
def printM (ks : List Int) (cells : List (List V)) : ByteArray := ⟨(printC (flat ks cells) ks.length).toArray⟩
theorem printM_list (ks : List Int) (cells : List (List V)) : (printM ks cells).data.toList = printC (flat ks cells) ks.length := by unfold printM; simp
theorem RightM.few {ks : List Int} {cells : List (List V)} (h : RightM ks cells) : (flat ks cells).length ≤ 8 * ks.length := by rw [flat_len h.row, h.len]; exact Nat.le_refl _
theorem printM_inj {ks : List Int} {a b : List (List V)} (ha : RightM ks a) (hb : RightM ks b) (h : printM ks a = printM ks b) : a = b := by
 have h := congrArg (fun x : ByteArray => x.data.toList) h
 simp only [printM_list] at h
 have hl : a.length = b.length := by rw [ha.len, hb.len]
 exact flat_inj hl ha.row hb.row (print_inj (flat_kinds hl ha.row hb.row) ha.few ha.ok hb.ok h)
open Classical in
/-- The cells whose bytes these are. -/
noncomputable def readM (ks : List Int) (s : ByteArray) : Option (List (List V)) := if h : ∃ cells, RightM ks cells ∧ printM ks cells = s then some h.choose else none
theorem read_print {ks : List Int} {cells : List (List V)} (h : RightM ks cells) : readM ks (printM ks cells) = some cells := by
 have hx : ∃ c, RightM ks c ∧ printM ks c = printM ks cells := ⟨cells, h, rfl⟩
 unfold readM
 rw [dif_pos hx]
 congr 1
 exact printM_inj hx.choose_spec.1 h hx.choose_spec.2
theorem read_none {ks : List Int} {s : ByteArray} (h : ∀ cells, RightM ks cells → printM ks cells ≠ s) : readM ks s = none := by
 unfold readM
 exact dif_neg (fun ⟨c, h1, h2⟩ => h c h1 h2)
end Go.Proofs.YtpnnkhpokangfaaDoor.Mi

/- Cells in memory; whether two are the same, a group's kinds, a group without any: the document's, walked. -/
namespace Go.Proofs.YtpnnkhpokangfaaDoor.Mi
open Go.RowKit Pac Va Sc Ro Lex

/-- The slice at A holds these rows of values. -/
abbrev HasVV (w : World) (lo : Nat) (A : Option Addr) (ls : List (List V)) : Prop := Li.HasLs cellsV 3 w lo A ls
def Rows2 (w : World) (b1 i1 b2 i2 : Nat) (x y : Value) : Prop := w.cell? ⟨b1, i1, none⟩ = some x ∧ w.cell? ⟨b2, i2, none⟩ = some y
theorem Rows2.below {w w' : World} {b1 i1 b2 i2 : Nat} {x y : Value} (h : Rows2 w b1 i1 b2 i2 x y) (hb : Below w.heap.size w w') : Rows2 w' b1 i1 b2 i2 x y := ⟨cell_below hb h.1, cell_below hb h.2⟩
theorem ext_of {α : Type} {a b : List α} {m : Nat} (ha : a.length = m) (hb : b.length = m) (h : ∀ j < m, a[j]? = b[j]?) : a = b := by
 apply List.ext_getElem?
 intro j
 by_cases hj : j < m
 ·exact h j hj
 ·rw [List.getElem?_eq_none (by omega), List.getElem?_eq_none (by omega)]
theorem upto_succ {α : Type} {a b : List α} {q : Nat} {x : α} (h : ∀ j < q, a[j]? = b[j]?) (ha : a[q]? = some x) (hb : b[q]? = some x) : ∀ j < q + 1, a[j]? = b[j]? := fun j hj => by
 by_cases hq : j < q
 ·exact h j hq
 ·obtain rfl : j = q := by omega
  rw [ha, hb]

/-- The kinds of these columns. -/
def kindsL (cs : List C) (g : List Int) : List Int := g.map fun c => ((cs[c.toNat]?).map C.k).getD 0
theorem kinds_at {cs : List C} {g : List Int} {q : Nat} {c : Int} {x : C} (hq : g[q]? = some c) (hc : cs[c.toNat]? = some x) : (kindsL cs g)[q]? = some x.k := by
 unfold kindsL
 rw [List.getElem?_map, hq]
 show some (((cs[c.toNat]?).map C.k).getD 0) = _
 rw [hc]
 rfl
theorem kinds_len (cs : List C) (g : List Int) : (kindsL cs g).length = g.length := by unfold kindsL; simp
def KindsPost (ks : List Int) (w : World) (e : Ending) (w' : World) : Prop :=
 ∃ A c, e = .returned (.slice A ks.length c) ∧ ks.length ≤ c ∧ HasI w' w.heap.size A ks ∧ Below w.heap.size w w'

theorem infoInt : (Tryd.prog.info? 3).map (fun i => (i.zero, i.size, i.bytes)) = some (some (.int .i64 0), 1, 8) := by kernel_rfl
set_option maxRecDepth 20000 in
set_option maxHeartbeats 3200000 in
theorem refKinds_any (nm : ByteArray) (A1 A2 : Option Addr) (cp cp2 : Nat) (cs : List C) (g : List Int) (lo1 lo2 : Nat) (w : World) (h1 : HasCols w lo1 A1 cs) (h2 : HasI w lo2 A2 g) (hl1 : cs.length ≤ 9223372036854775807) (hl2 : g.length ≤ 1000000) (hg : ∀ c ∈ g, 0 ≤ c ∧ c < cs.length) :
  Calls Tryd.prog 59 #[.agg #[.string nm, .slice A1 cs.length cp], .slice A2 g.length cp2] w (KindsPost (kindsL cs g) w) := by
 obtain ⟨i0, hi, hz0, hz1, hz2⟩ := info_parts infoInt
 obtain ⟨ks, hks⟩ : ∃ ks, kindsL cs g = ks := ⟨_, rfl⟩
 have hkl : ks.length = g.length := by rw [← hks, kinds_len]
 have HAT : Hid (∀ (q : Nat) (c : Int) (x : C), g[q]? = some c → cs[c.toNat]? = some x → ks[q]? = some x.k) := Lib.hid (fun q c x h1 h2 => by rw [← hks]; exact kinds_at h1 h2)
 rw [hks]
 clear hks
 have hP := fun (w' : World) (A : Option Addr) (c : Nat) (hc : ks.length ≤ c) (hi : HasI w' w.heap.size A ks) (hB : Below w.heap.size w w') => (show KindsPost ks w (.returned (.slice A ks.length c)) w' from ⟨A, c, rfl, hc, hi, hB⟩)
 generalize KindsPost ks w = post at hP ⊢
 obtain ⟨m, hm⟩ : ∃ m, g.length = m := ⟨_, rfl⟩
 obtain ⟨mc, hmc⟩ : ∃ m, cs.length = m := ⟨_, rfl⟩
 have hnew := (Below.refl w.heap.size w).alloc (Nat.le_refl _) (.cells #[.string nm, .slice A1 cs.length cp] 24)
 have hx0 := Box2.new w (.string nm) (.slice A1 cs.length cp) 24
 have h1 := h1.below hnew (Nat.le_refl _)
 have h2 := h2.below hnew (Nat.le_refl _)
 rw [hm] at hl2 hkl ⊢
 rw [hmc] at hl1 hg hx0 hnew h1 h2 ⊢
 rw [hkl] at hP
 generalize hw1 : w.alloc (.cells #[.string nm, .slice A1 mc cp] 24) = w1 at hx0 hnew h1 h2
 have hgb := hx0.lt
 have hbw := hnew.size
 have HP := Lib.hid hP
 have HA := Lib.hid h1
 have HB := Lib.hid h2
 have HM := Lib.hid (And.intro hm (And.intro hmc (And.intro hg hkl)))
 have HN := Lib.hid hnew
 clear h1 h2 hm hmc hg hkl hP hnew
 go_enter Tryd.func59, Tryd.ntmps59
 go_wp2
 clear hw1
 generalize hg0 : w.heap.size = g0 at hx0 hgb hbw ⊢
 generalize hbase : w1.heap.size = base at hgb hbw
 go_loopw [5, 6] (fun x i wr => ∃ (q : Nat) (sv : Value), q ≤ m ∧ i = .int .i64 q ∧ x = sv ∧ wr.ownsRow base 3 1 sv q (Li.cellsL cellsI (ks.take q)) ∧ Below base w1 wr) (fun _ i _ => m - (intOf i).toNat)
 case atStart => exact ⟨0, _, Nat.zero_le _, rfl, rfl, World.ownsRow_nil _ _ _ _, hbase ▸ Below.refl _ w1⟩
 case round =>
  obtain ⟨q, sv, hq, rfl, rfl, hown, hB⟩ := hrel
  by_cases hlt : q < m
  ·obtain ⟨hm, hmc, hg, hkl⟩ := HM.out
   have hg2 : g[q]? = some (g[q]'(by rw [hm]; exact hlt)) := List.getElem?_eq_getElem _
   have hr := hg _ (List.mem_of_getElem? hg2)
   generalize (g[q]'(by rw [hm]; exact hlt)) = c at hg2 hr
   obtain ⟨cn, rfl⟩ : ∃ cn : Nat, c = (cn : Int) := ⟨c.toNat, by omega⟩
   have hcn : cn < mc := by omega
   have hg1 : cs[cn]? = some (cs[cn]'(by rw [hmc]; exact hcn)) := List.getElem?_eq_getElem _
   generalize (cs[cn]'(by rw [hmc]; exact hcn)) = x at hg1
   have hkx := HAT.out q (cn : Int) x hg2 (by rw [Int.toNat_natCast]; exact hg1)
   obtain ⟨b2, o2, rfl, hlo2, hlb2, e0⟩ := HasI.at HB.out hg2
   obtain ⟨b1, o1, rfl, hlo1, hlb1, hcc⟩ := HA.out (fun e => by rw [e] at hg1; simp at hg1)
   obtain ⟨_, d1, _⟩ := hcc cn x hg1
   obtain ⟨_, ck, _⟩ := x
   simp only at d1 hkx
   have HC : Hid (∀ W, Below base w1 W → W.cell? ⟨b2, o2 + q, none⟩ = some (.int .i64 (cn : Int)) ∧ W.cell? ⟨b1, o1 + cn * 3 + 1, none⟩ = some (.int .i64 ck)) := Lib.hid (fun W hW => ⟨cell_below (hbase ▸ hW) e0, cell_below (hbase ▸ hW) d1⟩)
   have HKX : Hid (ks.take (q + 1) = ks.take q ++ [ck]) := Lib.hid (by
    obtain ⟨hlt', e⟩ := List.getElem?_eq_some_iff.1 hkx
    rw [List.take_succ_eq_append_getElem hlt', e])
   clear hcc d1 e0 hg1 hg2 hkx hm hmc hg hkl
   have i1 : (q : Int) < (m : Int) := by omega
   have i0' : (0 : Int) ≤ (q : Int) := by omega
   have j1 : (cn : Int) < (mc : Int) := by omega
   have j0 : (0 : Int) ≤ (cn : Int) := by omega
   have hD := And.intro (hx0.below hB hgb).c1 (HC.out _ hB)
   go_wp2_with fail
   have hown := hown.drew
   have hB := hB.drew
   have hD := And.intro (hx0.below hB hgb).c1 (HC.out _ hB)
   refine Lex.region_lex (ops := mkops) (calls := mkcalls) mkord (fun W => W.cell? ⟨g0, 1, none⟩ = some (.slice (some ⟨b1, o1, none⟩) mc cp) ∧ W.cell? ⟨b2, o2 + q, none⟩ = some (.int .i64 (cn : Int)) ∧ W.cell? ⟨b1, o1 + cn * 3 + 1, none⟩ = some (.int .i64 ck)) (by kernel_rfl) (by kernel_rfl) mksel (by kernel_rfl) (by kernel_rfl) mklex (hD) ?_
   unfold mkord
   generalize hy1 : wr.drew = y1 at hown hB hD ⊢
   clear hy1
   refine Lex.step_take (u5) mk0 rfl (Lex.want_none rfl) (by intro Wx hSw; (try dsimp only at hSw); go_simp; (try (first | (with_reducible rfl) | assumption | rfl))) ?_
   simp only [Act.put, List.setIfInBounds_toArray, List.set_cons_zero, List.set_cons_succ]
   refine Lex.step_take (.pointer (some ⟨g0, 1, none⟩)) mk1 rfl (Lex.want_none rfl) (by intro Wx hSw; (try dsimp only at hSw); go_simp; (try (first | (with_reducible rfl) | assumption | rfl))) ?_
   simp only [Act.put, List.setIfInBounds_toArray, List.set_cons_zero, List.set_cons_succ]
   refine Lex.step_take (.slice (some ⟨b1, o1, none⟩) mc cp) mk2 rfl (Lex.want_none rfl) (by intro Wx hSw; (try dsimp only at hSw); go_simp; (try (first | (with_reducible rfl) | assumption | rfl))) ?_
   simp only [Act.put, List.setIfInBounds_toArray, List.set_cons_zero, List.set_cons_succ]
   refine Lex.step_take (.slice (some ⟨b2, o2, none⟩) m cp2) mk3 rfl (Lex.want_none rfl) (by intro Wx hSw; (try dsimp only at hSw); go_simp; (try (first | (with_reducible rfl) | assumption | rfl))) ?_
   simp only [Act.put, List.setIfInBounds_toArray, List.set_cons_zero, List.set_cons_succ]
   refine Lex.step_take (.int .i64 q) mk4 rfl (Lex.want_none rfl) (by intro Wx hSw; (try dsimp only at hSw); go_simp; (try (first | (with_reducible rfl) | assumption | rfl))) ?_
   simp only [Act.put, List.setIfInBounds_toArray, List.set_cons_zero, List.set_cons_succ]
   refine Lex.step_take (.pointer (some ⟨b2, o2 + q, none⟩)) mk5 rfl (Lex.want_none rfl) (by intro Wx hSw; (try dsimp only at hSw); go_simp; (try (first | (with_reducible rfl) | assumption | rfl))) ?_
   simp only [Act.put, List.setIfInBounds_toArray, List.set_cons_zero, List.set_cons_succ]
   refine Lex.step_take (.int .i64 (cn : Int)) mk6 rfl (Lex.want_none rfl) (by intro Wx hSw; (try dsimp only at hSw); go_simp; (try (first | (with_reducible rfl) | assumption | rfl))) ?_
   simp only [Act.put, List.setIfInBounds_toArray, List.set_cons_zero, List.set_cons_succ]
   refine Lex.step_take (.pointer (some ⟨b1, o1 + cn * 3, none⟩)) mk7 rfl (Lex.want_none rfl) (by intro Wx hSw; (try dsimp only at hSw); go_simp; (try (first | (with_reducible rfl) | assumption | rfl))) ?_
   simp only [Act.put, List.setIfInBounds_toArray, List.set_cons_zero, List.set_cons_succ]
   refine Lex.step_take (.pointer (some ⟨b1, o1 + cn * 3 + 1, none⟩)) mk8 rfl (Lex.want_none rfl) (by intro Wx hSw; (try dsimp only at hSw); go_simp; (try (first | (with_reducible rfl) | assumption | rfl))) ?_
   simp only [Act.put, List.setIfInBounds_toArray, List.set_cons_zero, List.set_cons_succ]
   refine Lex.step_take (.int .i64 ck) mk9 rfl (Lex.want_none rfl) (by intro Wx hSw; (try dsimp only at hSw); go_simp; (try (first | (with_reducible rfl) | assumption | rfl))) ?_
   simp only [Act.put, List.setIfInBounds_toArray, List.set_cons_zero, List.set_cons_succ]
   refine Lex.step_call mk10 rfl (Lex.want_none rfl) (fun K hK => ?_)
   go_simp
   have hown := hown.alloc (.cells #[.int .i64 ck] 3)
   have hnews := heap_alloc_new y1 (.cells #[.int .i64 ck] 3)
   have hB := hB.alloc (hbase ▸ hB.size) (.cells #[.int .i64 ck] 3)
   have hD := And.intro (hx0.below hB hgb).c1 (HC.out _ hB)
   refine hK.out _ _ _ (fun _ h => h) hD ?_
   clear hK K
   try simp only [Act.put, List.setIfInBounds_toArray, List.set_cons_zero, List.set_cons_succ]
   refine Lex.step_call mk11 rfl (Lex.want_none rfl) (fun K hK => ?_)
   refine wp_append_lies _ (.tmp 13) (.tmp 23) 67 (by rfl) base 3 i0 _ 1 8 Tryd.underlying67 hi hz0 hz1 hz2 rfl (by omega) u5 q (Li.cellsL cellsI (ks.take q)) (by rfl) hown ⟨y1.heap.size, 0, none⟩ 1 1 [.int .i64 ck] (by rfl) (by rfl) (World.news_of_block hnews) (by simp [Value.oneCell']) (by omega) (by unfold maxLen; omega) (by omega) (hbase ▸ hB.size) _ rfl ?_
   intro g5 cap5 y3 hown5 hgrow5 _ hlt5
   have hB := hB.grown hgrow5 (hbase ▸ hB.size) (fun k hk => (hown.lt k hk).1)
   have hD := And.intro (hx0.below hB hgb).c1 (And.intro (HC.out _ hB).1 (HC.out _ hB).2)
   have hD := And.intro (hx0.below hB hgb).c1 (HC.out _ hB)
   refine hK.out _ _ _ (fun _ h => h) hD ?_
   clear hK K
   try simp only [Act.put, List.setIfInBounds_toArray, List.set_cons_zero, List.set_cons_succ]
   refine Lex.step_take (.slice (some ⟨g5, 0, none⟩) (q + 1) cap5) mk12 rfl (Lex.want_none rfl) (by intro Wx hSw; (try dsimp only at hSw); go_simp; (try (first | (with_reducible rfl) | assumption | rfl))) ?_
   simp only [Act.put, List.setIfInBounds_toArray, List.set_cons_zero, List.set_cons_succ]
   refine NoPanic.normal ?_
   clear hD
   go_wp2
   go_roundw
   case rel =>
    refine ⟨q + 1, _, by omega, by go_num, rfl, ?_, hB⟩
    rw [HKX.out, Li.cellsL_snoc]
    exact hown5
   case measure => simp [intOf]; omega
  ·obtain rfl : q = m := by omega
   have hkl := HM.out.2.2.2
   rw [List.take_of_length_le (by omega)] at hown
   obtain ⟨A, c, rfl, hc, hl⟩ := Li.list_of_own (R := cellsI) (fun _ => rfl) hown hkl
   have hQ := HP.out _ A c (by omega) (hl.lower (hg0 ▸ hbw)) (HN.out.trans (hB.mono (hg0 ▸ hbw)))
   have HQ := Lib.hid hQ
   clear hQ
   go_wp2
   exact HQ.out
end Go.Proofs.YtpnnkhpokangfaaDoor.Mi

/- A group without any cell: the document's, walked. -/
namespace Go.Proofs.YtpnnkhpokangfaaDoor.Mi
open Go.RowKit Pac Va Sc Ro Lex

def vZ : V := ⟨0, 0, ⟨#[]⟩⟩
def emptyM (m : Nat) : List (List V) := List.replicate 8 (List.replicate m vZ)
theorem made_vals : ∀ m : Nat, (madeCells #[.int .i64 0, .int .i64 0, .string ⟨#[]⟩] (m * 3)).toList = Li.cellsL cellsV (List.replicate m vZ)
 | 0 => by simp [madeCells, Li.cellsL]
 | m + 1 => by
  have h := made_vals m
  unfold madeCells at h ⊢
  rw [Array.toList_map, Array.toList_range] at h ⊢
  rw [show (m + 1) * 3 = m * 3 + 1 + 1 + 1 by omega, List.range_succ, List.range_succ, List.range_succ, List.map_append, List.map_append, List.map_append, h, List.replicate_succ', Li.cellsL_snoc, List.append_assoc, List.append_assoc]
  congr 1
  have e0 : (m * 3) % 3 = 0 := by omega
  have e1 : (m * 3 + 1) % 3 = 1 := by omega
  have e2 : (m * 3 + 2) % 3 = 2 := by omega
  show [(#[Value.int .i64 0, .int .i64 0, .string ⟨#[]⟩] : Array Value)[(m * 3) % 3]!] ++ ([(#[Value.int .i64 0, .int .i64 0, .string ⟨#[]⟩] : Array Value)[(m * 3 + 1) % 3]!] ++ [(#[Value.int .i64 0, .int .i64 0, .string ⟨#[]⟩] : Array Value)[(m * 3 + 2) % 3]!]) = cellsV vZ
  rw [e0, e1, e2]
  rfl
theorem empty_snoc (m q : Nat) : List.replicate (q + 1) (List.replicate m vZ) = List.replicate q (List.replicate m vZ) ++ [List.replicate m vZ] := List.replicate_succ'
theorem infoRow : (Tryd.prog.info? 35).map (fun i => (i.zero, i.size, i.bytes)) = some (some (.slice none 0 0), 1, 24) := by kernel_rfl

set_option maxRecDepth 20000 in
set_option maxHeartbeats 3200000 in
theorem refEmpty_any (A2 : Option Addr) (cp2 m : Nat) (w : World) (hm : m ≤ 1000000) :
  Calls Tryd.prog 41 #[.slice A2 m cp2] w (Li.LsPost cellsV 3 w.heap.size (emptyM m) w) := by
 obtain ⟨i0, hi, hz0, hz1, hz2⟩ := info_parts infoV
 obtain ⟨i2, hi2, hy0, hy1, hy2⟩ := info_parts infoRow
 have hPG := fun (w' : World) (sv : Value) (hs : List (Li.Gr V)) (hown : w'.ownsRow w.heap.size 35 1 sv 8 (Li.cellsL Li.cellsG hs)) (hn : hs.length = 8) (hI : ∀ z ∈ hs, Li.In1 cellsV 3 37 w' w.heap.size w.heap.size z) (e : hs.map Li.Gr.l = emptyM m) (hB : Below w.heap.size w w') =>
  Li.LsPost.own (Nat.le_refl _) hown hn hI e hB
 generalize Li.LsPost cellsV 3 w.heap.size (emptyM m) w = post at hPG ⊢
 have HPG := Lib.hid hPG
 clear hPG
 go_enter Tryd.func41, Tryd.ntmps41
 go_wp2
 go_loopw [3, 4] (fun x i wr => ∃ (q : Nat) (sv : Value) (hs : List (Li.Gr V)), q ≤ 8 ∧ i = .int .i64 q ∧ x = sv ∧ wr.ownsRow w.heap.size 35 1 sv q (Li.cellsL Li.cellsG hs) ∧ Hid (hs.length = q ∧ (∀ z ∈ hs, Li.In1 cellsV 3 37 wr w.heap.size w.heap.size z) ∧ hs.map Li.Gr.l = List.replicate q (List.replicate m vZ)) ∧ Below w.heap.size w wr) (fun _ i _ => 8 - (intOf i).toNat)
 case atStart => exact ⟨0, _, [], Nat.zero_le _, rfl, rfl, World.ownsRow_nil _ _ _ _, Lib.hid ⟨rfl, fun z hz => by simp at hz, rfl⟩, Below.refl _ w⟩
 case round =>
  obtain ⟨q, sv, hs, hq, rfl, rfl, hown, hH, hB⟩ := hrel
  by_cases hlt : q < 8
  ·have i1 : (q : Int) < 8 := by omega
   go_wp2_with (at_make; go_must (refine wpList_make_full _ rfl _ _ 35 rfl wr.heap.size 37 i0 (.agg #[.int .i64 0, .int .i64 0, .string ⟨#[]⟩]) 3 Tryd.underlying35 hi hz0 hz1 _ _ _ _ m rfl rfl rfl rfl (by rw [hz2]; omega) (by unfold maxLen; omega) (Nat.le_refl _) ?_))
   intro w1 hown1 hgrow1
   rw [made_vals] at hown1
   have hy1 : Below wr.heap.size wr w1 := (Below.refl _ _).grown hgrow1 (Nat.le_refl _) (fun k hk => by cases hk)
   have hy : Below wr.heap.size wr (w1.alloc (.cells #[.slice (some ⟨wr.heap.size, 0, none⟩) m m] 35)) := hy1.alloc hy1.size _
   have hx : Li.In1 cellsV 3 37 (w1.alloc (.cells #[.slice (some ⟨wr.heap.size, 0, none⟩) m m] 35)) w.heap.size w.heap.size ⟨some ⟨wr.heap.size, 0, none⟩, m, List.replicate m vZ⟩ :=
    (Li.In1.of_own cellsV_len hown1 (by simp) hB.size).below ((Below.refl w1.heap.size w1).alloc (Nat.le_refl _) _) (Nat.le_refl _)
   have hn2 := heap_alloc_new w1 (.cells #[.slice (some ⟨wr.heap.size, 0, none⟩) m m] 35)
   have hown2 := (Li.own_below hown hy1 (Nat.le_refl _)).alloc (.cells #[.slice (some ⟨wr.heap.size, 0, none⟩) m m] 35)
   have HI := Lib.hid (And.intro (fun z hz => (hH.out.2.1 z hz).below hy (Nat.le_refl _)) hx)
   have HW := Lib.hid (And.intro hown2 (And.intro (hB.trans (hy.mono hB.size)) hn2))
   clear hown hown1 hown2 hgrow1 hy hy1 hx hn2 hB
   go_wp2_with (at_builtin; go_must (refine wpList_append_own _ rfl _ _ 69 rfl w.heap.size 35 i2 (.slice none 0 0) 1 24 Tryd.underlying69 hi2 hy0 hy1 hy2 rfl (by decide) u3 q (Li.cellsL Li.cellsG hs) rfl HW.out.1 ⟨w1.heap.size, 0, none⟩ 1 1 [.slice (some ⟨wr.heap.size, 0, none⟩) m m] rfl rfl (World.news_of_block HW.out.2.2) (by simp [Value.oneCell']) (by unfold maxLen; omega) (by omega) HW.out.2.1.size ?_))
   intro v5 y5 hown5 hgrow5 _
   obtain ⟨hownW, hbW, hnW⟩ := HW.out
   have hB := hbW.grown hgrow5 hbW.size (fun k hk => (hownW.lt k hk).1)
   have hP := Li.own_push (t := 37) (x := ⟨some ⟨wr.heap.size, 0, none⟩, m, List.replicate m vZ⟩) (by decide) HI.out.1 hownW HI.out.2 (by simpa using hown5) hgrow5
   have HP := Lib.hid hP.2
   have hown5 := hP.1
   clear hownW hbW hnW hgrow5 HW hP HI
   go_wp2
   go_roundw
   case rel =>
    refine ⟨q + 1, _, hs ++ [⟨some ⟨wr.heap.size, 0, none⟩, m, List.replicate m vZ⟩], by omega, by go_num, rfl, hown5, Lib.hid ⟨by rw [List.length_append, hH.out.1]; rfl, HP.out, by rw [List.map_append, hH.out.2.2, empty_snoc]; rfl⟩, hB⟩
   case measure => simp [intOf]; omega
  ·obtain rfl : q = 8 := by omega
   go_wp2
   exact HPG.out wr _ hs hown hH.out.1 hH.out.2.1 hH.out.2.2 hB
end Go.Proofs.YtpnnkhpokangfaaDoor.Mi

/- One cell more: a group's bytes, step by step. -/
namespace Go.Proofs.YtpnnkhpokangfaaDoor.Mi
open Go.RowKit Pac Va Sc Ro Lex Go.Proofs.YtpnnkhpokangfaaDoor.Or

theorem app_empty (s : ByteArray) : (s ++ ⟨#[]⟩ : ByteArray) = s := bytesEq' (by rw [app_list]; simp)
theorem empty_of {s : ByteArray} (h : s.size = 0) : s = ⟨#[]⟩ := bytesEq' (by
 have h1 : s.data.toList.length = s.size := by simp
 rw [h] at h1
 exact List.eq_nil_of_length_eq_zero h1)
theorem part_add {f g : Nat → Bool} {j t : Nat} {b : Bool} (hs : ∀ i, i ≠ 8 * j + t → g i = f i) (hf : f (8 * j + t) = false) (hg : g (8 * j + t) = b) : ∀ m, part g j m = part f j m + (if t < m ∧ b = true then 2 ^ t else 0)
 | 0 => by simp [part]
 | m + 1 => by
  have h := part_add hs hf hg m
  show part g j m + (if g (8 * j + m) then 2 ^ m else 0) = (part f j m + (if f (8 * j + m) then 2 ^ m else 0)) + _
  by_cases e : m = t
  ·subst e
   rw [h, hg, hf]
   cases b <;> simp
  ·rw [hs (8 * j + m) (by omega), h]
   by_cases e2 : t < m
   ·have e3 : t < m + 1 := by omega
    simp only [e2, e3, true_and]
    omega
   ·have e3 : ¬ t < m + 1 := by omega
    simp only [e2, e3, false_and, if_false]
    omega
theorem part_none {f : Nat → Bool} {j t : Nat} (h : ∀ i, 8 * j + t ≤ i → f i = false) : ∀ m, t ≤ m → part f j m = part f j t
 | 0, hm => by rw [show t = 0 by omega]
 | m + 1, hm => by
  by_cases e : t = m + 1
  ·rw [e]
  ·show part f j m + (if f (8 * j + m) then 2 ^ m else 0) = _
   rw [h (8 * j + m) (by omega), part_none h m (by omega)]
   rfl
theorem part_same {f g : Nat → Bool} {j : Nat} : ∀ {m : Nat} (_ : ∀ i, i / 8 = j → g i = f i) (_ : m ≤ 8), part g j m = part f j m
 | 0, _, _ => rfl
 | m + 1, h, hm => by
  show part g j m + (if g (8 * j + m) then 2 ^ m else 0) = part f j m + (if f (8 * j + m) then 2 ^ m else 0)
  rw [part_same h (by omega), h (8 * j + m) (by omega)]
theorem isAt_snoc {d : List (Int × V)} {k : Int} {v : V} {n : Nat} (hn : d.length = n) : (∀ i, i ≠ n → isAt (d ++ [(k, v)]) i = isAt d i) ∧ isAt d n = false ∧ isAt (d ++ [(k, v)]) n = (v.k != 0) := by
 refine ⟨fun i hi => ?_, ?_, ?_⟩
 ·unfold isAt
  by_cases h : i < d.length
  ·rw [List.getElem?_append_left h]
  ·rw [List.getElem?_eq_none (l := d) (by omega), List.getElem?_eq_none (by rw [List.length_append]; simp; omega)]
 ·unfold isAt
  rw [List.getElem?_eq_none (by omega)]
 ·unfold isAt
  rw [List.getElem?_append_right (by omega), hn, Nat.sub_self]
  rfl
/-- The mask's byte of a cell, so far. -/
def partAt (d : List (Int × V)) (n : Nat) : Nat := part (isAt d) (n / 8) 8
theorem partAt_lt {d : List (Int × V)} {n : Nat} (hn : d.length = n) : partAt d n < 2 ^ (n % 8) := by
 unfold partAt
 rw [part_none (t := n % 8) (fun i hi => by
  unfold isAt
  rw [List.getElem?_eq_none (by omega)]) 8 (by omega)]
 exact part_lt _ _ _
theorem mask_at {d : List (Int × V)} {n M : Nat} (hM : n < 8 * M) : (mask d M)[n / 8]? = some (UInt8.ofNat (partAt d n)) := by
 unfold mask
 rw [List.getElem?_map, List.getElem?_range (by omega)]
 rfl
theorem mask_zero {d : List (Int × V)} {k : Int} {v : V} {M : Nat} (hv : v.k = 0) : mask (d ++ [(k, v)]) M = mask d M := by
 unfold mask
 refine List.map_congr_left fun j hj => ?_
 congr 1
 have h := isAt_snoc (d := d) (k := k) (v := v) rfl
 have e : isAt (d ++ [(k, v)]) = isAt d := by
  funext i
  by_cases hi : i = d.length
  ·rw [hi, h.2.1, h.2.2, hv]
   rfl
  ·exact h.1 i hi
 rw [e]
theorem mask_snoc {d : List (Int × V)} {k : Int} {v : V} {n M : Nat} (hn : d.length = n) (hM : n < 8 * M) (hv : v.k ≠ 0) : mask (d ++ [(k, v)]) M = (mask d M).set (n / 8) (UInt8.ofNat (partAt d n + 2 ^ (n % 8))) := by
 apply List.ext_getElem?
 intro j
 have h := isAt_snoc (d := d) (k := k) (v := v) hn
 have e8 : n = 8 * (n / 8) + n % 8 := by omega
 by_cases hj : j < M
 ·by_cases hjn : j = n / 8
  ·subst hjn
   rw [List.getElem?_set_self (by rw [mask_len]; exact hj), mask_at hM]
   congr 2
   unfold partAt
   rw [part_add (f := isAt d) (t := n % 8) (b := true) (fun i hi => h.1 i (by omega)) (by rw [← e8]; exact h.2.1) (by rw [← e8, h.2.2]; simpa using hv) 8, if_pos ⟨by omega, rfl⟩]
  ·rw [List.getElem?_set_ne (by omega)]
   unfold mask
   rw [List.getElem?_map, List.getElem?_map, List.getElem?_range hj]
   exact congrArg (fun x => some (UInt8.ofNat x)) (part_same (m := 8) (fun i hi => h.1 i (by omega)) (Nat.le_refl _))
 ·rw [List.getElem?_eq_none (by rw [mask_len]; omega), List.getElem?_eq_none (by rw [List.length_set, mask_len]; omega)]
theorem or_bit {p t : Nat} (hp : p < 2 ^ t) (ht : t < 8) : bits .or .u8 (p : Int) ((2 ^ t : Nat) : Int) = ((UInt8.ofNat (p + 2 ^ t)).toNat : Int) := by
 have h2 : (2 : Nat) ^ t ≤ 2 ^ 7 := Nat.pow_le_pow_right (by decide) (by omega)
 have h3 : (2 : Nat) ^ 7 = 128 := by decide
 rw [u8_or_nat _ _ (by omega) (by omega), ofNat_toNat _ (by omega)]
 congr 1
 have := Nat.two_pow_add_eq_or_of_lt hp 1
 rw [Nat.mul_one] at this
 rw [Nat.or_comm, ← this, Nat.add_comm]
/-- Bytes as a list of values. -/
def nums (l : List UInt8) : List Value := (bys l).map (Value.int .u8)
theorem nums_len (l : List UInt8) : (nums l).length = l.length := by unfold nums; rw [List.length_map, bys_len]
theorem nums_at {l : List UInt8} {j : Nat} {b : UInt8} (h : l[j]? = some b) : (nums l)[j]? = some (.int .u8 (b.toNat : Int)) := by
 unfold nums bys
 rw [List.getElem?_map, List.getElem?_map, h]
 rfl
theorem nums_set (l : List UInt8) (j : Nat) (b : UInt8) : (nums l).set j (.int .u8 (b.toNat : Int)) = nums (l.set j b) := by
 unfold nums bys
 rw [List.map_set, List.map_set]
theorem made_mask (M : Nat) : (madeCells #[.int .u8 0] M).toList = nums (mask [] M) := by
 rw [toList_madeCells_one]
 apply List.ext_getElem?
 intro j
 by_cases hj : j < M
 ·have e := mask_at (d := []) (n := 8 * j) (M := M) (by omega)
  rw [show 8 * j / 8 = j by omega] at e
  rw [nums_at e, List.getElem?_replicate, if_pos hj]
  have : partAt [] (8 * j) = 0 := by
   have := partAt_lt (d := []) (n := 0) rfl
   have h0 : ∀ m j, part (isAt []) j m = 0 := fun m j => by
    induction m with
    | zero => rfl
    | succ m ih => show part _ j m + _ = 0; rw [ih]; rfl
   exact h0 8 _
  rw [this]
  rfl
 ·rw [List.getElem?_eq_none (by rw [List.length_replicate]; omega), List.getElem?_eq_none (by rw [nums_len, mask_len]; omega)]
theorem str_of_own {w : World} {base n : Nat} {v : Value} {l : List UInt8} (hown : w.ownsRow base 5 1 v n (nums l)) (hl : l ≠ []) : (convert 89 9 v).run Tryd.prog w = .ok (.string ⟨l.toArray⟩) w := by
 have hn : l.length = n := by have := hown.1; unfold nums at this; simpa [bys_len] using this
 have hown1 := hown
 obtain ⟨_, hcase⟩ := hown
 rcases hcase with ⟨_, h0⟩ | ⟨g, cap', cur, rfl, _, _, _, _, _, _⟩
 ·exact absurd (List.eq_nil_of_length_eq_zero (by rw [hn]; exact h0)) hl
 ·rw [run_convert_bytes_arg (P := Tryd.prog) w 89 5 Tryd.underlying89 Tryd.underlying5 g 0 _ cap' (bys l) (by rw [bys_len, hn]) (fun i hi => by
   rw [Nat.zero_add, hown1.cellAt i (by omega)]
   have : i < (bys l).length := by rw [bys_len, hn]; exact hi
   unfold nums
   simp [List.getD, List.getElem?_eq_getElem this]) 9 Tryd.underlying9, strOf_bys]
theorem threeBytes (w : World) (x y z : UInt8) : (convert 89 9 (.slice (some ⟨w.heap.size, 0, none⟩) 3 3)).run Tryd.prog (w.alloc (.cells #[.int .u8 (x.toNat : Int), .int .u8 (y.toNat : Int), .int .u8 (z.toNat : Int)] 5)) = .ok (.string ⟨#[x, y, z]⟩) (w.alloc (.cells #[.int .u8 (x.toNat : Int), .int .u8 (y.toNat : Int), .int .u8 (z.toNat : Int)] 5)) := by
 have := run_convert_bytes_arg (P := Tryd.prog) (w.alloc (.cells #[.int .u8 (x.toNat : Int), .int .u8 (y.toNat : Int), .int .u8 (z.toNat : Int)] 5)) 89 5 Tryd.underlying89 Tryd.underlying5 w.heap.size 0 3 3 [(x.toNat : Int), (y.toNat : Int), (z.toNat : Int)] rfl (by
  intro i hi
  match i, hi with
  | 0, _ => simp
  | 1, _ => simp
  | 2, _ => simp) 9 Tryd.underlying9
 rw [this]
 have h := strOf_bys [x, y, z]
 unfold bys at h
 simp only [List.map_cons, List.map_nil] at h
 rw [h]
theorem be_step (u q : Nat) (hu : u < 18446744073709551616) (hq : q < 8) : ∃ d : UInt8, (u : Int) / 2 ^ (8 * (7 - q)) % 256 = (d.toNat : Int) ∧ (be 8 u).take q ++ [d] = (be 8 u).take (q + 1) := by
 obtain ⟨d, e, h⟩ := part_step 0 u q hu hq
 refine ⟨d, e, ?_⟩
 have := congrArg (fun x : ByteArray => x.data.toList) h
 rw [app_list] at this
 have : 0 :: (be 8 u).take q ++ [d] = 0 :: (be 8 u).take (q + 1) := this
 simpa using this
theorem numW (n : Int) (h0 : -9223372036854775808 ≤ n) (h1 : n ≤ 9223372036854775807) : ∃ u : Nat, IntKind.u64.wrap n = (u : Int) ∧ u < 18446744073709551616 ∧ u = (n % 18446744073709551616).toNat :=
 ⟨(n % 18446744073709551616).toNat, by rw [wrapU]; omega, by omega, rfl⟩
/-- Bytes so far, as a text. -/
def FB (d : List (Int × V)) : ByteArray := ⟨(fix 0 d).toArray⟩
def HB (d : List (Int × V)) : ByteArray := ⟨(hp d).toArray⟩
theorem HB_snoc (d : List (Int × V)) (k : Int) (v : V) : HB d ++ v.s = HB (d ++ [(k, v)]) := bytesEq' (by rw [app_list]; unfold HB; rw [hp_snoc])
theorem HB_size (d : List (Int × V)) : (HB d).size = (hp d).length := by unfold HB; simp [ByteArray.size]
theorem FB_snoc (d : List (Int × V)) (k : Int) (v : V) {b : ByteArray} (hb : b.data.toList = one k v (HB d).size) : FB d ++ b = FB (d ++ [(k, v)]) := bytesEq' (by rw [app_list]; unfold FB; rw [fix_snoc, hb, HB_size, Nat.zero_add])
theorem FB_size (d : List (Int × V)) : (FB d).size ≤ 8 * d.length := by
 have : ∀ (c : List (Int × V)), wide (c.map (·.1)) ≤ 8 * c.length := fun c => by
  induction c with
  | nil => exact Nat.le_refl _
  | cons p c ih =>
   show oneW p.1 + wide (c.map (·.1)) ≤ 8 * (c.length + 1)
   have : oneW p.1 ≤ 8 := by unfold oneW; split <;> (try split) <;> omega
   omega
 have h : (FB d).size = (fix 0 d).length := by unfold FB; simp [ByteArray.size]
 rw [h, fix_len]
 exact this d
theorem HB_le {d : List (Int × V)} (h : ∀ p ∈ d, CellOk p) : (HB d).size ≤ 60 * d.length := by
 rw [HB_size]
 induction d with
 | nil => exact Nat.le_refl _
 | cons p c ih =>
  have h1 := ih (fun x hx => h x (List.mem_cons_of_mem _ hx))
  have h2 := right_sz (h p List.mem_cons_self).r
  show (p.2.s.data.toList ++ hp c).length ≤ 60 * (c.length + 1)
  rw [List.length_append]
  have h3 : p.2.s.data.toList.length = p.2.s.size := by simp
  omega
theorem take_snoc {α : Type} {l : List α} {n : Nat} {x : α} (h : l[n]? = some x) : l.take (n + 1) = l.take n ++ [x] := by
 obtain ⟨hlt, e⟩ := List.getElem?_eq_some_iff.1 h
 rw [List.take_succ_eq_append_getElem hlt, e]
end Go.Proofs.YtpnnkhpokangfaaDoor.Mi

/- A group's bytes: the document's, walked. -/
namespace Go.Proofs.YtpnnkhpokangfaaDoor.Mi
open Go.RowKit Pac Va Sc Ro Lex Go.Proofs.YtpnnkhpokangfaaDoor.Or

theorem infoByte : (Tryd.prog.info? 5).map (fun i => (i.zero, i.size, i.bytes)) = some (some (.int .u8 0), 1, 1) := by kernel_rfl
set_option maxRecDepth 20000 in
set_option maxHeartbeats 16000000 in
theorem refPrint_any (nm : ByteArray) (A1 A2 A3 : Option Addr) (cp cp2 cp3 : Nat) (cs : List C) (g : List Int) (cells : List (List V)) (lo1 lo2 lo3 : Nat) (w : World) (h1 : HasCols w lo1 A1 cs) (h2 : HasI w lo2 A2 g) (h3 : HasVV w lo3 A3 cells) (hl1 : cs.length ≤ 9223372036854775807) (hg : ∀ c ∈ g, 0 ≤ c ∧ c < cs.length) (hg1 : 1 ≤ g.length) (hg8 : g.length ≤ 8) (hr : RightM (kindsL cs g) cells) :
  Calls Tryd.prog 40 #[.agg #[.string nm, .slice A1 cs.length cp], .slice A2 g.length cp2, .slice A3 8 cp3] w fun e w' => e = .returned (.string (printM (kindsL cs g) cells)) ∧ Below w.heap.size w w' := by
 obtain ⟨i0, hi, hz0, hz1, hz2⟩ := info_parts infoByte
 have hnew := (Below.refl w.heap.size w).alloc (Nat.le_refl _) (.cells #[.string nm, .slice A1 cs.length cp] 24)
 have hx0 := Box2.new w (.string nm) (.slice A1 cs.length cp) 24
 have h1 := h1.below hnew (Nat.le_refl _)
 have h2 := h2.below hnew (Nat.le_refl _)
 have h3 := h3.below hnew (Nat.le_refl _)
 generalize hw1 : w.alloc (.cells #[.string nm, .slice A1 cs.length cp] 24) = w1 at hx0 hnew h1 h2 h3
 have hck := refKinds_any nm A1 A2 cp cp2 cs g lo1 lo2 w1 h1 h2 hl1 (by omega) hg
 obtain ⟨ks, hks⟩ : ∃ ks, kindsL cs g = ks := ⟨_, rfl⟩
 have hkl : ks.length = g.length := by rw [← hks, kinds_len]
 rw [hks] at hck hr ⊢
 clear hks h1 h2 hg
 generalize hA : printM ks cells = ans
 obtain ⟨K, hK⟩ : ∃ m, g.length = m := ⟨_, rfl⟩
 rw [hK] at hkl hg1 hg8 hck ⊢
 unfold KindsPost at hck
 rw [hkl] at hck
 have HR := Lib.hid (And.intro hr (And.intro hkl hA))
 have c0 := hx0.c0
 have c1 := hx0.c1
 clear hr hkl hA hK
 go_enter Tryd.func40, Tryd.ntmps40
 go_wp2_with fail
 clear hw1 c0 c1 hx0
 refine hck.mono ?_
 rintro e w2 ⟨AK, ck, rfl, _, hI, hy⟩
 have h3 := h3.below hy (Nat.le_refl _)
 have hB2 := hnew.trans (hy.mono hnew.size)
 clear hck hy hnew
 have eK : (8 * (K : Int) + 7) / 8 = (K : Int) := by omega
 go_wp2_with (at_make; go_must (refine wpList_make_full _ rfl _ _ 89 rfl w2.heap.size 5 i0 (.int .u8 0) 1 Tryd.underlying89 hi hz0 hz1 _ _ _ _ K rfl rfl (by first | rfl | exact eK) (by first | rfl | exact eK) (by rw [hz2]; omega) (by unfold maxLen; omega) (Nat.le_refl _) ?_))
 intro w3 hown3 hgrow3
 rw [made_mask] at hown3
 have hy : Below w2.heap.size w2 w3 := (Below.refl _ _).grown hgrow3 (Nat.le_refl _) (fun k hk => by cases hk)
 have HA := Lib.hid (And.intro h3 hI)
 have HB2 := Lib.hid hB2
 clear hgrow3 eK h3 hI hB2
 generalize hbase : w2.heap.size = base at hown3 hy ⊢
 go_wp2
 go_loopw [9, 10, 11] (fun x y i wr => ∃ (q : Nat) (S T : ByteArray), q ≤ 8 ∧ i = .int .i64 q ∧ x = .string S ∧ y = .string T ∧ wr.ownsRow base 5 1 (.slice (some ⟨base, 0, none⟩) K K) K (nums (mask ((flat ks cells).take (q * K)) K)) ∧ Hid (S = FB ((flat ks cells).take (q * K)) ∧ T = HB ((flat ks cells).take (q * K))) ∧ Below base w2 wr) (fun _ _ i _ => 8 - (intOf i).toNat)
 case atStart => exact ⟨0, _, _, Nat.zero_le _, rfl, rfl, rfl, by simpa using hown3, Lib.hid ⟨by simp [FB, fix], by simp [HB, hp]⟩, hy⟩
 case round =>
  clear hown3 hy
  obtain ⟨q, S, T, hq, rfl, rfl, rfl, hown, hH, hB⟩ := hrel
  by_cases hlt : q < 8
  ·have i1 : (q : Int) < 8 := by omega
   go_wp2
   go_loopw [9, 10, 12] (fun x y i wr => ∃ (t : Nat) (S T : ByteArray), t ≤ K ∧ i = .int .i64 t ∧ x = .string S ∧ y = .string T ∧ wr.ownsRow base 5 1 (.slice (some ⟨base, 0, none⟩) K K) K (nums (mask ((flat ks cells).take (q * K + t)) K)) ∧ Hid (S = FB ((flat ks cells).take (q * K + t)) ∧ T = HB ((flat ks cells).take (q * K + t))) ∧ Below base w2 wr) (fun _ _ i _ => K - (intOf i).toNat)
   case atStart => exact ⟨0, S, T, Nat.zero_le _, rfl, rfl, rfl, hown, hH, hB⟩
   case round =>
    clear hown hH hB
    obtain ⟨t, S, T, ht, rfl, rfl, rfl, hown, hH, hB⟩ := hrel
    by_cases htl : t < K
    ·have j1 : (t : Int) < (K : Int) := by omega
     obtain ⟨hr, hkl, _⟩ := HR.out
     have hl8 := hr.len
     have hgr : cells[q]? = some (cells[q]'(by omega)) := List.getElem?_eq_getElem _
     have hrw := hr.row _ (List.mem_of_getElem? hgr)
     generalize (cells[q]'(by omega)) = r at hgr hrw
     have hgv : r[t]? = some (r[t]'(by omega)) := List.getElem?_eq_getElem _
     generalize (r[t]'(by omega)) = v at hgv
     have hgk : ks[t]? = some (ks[t]'(by omega)) := List.getElem?_eq_getElem _
     generalize (ks[t]'(by omega)) = kk at hgk
     have hfl := flat_at hr.row hgr hgv hgk
     rw [hkl] at hfl hrw
     obtain ⟨n, hn⟩ : ∃ n, q * K + t = n := ⟨_, rfl⟩
     rw [hn] at hown hH hfl
     have hok := hr.ok _ (List.mem_of_getElem? hfl)
     have hfew := hr.few
     rw [hkl] at hfew
     have hnlt := (List.getElem?_eq_some_iff.1 hfl).1
     have hts := take_snoc hfl
     have hdl : ((flat ks cells).take n).length = n := by rw [List.length_take]; omega
     have hdk : ∀ p ∈ (flat ks cells).take n, CellOk p := fun p hp => hr.ok p (List.mem_of_mem_take hp)
     have hB0 : Below w2.heap.size w2 wr := hbase ▸ hB
     obtain ⟨b1, o1, A5, c5, rfl, _, _, d1, hI1, _⟩ := (HA.out.1.below hB0 (Nat.le_refl _)).at hgr
     obtain ⟨b2, o2, rfl, _, _, e0, e1, e2⟩ := HasV.at hI1 hgv
     obtain ⟨b3, o3, rfl, _, hlb3, f1⟩ := HasI.at HA.out.2 hgk
     have f1 := cell_below hB0 f1
     rw [hbase] at hlb3
     rw [hrw] at d1
     have eN : (q : Int) * (K : Int) + (t : Int) = (n : Int) := by rw [← hn]; push_cast; rfl
     obtain ⟨vk, vn, vs⟩ := v
     simp only at e0 e1 e2
     have i0' : (0 : Int) ≤ (q : Int) := by omega
     have j0 : (0 : Int) ≤ (t : Int) := by omega
     have hma := nums_at (mask_at (d := (flat ks cells).take n) (n := n) (M := K) (by omega))
     have hp8 := partAt_lt hdl
     have h28 : (2 : Nat) ^ (n % 8) ≤ 2 ^ 7 := Nat.pow_le_pow_right (by decide) (by omega)
     rw [ofNat_toNat _ (by omega)] at hma
     generalize hpp : partAt ((flat ks cells).take n) n = pb at hma hp8
     have hownW := hown.alloc (.cells #[.int .i64 vk, .int .i64 vn, .string vs] 37)
     have s1 := hownW.cellAt (n / 8) (by omega)
     have s2 := hownW.frozenAt (n / 8)
     rw [hma] at s1
     have n1 : (n : Int) / 8 < (K : Int) := by omega
     have n0 : (0 : Int) ≤ (n : Int) / 8 := by omega
     have hSs := FB_size ((flat ks cells).take n)
     have hTs := HB_le hdk
     rw [← hH.out.1, hdl] at hSs
     rw [← hH.out.2, hdl] at hTs
     have hbs : base < wr.heap.size := by
      rcases hown.2 with ⟨e, _⟩ | ⟨g0, _, _, e, _, hg0, _⟩
      ·cases e
      ·injection e with e
       injection e with e
       injection e with e
       subst e
       exact (Array.getElem?_eq_some_iff.1 hg0).1
     have hB1 := hB.alloc (by omega) (.cells #[.int .i64 vk, .int .i64 vn, .string vs] 37)
     have hx := Sc.Box3.new wr (.int .i64 vk) (.int .i64 vn) (.string vs) 37
     by_cases hvk : vk = 0
     ·subst hvk
      have hrs := right_s hok.r (show (0 : Int) ≠ 3 by decide)
      have evs : vs = ⟨#[]⟩ := hrs.1
      have evn : vn = 0 := hrs.2.1 rfl
      subst evs evn
      have f2 : (wr.alloc (.cells #[.int .i64 0, .int .i64 0, .string ⟨#[]⟩] 37)).cell? ⟨b3, o3 + t, none⟩ = some (.int .i64 kk) := cell_below ((Below.refl wr.heap.size wr).alloc (Nat.le_refl _) _) f1
      have hmz := mask_zero (d := (flat ks cells).take n) (k := kk) (v := ⟨0, 0, ⟨#[]⟩⟩) (M := K) rfl
      rw [← hts] at hmz
      rw [← hmz] at hownW
      have HST := Lib.hid (And.intro hownW hB1)
      have HX := Lib.hid hx
      clear hownW hB1 hx hmz s1 s2 n1 n0 hma hp8 h28 hI1 hB0 hr hkl hown hB
      rcases hok.k with hk1 | hk2 | hk3
      ·simp only at hk1
       subst hk1
       obtain ⟨u, eu, hu, hu2⟩ := numW (0 : Int) hok.ok.n0 hok.ok.n1
       have HS' : Hid (∀ X : ByteArray, X.data.toList = S.data.toList ++ (be 8 u).take 8 → X = FB ((flat ks cells).take (n + 1))) := Lib.hid (fun X hX => by
        rw [hts, ← FB_snoc _ _ _ (b := ⟨(be 8 u).toArray⟩) (by show (be 8 u) = one 1 _ _; unfold one; rw [if_pos rfl]; show be 8 u = be 8 ((0 : Int) % 18446744073709551616).toNat; rw [hu2]), ← hH.out.1]
        apply bytesEq'
        rw [hX, app_list, List.take_of_length_le (by rw [be_len]; exact Nat.le_refl _)])
       have HT' : Hid (T = HB ((flat ks cells).take (n + 1))) := Lib.hid (by rw [hts, ← HB_snoc, ← hH.out.2, (right_s hok.r (show (0 : Int) ≠ 3 by decide)).1]; exact (app_empty T).symm)
       clear hu2 hok hts hH
       go_wp2
       generalize hW : wr.alloc (.cells #[.int .i64 0, .int .i64 0, .string ⟨#[]⟩] 37) = W at HST HX f2 ⊢
       clear f2
       go_loopw [9, 15] (fun x i wr2 => ∃ (p : Nat) (X : ByteArray), p ≤ 8 ∧ i = .int .i64 (7 - (p : Int)) ∧ x = .string X ∧ Hid (X.data.toList = S.data.toList ++ (be 8 u).take p) ∧ X.size = S.size + p ∧ Below W.heap.size W wr2) (fun _ i _ => (intOf i + 1).toNat)
       case atStart => exact ⟨0, S, by omega, rfl, rfl, Lib.hid (by simp), by omega, Below.refl _ _⟩
       case round =>
        obtain ⟨p, X, hp, rfl, rfl, hX, hXs, hBW⟩ := hrel
        have g1 := (HX.out.below hBW HX.out.lt).c1
        by_cases hp8' : p < 8
        ·obtain ⟨d, ed, hd⟩ := be_step u p hu hp8'
         have e3 := oneByte wr d
         have HN := Lib.hid (hBW.alloc hBW.size (.cells #[.int .u8 (d.toNat : Int)] 5))
         have HX2 : Hid ((X ++ ⟨#[d]⟩ : ByteArray).data.toList = S.data.toList ++ (be 8 u).take (p + 1) ∧ (X ++ ⟨#[d]⟩ : ByteArray).size = S.size + (p + 1)) := Lib.hid ⟨by rw [app_list, hX.out, List.append_assoc, ← hd], by rw [ByteArray.size_append, hXs]; show S.size + p + 1 = _; omega⟩
         clear hd
         go_wp2
         go_roundw
         case rel => exact ⟨p + 1, _, by omega, by go_num, rfl, Lib.hid HX2.out.1, HX2.out.2, HN.out⟩
         case measure => simp [intOf]; omega
        ·obtain rfl : p = 8 := by omega
         have HR' := Lib.hid (HS'.out X hX.out)
         have HO := Lib.hid (And.intro (Li.own_below HST.out.1 hBW (Nat.le_refl _)) (HST.out.2.trans (hBW.mono (hbase ▸ HST.out.2.size))))
         clear g1
         go_wp2
         go_roundw
         case rel =>
          refine ⟨t + 1, _, _, by omega, by go_num, rfl, rfl, ?_, ?_, ?_⟩
          ·rw [show q * K + (t + 1) = n + 1 by omega]
           exact HO.out.1
          ·exact Lib.hid ⟨by rw [show q * K + (t + 1) = n + 1 by omega]; exact HR'.out, by rw [show q * K + (t + 1) = n + 1 by omega]; exact HT'.out⟩
          ·exact HO.out.2
         case measure => simp [intOf]; omega
      ·simp only at hk2
       subst hk2
       have HS' : Hid (S ++ ⟨#[0]⟩ = FB ((flat ks cells).take (n + 1))) := Lib.hid (by rw [hts, ← FB_snoc _ _ _ (b := ⟨#[0]⟩) (by show [0] = one 2 _ _; unfold one; rw [if_neg (by decide), if_pos rfl]; rfl), ← hH.out.1])
       have HT' : Hid (T = HB ((flat ks cells).take (n + 1))) := Lib.hid (by rw [hts, ← HB_snoc, ← hH.out.2]; exact (app_empty T).symm)
       have e3 := oneByte (wr.alloc (.cells #[.int .i64 0, .int .i64 0, .string ⟨#[]⟩] 37)) 0
       rw [show (wr.alloc (.cells #[.int .i64 0, .int .i64 0, .string ⟨#[]⟩] 37)).heap.size = wr.heap.size + 1 by simp] at e3
       have e3 : (convert 89 9 (.slice (some ⟨wr.heap.size + 1, 0, none⟩) 1 1)).run Tryd.prog ((wr.alloc (.cells #[.int .i64 0, .int .i64 0, .string ⟨#[]⟩] 37)).alloc (.cells #[.int .u8 0] 5)) = .ok (.string ⟨#[0]⟩) ((wr.alloc (.cells #[.int .i64 0, .int .i64 0, .string ⟨#[]⟩] 37)).alloc (.cells #[.int .u8 0] 5)) := e3
       have HST := Lib.hid (And.intro (HST.out.1.alloc (.cells #[.int .u8 0] 5)) (HST.out.2.alloc (hbase ▸ HST.out.2.size) (.cells #[.int .u8 0] 5)))
       clear hok hts hH
       go_wp2
       go_roundw
       case rel =>
        refine ⟨t + 1, _, _, by omega, by go_num, rfl, rfl, ?_, ?_, ?_⟩
        ·rw [show q * K + (t + 1) = n + 1 by omega]
         exact HST.out.1
        ·exact Lib.hid ⟨by rw [show q * K + (t + 1) = n + 1 by omega]; exact HS'.out, by rw [show q * K + (t + 1) = n + 1 by omega]; exact HT'.out⟩
        ·exact HST.out.2
       case measure => simp [intOf]; omega
      ·simp only at hk3
       subst hk3
       have HS' : Hid (S ++ ⟨#[0, 0, 0]⟩ = FB ((flat ks cells).take (n + 1))) := Lib.hid (by rw [hts, ← FB_snoc _ _ _ (b := ⟨#[0, 0, 0]⟩) (by show [0, 0, 0] = one 3 _ _; unfold one; rw [if_neg (by decide), if_neg (by decide)]; have h0 : (⟨#[]⟩ : ByteArray).size = 0 := rfl; simp only [h0, if_true]; rfl), ← hH.out.1])
       have HT' : Hid (T ++ ⟨#[]⟩ = HB ((flat ks cells).take (n + 1))) := Lib.hid (by rw [hts, ← HB_snoc, ← hH.out.2])
       have e3 := threeBytes (wr.alloc (.cells #[.int .i64 0, .int .i64 0, .string ⟨#[]⟩] 37)) 0 0 0
       rw [show (wr.alloc (.cells #[.int .i64 0, .int .i64 0, .string ⟨#[]⟩] 37)).heap.size = wr.heap.size + 1 by simp] at e3
       have e3 : (convert 89 9 (.slice (some ⟨wr.heap.size + 1, 0, none⟩) 3 3)).run Tryd.prog ((wr.alloc (.cells #[.int .i64 0, .int .i64 0, .string ⟨#[]⟩] 37)).alloc (.cells #[.int .u8 0, .int .u8 0, .int .u8 0] 5)) = .ok (.string ⟨#[0, 0, 0]⟩) ((wr.alloc (.cells #[.int .i64 0, .int .i64 0, .string ⟨#[]⟩] 37)).alloc (.cells #[.int .u8 0, .int .u8 0, .int .u8 0] 5)) := e3
       have HST := Lib.hid (And.intro (HST.out.1.alloc (.cells #[.int .u8 0, .int .u8 0, .int .u8 0] 5)) (HST.out.2.alloc (hbase ▸ HST.out.2.size) (.cells #[.int .u8 0, .int .u8 0, .int .u8 0] 5)))
       clear hok hts hH
       go_wp2
       go_roundw
       case rel =>
        refine ⟨t + 1, _, _, by omega, by go_num, rfl, rfl, ?_, ?_, ?_⟩
        ·rw [show q * K + (t + 1) = n + 1 by omega]
         exact HST.out.1
        ·exact Lib.hid ⟨by rw [show q * K + (t + 1) = n + 1 by omega]; exact HS'.out, by rw [show q * K + (t + 1) = n + 1 by omega]; exact HT'.out⟩
        ·exact HST.out.2
       case measure => simp [intOf]; omega
     ·have hkk : vk = kk := by
       rcases hok.z with h | h
       ·exact absurd h hvk
       ·exact h
      subst hkk
      obtain ⟨z, hz⟩ : ∃ z : UInt8, z = UInt8.ofNat (pb + 2 ^ (n % 8)) := ⟨_, rfl⟩
      have ez0 : bits .or .u8 (pb : Int) ((2 : Int) ^ (n % 8) % 256) = (z.toNat : Int) := by
       rw [hz, ← or_bit hp8 (by omega)]
       congr 1
       have : ((2 ^ (n % 8) : Nat) : Int) = (2 : Int) ^ (n % 8) := by push_cast; rfl
       rw [← this]
       omega
      have hst := hownW.stored (n / 8) (.int .u8 (z.toNat : Int))
      rw [nums_set] at hst
      have hms := mask_snoc (d := (flat ks cells).take n) (k := vk) (v := ⟨vk, vn, vs⟩) (n := n) (M := K) hdl (by omega) hvk
      rw [← hts, hpp, ← hz] at hms
      rw [← hms] at hst
      have hB2' := hB1.grown hst.2 (hbase ▸ hB1.size) (fun k hk => (hownW.lt k hk).1)
      have f2 : ((wr.alloc (.cells #[.int .i64 vk, .int .i64 vn, .string vs] 37)).setCell ⟨base, n / 8, none⟩ (.int .u8 (z.toNat : Int))).cell? ⟨b3, o3 + t, none⟩ = some (.int .i64 vk) := hst.2.cell (cell_below ((Below.refl wr.heap.size wr).alloc (Nat.le_refl _) _) f1) (fun e => by injection e with e; have e : b3 = base := e; omega)
      have hx2 : Sc.Box3 ((wr.alloc (.cells #[.int .i64 vk, .int .i64 vn, .string vs] 37)).setCell ⟨base, n / 8, none⟩ (.int .u8 (z.toNat : Int))) wr.heap.size (.int .i64 vk) (.int .i64 vn) (.string vs) := hx.setOther (by show base ≠ wr.heap.size; omega) _
      have g0 := hx2.c0
      have g1 := hx2.c1
      have g2 := hx2.c2
      have HST := Lib.hid (And.intro hst.1 hB2')
      have HX := Lib.hid hx2
      clear hst hB2' hownW hB1 hx hms hma hp8 h28 hI1 hB0 hr hkl hown hB hx2 hz hbs hlb3
      have hvk' : (vk != 0) = true := bne_iff_ne.2 hvk
      rcases hok.k with hk1 | hk2 | hk3
      ·simp only at hk1
       subst hk1
       obtain ⟨u, eu, hu, hu2⟩ := numW vn hok.ok.n0 hok.ok.n1
       have HS' : Hid (∀ X : ByteArray, X.data.toList = S.data.toList ++ (be 8 u).take 8 → X = FB ((flat ks cells).take (n + 1))) := Lib.hid (fun X hX => by
        rw [hts, ← FB_snoc _ _ _ (b := ⟨(be 8 u).toArray⟩) (by show (be 8 u) = one 1 _ _; unfold one; rw [if_pos rfl]; show be 8 u = be 8 (vn % 18446744073709551616).toNat; rw [hu2]), ← hH.out.1]
        apply bytesEq'
        rw [hX, app_list, List.take_of_length_le (by rw [be_len]; exact Nat.le_refl _)])
       have HT' : Hid (T = HB ((flat ks cells).take (n + 1))) := Lib.hid (by rw [hts, ← HB_snoc, ← hH.out.2, (right_s hok.r (show (1 : Int) ≠ 3 by decide)).1]; exact (app_empty T).symm)
       clear hu2 hok hts hH
       go_wp2
       generalize hW : (wr.alloc (.cells #[.int .i64 1, .int .i64 vn, .string vs] 37)).setCell ⟨base, n / 8, none⟩ (.int .u8 (z.toNat : Int)) = W at HST HX f2 ⊢
       clear f2
       go_loopw [9, 15] (fun x i wr2 => ∃ (p : Nat) (X : ByteArray), p ≤ 8 ∧ i = .int .i64 (7 - (p : Int)) ∧ x = .string X ∧ Hid (X.data.toList = S.data.toList ++ (be 8 u).take p) ∧ X.size = S.size + p ∧ Below W.heap.size W wr2) (fun _ i _ => (intOf i + 1).toNat)
       case atStart => exact ⟨0, S, by omega, rfl, rfl, Lib.hid (by simp), by omega, Below.refl _ _⟩
       case round =>
        obtain ⟨p, X, hp, rfl, rfl, hX, hXs, hBW⟩ := hrel
        have g1 := (HX.out.below hBW HX.out.lt).c1
        by_cases hp8' : p < 8
        ·obtain ⟨d, ed, hd⟩ := be_step u p hu hp8'
         have e3 := oneByte wr d
         have HN := Lib.hid (hBW.alloc hBW.size (.cells #[.int .u8 (d.toNat : Int)] 5))
         have HX2 : Hid ((X ++ ⟨#[d]⟩ : ByteArray).data.toList = S.data.toList ++ (be 8 u).take (p + 1) ∧ (X ++ ⟨#[d]⟩ : ByteArray).size = S.size + (p + 1)) := Lib.hid ⟨by rw [app_list, hX.out, List.append_assoc, ← hd], by rw [ByteArray.size_append, hXs]; show S.size + p + 1 = _; omega⟩
         clear hd
         go_wp2
         go_roundw
         case rel => exact ⟨p + 1, _, by omega, by go_num, rfl, Lib.hid HX2.out.1, HX2.out.2, HN.out⟩
         case measure => simp [intOf]; omega
        ·obtain rfl : p = 8 := by omega
         have HR' := Lib.hid (HS'.out X hX.out)
         have HO := Lib.hid (And.intro (Li.own_below HST.out.1 hBW (Nat.le_refl _)) (HST.out.2.trans (hBW.mono (hbase ▸ HST.out.2.size))))
         clear g1
         go_wp2
         go_roundw
         case rel =>
          refine ⟨t + 1, _, _, by omega, by go_num, rfl, rfl, ?_, ?_, ?_⟩
          ·rw [show q * K + (t + 1) = n + 1 by omega]
           exact HO.out.1
          ·exact Lib.hid ⟨by rw [show q * K + (t + 1) = n + 1 by omega]; exact HR'.out, by rw [show q * K + (t + 1) = n + 1 by omega]; exact HT'.out⟩
          ·exact HO.out.2
         case measure => simp [intOf]; omega
      ·simp only at hk2
       subst hk2
       obtain ⟨d, hd⟩ : ∃ d : UInt8, d = UInt8.ofNat (vn % 256).toNat := ⟨_, rfl⟩
       have ed : vn % 256 = (d.toNat : Int) := by rw [hd, ofNat_toNat _ (by omega)]; omega
       have HS' : Hid (S ++ ⟨#[d]⟩ = FB ((flat ks cells).take (n + 1))) := Lib.hid (by rw [hts, ← FB_snoc _ _ _ (b := ⟨#[d]⟩) (by show [d] = one 2 _ _; unfold one; rw [if_neg (by decide), if_pos rfl]; show [d] = [UInt8.ofNat (vn % 256).toNat]; rw [hd]), ← hH.out.1])
       have HT' : Hid (T = HB ((flat ks cells).take (n + 1))) := Lib.hid (by rw [hts, ← HB_snoc, ← hH.out.2, (right_s hok.r (show (2 : Int) ≠ 3 by decide)).1]; exact (app_empty T).symm)
       have e3 := oneByte ((wr.alloc (.cells #[.int .i64 2, .int .i64 vn, .string vs] 37)).setCell ⟨base, n / 8, none⟩ (.int .u8 (z.toNat : Int))) d
       rw [show ((wr.alloc (.cells #[.int .i64 2, .int .i64 vn, .string vs] 37)).setCell ⟨base, n / 8, none⟩ (.int .u8 (z.toNat : Int))).heap.size = wr.heap.size + 1 by simp] at e3
       have HST := Lib.hid (And.intro (HST.out.1.alloc (.cells #[.int .u8 (d.toNat : Int)] 5)) (HST.out.2.alloc (hbase ▸ HST.out.2.size) (.cells #[.int .u8 (d.toNat : Int)] 5)))
       clear hd hok hts hH
       go_wp2
       go_roundw
       case rel =>
        refine ⟨t + 1, _, _, by omega, by go_num, rfl, rfl, ?_, ?_, ?_⟩
        ·rw [show q * K + (t + 1) = n + 1 by omega]
         exact HST.out.1
        ·exact Lib.hid ⟨by rw [show q * K + (t + 1) = n + 1 by omega]; exact HS'.out, by rw [show q * K + (t + 1) = n + 1 by omega]; exact HT'.out⟩
        ·exact HST.out.2
       case measure => simp [intOf]; omega
      ·simp only at hk3
       by_cases hvs : vs.size = 0
       ·have evs := empty_of hvs
        subst evs
        subst hk3
        have HS' : Hid (S ++ ⟨#[0, 0, 0]⟩ = FB ((flat ks cells).take (n + 1))) := Lib.hid (by rw [hts, ← FB_snoc _ _ _ (b := ⟨#[0, 0, 0]⟩) (by show [0, 0, 0] = one 3 _ _; unfold one; rw [if_neg (by decide), if_neg (by decide)]; have h0 : (⟨#[]⟩ : ByteArray).size = 0 := rfl; simp only [h0, if_true]; rfl), ← hH.out.1])
        have HT' : Hid (T ++ ⟨#[]⟩ = HB ((flat ks cells).take (n + 1))) := Lib.hid (by rw [hts, ← HB_snoc, ← hH.out.2])
        have e3 := threeBytes ((wr.alloc (.cells #[.int .i64 3, .int .i64 vn, .string ⟨#[]⟩] 37)).setCell ⟨base, n / 8, none⟩ (.int .u8 (z.toNat : Int))) 0 0 0
        rw [show ((wr.alloc (.cells #[.int .i64 3, .int .i64 vn, .string ⟨#[]⟩] 37)).setCell ⟨base, n / 8, none⟩ (.int .u8 (z.toNat : Int))).heap.size = wr.heap.size + 1 by simp] at e3
        have e3 : (convert 89 9 (.slice (some ⟨wr.heap.size + 1, 0, none⟩) 3 3)).run Tryd.prog (((wr.alloc (.cells #[.int .i64 3, .int .i64 vn, .string ⟨#[]⟩] 37)).setCell ⟨base, n / 8, none⟩ (.int .u8 (z.toNat : Int))).alloc (.cells #[.int .u8 0, .int .u8 0, .int .u8 0] 5)) = .ok (.string ⟨#[0, 0, 0]⟩) (((wr.alloc (.cells #[.int .i64 3, .int .i64 vn, .string ⟨#[]⟩] 37)).setCell ⟨base, n / 8, none⟩ (.int .u8 (z.toNat : Int))).alloc (.cells #[.int .u8 0, .int .u8 0, .int .u8 0] 5)) := e3
        have HST := Lib.hid (And.intro (HST.out.1.alloc (.cells #[.int .u8 0, .int .u8 0, .int .u8 0] 5)) (HST.out.2.alloc (hbase ▸ HST.out.2.size) (.cells #[.int .u8 0, .int .u8 0, .int .u8 0] 5)))
        clear hok hts hH
        go_wp2
        go_roundw
        case rel =>
         refine ⟨t + 1, _, _, by omega, by go_num, rfl, rfl, ?_, ?_, ?_⟩
         ·rw [show q * K + (t + 1) = n + 1 by omega]
          exact HST.out.1
         ·exact Lib.hid ⟨by rw [show q * K + (t + 1) = n + 1 by omega]; exact HS'.out, by rw [show q * K + (t + 1) = n + 1 by omega]; exact HT'.out⟩
         ·exact HST.out.2
        case measure => simp [intOf]; omega
       ·skip
        subst hk3
        have hsz := right_sz hok.r
        simp only at hsz
        obtain ⟨x, hx⟩ : ∃ x : UInt8, x = UInt8.ofNat (T.size / 256) := ⟨_, rfl⟩
        obtain ⟨y, hy⟩ : ∃ y : UInt8, y = UInt8.ofNat T.size := ⟨_, rfl⟩
        obtain ⟨zz, hz⟩ : ∃ z : UInt8, z = UInt8.ofNat vs.size := ⟨_, rfl⟩
        have ex : (x.toNat : Int) = (T.size : Int) / 256 := by rw [hx, ofNat_toNat _ (by omega)]; omega
        have ey : (T.size : Int) % 256 = (y.toNat : Int) := by rw [hy]; simp
        have ezz : (zz.toNat : Int) = (vs.size : Int) := by rw [hz, ofNat_toNat _ (by omega)]
        have HS' : Hid (S ++ ⟨#[x, y, zz]⟩ = FB ((flat ks cells).take (n + 1))) := Lib.hid (by
         rw [hts, ← FB_snoc _ _ _ (b := ⟨#[x, y, zz]⟩) (by
          show [x, y, zz] = one 3 _ _
          unfold one
          rw [if_neg (by decide), if_neg (by decide), if_neg (by simpa using hvs), ← hH.out.2, hx, hy, hz]), ← hH.out.1])
        have HT' : Hid (T ++ vs = HB ((flat ks cells).take (n + 1))) := Lib.hid (by rw [hts, ← HB_snoc, ← hH.out.2])
        have hv0 : vs.toList.isEmpty = false := by
         cases e : vs.toList.isEmpty with
         | false => rfl
         | true =>
          refine absurd ?_ hvs
          have := List.isEmpty_iff.1 e
          rw [ByteArray.toList_eq] at this
          have h1 : vs.data.toList.length = vs.size := by simp
          rw [← h1, this]
          rfl
        have e3 := threeBytes ((wr.alloc (.cells #[.int .i64 3, .int .i64 vn, .string vs] 37)).setCell ⟨base, n / 8, none⟩ (.int .u8 (z.toNat : Int))) x y zz
        rw [show ((wr.alloc (.cells #[.int .i64 3, .int .i64 vn, .string vs] 37)).setCell ⟨base, n / 8, none⟩ (.int .u8 (z.toNat : Int))).heap.size = wr.heap.size + 1 by simp, ex, ezz] at e3
        have HST := Lib.hid (And.intro (HST.out.1.alloc (.cells #[.int .u8 ((T.size : Int) / 256), .int .u8 (y.toNat : Int), .int .u8 (vs.size : Int)] 5)) (HST.out.2.alloc (hbase ▸ HST.out.2.size) (.cells #[.int .u8 ((T.size : Int) / 256), .int .u8 (y.toNat : Int), .int .u8 (vs.size : Int)] 5)))
        clear hx hy hz ex ezz
        clear hok hts hH
        go_wp2
        go_roundw
        case rel =>
         refine ⟨t + 1, _, _, by omega, by go_num, rfl, rfl, ?_, ?_, ?_⟩
         ·rw [show q * K + (t + 1) = n + 1 by omega]
          exact HST.out.1
         ·exact Lib.hid ⟨by rw [show q * K + (t + 1) = n + 1 by omega]; exact HS'.out, by rw [show q * K + (t + 1) = n + 1 by omega]; exact HT'.out⟩
         ·exact HST.out.2
        case measure => simp [intOf]; omega
    ·obtain rfl : t = K := by omega
     go_wp2
     go_roundw
     case rel =>
      refine ⟨q + 1, S, T, by omega, by go_num, rfl, rfl, ?_, ?_, hB⟩
      ·rw [Nat.succ_mul]
       exact hown
      ·rw [Nat.succ_mul]
       exact hH
     case measure => simp [intOf]; omega
  ·obtain rfl : q = 8 := by omega
   obtain ⟨hr, hkl, hans⟩ := HR.out
   have hfl : (flat ks cells).length = 8 * K := by rw [flat_len hr.row, hr.len, hkl]
   rw [List.take_of_length_le (by omega)] at hown hH
   have hml := mask_len (flat ks cells) K
   have e4 := str_of_own hown (fun e => by rw [e] at hml; simp at hml; omega)
   have hQ : ((⟨(mask (flat ks cells) K).toArray⟩ : ByteArray) ++ S) ++ T = ans := by
    rw [← hans, hH.out.1, hH.out.2]
    apply bytesEq'
    rw [app_list, app_list, printM_list, hkl]
    rfl
   have hSs := FB_size (flat ks cells)
   have hTs := HB_le hr.ok
   have hMs : (⟨(mask (flat ks cells) K).toArray⟩ : ByteArray).size = K := by simp [ByteArray.size, hml]
   rw [← hH.out.1, hfl] at hSs
   rw [← hH.out.2, hfl] at hTs
   generalize (⟨(mask (flat ks cells) K).toArray⟩ : ByteArray) = MB at hQ hMs e4
   have HQ := Lib.hid hQ
   have hms2 : (MB ++ S).size = K + S.size := by rw [ByteArray.size_append, hMs]
   have HB9 := Lib.hid (HB2.out.trans ((hbase ▸ hB : Below w2.heap.size w2 wr).mono HB2.out.size))
   clear hQ hown hH hans hr hB
   go_wp2
   go_ret
   exact ⟨by first | rfl | (rw [HQ.out]; rfl), HB9.out⟩
end Go.Proofs.YtpnnkhpokangfaaDoor.Mi

/- May cells be a group's? The law's own question, walked. -/
namespace Go.Proofs.YtpnnkhpokangfaaDoor.Mi
open Go.RowKit Pac Va Sc Ro Lex

/-- May it not stand in its column (or be nothing there)? -/
def badC (x : C) (v : V) : Bool := if v.k = 0 then !rightV v else fitsE x v != 0
structure RowOk (cs : List C) (g : List Int) (r : List V) (n : Nat) : Prop where
 ok : ∀ (k : Nat) (c : Int) (x : C) (v : V), k < n → g[k]? = some c → cs[c.toNat]? = some x → r[k]? = some v → badC x v = false
structure RightG (nm : ByteArray) (cs : List C) (g : List Int) (cells : List (List V)) : Prop where
 s : rightS nm cs = true
 g1 : 1 ≤ g.length
 g8 : g.length ≤ 8
 len : cells.length = 8
 at' : ∀ c ∈ g, 0 ≤ c ∧ c < cs.length
 row : ∀ r ∈ cells, r.length = g.length
 ok : ∀ r ∈ cells, RowOk cs g r g.length
end Go.Proofs.YtpnnkhpokangfaaDoor.Mi

/- What right cells are; the law's own schema, walked. -/
namespace Go.Proofs.YtpnnkhpokangfaaDoor.Mi
open Go.RowKit Pac Va Sc Ro Lex

theorem col_kind {nm : ByteArray} {cs : List C} (h : rightS nm cs = true) {j : Nat} {x : C} (hx : cs[j]? = some x) : x.k = 1 ∨ x.k = 2 ∨ x.k = 3 := by
 by_cases ho : colB j x = true
 ·unfold colB at ho
  simp only [Bool.and_eq_true, decide_eq_true_eq] at ho
  omega
 ·have := rightS_one (nm := nm) hx (not_col (by simpa using ho))
  rw [h] at this
  cases this
theorem bad_not {x : C} {v : V} (hk : x.k ≠ 0) (h : badC x v = false) : rightV v = true ∧ (v.k = 0 ∨ v.k = x.k) := by
 unfold badC at h
 split at h
 ·rename_i h0
  exact ⟨by simpa using h, Or.inl h0⟩
 ·have hf : fitsE x v = 0 := by simpa using h
  have := (fits_good x v hk).1 hf
  refine ⟨this.1, ?_⟩
  rcases this.2 with h1 | h1
  ·exact Or.inr h1
  ·exact Or.inl h1.1
theorem RightG.m {nm : ByteArray} {cs : List C} {g : List Int} {cells : List (List V)} (h : RightG nm cs g cells) (hok : ∀ r ∈ cells, ∀ v ∈ r, v.Ok) : RightM (kindsL cs g) cells := by
 refine ⟨h.len, fun r hr => by rw [h.row r hr, kinds_len], fun p hp => ?_⟩
 unfold flat at hp
 obtain ⟨r, hr, hp⟩ := List.mem_flatMap.1 hp
 obtain ⟨j, hj⟩ := List.mem_iff_getElem?.1 hp
 obtain ⟨k, v⟩ := p
 rw [List.getElem?_zip_eq_some] at hj
 have hjl : j < g.length := by rw [← kinds_len cs g]; exact (List.getElem?_eq_some_iff.1 hj.1).1
 have hgc : g[j]? = some (g[j]'hjl) := List.getElem?_eq_getElem _
 have hc := h.at' _ (List.mem_of_getElem? hgc)
 generalize (g[j]'hjl) = c at hgc hc
 have hcl : c.toNat < cs.length := by omega
 have hx : cs[c.toNat]? = some (cs[c.toNat]'hcl) := List.getElem?_eq_getElem _
 generalize (cs[c.toNat]'hcl) = x at hx
 have hk := kinds_at hgc hx
 rw [hj.1] at hk
 injection hk with hk
 have hxk := col_kind h.s hx
 have hb := bad_not (by omega) ((h.ok r hr).ok j c x v hjl hgc hx hj.2)
 subst hk
 exact ⟨hxk, hb.1, hb.2, hok r hr v (List.mem_of_getElem? hj.2)⟩
/-- All that a call of a group's wants. -/
structure Grp (nm : ByteArray) (cs : List C) (g : List Int) : Prop where
 s : rightS nm cs = true
 g1 : 1 ≤ g.length
 g8 : g.length ≤ 8
 at' : ∀ c ∈ g, 0 ≤ c ∧ c < cs.length
 len : cs.length ≤ 8
theorem RightG.grp {nm : ByteArray} {cs : List C} {g : List Int} {cells : List (List V)} (h : RightG nm cs g cells) : Grp nm cs g := by
 refine ⟨h.s, h.g1, h.g8, h.at', ?_⟩
 by_cases h8 : cs.length ≤ 8
 ·exact h8
 ·have := rightS_many (nm := nm) (l := cs) h8
  rw [h.s] at this
  cases this
theorem kinds_ok {nm : ByteArray} {cs : List C} {g : List Int} (h : Grp nm cs g) : ∀ k ∈ kindsL cs g, k = 1 ∨ k = 2 ∨ k = 3 := fun k hk => by
 obtain ⟨j, hj⟩ := List.mem_iff_getElem?.1 hk
 have hjl : j < g.length := by rw [← kinds_len cs g]; exact (List.getElem?_eq_some_iff.1 hj).1
 have hgc : g[j]? = some (g[j]'hjl) := List.getElem?_eq_getElem _
 have hc := h.at' _ (List.mem_of_getElem? hgc)
 generalize (g[j]'hjl) = c at hgc hc
 have hcl : c.toNat < cs.length := by omega
 have hx : cs[c.toNat]? = some (cs[c.toNat]'hcl) := List.getElem?_eq_getElem _
 generalize (cs[c.toNat]'hcl) = x at hx
 have := kinds_at hgc hx
 rw [hj] at this
 injection this with this
 rw [this]
 exact col_kind h.s hx
theorem vZ_ok {k : Int} (hk : k = 1 ∨ k = 2 ∨ k = 3) : CellOk (k, vZ) := ⟨hk, (show rightV vZ = true by decide +kernel), Or.inl rfl, (show vZ.Ok from ⟨by decide, by decide, by decide, by decide⟩)⟩
theorem mem_flat {ks : List Int} {cells : List (List V)} {p : Int × V} (hp : p ∈ flat ks cells) : ∃ r ∈ cells, ∃ j : Nat, ks[j]? = some p.1 ∧ r[j]? = some p.2 := by
 unfold flat at hp
 obtain ⟨r, hr, hp⟩ := List.mem_flatMap.1 hp
 obtain ⟨j, hj⟩ := List.mem_iff_getElem?.1 hp
 obtain ⟨k, v⟩ := p
 rw [List.getElem?_zip_eq_some] at hj
 exact ⟨r, hr, j, hj⟩
theorem empty_right {ks : List Int} (h : ∀ k ∈ ks, k = 1 ∨ k = 2 ∨ k = 3) : RightM ks (emptyM ks.length) := by
 refine ⟨by unfold emptyM; simp, fun r hr => ?_, fun p hp => ?_⟩
 ·unfold emptyM at hr
  rw [List.eq_of_mem_replicate hr, List.length_replicate]
 ·obtain ⟨r, hr, j, h1, h2⟩ := mem_flat hp
  unfold emptyM at hr
  rw [List.eq_of_mem_replicate hr] at h2
  have := List.eq_of_mem_replicate (List.mem_of_getElem? h2)
  obtain ⟨k, v⟩ := p
  simp only at this h1
  rw [this]
  exact vZ_ok (h k (List.mem_of_getElem? h1))
/-- Bytes of a group. -/
theorem printM_size {ks : List Int} {cells : List (List V)} (h : RightM ks cells) : (printM ks cells).size = ks.length + wide ((flat ks cells).map (·.1)) + (hp (flat ks cells)).length := by
 have : (printM ks cells).size = (printM ks cells).data.toList.length := by simp
 rw [this, printM_list, print_len]
theorem printM_le {ks : List Int} {cells : List (List V)} (h : RightM ks cells) (h8 : ks.length ≤ 8) : 1 ≤ (printM ks cells).size + (if ks.length = 0 then 1 else 0) ∧ (printM ks cells).size ≤ 5000 := by
 have hf := h.few
 have h1 := HB_le h.ok
 rw [HB_size] at h1
 have h2 : wide ((flat ks cells).map (·.1)) ≤ 8 * (flat ks cells).length := by
  have : ∀ (c : List (Int × V)), wide (c.map (·.1)) ≤ 8 * c.length := fun c => by
   induction c with
   | nil => exact Nat.le_refl _
   | cons p c ih =>
    show oneW p.1 + wide (c.map (·.1)) ≤ 8 * (c.length + 1)
    have : oneW p.1 ≤ 8 := by unfold oneW; split <;> (try split) <;> omega
    omega
  exact this _
 rw [printM_size h]
 constructor
 ·split <;> omega
 ·omega
def nmT : ByteArray := ⟨#[116]⟩
def cId : C := ⟨⟨#[105, 100]⟩, 1, false⟩
def cX : C := ⟨⟨#[120]⟩, 3, true⟩
theorem cols_two {w : World} {b : Nat} (a c : C) (t : TypeId) (h : w.heap[b]? = some (.cells #[.string a.n, .int .i64 a.k, .bool a.z, .string c.n, .int .i64 c.k, .bool c.z] t (0, 0))) : HasCols w b (some ⟨b, 0, none⟩) [a, c] := by
 intro _
 refine ⟨b, 0, rfl, Nat.le_refl _, (Array.getElem?_eq_some_iff.1 h).1, fun j d hd => ?_⟩
 have hc : ∀ i, w.cell? ⟨b, i, none⟩ = (#[.string a.n, .int .i64 a.k, .bool a.z, .string c.n, .int .i64 c.k, .bool c.z] : Array Value)[i]? := fun i => cell_of_row w b i _ t (0, 0) h
 match j, hd with
 | 0, hd =>
  have hd : a = d := by simpa using hd
  subst hd
  exact ⟨hc 0, hc 1, hc 2⟩
 | 1, hd =>
  have hd : c = d := by simpa using hd
  subst hd
  exact ⟨hc 3, hc 4, hc 5⟩
 | j + 2, hd => simp at hd
def SomePost (w : World) (e : Ending) (w' : World) : Prop :=
 ∃ A, e = .returned (.agg #[.string nmT, .slice A 2 2]) ∧ HasCols w' w.heap.size A [cId, cX] ∧ Below w.heap.size w w'
end Go.Proofs.YtpnnkhpokangfaaDoor.Mi
