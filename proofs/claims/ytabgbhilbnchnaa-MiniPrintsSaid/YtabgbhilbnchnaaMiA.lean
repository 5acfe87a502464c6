/- Stage 9, a group's bytes, plainly: written, what is of one width, one text for each group. -/
import Derived.Test.YtabgbhilbnchnaaVaA
import Derived.Test.YtabgbhilbnchnaaMgO
namespace Go.Proofs.Ytabgbhilbnchnaa.Mi
open Pac Va Go.Proofs.Ytabgbhilbnchnaa.Or

/-- A cell may be: its column's kind, its value. -/
structure CellOk (p : Int × V) : Prop where
  k : p.1 = 1 ∨ p.1 = 2 ∨ p.1 = 3
  r : rightV p.2 = true
  z : p.2.k = 0 ∨ p.2.k = p.1
  ok : p.2.Ok
/-- What is of one width: of a cell, with so many bytes behind all this already. -/
def one (k : Int) (v : V) (h : Nat) : List UInt8 :=
  if k = 1 then be 8 (v.n % 18446744073709551616).toNat else if k = 2 then [UInt8.ofNat (v.n % 256).toNat] else
  [UInt8.ofNat ((if v.s.size = 0 then 0 else h) / 256), UInt8.ofNat (if v.s.size = 0 then 0 else h), UInt8.ofNat v.s.size]
def oneW (k : Int) : Nat := if k = 1 then 8 else if k = 2 then 1 else 3
theorem one_len (k : Int) (v : V) (h : Nat) : (one k v h).length = oneW k := by
  unfold one oneW
  split
  · exact be_len _ _
  · split <;> rfl
def fix : Nat → List (Int × V) → List UInt8
  | _, [] => []
  | h, p :: c => one p.1 p.2 h ++ fix (h + p.2.s.size) c
def hp : List (Int × V) → List UInt8
  | [] => []
  | p :: c => p.2.s.data.toList ++ hp c
def wide : List Int → Nat
  | [] => 0
  | k :: ks => oneW k + wide ks
theorem fix_len : ∀ (h : Nat) (c : List (Int × V)), (fix h c).length = wide (c.map (·.1))
  | _, [] => rfl
  | h, p :: c => by
    show (one p.1 p.2 h ++ fix (h + p.2.s.size) c).length = oneW p.1 + wide (c.map (·.1))
    rw [List.length_append, one_len, fix_len]
theorem fix_app : ∀ (h : Nat) (c d : List (Int × V)), fix h (c ++ d) = fix h c ++ fix (h + (hp c).length) d
  | h, [], d => by simp [fix, hp]
  | h, p :: c, d => by
    show one p.1 p.2 h ++ fix (h + p.2.s.size) (c ++ d) = (one p.1 p.2 h ++ fix (h + p.2.s.size) c) ++ _
    rw [fix_app, List.append_assoc]
    congr 3
    show h + p.2.s.size + (hp c).length = h + (p.2.s.data.toList ++ hp c).length
    rw [List.length_append]
    show _ = h + (p.2.s.data.toList.length + _)
    have : p.2.s.data.toList.length = p.2.s.size := by simp
    omega
theorem hp_app : ∀ (c d : List (Int × V)), hp (c ++ d) = hp c ++ hp d
  | [], d => rfl
  | p :: c, d => by
    show p.2.s.data.toList ++ hp (c ++ d) = (p.2.s.data.toList ++ hp c) ++ hp d
    rw [hp_app, List.append_assoc]
theorem fix_snoc (h : Nat) (c : List (Int × V)) (k : Int) (v : V) : fix h (c ++ [(k, v)]) = fix h c ++ one k v (h + (hp c).length) := by
  rw [fix_app]
  show _ ++ (one k v _ ++ []) = _
  rw [List.append_nil]
theorem hp_snoc (c : List (Int × V)) (k : Int) (v : V) : hp (c ++ [(k, v)]) = hp c ++ v.s.data.toList := by
  rw [hp_app]
  show _ ++ (v.s.data.toList ++ []) = _
  rw [List.append_nil]
/-- A byte's lowest bits. -/
def part (f : Nat → Bool) (j : Nat) : Nat → Nat
  | 0 => 0
  | m + 1 => part f j m + if f (8 * j + m) then 2 ^ m else 0
theorem part_lt (f : Nat → Bool) (j : Nat) : ∀ m, part f j m < 2 ^ m
  | 0 => by simp [part]
  | m + 1 => by
    have h := part_lt f j m
    show part f j m + (if f (8 * j + m) then 2 ^ m else 0) < 2 ^ (m + 1)
    rw [Nat.pow_succ]
    split <;> omega
theorem part_inj {f g : Nat → Bool} {j : Nat} : ∀ m, part f j m = part g j m → ∀ i < m, f (8 * j + i) = g (8 * j + i)
  | 0, _, i, hi => absurd hi (Nat.not_lt_zero _)
  | m + 1, h, i, hi => by
    have h1 := part_lt f j m
    have h2 := part_lt g j m
    have h : part f j m + (if f (8 * j + m) then 2 ^ m else 0) = part g j m + (if g (8 * j + m) then 2 ^ m else 0) := h
    have e : f (8 * j + m) = g (8 * j + m) ∧ part f j m = part g j m := by
      cases hf : f (8 * j + m) <;> cases hg : g (8 * j + m) <;> rw [hf, hg] at h <;> simp at h
      · exact ⟨rfl, h⟩
      · omega
      · omega
      · exact ⟨rfl, by omega⟩
    by_cases him : i < m
    · exact part_inj m e.2 i him
    · obtain rfl : i = m := by omega
      exact e.1
def isAt (c : List (Int × V)) (n : Nat) : Bool := match c[n]? with
  | some p => p.2.k != 0
  | none => false
def mask (c : List (Int × V)) (M : Nat) : List UInt8 := (List.range M).map fun j => UInt8.ofNat (part (isAt c) j 8)
theorem mask_len (c : List (Int × V)) (M : Nat) : (mask c M).length = M := by unfold mask; simp
theorem mask_inj {c d : List (Int × V)} {M : Nat} (h : mask c M = mask d M) {n : Nat} (hn : n < 8 * M) : isAt c n = isAt d n := by
  have hj : n / 8 < M := by omega
  have h1 : (mask c M)[n / 8]? = (mask d M)[n / 8]? := by rw [h]
  unfold mask at h1
  rw [List.getElem?_map, List.getElem?_map, List.getElem?_range hj] at h1
  injection h1 with h1
  have h1 : UInt8.ofNat (part (isAt c) (n / 8) 8) = UInt8.ofNat (part (isAt d) (n / 8) 8) := h1
  have p1 := part_lt (isAt c) (n / 8) 8
  have p2 := part_lt (isAt d) (n / 8) 8
  have h2 : (UInt8.ofNat (part (isAt c) (n / 8) 8)).toNat = (UInt8.ofNat (part (isAt d) (n / 8) 8)).toNat := by rw [h1]
  rw [ofNat_toNat _ (by simpa using p1), ofNat_toNat _ (by simpa using p2)] at h2
  have := part_inj 8 h2 (n % 8) (by omega)
  rwa [show 8 * (n / 8) + n % 8 = n by omega] at this
theorem right_s {v : V} (h : rightV v = true) (h3 : v.k ≠ 3) : v.s = ⟨#[]⟩ ∧ (v.k = 0 → v.n = 0) ∧ (v.k = 2 → v.n = 0 ∨ v.n = 1) := by
  have he : ∀ s : ByteArray, s.toList.isEmpty = true → s = ⟨#[]⟩ := fun s h => by
    apply bytesEq'
    rw [ByteArray.toList_eq] at h
    rw [List.isEmpty_iff.1 h]
  unfold rightV at h
  split at h
  · rename_i h0
    simp only [Bool.and_eq_true, beq_iff_eq] at h
    exact ⟨he _ h.2, fun _ => h.1, fun h2 => by rw [h0] at h2; cases h2⟩
  · split at h
    · rename_i h0 h1
      exact ⟨he _ h, fun h2 => absurd h2 h0, fun h2 => by rw [h1] at h2; cases h2⟩
    · split at h
      · rename_i h0 _ _
        simp only [Bool.and_eq_true, Bool.or_eq_true, beq_iff_eq] at h
        exact ⟨he _ h.2, fun h2 => absurd h2 h0, fun _ => h.1⟩
      · cases h
theorem right_3 {v : V} (h : rightV v = true) (h3 : v.k = 3) : v.n = 0 ∧ v.s.size ≤ 60 := by
  unfold rightV at h
  rw [if_neg (by omega), if_neg (by omega), if_neg (by omega), if_pos h3] at h
  simp only [Bool.and_eq_true, beq_iff_eq, decide_eq_true_eq] at h
  exact ⟨h.1, by omega⟩
theorem right_sz {v : V} (h : rightV v = true) : v.s.size ≤ 60 := by
  by_cases h3 : v.k = 3
  · exact (right_3 h h3).2
  · rw [(right_s h h3).1]
    decide
theorem one_inj {k : Int} {v u : V} {h : Nat} (hv : CellOk (k, v)) (hu : CellOk (k, u)) (hz : v.k = 0 ↔ u.k = 0) (he : one k v h = one k u h) : v.k = u.k ∧ v.n = u.n ∧ v.s.size = u.s.size := by
  obtain ⟨hk, rv, zv, ov⟩ := hv
  obtain ⟨_, ru, zu, ou⟩ := hu
  simp only at hk rv zv ov ru zu ou
  have hvu : v.k = u.k := by
    rcases zv with h1 | h1
    · rw [h1, hz.1 h1]
    · rcases zu with h2 | h2
      · rw [h2, hz.2 h2]
      · rw [h1, h2]
  refine ⟨hvu, ?_⟩
  obtain ⟨a0, a1, a2, a3⟩ := ov
  obtain ⟨c0, c1, c2, c3⟩ := ou
  rcases hk with rfl | rfl | rfl
  · have sv := right_s rv (by omega)
    have su := right_s ru (by omega)
    unfold one at he
    rw [if_pos rfl, if_pos rfl] at he
    have p8' : (256 : Nat) ^ 8 = 18446744073709551616 := by decide
    have := be_inj (by rw [p8']; omega) (by rw [p8']; omega) he
    exact ⟨by omega, by rw [sv.1, su.1]⟩
  · have sv := right_s rv (by omega)
    have su := right_s ru (by omega)
    unfold one at he
    rw [if_neg (by decide), if_pos rfl, if_neg (by decide), if_pos rfl] at he
    injection he with he _
    have he := congrArg UInt8.toNat he
    rw [ofNat_toNat _ (by omega), ofNat_toNat _ (by omega)] at he
    refine ⟨?_, by rw [sv.1, su.1]⟩
    have b1 : v.n = 0 ∨ v.n = 1 := by
      rcases zv with z | z
      · exact Or.inl (sv.2.1 z)
      · exact sv.2.2 z
    have b2 : u.n = 0 ∨ u.n = 1 := by
      rcases zu with z | z
      · exact Or.inl (su.2.1 z)
      · exact su.2.2 z
    omega
  · have zv' := right_sz rv
    have zu' := right_sz ru
    unfold one at he
    simp only [if_neg (show ¬ (3 : Int) = 1 by decide), if_neg (show ¬ (3 : Int) = 2 by decide)] at he
    injection he with _ he
    injection he with _ he
    injection he with he _
    have he := congrArg UInt8.toNat he
    rw [ofNat_toNat _ (by omega), ofNat_toNat _ (by omega)] at he
    refine ⟨?_, he⟩
    have n0 : ∀ x : V, rightV x = true → (x.k = 0 ∨ x.k = 3) → x.n = 0 := fun x hx hk => by
      rcases hk with z | z
      · exact (right_s hx (by omega)).2.1 z
      · exact (right_3 hx z).1
    rw [n0 v rv zv, n0 u ru zu]
/-- Two cells that agree, but for their bytes. -/
def Like (p q : Int × V) : Prop := p.1 = q.1 ∧ p.2.k = q.2.k ∧ p.2.n = q.2.n ∧ p.2.s.size = q.2.s.size
theorem fix_inj : ∀ (c d : List (Int × V)) (h : Nat), c.map (·.1) = d.map (·.1) → (∀ p ∈ c, CellOk p) → (∀ p ∈ d, CellOk p) → (∀ n, isAt c n = isAt d n) → fix h c = fix h d →
    ∀ (j : Nat) (p q : Int × V), c[j]? = some p → d[j]? = some q → Like p q
  | [], _, _, _, _, _, _, _, j, p, q, h1, _ => by simp at h1
  | _ :: _, [], _, _, _, _, _, _, j, p, q, _, h2 => by simp at h2
  | (k, v) :: c, (k', u) :: d, h, hk, hc, hd, hm, he, j, p, q, h1, h2 => by
    simp only [List.map_cons, List.cons.injEq] at hk
    obtain ⟨rfl, hk⟩ := hk
    have ov := hc (k, v) List.mem_cons_self
    have ou := hd (k, u) List.mem_cons_self
    have hz : v.k = 0 ↔ u.k = 0 := by
      have := hm 0
      simp only [isAt, List.getElem?_cons_zero] at this
      by_cases a : v.k = 0 <;> by_cases b : u.k = 0 <;> simp [a, b] at this ⊢
    have he : one k v h ++ fix (h + v.s.size) c = one k u h ++ fix (h + u.s.size) d := he
    have hl := List.append_inj he (by rw [one_len, one_len])
    have h0 := one_inj ov ou hz hl.1
    cases j with
    | zero =>
      simp only [List.getElem?_cons_zero, Option.some.injEq] at h1 h2
      subst h1 h2
      exact ⟨rfl, h0⟩
    | succ j =>
      rw [List.getElem?_cons_succ] at h1 h2
      refine fix_inj c d (h + v.s.size) hk (fun p hp => hc p (List.mem_cons_of_mem _ hp)) (fun p hp => hd p (List.mem_cons_of_mem _ hp)) (fun n => ?_) (by rw [hl.2, h0.2.2]) j p q h1 h2
      have := hm (n + 1)
      simpa only [isAt, List.getElem?_cons_succ] using this
theorem hp_like : ∀ (c d : List (Int × V)), c.length = d.length → (∀ (j : Nat) (p q : Int × V), c[j]? = some p → d[j]? = some q → Like p q) → (hp c).length = (hp d).length ∧ (hp c = hp d → c = d)
  | [], [], _, _ => ⟨rfl, fun _ => rfl⟩
  | [], _ :: _, h, _ => by simp at h
  | _ :: _, [], h, _ => by simp at h
  | (k, v) :: c, (k', u) :: d, h, hl => by
    obtain ⟨e1, e2, e3, e4⟩ := hl 0 (k, v) (k', u) rfl rfl
    simp only at e1 e2 e3 e4
    have hh := hp_like c d (by simpa using h) (fun j p q h1 h2 => hl (j + 1) p q h1 h2)
    have e5 : v.s.data.toList.length = u.s.data.toList.length := by
      have a1 : v.s.data.toList.length = v.s.size := by simp
      have a2 : u.s.data.toList.length = u.s.size := by simp
      omega
    refine ⟨?_, fun he => ?_⟩
    · show (v.s.data.toList ++ hp c).length = (u.s.data.toList ++ hp d).length
      rw [List.length_append, List.length_append, e5, hh.1]
    · have he : v.s.data.toList ++ hp c = u.s.data.toList ++ hp d := he
      have h6 := List.append_inj he e5
      obtain ⟨vk, vn, vs⟩ := v
      obtain ⟨uk, un, us⟩ := u
      simp only at e1 e2 e3 h6
      rw [hh.2 h6.2, e1, e2, e3, bytesEq' h6.1]
/-- A group's bytes, of cells in a row. -/
def printC (c : List (Int × V)) (M : Nat) : List UInt8 := mask c M ++ fix 0 c ++ hp c
theorem print_len (c : List (Int × V)) (M : Nat) : (printC c M).length = M + wide (c.map (·.1)) + (hp c).length := by
  unfold printC
  rw [List.length_append, List.length_append, mask_len, fix_len]
theorem print_like {c d : List (Int × V)} {M : Nat} (hk : c.map (·.1) = d.map (·.1)) (hn : c.length ≤ 8 * M) (hc : ∀ p ∈ c, CellOk p) (hd : ∀ p ∈ d, CellOk p) (h : (printC c M).take (M + wide (c.map (·.1))) = (printC d M).take (M + wide (c.map (·.1)))) :
    ∀ (j : Nat) (p q : Int × V), c[j]? = some p → d[j]? = some q → Like p q := by
  have hl : c.length = d.length := by simpa using congrArg List.length hk
  have t1 : (printC c M).take (M + wide (c.map (·.1))) = mask c M ++ fix 0 c := by
    unfold printC
    rw [List.take_left' (by rw [List.length_append, mask_len, fix_len])]
  have t2 : (printC d M).take (M + wide (c.map (·.1))) = mask d M ++ fix 0 d := by
    unfold printC
    rw [List.take_left' (by rw [List.length_append, mask_len, fix_len, hk])]
  rw [t1, t2] at h
  have h := List.append_inj h (by rw [mask_len, mask_len])
  refine fix_inj c d 0 hk hc hd (fun n => ?_) h.2
  by_cases hlt : n < 8 * M
  · exact mask_inj h.1 hlt
  · have a1 : c[n]? = none := List.getElem?_eq_none (by omega)
    have a2 : d[n]? = none := List.getElem?_eq_none (by omega)
    unfold isAt
    rw [a1, a2]
theorem print_inj {c d : List (Int × V)} {M : Nat} (hk : c.map (·.1) = d.map (·.1)) (hn : c.length ≤ 8 * M) (hc : ∀ p ∈ c, CellOk p) (hd : ∀ p ∈ d, CellOk p) (h : printC c M = printC d M) : c = d := by
  have hl : c.length = d.length := by simpa using congrArg List.length hk
  have h2 := hp_like c d hl (print_like hk hn hc hd (by rw [h]))
  refine h2.2 ?_
  unfold printC at h
  exact (List.append_inj h (by rw [List.length_append, List.length_append, mask_len, mask_len, fix_len, fix_len, hk])).2
/-- No group's bytes are another one's with a byte more. -/
theorem print_more {c d : List (Int × V)} {M : Nat} (hk : c.map (·.1) = d.map (·.1)) (hn : c.length ≤ 8 * M) (hc : ∀ p ∈ c, CellOk p) (hd : ∀ p ∈ d, CellOk p) (b : List UInt8) (h : printC c M ++ b = printC d M) : b = [] := by
  have hl : c.length = d.length := by simpa using congrArg List.length hk
  have h2 := hp_like c d hl (print_like hk hn hc hd (by
    rw [← h, List.take_append_of_le_length (by rw [print_len]; omega)]))
  have h3 := congrArg List.length h
  rw [List.length_append, print_len, print_len, hk] at h3
  exact List.eq_nil_of_length_eq_zero (by omega)
/-- All cells of a group, in a row. -/
def flat (ks : List Int) (cells : List (List V)) : List (Int × V) := cells.flatMap fun r => ks.zip r
theorem zip_len {ks : List Int} {r : List V} (h : r.length = ks.length) : (ks.zip r).length = ks.length := by rw [List.length_zip, h, Nat.min_self]
theorem flat_len {ks : List Int} : ∀ {cells : List (List V)}, (∀ r ∈ cells, r.length = ks.length) → (flat ks cells).length = cells.length * ks.length
  | [], _ => by simp [flat]
  | r :: cells, h => by
    have h1 := flat_len (ks := ks) (cells := cells) (fun x hx => h x (List.mem_cons_of_mem _ hx))
    show (ks.zip r ++ flat ks cells).length = _
    rw [List.length_append, zip_len (h r List.mem_cons_self), h1, List.length_cons, Nat.add_mul, Nat.one_mul, Nat.add_comm]
theorem flat_kinds {ks : List Int} : ∀ {a b : List (List V)}, a.length = b.length → (∀ r ∈ a, r.length = ks.length) → (∀ r ∈ b, r.length = ks.length) → (flat ks a).map (·.1) = (flat ks b).map (·.1)
  | [], [], _, _, _ => rfl
  | [], _ :: _, h, _, _ => by simp at h
  | _ :: _, [], h, _, _ => by simp at h
  | r :: a, q :: b, h, ha, hb => by
    show (ks.zip r ++ flat ks a).map (·.1) = (ks.zip q ++ flat ks b).map (·.1)
    rw [List.map_append, List.map_append, flat_kinds (by simpa using h) (fun x hx => ha x (List.mem_cons_of_mem _ hx)) (fun x hx => hb x (List.mem_cons_of_mem _ hx))]
    congr 1
    rw [List.map_fst_zip (by rw [ha r List.mem_cons_self]; exact Nat.le_refl _), List.map_fst_zip (by rw [hb q List.mem_cons_self]; exact Nat.le_refl _)]
theorem flat_inj {ks : List Int} : ∀ {a b : List (List V)}, a.length = b.length → (∀ r ∈ a, r.length = ks.length) → (∀ r ∈ b, r.length = ks.length) → flat ks a = flat ks b → a = b
  | [], [], _, _, _, _ => rfl
  | [], _ :: _, h, _, _, _ => by simp at h
  | _ :: _, [], h, _, _, _ => by simp at h
  | r :: a, q :: b, h, ha, hb, he => by
    have he : ks.zip r ++ flat ks a = ks.zip q ++ flat ks b := he
    have lr := ha r List.mem_cons_self
    have lq := hb q List.mem_cons_self
    have h1 := List.append_inj he (by rw [zip_len lr, zip_len lq])
    rw [flat_inj (by simpa using h) (fun x hx => ha x (List.mem_cons_of_mem _ hx)) (fun x hx => hb x (List.mem_cons_of_mem _ hx)) h1.2]
    have h2 := congrArg (List.map (·.2)) h1.1
    rw [List.map_snd_zip (by omega), List.map_snd_zip (by omega)] at h2
    rw [h2]
theorem flat_at {ks : List Int} : ∀ {cells : List (List V)} {i c : Nat} {r : List V} {v : V} {k : Int}, (∀ r ∈ cells, r.length = ks.length) → cells[i]? = some r → r[c]? = some v → ks[c]? = some k → (flat ks cells)[i * ks.length + c]? = some (k, v)
  | [], i, c, r, v, k, _, h1, _, _ => by simp at h1
  | q :: cells, 0, c, r, v, k, ha, h1, h2, h3 => by
    simp only [List.getElem?_cons_zero, Option.some.injEq] at h1
    subst h1
    have hc : c < ks.length := (List.getElem?_eq_some_iff.1 h3).1
    show (ks.zip q ++ flat ks cells)[0 * ks.length + c]? = _
    rw [Nat.zero_mul, Nat.zero_add, List.getElem?_append_left (by rw [zip_len (ha q List.mem_cons_self)]; exact hc), List.getElem?_zip_eq_some]
    exact ⟨h3, h2⟩
  | q :: cells, i + 1, c, r, v, k, ha, h1, h2, h3 => by
    rw [List.getElem?_cons_succ] at h1
    have h4 := flat_at (fun x hx => ha x (List.mem_cons_of_mem _ hx)) h1 h2 h3
    show (ks.zip q ++ flat ks cells)[(i + 1) * ks.length + c]? = _
    have hq := zip_len (ha q List.mem_cons_self)
    rw [List.getElem?_append_right (by rw [hq, Nat.add_mul]; omega), hq, Nat.add_mul, Nat.one_mul, show i * ks.length + ks.length + c - ks.length = i * ks.length + c by omega]
    exact h4
/-- Cells may be a group's. -/
structure RightM (ks : List Int) (cells : List (List V)) : Prop where
  len : cells.length = 8
  row : ∀ r ∈ cells, r.length = ks.length
  ok : ∀ p ∈ flat ks cells, CellOk p
def printM (ks : List Int) (cells : List (List V)) : ByteArray := ⟨(printC (flat ks cells) ks.length).toArray⟩
theorem printM_list (ks : List Int) (cells : List (List V)) : (printM ks cells).data.toList = printC (flat ks cells) ks.length := by unfold printM; simp
theorem RightM.few {ks : List Int} {cells : List (List V)} (h : RightM ks cells) : (flat ks cells).length ≤ 8 * ks.length := by rw [flat_len h.row, h.len]; exact Nat.le_refl _
theorem printM_inj {ks : List Int} {a b : List (List V)} (ha : RightM ks a) (hb : RightM ks b) (h : printM ks a = printM ks b) : a = b := by
  have h := congrArg (fun x : ByteArray => x.data.toList) h
  simp only [printM_list] at h
  have hl : a.length = b.length := by rw [ha.len, hb.len]
  exact flat_inj hl ha.row hb.row (print_inj (flat_kinds hl ha.row hb.row) ha.few ha.ok hb.ok h)
open Classical in
/-- The cells whose bytes these are. -/
noncomputable def readM (ks : List Int) (s : ByteArray) : Option (List (List V)) := if h : ∃ cells, RightM ks cells ∧ printM ks cells = s then some h.choose else none
theorem read_print {ks : List Int} {cells : List (List V)} (h : RightM ks cells) : readM ks (printM ks cells) = some cells := by
  have hx : ∃ c, RightM ks c ∧ printM ks c = printM ks cells := ⟨cells, h, rfl⟩
  unfold readM
  rw [dif_pos hx]
  congr 1
  exact printM_inj hx.choose_spec.1 h hx.choose_spec.2
theorem read_some {ks : List Int} {s : ByteArray} {cells : List (List V)} (h : readM ks s = some cells) : RightM ks cells ∧ printM ks cells = s := by
  unfold readM at h
  split at h
  · rename_i hx
    injection h with h
    rw [← h]
    exact hx.choose_spec
  · cases h
theorem read_none {ks : List Int} {s : ByteArray} (h : ∀ cells, RightM ks cells → printM ks cells ≠ s) : readM ks s = none := by
  unfold readM
  exact dif_neg (fun ⟨c, h1, h2⟩ => h c h1 h2)
theorem read_more {ks : List Int} {cells : List (List V)} (h : RightM ks cells) {b : ByteArray} (hb : b ≠ ⟨#[]⟩) : readM ks (printM ks cells ++ b) = none := read_none fun d hd e => by
  have e := congrArg (fun x : ByteArray => x.data.toList) e
  simp only [app_list, printM_list] at e
  have hl : cells.length = d.length := by rw [h.len, hd.len]
  have := print_more (flat_kinds hl h.row hd.row) h.few h.ok hd.ok _ e.symm
  exact hb (bytesEq' (by rw [this]))
theorem read_less {ks : List Int} {cells : List (List V)} (h : RightM ks cells) {s b : ByteArray} (hb : b ≠ ⟨#[]⟩) (hs : s ++ b = printM ks cells) : readM ks s = none := read_none fun d hd e => by
  subst e
  have e := congrArg (fun x : ByteArray => x.data.toList) hs
  simp only [app_list, printM_list] at e
  have hl : d.length = cells.length := by rw [h.len, hd.len]
  have := print_more (flat_kinds hl hd.row h.row) hd.few hd.ok h.ok _ e
  exact hb (bytesEq' (by rw [this]))
end Go.Proofs.Ytabgbhilbnchnaa.Mi
