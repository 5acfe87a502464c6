/- Pages at hand, plainly: what is held stays, what is put is there, how many hold. No program. -/
import Derived.Test.YtjjedadhkdpceaaClB
namespace Go.Proofs.Ytjjedadhkdpceaa.Cl

def lastD (ds : List A) (n : Int) : ByteArray := ds.foldl (fun s a => if a.kind = 0 ∧ a.no = n then a.data else s) ⟨#[]⟩
theorem last_snoc (ds : List A) (a : A) (n : Int) : lastD (ds ++ [a]) n = if a.kind = 0 ∧ a.no = n then a.data else lastD ds n := by unfold lastD; rw [List.foldl_append]; rfl
def Dat (ds : List A) (c : C) : Prop := ∀ p ∈ c.l, p.data = lastD ds p.no
theorem dat_none : Dat [] ⟨[], 0⟩ := fun p h => by cases h
section
variable {m : Nat} {c : C} {n : Int} {d : ByteArray}
theorem find_ne {l : List P} {n : Int} (h : ∃ p ∈ l, p.no = n) : findL l n ≠ none := fun e => by
  obtain ⟨p, hp, hn⟩ := h
  exact find_none.1 e p hp hn
theorem same_has {l l' : List P} (h : SameNo l l') {p : P} (hp : p ∈ l) : findL l' p.no ≠ none := by
  rw [h.find]
  exact find_ne ⟨p, hp, rfl⟩
theorem own_same {i : Nat} {p : P} (hf : findL c.l n = some i) (hp : c.l[i]? = some p) : SameNo c.l (c.l.modify i (over n d)) := by
  obtain ⟨⟨p', hp', hn⟩, _⟩ := find_some.1 hf
  rw [hp] at hp'
  injection hp' with hp'
  subst hp'
  exact modify_same (f := over n d) hp hn.symm
theorem put_keep (h : Ok m c) {p : P} (hp : p ∈ c.l) (h0 : 0 < p.pins) : findL (putC c n d).l p.no ≠ none := by
  cases put_case h n d with
  | own i q hf hq e => rw [e]; exact same_has (own_same hf hq) hp
  | more hf hl e => rw [e]; exact find_ne ⟨p, List.mem_append.2 (Or.inl hp), rfl⟩
  | goes hf hl l2 k q hc hq hq0 h' hh e =>
    rw [e]
    obtain ⟨i, hi⟩ := List.mem_iff_getElem?.1 hp
    obtain ⟨r, h1, _⟩ := hc.2 i p hi
    have hne : k ≠ i := fun e => by
      subst e
      rw [hi] at hq
      injection hq with hq
      subst hq
      exact hq0 h0
    refine find_ne ⟨{ p with ref := r }, List.mem_of_getElem? (i := i) ?_, rfl⟩
    show (l2.set k _)[i]? = _
    rw [List.getElem?_set_ne hne]
    exact h1
  | stays hf hl l2 hc hall h' hh e => rw [e]; exact same_has hc.same hp
/-- The same bytes, place by place. -/
def SameDat (l l' : List P) : Prop := ∀ q ∈ l', ∃ p ∈ l, q.no = p.no ∧ q.data = p.data
theorem modify_dat {l : List P} {i : Nat} {f : P → P} {p : P} (hp : l[i]? = some p) (h1 : (f p).no = p.no) (h2 : (f p).data = p.data) : SameDat l (l.modify i f) := fun q hq => by
  rcases mem_modify hp hq with rfl | hq
  · exact ⟨p, List.mem_of_getElem? hp, h1, h2⟩
  · exact ⟨q, hq, rfl, rfl⟩
theorem Clr.dat {l l' : List P} (h : Clr l l') : SameDat l l' := fun q hq => by
  obtain ⟨i, hi⟩ := List.mem_iff_getElem?.1 hq
  obtain ⟨p, h1, h2, _⟩ := h.back hi
  exact ⟨p, List.mem_of_getElem? h1, by rw [h2], by rw [h2]⟩
theorem put_dat (h : Ok m c) {q : P} (hq : q ∈ (putC c n d).l) : (q.no = n ∧ q.data = d) ∨ (q.no ≠ n ∧ ∃ p ∈ c.l, q.no = p.no ∧ q.data = p.data) := by
  cases put_case h n d with
  | own i p hf hp e =>
    rw [e] at hq
    obtain ⟨j, hj⟩ := List.mem_iff_getElem?.1 hq
    rcases modify_at hj with ⟨rfl, p', h1, rfl⟩ | ⟨h1, h2⟩
    · exact Or.inl ⟨rfl, rfl⟩
    · refine Or.inr ⟨fun e => h1 ?_, q, List.mem_of_getElem? h2, rfl, rfl⟩
      obtain ⟨⟨p', hp', hn⟩, _⟩ := find_some.1 hf
      exact h.nd i j p' q hp' h2 (hn.trans e.symm)
  | more hf hl e =>
    rw [e] at hq
    rcases List.mem_append.1 hq with hq | hq
    · exact Or.inr ⟨find_none.1 hf q hq, q, hq, rfl, rfl⟩
    · obtain rfl := List.mem_singleton.1 hq
      exact Or.inl ⟨rfl, rfl⟩
  | goes hf hl l2 k p hc hp h0 h' hh e =>
    rw [e] at hq
    rcases List.mem_or_eq_of_mem_set hq with hq | rfl
    · exact Or.inr ⟨hc.ne (find_none.1 hf) q hq, hc.dat q hq⟩
    · exact Or.inl ⟨rfl, rfl⟩
  | stays hf hl l2 hc hall h' hh e =>
    rw [e] at hq
    exact Or.inr ⟨hc.ne (find_none.1 hf) q hq, hc.dat q hq⟩
theorem Dat.other {ds : List A} {l' : List P} {a : A} (h : Dat ds c) (hs : SameDat c.l l') (ha : a.kind ≠ 0) : ∀ q ∈ l', q.data = lastD (ds ++ [a]) q.no := fun q hq => by
  obtain ⟨p, hp, h1, h2⟩ := hs q hq
  rw [last_snoc, if_neg (fun e => ha e.1), h1, h2]
  exact h p hp
/-- How many are held. -/
def cntH (l : List P) : Nat := (l.filter (fun p => decide (0 < p.pins))).length
theorem cnt_snoc (l : List P) (p : P) : cntH (l ++ [p]) = cntH l + if 0 < p.pins then 1 else 0 := by
  unfold cntH
  rw [List.filter_append]
  by_cases h : 0 < p.pins <;> simp [h]
theorem cnt_le (l : List P) : cntH l ≤ l.length := List.length_filter_le _ _
theorem cnt_all {l : List P} : cntH l = l.length ↔ ∀ p ∈ l, 0 < p.pins := by
  unfold cntH
  rw [List.length_filter_eq_length_iff]
  simp
theorem room (h : Ok m c) : findL (putC c n d).l n ≠ none ↔ (cntH c.l < 8 ∨ findL c.l n ≠ none) := by
  have h1 := cnt_le c.l
  cases put_case h n d with
  | own i p hf hp e =>
    rw [e]
    show findL (c.l.modify i (over n d)) n ≠ none ↔ _
    rw [(own_same hf hp).find n, hf]
    simp
  | more hf hl e =>
    rw [e]
    exact ⟨fun _ => Or.inl (by omega), fun _ => find_ne ⟨newP n d, List.mem_append.2 (Or.inr (List.mem_singleton.2 rfl)), rfl⟩⟩
  | goes hf hl l2 k p hc hp h0 h' hh e =>
    rw [e]
    have hk := (List.getElem?_eq_some_iff.1 hp).1
    refine ⟨fun _ => Or.inl ?_, fun _ => find_ne ⟨newP n d, List.mem_of_getElem? (i := k) (List.getElem?_set_self (by rw [hc.1]; exact hk)), rfl⟩⟩
    have h2 : cntH c.l ≠ c.l.length := fun e2 => h0 (cnt_all.1 e2 p (List.mem_of_getElem? hp))
    have := h.len
    omega
  | stays hf hl l2 hc hall h' hh e =>
    rw [e]
    show findL l2 n ≠ none ↔ _
    rw [hc.same.find n, hf]
    have h2 := cnt_all.2 hall
    constructor
    · exact fun e => absurd rfl e
    · rintro (e | e)
      · omega
      · exact absurd rfl e
/-- One that was asked for isn't the one that goes, while another one is free that wasn't. -/
theorem room_old (h : Ok m c) {p q : P} (hp : p ∈ c.l) (hg : findL (putC c n d).l p.no = none) (hr : p.ref = true) (hq : q ∈ c.l) (hq0 : q.pins = 0) (hqr : q.ref = false) : False := by
  cases put_case h n d with
  | own i p' hf hp' e => rw [e] at hg; exact same_has (own_same hf hp') hp hg
  | more hf hl e => rw [e] at hg; exact find_ne ⟨p, List.mem_append.2 (Or.inl hp), rfl⟩ hg
  | stays hf hl l2 hc hall h' hh e => have := hall q hq; omega
  | goes hf hl l2 k p' hc hp' h0 h' hh' e =>
    have hh : c.h < c.l.length := by rcases h.hand with e | e <;> omega
    have he : putC c n d = ⟨(spinL (newP n d) (2 * c.l.length) c.l c.h).1, (spinL (newP n d) (2 * c.l.length) c.l c.h).2⟩ := by unfold putC; rw [hf]; simp only; rw [if_neg hl]
    obtain ⟨j, hj⟩ := List.mem_iff_getElem?.1 hq
    obtain ⟨t, ht1, ht2⟩ := ahead hh (List.getElem?_eq_some_iff.1 hj).1
    obtain ⟨_, k2, r, l3, _, _, a3, a4, _, a6, a7⟩ := spin_near (x := newP n d) t (2 * c.l.length) c.l c.h q hh ht1 (by omega) (by rw [ht2]; exact hj) (by omega) hqr
    rw [he] at hg
    have hg : findL (l3.set k2 (newP n d)) p.no = none := by rw [← a7]; exact hg
    obtain ⟨i, hi⟩ := List.mem_iff_getElem?.1 hp
    obtain ⟨x, h1, _⟩ := a3.2 i p hi
    have hne : k2 ≠ i := fun e => by
      subst e
      rw [hi] at a4
      injection a4 with a4
      subst a4
      rw [hr] at a6
      cases a6
    exact find_ne ⟨{ p with ref := x }, List.mem_of_getElem? (i := i) (by rw [List.getElem?_set_ne hne]; exact h1), rfl⟩ hg
end
section
variable {l l' : List P} {m : Nat} {c : C}
theorem sum_snoc (l : List P) (p : P) : sumP (l ++ [p]) = sumP l + p.pins := by unfold sumP; simp
theorem sum_set {p x : P} : ∀ {l : List P} {k : Nat}, l[k]? = some p → sumP (l.set k x) = sumP l + x.pins - p.pins
  | [], k, h => by simp at h
  | q :: l, 0, h => by
    simp at h
    subst h
    show x.pins + sumP l = q.pins + sumP l + x.pins - q.pins
    omega
  | q :: l, k + 1, h => by
    have ih := sum_set (l := l) (k := k) (p := p) (x := x) (by simpa using h)
    show q.pins + sumP (l.set k x) = q.pins + sumP l + x.pins - p.pins
    omega
theorem sum_modify {i : Nat} {f : P → P} {p : P} (h : l[i]? = some p) : sumP (l.modify i f) = sumP l + (f p).pins - p.pins := by
  have : l.modify i f = l.set i (f p) := by
    apply List.ext_getElem?
    intro j
    rw [List.getElem?_modify]
    by_cases e : i = j
    · subst e
      rw [List.getElem?_set_self (List.getElem?_eq_some_iff.1 h).1, h]
      simp
    · rw [List.getElem?_set_ne e]
      simp [e]
  rw [this, sum_set h]
theorem sum_pins : ∀ {l l' : List P}, l'.length = l.length → (∀ (i : Nat) (p : P), l[i]? = some p → ∃ q, l'[i]? = some q ∧ q.pins = p.pins) → sumP l' = sumP l
  | [], l', h, _ => by
    obtain rfl : l' = [] := List.eq_nil_of_length_eq_zero h
    rfl
  | p :: l, [], h, _ => by simp at h
  | p :: l, q :: l', h, hs => by
    obtain ⟨q', h1, h2⟩ := hs 0 p rfl
    simp at h1
    subst h1
    have ih := sum_pins (l := l) (l' := l') (by simpa using h) (fun i p hp => by simpa using hs (i + 1) p (by simpa using hp))
    show q.pins + sumP l' = p.pins + sumP l
    omega
theorem Clr.sum (h : Clr l l') : sumP l' = sumP l := sum_pins h.1 (fun i p hp => by
  obtain ⟨r, h1, _⟩ := h.2 i p hp
  exact ⟨_, h1, rfl⟩)
theorem put_sum (h : Ok m c) (n : Int) (d : ByteArray) : sumP (putC c n d).l = sumP c.l := by
  cases put_case h n d with
  | own i p hf hp e =>
    rw [e]
    show sumP (c.l.modify i (over n d)) = _
    rw [sum_modify hp]
    show sumP c.l + p.pins - p.pins = _
    omega
  | more hf hl e =>
    rw [e]
    show sumP (c.l ++ [newP n d]) = _
    rw [sum_snoc]
    show sumP c.l + 0 = _
    omega
  | goes hf hl l2 k p hc hp h0 h' hh e =>
    rw [e]
    obtain ⟨r, h1, _⟩ := hc.2 k p hp
    show sumP (l2.set k (newP n d)) = _
    rw [sum_set h1, hc.sum]
    have := (h.fine p (List.mem_of_getElem? hp)).p0
    show sumP c.l + 0 - p.pins = _
    omega
  | stays hf hl l2 hc hall h' hh e => rw [e]; exact hc.sum
theorem sum_bound (h : ∀ p ∈ l, 0 ≤ p.pins ∧ p.pins ≤ m) : 0 ≤ sumP l ∧ sumP l ≤ m * l.length := by
  induction l with
  | nil => exact ⟨Int.le_refl _, by show (0 : Int) ≤ _; simp⟩
  | cons p l ih =>
    have h1 := ih (fun q hq => h q (List.mem_cons_of_mem _ hq))
    have h2 := h p (List.mem_cons_self ..)
    have e : sumP (p :: l) = p.pins + sumP l := rfl
    rw [e, List.length_cons]
    push_cast
    rw [Int.mul_add]
    omega
theorem Ok.sum (h : Ok m c) : 0 ≤ sumP c.l ∧ sumP c.l ≤ 8 * m := by
  have h1 := sum_bound (l := c.l) (m := m) (fun p hp => ⟨(h.fine p hp).p0, (h.fine p hp).p1⟩)
  have h2 : (m : Int) * (c.l.length : Int) ≤ m * 8 := Int.mul_le_mul_of_nonneg_left (by have := h.len; omega) (by omega)
  omega
end
end Go.Proofs.Ytjjedadhkdpceaa.Cl
