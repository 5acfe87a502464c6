/- Texts StQ, StV, StW, StX, StY, StZ, SuA, SuB, one behind the other. -/
import Derived.Test.YtcgkbcgpnlogoaaGreatDoorStP
import Derived.Test.YtcgkbcgpnlogoaaGreatDoorMgAH
/- Stores, plainly: what holds behind any deed. No program. -/
namespace Go.Proofs.YtcgkbcgpnlogoaaGreatDoor.St
open Go.RowKit Go.Shelf Tal Sla Hd Fr Lf Lex
theorem up_lenI {p : Nat} : ∀ (l : List Im) (lo : Nat), SlI.Up l → (∀ m ∈ l, lo ≤ m.pg ∧ m.pg < p) → l = [] ∨ l.length + lo ≤ p
 | [], _, _, _ => Or.inl rfl
 | x :: l, lo, h, hm => by
  have h' := List.pairwise_cons.1 h
  have hx := hm x List.mem_cons_self
  rcases up_lenI l (x.pg + 1) h'.2 (fun m hl => ⟨h'.1 m hl, (hm m (List.mem_cons_of_mem _ hl)).2⟩) with e | e
  ·subst e; exact Or.inr (by show 1 + lo ≤ p; omega)
  ·exact Or.inr (by rw [List.length_cons]; omega)
theorem up_lenP {p : Nat} : ∀ (l : List Pg) (lo : Nat), SlP.Up l → (∀ m ∈ l, lo ≤ m.no ∧ m.no < p) → l = [] ∨ l.length + lo ≤ p
 | [], _, _, _ => Or.inl rfl
 | x :: l, lo, h, hm => by
  have h' := List.pairwise_cons.1 h
  have hx := hm x List.mem_cons_self
  rcases up_lenP l (x.no + 1) h'.2 (fun m hl => ⟨h'.1 m hl, (hm m (List.mem_cons_of_mem _ hl)).2⟩) with e | e
  ·subst e; exact Or.inr (by show 1 + lo ≤ p; omega)
  ·exact Or.inr (by rw [List.length_cons]; omega)
theorem lenI {p : Nat} {l : List Im} (h : SlI.Up l) (hm : ∀ m ∈ l, m.pg < p) : l.length ≤ p := by
 rcases up_lenI l 0 h (fun m hl => ⟨Nat.zero_le _, hm m hl⟩) with e | e
 ·subst e; exact Nat.zero_le _
 ·omega
theorem lenP {p : Nat} {l : List Pg} (h : SlP.Up l) (hm : ∀ m ∈ l, m.no < p) : l.length ≤ p := by
 rcases up_lenP l 0 h (fun m hl => ⟨Nat.zero_le _, hm m hl⟩) with e | e
 ·subst e; exact Nat.zero_le _
 ·omega
theorem padP_size {d : ByteArray} (h : d.size ≤ 200) : (padP d).size = 200 := by
 unfold padP
 rw [ByteArray.size_append, ByteArray.size_extract, zeros_size]
 omega
theorem homeR_full {D D1 : Dev} {no : Nat} {t : ByteArray} (h : homeR D no = (D1, t, 0)) : t.size = 200 := by
 unfold homeR at h
 split at h
 ·rename_i he
  exact absurd (congrArg (fun x => x.2.2) h) he
 ·have e : (parseL (getR D (homeN no)).2.1 no).getD (zeros 200) = t := congrArg (fun x => x.2.1) h
  rw [← e]
  cases hp : parseL (getR D (homeN no)).2.1 no with
  | none => exact zeros_size 200
  | some d => exact (parse_iff.1 hp).1
theorem sureR_full {s : S} {D1 : Dev} {no : Nat} {t : ByteArray} (h : sureR s no = (D1, t, 0)) : t.size = 200 := by
 unfold sureR at h
 split at h
 ·exact logR_full h
 ·exact homeR_full h
section
variable {s : S} {K : Nat}
theorem OkS.more (h : OkS s K) {K2 : Nat} (hk : K ≤ K2) : OkS s K2 := { h with d := h.d.more hk }
theorem OkS.lfr (h : OkS s K) : s.fr.length ≤ s.h.p.toNat := lenI h.fu fun m hm => (h.fi m hm).1
theorem OkS.ldi (h : OkS s K) : s.di.length ≤ s.h.p.toNat := lenP h.du fun m hm => (h.di m hm).1
theorem writeR_ok (h : OkS s K) (no : Int) (d : ByteArray) : OkS (writeR s no d).1 K := by
 unfold writeR
 split
 ·exact h
 ·rename_i h1
  split
  ·exact h
  ·have hh : HasNo s.h no ∧ d.size ≤ 200 := ⟨Classical.byContradiction fun e => h1 (Or.inl e), Nat.le_of_not_lt fun e => h1 (Or.inr e)⟩
   have hu := SlP.up_ins (x := ⟨no.toNat, padP d⟩) h.du
   have hi : ∀ p ∈ insP s.di ⟨no.toNat, padP d⟩, p.no < s.h.p.toNat ∧ p.data.size = 200 := fun p hp => by
    rcases hu.2 p hp with rfl | hp
    ·have := hh.1.1
     have := hh.1.2
     exact ⟨by show no.toNat < s.h.p.toNat; omega, padP_size hh.2⟩
    ·exact h.di p hp
   have hl := lenP hu.1 (fun p hp => (hi p hp).1)
   have := h.h.p1
   exact { h with du := hu.1, di := hi, dl := by show (insP s.di ⟨no.toNat, padP d⟩).length ≤ 512; omega }
theorem abortR_ok (h : OkS s K) : OkS (abortR s) K := { h with du := List.Pairwise.nil, di := fun p hp => (by cases hp), dl := Nat.zero_le _ }
theorem readR_ok (h : OkS s K) (no : Int) : OkS (readR s no).1 (K + 1) := by
 unfold readR
 split
 ·exact h.more (by omega)
 ·rename_i h1
  have hh : HasNo s.h no := Classical.byContradiction h1
  split
  ·exact h.more (by omega)
  ·split
   ·exact h.more (by omega)
   ·split
    ·exact { h with d := h.d.more (by omega), c := h.c.get no }
    ·split
     ·exact { h with d := sureR_ok h.d _, n := (sureR_n s _).trans h.n }
     ·rename_i h2
      have hf : (sureR s no.toNat).2.1.size = 200 := sureR_full (D1 := (sureR s no.toNat).1) (by
       have : (sureR s no.toNat).2.2 = 0 := Decidable.byContradiction h2
       rw [← this])
      have := hh.1
      have := hh.2
      have := h.h.p1
      exact { h with d := sureR_ok h.d _, n := (sureR_n s _).trans h.n, c := h.c.put (by rw [hf]; decide) (by omega) (by omega) }
theorem hand_ok {c : Cl.C} : ∀ (l : List Pg) {c : Cl.C}, Cl.Ok 0 c → (∀ p ∈ l, p.no < 100000 ∧ p.data.size ≤ 300) → Cl.Ok 0 (handL c l)
 | [], _, h, _ => h
 | p :: l, c, h, hp => by
  have h1 := hp p List.mem_cons_self
  exact hand_ok (c := c) l (h.put h1.2 (by omega) (by omega)) (fun q hq => hp q (List.mem_cons_of_mem _ hq))
theorem mem_ims {m : Im} (h : m ∈ imsL s) : ∃ i, ∃ p ∈ s.di, i < s.di.length ∧ m = ⟨p.no, s.t + i⟩ := by
 unfold imsL at h
 obtain ⟨i, hi, e⟩ := List.mem_iff_getElem.1 h
 rw [List.length_mapIdx] at hi
 rw [List.getElem_mapIdx] at e
 exact ⟨i, s.di[i], List.getElem_mem _, hi, e.symm⟩
theorem settledR_ok (h : OkS s K) (hr : s.t + (s.di.length + 1) ≤ s.h.l.toNat) : OkS (settledR s) K := by
 have hu := fold_up s.fr (imsL s) h.fu
 have hi : ∀ m ∈ withI s.fr (imsL s), m.pg < s.h.p.toNat ∧ m.at_ < s.h.l.toNat := fun m hm => by
  rcases fold_mem s.fr (imsL s) h.fu m hm with h1 | h1
  ·obtain ⟨i, p, hp, hl, rfl⟩ := mem_ims h1
   exact ⟨(h.di p hp).1, by show s.t + i < s.h.l.toNat; omega⟩
  ·exact h.fi m h1
 have hl := lenI hu (fun m hm => (hi m hm).1)
 have := h.h.p1
 exact { h with fu := hu, fi := hi, fl := by show (withI s.fr (imsL s)).length ≤ 512; unfold withI; omega, t := hr, du := List.Pairwise.nil, di := fun p hp => (by cases hp), dl := Nat.zero_le _, c := hand_ok (c := s.c) s.di h.c (fun p hp => ⟨by have := (h.di p hp).1; omega, by rw [(h.di p hp).2]; decide⟩) }
theorem commitR_ok (h : OkS s K) : OkS (commitR s).1 (K + 2 * s.fr.length + s.di.length + 5) := by
 have hl1 := h.h.l0
 unfold commitR
 split
 ·exact h.more (by omega)
 ·split
  ·exact h.more (by omega)
  ·split
   ·exact h.more (by omega)
   ·rename_i h2
    split
    ·have hc := checkR_ok h
     split
     ·exact hc.more (by omega)
     ·rename_i h4
      obtain ⟨e1, e2, e3, e4, e5⟩ := checkR_good_eq (s := s) (s2 := (checkR s).1) (by
       have : (checkR s).2 = 0 := Decidable.byContradiction h4
       rw [← this])
      have hr : (checkR s).1.t + ((checkR s).1.di.length + 1) ≤ (checkR s).1.h.l.toNat := by rw [e1, e2, e3]; omega
      have hg := loggedR_ok hc hr
      rw [e2] at hg
      have hk : OkS { (checkR s).1 with d := (loggedR (checkR s).1).1 } (K + 2 * s.fr.length + 3 + s.di.length + 2) := { hc with d := hg, n := (loggedR_n _).trans hc.n }
      split
      ·exact hk.more (by omega)
      ·exact (settledR_ok (s := { (checkR s).1 with d := (loggedR (checkR s).1).1 }) hk hr).more (by omega)
    ·rename_i h3
     have hr : s.t + (s.di.length + 1) ≤ s.h.l.toNat := by omega
     have hg := loggedR_ok h hr
     have hk : OkS { s with d := (loggedR s).1 } (K + s.di.length + 2) := { h with d := hg, n := (loggedR_n _).trans h.n }
     split
     ·exact hk.more (by omega)
     ·exact (settledR_ok (s := { s with d := (loggedR s).1 }) hk hr).more (by omega)
end
/-- So many deeds more, at most. -/
def Dds (D D2 : Dev) (k : Nat) : Prop := D.deeds ≤ D2.deeds ∧ D2.deeds ≤ D.deeds + k
theorem Dds.refl (D : Dev) (k : Nat) : Dds D D k := ⟨Int.le_refl _, by omega⟩
theorem Dds.trans {A B C : Dev} {j k l : Nat} (h : Dds A B j) (h2 : Dds B C k) (hl : j + k ≤ l) : Dds A C l := by
 unfold Dds at *
 omega
theorem Dds.more {A B : Dev} {j k : Nat} (h : Dds A B j) (hl : j ≤ k) : Dds A B k := by
 unfold Dds at *
 omega
section
variable (D : Dev) (s : S) (h : H)
theorem Dds.down : Dds D D.down 1 := ⟨Int.le_refl _, by show D.deeds ≤ _; omega⟩
theorem writeR_dds (no : Int) (d : ByteArray) : (writeR s no d).1.d = s.d := by
 unfold writeR
 split
 ·rfl
 ·split <;> rfl
end
end Go.Proofs.YtcgkbcgpnlogoaaGreatDoor.St

/- What a store with power for good holds, page by page, as it was committed last and as it is now. No program. -/
namespace Go.Proofs.YtcgkbcgpnlogoaaGreatDoor.St
open Go.RowKit Go.Shelf Tal Sla Hd Fr Lf
def AtHome (V : Nat → ByteArray) (no : Nat) (t : ByteArray) : Prop := (t.size = 200 ∧ V (homeN no) = leafB no t) ∨ (t = zeros 200 ∧ parseL (V (homeN no)) no = none)
/-- A store on a device with power for good: V the sectors, su the pages as they were committed last. -/
structure Con (s : S) (V : Nat → ByteArray) (su : Nat → ByteArray) : Prop where
 l : Live s.d V
 m : s.d.m = 0
 sz : ∀ no, (su no).size = 200
 home : ∀ no, no < s.h.p.toNat → findI s.fr no = none → AtHome V no (su no)
 log : ∀ no m, findI s.fr no = some m → V (logN s.h m.at_) = frameB ⟨s.h.e, (m.at_ : Nat), false, (no : Nat), su no⟩
 hand : ∀ q ∈ s.c.l, ∃ no : Nat, q.no = no ∧ q.data = su no
 lt : ∀ m ∈ s.fr, m.at_ < s.t
/-- A page as it is now. -/
def nowR (s : S) (su : Nat → ByteArray) (no : Nat) : ByteArray := match findP s.di no with
 | some p => p.data
 | none => su no
section
variable {s : S} {V su : Nat → ByteArray} {K : Nat}
theorem findI_mem : ∀ {l : List Im} {no : Nat} {m : Im}, findI l no = some m → m ∈ l ∧ m.pg = no
 | [], _, _, h => by cases h
 | x :: l, no, m, h => by
  unfold findI at h
  split at h
  ·injection h with h
   subst h
   rename_i e
   exact ⟨List.mem_cons_self, e⟩
  ·obtain ⟨h1, h2⟩ := findI_mem h
   exact ⟨List.mem_cons_of_mem _ h1, h2⟩
theorem findP_mem : ∀ {l : List Pg} {no : Nat} {p : Pg}, findP l no = some p → p ∈ l ∧ p.no = no
 | [], _, _, h => by cases h
 | x :: l, no, m, h => by
  unfold findP at h
  split at h
  ·injection h with h
   subst h
   rename_i e
   exact ⟨List.mem_cons_self, e⟩
  ·obtain ⟨h1, h2⟩ := findP_mem h
   exact ⟨List.mem_cons_of_mem _ h1, h2⟩
theorem log_right (h : OkS s K) (c : Con s V su) {m : Im} {no : Nat} (hf : findI s.fr no = some m) : RightF ⟨s.h.e, (m.at_ : Nat), false, (m.pg : Nat), su no⟩ := by
 obtain ⟨h1, h2⟩ := findI_mem hf
 have h3 := h.fi m h1
 have := h.h.l1
 have := h.h.p1
 exact ⟨h.h.e0, h.h.e1, by show (0 : Int) ≤ (m.at_ : Nat); omega, by show ((m.at_ : Nat) : Int) < 512; omega, by show (0 : Int) ≤ (m.pg : Nat); omega, by show ((m.pg : Nat) : Int) < 512; omega, (fun e => by cases e), fun _ => c.sz no⟩
theorem sure_con (h : OkS s K) (c : Con s V su) {no : Nat} (hno : no < s.h.p.toNat) : sureR s no = (s.d.up, su no, 0) := by
 unfold sureR
 split
 ·rename_i m hf
  have hv := c.log no m hf
  have hr := log_right h c hf
  obtain ⟨_, rfl⟩ := findI_mem hf
  exact c.l.log hr hv
 ·rename_i hf
  exact c.l.home (c.home no hno hf)
theorem findL_at : ∀ {l : List Cl.P} {n : Int} {i : Nat}, Cl.findL l n = some i → ∃ p, l[i]? = some p ∧ p.no = n
 | [], _, _, h => by cases h
 | p :: l, n, i, h => by
  unfold Cl.findL at h
  split at h
  ·injection h with h
   subst h
   rename_i e
   exact ⟨p, rfl, e⟩
  ·cases hf : Cl.findL l n with
   | none => rw [hf] at h; cases h
   | some j =>
    rw [hf] at h
    have h : some (j + 1) = some i := h
    injection h with h
    subst h
    obtain ⟨q, h1, h2⟩ := findL_at hf
    exact ⟨q, by rw [List.getElem?_cons_succ]; exact h1, h2⟩
theorem get_mem {c : Cl.C} {n : Int} {q : Cl.P} (hg : (Cl.getC c n).2.2 = true) (hq : q ∈ (Cl.getC c n).1.l) : ∃ p ∈ c.l, q.no = p.no ∧ q.data = p.data := by
 unfold Cl.getC at hg hq
 split at hq
 ·rename_i h
  rw [h] at hg
  cases hg
 ·rename_i i h
  obtain ⟨j, hj⟩ := List.mem_iff_getElem?.1 hq
  rw [List.getElem?_modify] at hj
  cases hp : c.l[j]? with
  | none => rw [hp] at hj; cases hj
  | some p =>
   rw [hp] at hj
   have hj : some (if i = j then Cl.touch p else p) = some q := hj
   injection hj with hj
   refine ⟨p, List.mem_of_getElem? hp, ?_⟩
   rw [← hj]
   split <;> exact ⟨rfl, rfl⟩
theorem get_data {c : Cl.C} {n : Int} (hg : (Cl.getC c n).2.2 = true) : ∃ p ∈ c.l, p.no = n ∧ (Cl.getC c n).2.1 = p.data := by
 unfold Cl.getC at hg ⊢
 split
 ·rename_i h
  rw [h] at hg
  cases hg
 ·rename_i i h
  obtain ⟨p, h1, h2⟩ := findL_at h
  refine ⟨p, List.mem_of_getElem? h1, h2, ?_⟩
  show ((c.l[i]?).map Cl.P.data).getD ⟨#[]⟩ = p.data
  rw [h1]
  rfl
/-- What is read is the page as it is now, and changes none. -/
theorem read_con (h : OkS s K) (c : Con s V su) {no : Nat} (hno : no < s.h.p.toNat) : ∃ s2, readR s no = (s2, nowR s su no, 0) ∧ Con s2 V su ∧ s2.h = s.h ∧ s2.t = s.t ∧ s2.fr = s.fr ∧ s2.di = s.di := by
 have hh : HasNo s.h (no : Int) := ⟨by omega, by omega⟩
 unfold readR nowR
 rw [if_neg (fun e => e hh), if_neg (by rw [c.l.dead]; simp), Int.toNat_natCast]
 cases hp : findP s.di no with
 | some p => exact ⟨s, rfl, c, rfl, rfl, rfl, rfl⟩
 | none =>
  simp only
  by_cases hg : (Cl.getC s.c (no : Int)).2.2 = true
  ·rw [if_pos hg]
   obtain ⟨p, hpm, hn, hd⟩ := get_data hg
   obtain ⟨k, hk, hdk⟩ := c.hand p hpm
   obtain rfl : k = no := by omega
   refine ⟨{ s with c := (Cl.getC s.c (k : Int)).1 }, by rw [hd, hdk], ⟨c.l, c.m, c.sz, c.home, c.log, fun q hq => ?_, c.lt⟩, rfl, rfl, rfl, rfl⟩
   obtain ⟨p2, hp2, e1, e2⟩ := get_mem hg hq
   obtain ⟨k2, e3, e4⟩ := c.hand p2 hp2
   exact ⟨k2, e1.trans e3, e2.trans e4⟩
  ·rw [if_neg hg]
   simp only [sure_con h c hno]
   rw [if_neg (by simp)]
   refine ⟨{ s with d := s.d.up, c := Cl.putC s.c (no : Int) (su no) }, rfl, ⟨c.l.up, c.m, c.sz, c.home, c.log, fun q hq => ?_, c.lt⟩, rfl, rfl, rfl, rfl⟩
   rcases Cl.put_dat h.c hq with ⟨e1, e2⟩ | ⟨_, p2, hp2, e1, e2⟩
   ·exact ⟨no, e1, e2⟩
   ·obtain ⟨k2, e3, e4⟩ := c.hand p2 hp2
    exact ⟨k2, e1.trans e3, e2.trans e4⟩
theorem abort_con (c : Con s V su) : Con (abortR s) V su ∧ nowR (abortR s) su = su := ⟨⟨c.l, c.m, c.sz, c.home, c.log, c.hand, c.lt⟩, rfl⟩
theorem findP_ins {no : Nat} {d : ByteArray} : ∀ {l : List Pg} (_ : SlP.Up l) (k : Nat), findP (insP l ⟨no, d⟩) k = if no = k then some ⟨no, d⟩ else findP l k
 | [], _, k => rfl
 | y :: l, h, k => by
  have h' := List.pairwise_cons.1 h
  unfold insP
  split
  ·rename_i h1
   show (if y.no = k then some y else findP (insP l ⟨no, d⟩) k) = if no = k then some ⟨no, d⟩ else if y.no = k then some y else findP l k
   rw [findP_ins h'.2 k]
   have h1 : y.no < no := h1
   by_cases e : no = k
   ·rw [if_pos e, if_neg (by omega), if_pos e]
   ·rw [if_neg e, if_neg e]
  ·split
   ·rename_i h1 h2
    have h2 : y.no = no := h2
    show (if no = k then some ⟨no, d⟩ else findP l k) = if no = k then some ⟨no, d⟩ else if y.no = k then some y else findP l k
    by_cases e : no = k
    ·rw [if_pos e, if_pos e]
    ·rw [if_neg e, if_neg e, if_neg (by omega)]
   ·rfl
/-- A page that is written is what was written, the others as they were. -/
theorem write_con (h : OkS s K) (c : Con s V su) {no : Nat} {d : ByteArray} (hno : no < s.h.p.toNat) (hd : d.size ≤ 200) : ∃ s2, writeR s no d = (s2, 0) ∧ Con s2 V su ∧ s2.h = s.h ∧ s2.t = s.t ∧ s2.fr = s.fr ∧ s2.c = s.c ∧ nowR s2 su = fun k => if no = k then padP d else nowR s su k := by
 have hh : HasNo s.h (no : Int) := ⟨by omega, by omega⟩
 unfold writeR
 rw [if_neg (by rintro (e | e); exact e hh; omega), if_neg (by rw [c.l.dead]; simp), Int.toNat_natCast]
 refine ⟨_, rfl, ⟨c.l, c.m, c.sz, c.home, c.log, c.hand, c.lt⟩, rfl, rfl, rfl, rfl, ?_⟩
 funext k
 unfold nowR
 rw [findP_ins h.du k]
 by_cases e : no = k
 ·rw [if_pos e, if_pos e]
 ·rw [if_neg e, if_neg e]
end
end Go.Proofs.YtcgkbcgpnlogoaaGreatDoor.St

/- What a store with power for good holds behind Check. No program. -/
namespace Go.Proofs.YtcgkbcgpnlogoaaGreatDoor.St
open Go.RowKit Go.Shelf Tal Sla Hd Fr Lf
section
variable {s : S} {V su : Nat → ByteArray} {K : Nat} {D : Dev} {h : H}
theorem setV_ne {j : Nat} {x : Int} {d : ByteArray} (hx : x ≠ (j : Int)) : setV V x d j = V j := if_neg hx
theorem setV_eq {j : Nat} {d : ByteArray} : setV V (j : Int) d j = d := if_pos rfl
/-- What is in the log and what it should hold. -/
def LogV (h : H) (V su : Nat → ByteArray) (m : Im) : Prop := m.pg < h.p.toNat ∧ RightF ⟨h.e, (m.at_ : Nat), false, (m.pg : Nat), su m.pg⟩ ∧ V (logN h m.at_) = frameB ⟨h.e, (m.at_ : Nat), false, (m.pg : Nat), su m.pg⟩
theorem homes_con (hz : ∀ no, (su no).size = 200) : ∀ (l : List Im) (D : Dev) (V : Nat → ByteArray), Live D V → (∀ m ∈ l, LogV h V su m) →
  ∃ D2 V2, homesR h D l = (D2, 0) ∧ Live D2 V2 ∧ (∀ j, (∀ m ∈ l, j ≠ homeN m.pg) → V2 j = V j) ∧ ∀ m ∈ l, V2 (homeN m.pg) = leafB m.pg (su m.pg)
 | [], D, V, hl, _ => ⟨D, V, rfl, hl, fun _ _ => rfl, fun m hm => by cases hm⟩
 | m :: l, D, V, hl, hm => by
  obtain ⟨h1, h2, h3⟩ := hm m List.mem_cons_self
  have e1 := hl.log h2 h3
  obtain ⟨e2, l2⟩ := hl.up.put (homeN m.pg : Nat) (leafB_size (no := m.pg) (hz m.pg))
  have hlog : ∀ i, setV V (homeN m.pg : Nat) (leafB m.pg (su m.pg)) (logN h i) = V (logN h i) := fun i => setV_ne (by unfold homeN logN; omega)
  obtain ⟨D2, V2, e3, l3, h4, h5⟩ := homes_con hz l _ _ l2 (fun x hx => ⟨(hm x (List.mem_cons_of_mem _ hx)).1, (hm x (List.mem_cons_of_mem _ hx)).2.1, (hlog _).trans (hm x (List.mem_cons_of_mem _ hx)).2.2⟩)
  refine ⟨D2, V2, ?_, l3, fun j hj => ?_, fun x hx => ?_⟩
  ·rw [homesR, e1]
   simp only [e2]
   rw [if_neg (by simp), if_neg (by simp)]
   exact e3
  ·rw [h4 j (fun x hx => hj x (List.mem_cons_of_mem _ hx))]
   exact setV_ne (fun e => hj m List.mem_cons_self (by omega))
  ·by_cases hin : ∃ y ∈ l, homeN x.pg = homeN y.pg
   ·obtain ⟨y, hy, e⟩ := hin
    have e' : x.pg = y.pg := by unfold homeN at e; omega
    rw [e']
    exact h5 y hy
   ·rcases List.mem_cons.1 hx with rfl | hx
    ·rw [h4 _ (fun y hy e => hin ⟨y, hy, e⟩)]
     exact setV_eq
    ·exact absurd ⟨x, hx, rfl⟩ hin
theorem findI_none : ∀ {l : List Im} {no : Nat}, findI l no = none → ∀ m ∈ l, m.pg ≠ no
 | [], _, _, m, hm => by cases hm
 | x :: l, no, h, m, hm => by
  unfold findI at h
  split at h
  ·cases h
  ·rename_i hne
   rcases List.mem_cons.1 hm with rfl | hm
   ·exact hne
   ·exact findI_none h m hm
theorem findI_own : ∀ {l : List Im}, SlI.Up l → ∀ m ∈ l, findI l m.pg = some m
 | [], _, m, hm => by cases hm
 | x :: l, h, m, hm => by
  have h' := List.pairwise_cons.1 h
  unfold findI
  rcases List.mem_cons.1 hm with rfl | hm
  ·rw [if_pos rfl]
  ·have := h'.1 m hm
   rw [if_neg (by omega)]
   exact findI_own h'.2 m hm
theorem Con.logV (h : OkS s K) (c : Con s V su) : ∀ m ∈ s.fr, LogV s.h V su m := fun m hm => by
 have hf := findI_own h.fu m hm
 exact ⟨(h.fi m hm).1, log_right h c hf, c.log m.pg m hf⟩
/-- All is brought home: each page is as it was. -/
theorem check_con (h : OkS s K) (c : Con s V su) (hr : RightH (nextH s.h)) : ∃ s2 V2, checkR s = (s2, 0) ∧ Con s2 V2 su ∧ s2.h = nextH s.h ∧ s2.t = 0 ∧ s2.fr = [] ∧ s2.di = s.di ∧ s2.c = s.c ∧ ∀ j, (j < 2 ∨ 2 + s.h.p.toNat ≤ j) → V2 j = putS V (nextH s.h) j := by
 obtain ⟨D1, V1, e1, l1, h1, h2⟩ := homes_con c.sz s.fr s.d V c.l (c.logV h)
 obtain ⟨e2, l2, _⟩ := l1.flush
 obtain ⟨D3, e3, l3, m3⟩ := l2.head hr
 have hbr : broughtR s = (D1.flushed, 0) := by
  unfold broughtR
  rw [e1, if_neg (by simp)]
  exact e2
 have hhi : ∀ j : Nat, 2 ≤ j → putS V1 (nextH s.h) j = V1 j := fun j hj => if_neg (by omega)
 refine ⟨{ s with d := D3, h := nextH s.h, t := 0, fr := [] }, putS V1 (nextH s.h), ?_, ⟨l3, m3, c.sz, fun no hno _ => ?_, fun no m hm => (by cases hm), c.hand, fun m hm => (by cases hm)⟩, rfl, rfl, rfl, rfl, rfl, fun j hj => ?_⟩
 ·unfold checkR
  rw [if_neg (by rw [c.l.dead]; simp), hbr]
  simp only [e3]
  rw [if_neg (by simp), if_neg (by simp)]
 ·unfold AtHome
  rw [hhi _ (by unfold homeN; omega)]
  cases hf : findI s.fr no with
  | none =>
   rw [h1 _ (fun m hm e => findI_none hf m hm (by unfold homeN at e; omega))]
   exact c.home no hno hf
  | some m =>
   obtain ⟨hm, rfl⟩ := findI_mem hf
   exact Or.inl ⟨c.sz _, h2 m hm⟩
 ·unfold putS
  rw [h1 j (fun m hm e => by unfold homeN at e; have := (h.fi m hm).1; omega)]
end
end Go.Proofs.YtcgkbcgpnlogoaaGreatDoor.St

/- What a store with power for good holds behind Commit. No program. -/
namespace Go.Proofs.YtcgkbcgpnlogoaaGreatDoor.St
open Go.RowKit Go.Shelf Tal Sla Hd Fr Lf
section
variable {s : S} {V su : Nat → ByteArray} {K : Nat} {D : Dev} {h : H}
theorem puts_con : ∀ (l : List F) (D : Dev) (V : Nat → ByteArray), Live D V → (∀ f ∈ l, RightF f) → l.Pairwise (fun a b => a.i.toNat ≠ b.i.toNat) →
  ∃ D2 V2, putsR h D l = (D2, 0) ∧ Live D2 V2 ∧ (∀ j, (∀ f ∈ l, j ≠ logN h f.i.toNat) → V2 j = V j) ∧ ∀ f ∈ l, V2 (logN h f.i.toNat) = frameB f
 | [], D, V, hl, _, _ => ⟨D, V, rfl, hl, fun _ _ => rfl, fun m hm => by cases hm⟩
 | f :: l, D, V, hl, hf, hp => by
  have hp' := List.pairwise_cons.1 hp
  obtain ⟨e2, l2⟩ := hl.put (logN h f.i.toNat : Nat) (frameB_size (hf f List.mem_cons_self).small)
  obtain ⟨D2, V2, e3, l3, h4, h5⟩ := puts_con l _ _ l2 (fun x hx => hf x (List.mem_cons_of_mem _ hx)) hp'.2
  refine ⟨D2, V2, ?_, l3, fun j hj => ?_, fun x hx => ?_⟩
  ·rw [putsR, e2, if_neg (by simp)]
   exact e3
  ·rw [h4 j (fun x hx => hj x (List.mem_cons_of_mem _ hx))]
   exact setV_ne (fun e => hj f List.mem_cons_self (by omega))
  ·rcases List.mem_cons.1 hx with rfl | hx
   ·rw [h4 _ (fun y hy e => hp'.1 y hy (by unfold logN at e; omega))]
    exact setV_eq
   ·exact h5 x hx
theorem findI_ins {x : Im} : ∀ {l : List Im} (_ : SlI.Up l) (k : Nat), findI (insI l x) k = if x.pg = k then some x else findI l k
 | [], _, k => rfl
 | y :: l, h, k => by
  have h' := List.pairwise_cons.1 h
  unfold insI
  split
  ·rename_i h1
   show (if y.pg = k then some y else findI (insI l x) k) = if x.pg = k then some x else if y.pg = k then some y else findI l k
   rw [findI_ins h'.2 k]
   by_cases e : x.pg = k
   ·rw [if_pos e, if_neg (by omega), if_pos e]
   ·rw [if_neg e, if_neg e]
  ·split
   ·rename_i h1 h2
    show (if x.pg = k then some x else findI l k) = if x.pg = k then some x else if y.pg = k then some y else findI l k
    by_cases e : x.pg = k
    ·rw [if_pos e, if_pos e]
    ·rw [if_neg e, if_neg e, if_neg (by omega)]
   ·rfl
theorem findI_fold {k : Nat} : ∀ (m l : List Im), SlI.Up l → (∃ x ∈ m, x.pg = k ∧ findI (m.foldl insI l) k = some x) ∨ ((∀ x ∈ m, x.pg ≠ k) ∧ findI (m.foldl insI l) k = findI l k)
 | [], l, _ => Or.inr ⟨fun x hx => (by cases hx), rfl⟩
 | x :: m, l, h => by
  rcases findI_fold m (insI l x) (SlI.up_ins h).1 with ⟨y, hy, e1, e2⟩ | ⟨h1, h2⟩
  ·exact Or.inl ⟨y, List.mem_cons_of_mem _ hy, e1, e2⟩
  ·rw [findI_ins h] at h2
   by_cases e : x.pg = k
   ·rw [if_pos e] at h2
    exact Or.inl ⟨x, List.mem_cons_self, e, h2⟩
   ·rw [if_neg e] at h2
    exact Or.inr ⟨fun y hy => by rcases List.mem_cons.1 hy with rfl | hy; exact e; exact h1 y hy, h2⟩
theorem findP_own : ∀ {l : List Pg}, SlP.Up l → ∀ p ∈ l, findP l p.no = some p
 | [], _, m, hm => by cases hm
 | x :: l, h, m, hm => by
  have h' := List.pairwise_cons.1 h
  unfold findP
  rcases List.mem_cons.1 hm with rfl | hm
  ·rw [if_pos rfl]
  ·have := h'.1 m hm
   rw [if_neg (by omega)]
   exact findP_own h'.2 m hm
theorem findP_none : ∀ {l : List Pg} {no : Nat}, findP l no = none ↔ ∀ m ∈ l, m.no ≠ no
 | [], no => ⟨fun _ m hm => by (cases hm), fun _ => rfl⟩
 | x :: l, no => by
  unfold findP
  by_cases e : x.no = no
  ·rw [if_pos e]
   exact ⟨fun h => (by cases h), fun h => absurd e (h x List.mem_cons_self)⟩
  ·rw [if_neg e, findP_none]
   exact ⟨fun h m hm => by rcases List.mem_cons.1 hm with rfl | hm; exact e; exact h m hm, fun h m hm => h m (List.mem_cons_of_mem _ hm)⟩
def nowL (l : List Pg) (su : Nat → ByteArray) (no : Nat) : ByteArray := match findP l no with
 | some p => p.data
 | none => su no
theorem hand_con : ∀ (l : List Pg) (c : Cl.C) (su : Nat → ByteArray), SlP.Up l → Cl.Ok 0 c → (∀ p ∈ l, p.no < 100000 ∧ p.data.size ≤ 300) → (∀ q ∈ c.l, ∃ no : Nat, q.no = no ∧ q.data = su no) → ∀ q ∈ (handL c l).l, ∃ no : Nat, q.no = no ∧ q.data = nowL l su no
 | [], c, su, _, _, _, h => h
 | p :: l, c, su, hu, hok, hp, h => by
  have hu' := List.pairwise_cons.1 hu
  have h1 := hp p List.mem_cons_self
  have hok2 : Cl.Ok 0 (Cl.putC c p.no p.data) := hok.put h1.2 (by omega) (by omega)
  intro q hq
  obtain ⟨no, e1, e2⟩ := hand_con l (Cl.putC c p.no p.data) (fun k => if p.no = k then p.data else su k) hu'.2 hok2 (fun x hx => hp x (List.mem_cons_of_mem _ hx)) (fun q hq => by
   rcases Cl.put_dat hok hq with ⟨e1, e2⟩ | ⟨e0, p2, hp2, e1, e2⟩
   ·exact ⟨p.no, e1, by rw [if_pos rfl]; exact e2⟩
   ·obtain ⟨k2, e3, e4⟩ := h p2 hp2
    refine ⟨k2, e1.trans e3, ?_⟩
    rw [if_neg (by omega)]
    exact e2.trans e4) q hq
  refine ⟨no, e1, e2.trans ?_⟩
  unfold nowL
  show (match findP l no with | some p => p.data | none => if p.no = no then p.data else su no) = (match (if p.no = no then some p else findP l no) with | some p => p.data | none => su no)
  by_cases e : p.no = no
  ·rw [if_pos e, if_pos e, findP_none.2 (fun m hm => by have := hu'.1 m hm; omega)]
  ·rw [if_neg e, if_neg e]
end
end Go.Proofs.YtcgkbcgpnlogoaaGreatDoor.St

/- What a store with power for good holds behind Commit: all pages as they are now. No program. -/
namespace Go.Proofs.YtcgkbcgpnlogoaaGreatDoor.St
open Go.RowKit Go.Shelf Tal Sla Hd Fr Lf
section
variable {s : S} {V su : Nat → ByteArray} {K : Nat}
theorem frames_at (s : S) (j : Nat) (hj : j < (framesL s).length) : ((framesL s)[j]'hj).i = ((s.t + j : Nat) : Int) := by
 have hl : (framesL s).length = s.di.length + 1 := frames_len s
 unfold framesL at hj ⊢
 rw [List.getElem_append]
 split
 ·rw [List.getElem_mapIdx]
  rfl
 ·rename_i hn
  rw [List.length_mapIdx] at hn
  rw [List.getElem_singleton]
  show ((s.t + s.di.length : Nat) : Int) = _
  rw [hl] at *
  have : j = s.di.length := by
   rw [List.length_append, List.length_mapIdx, List.length_singleton] at hj
   omega
  rw [this]
theorem frames_apart (s : S) : (framesL s).Pairwise (fun a b => a.i.toNat ≠ b.i.toNat) := by
 rw [List.pairwise_iff_getElem]
 intro i j hi hj hij
 rw [frames_at, frames_at]
 omega
theorem logged_con (h : OkS s K) (c : Con s V su) (hr : s.t + (s.di.length + 1) ≤ s.h.l.toNat) : ∃ D2 V2, loggedR s = (D2, 0) ∧ Con (settledR { s with d := D2 }) V2 (nowL s.di su) ∧ (∀ j, j < 2 + s.h.p.toNat + s.t → V2 j = V j) ∧ (∀ f ∈ framesL s, V2 (logN s.h f.i.toNat) = frameB f) ∧ ∀ j, 2 + s.h.p.toNat + (s.t + (s.di.length + 1)) ≤ j → V2 j = V j := by
 obtain ⟨D1, V1, e1, l1, h1, h2⟩ := puts_con (h := s.h) (framesL s) s.d V c.l (fun f hf => (frames_right h hr f hf).1) (frames_apart s)
 obtain ⟨e2, l2, m2⟩ := l1.flush
 have hlo : ∀ j, j < 2 + s.h.p.toNat + s.t → V1 j = V j := fun j hj => h1 j (fun f hf e => by
  obtain ⟨k, hk, rfl⟩ := List.mem_iff_getElem.1 hf
  rw [frames_at] at e
  unfold logN at e
  omega)
 have hmem : ∀ p ∈ s.di, ∃ i, i < s.di.length ∧ (⟨p.no, s.t + i⟩ : Im) ∈ imsL s ∧ pageF s.h s.t i p ∈ framesL s := fun p hp => by
  obtain ⟨i, hi, e⟩ := List.mem_iff_getElem.1 hp
  refine ⟨i, hi, ?_, ?_⟩
  ·unfold imsL
   exact List.mem_mapIdx.2 ⟨i, hi, by rw [e]⟩
  ·unfold framesL
   exact List.mem_append_left _ (List.mem_mapIdx.2 ⟨i, hi, by rw [e]⟩)
 have hnow : ∀ no, (nowL s.di su no).size = 200 := fun no => by
  unfold nowL
  split
  ·rename_i p hp
   exact (h.di p (findP_mem hp).1).2
  ·exact c.sz no
 refine ⟨D1.flushed, V1, ?_, ⟨l2, m2, hnow, fun no hno hf => ?_, fun no m hf => ?_, ?_, fun m hm => ?_⟩, hlo, h2, fun j hj => h1 j (fun f hf e => by
  obtain ⟨k, hk, rfl⟩ := List.mem_iff_getElem.1 hf
  rw [frames_at] at e
  rw [frames_len] at hk
  unfold logN at e
  omega)⟩
 ·unfold loggedR
  rw [e1, if_neg (by simp)]
  exact e2
 ·rcases findI_fold (k := no) (imsL s) s.fr h.fu with ⟨x, _, _, e⟩ | ⟨h3, e⟩
  ·have hf : findI ((imsL s).foldl insI s.fr) no = none := hf
   rw [hf] at e
   cases e
  ·have hf : findI ((imsL s).foldl insI s.fr) no = none := hf
   rw [hf] at e
   have hn : nowL s.di su no = su no := by
    unfold nowL
    rw [findP_none.2 (fun p hp e3 => by
     obtain ⟨i, _, hi, _⟩ := hmem p hp
     exact h3 _ hi e3)]
   rw [hn]
   unfold AtHome
   rw [hlo _ (by unfold homeN; have : no < s.h.p.toNat := hno; omega)]
   exact c.home no hno e.symm
 ·have hf : findI ((imsL s).foldl insI s.fr) no = some m := hf
  rcases findI_fold (k := no) (imsL s) s.fr h.fu with ⟨x, hx, hk, e⟩ | ⟨h3, e⟩
  ·rw [hf] at e
   injection e with e
   subst e
   unfold imsL at hx
   obtain ⟨i, hi, rfl⟩ := List.mem_mapIdx.1 hx
   have hk : s.di[i].no = no := hk
   have hn : nowL s.di su no = s.di[i].data := by
    unfold nowL
    rw [← hk, findP_own h.du _ (List.getElem_mem hi)]
   have hfm : pageF s.h s.t i s.di[i] ∈ framesL s := by
    unfold framesL
    exact List.mem_append_left _ (List.mem_mapIdx.2 ⟨i, hi, rfl⟩)
   have := h2 _ hfm
   rw [hn, ← hk]
   exact this
  ·rw [hf] at e
   have hn : nowL s.di su no = su no := by
    unfold nowL
    rw [findP_none.2 (fun p hp e3 => by
     obtain ⟨i, _, hi, _⟩ := hmem p hp
     exact h3 _ hi e3)]
   rw [hn]
   obtain ⟨hm, _⟩ := findI_mem e.symm
   have := c.lt m hm
   show V1 (logN s.h m.at_) = _
   rw [hlo _ (by unfold logN; omega)]
   exact c.log no m e.symm
 ·exact hand_con s.di s.c su h.du h.c (fun p hp => ⟨by have := (h.di p hp).1; have := h.h.p1; omega, by rw [(h.di p hp).2]; decide⟩) c.hand
 ·show m.at_ < s.t + (s.di.length + 1)
  rcases fold_mem s.fr (imsL s) h.fu m hm with h1 | h1
  ·obtain ⟨i, p, _, hl, rfl⟩ := mem_ims h1
   show s.t + i < _
   omega
  ·have := c.lt m h1
   omega
end
end Go.Proofs.YtcgkbcgpnlogoaaGreatDoor.St

/- Commit on a device with power for good. No program. -/
namespace Go.Proofs.YtcgkbcgpnlogoaaGreatDoor.St
open Go.RowKit Go.Shelf Tal Sla Hd Fr Lf
section
variable {s : S} {V su : Nat → ByteArray} {K : Nat}
/-- A new store: all pages are noughts. -/
theorem new_con {p l : Int} (hr : RightH ⟨p, l, 1⟩) : ∃ D, formatR p l = (some ⟨D, ⟨p, l, 1⟩, 0, [], [], ⟨[], 0⟩⟩, 0) ∧ OkS ⟨D, ⟨p, l, 1⟩, 0, [], [], ⟨[], 0⟩⟩ 2 ∧ Con ⟨D, ⟨p, l, 1⟩, 0, [], [], ⟨[], 0⟩⟩ (putS (fun _ => nought) ⟨p, l, 1⟩) (fun _ => zeros 200) := by
 have p0 := hr.p0
 have p1 := hr.p1
 have l0 := hr.l0
 have l1 := hr.l1
 simp only at p0 p1 l0 l1
 obtain ⟨D, h1, hc⟩ := put_calm (fresh_calm (2 + p + l).toNat) hr
 refine ⟨D, formatR_good hr h1, ⟨Hd.Calm.ok hc (by omega) (by omega) (putS_size fun _ _ => nought_size), hr, hc.n.trans (by show (2 + p + l).toNat = 2 + p.toNat + l.toNat; omega), Nat.zero_le _, List.Pairwise.nil, (fun m hm => by cases hm), Nat.zero_le _, List.Pairwise.nil, (fun m hm => by cases hm), Nat.zero_le _, Cl.ok_none⟩, ⟨⟨hc.dead, hc.left, fun j => ?_⟩, hc.m, fun _ => zeros_size 200, fun no hno _ => ?_, fun no m hf => (by cases hf), fun q hq => (by cases hq), fun m hm => (by cases hm)⟩⟩
 ·show Sla.look D.LA D.LD j (D.S j) D.m = _
  rw [hc.m, hc.s]
  rfl
 ·refine Or.inr ⟨rfl, ?_⟩
  have e : putS (fun _ => nought) ⟨p, l, 1⟩ (homeN no) = nought := if_neg (by unfold homeN; show ¬ (1 : Int) % 2 = _; omega)
  rw [e]
  exact Lf.parse_noughts nought_size (by rw [nought_list]; rfl)
end
end Go.Proofs.YtcgkbcgpnlogoaaGreatDoor.St

/- What the log of a store with power for good holds; opened at rest it has the same pages. No program. -/
namespace Go.Proofs.YtcgkbcgpnlogoaaGreatDoor.St
open Go.RowKit Go.Shelf Tal Sla Hd Fr Lf
/-- The log gone through: behind its first i sectors, what is in it (fr, t), and what waits for its commit. -/
inductive Lg (V : Nat → ByteArray) (h : H) : Nat → List Im → Nat → List Im → Prop
 | nil : Lg V h 0 [] 0 []
 | page {i t : Nat} {fr wl : List Im} {f : F} : Lg V h i fr t wl → V (logN h i) = frameB f → RightF f → f.e = h.e → f.i = (i : Nat) → f.c = false → 0 ≤ f.p → f.p < h.p → Lg V h (i + 1) fr t (wl ++ [⟨f.p.toNat, i⟩])
 | fin {i t : Nat} {fr wl : List Im} {f : F} : Lg V h i fr t wl → V (logN h i) = frameB f → RightF f → f.e = h.e → f.i = (i : Nat) → f.c = true → f.p = (wl.length : Nat) → Lg V h (i + 1) (withI fr wl) (i + 1) []
/-- A store on a device with power for good whose log, and whose heads, say what it is. -/
structure ConL (s : S) (V : Nat → ByteArray) (su : Nat → ByteArray) : Prop where
 c : Con s V su
 lg : Lg V s.h s.t s.fr s.t []
 old : ∀ j : Nat, j < s.h.l.toNat → ∀ f, parseF (V (logN s.h j)) = some f → f.e ≤ s.h.e ∧ (f.e = s.h.e → f.i = (j : Nat) → j < s.t)
 hd : ∀ j : Nat, s.h.e % 2 = (j : Int) → V j = headB s.h
 hd2 : ∀ j : Nat, j < 2 → s.h.e % 2 ≠ (j : Int) → ∀ g, parseH (V j) = some g → g.e < s.h.e
section
variable {s : S} {V V2 su : Nat → ByteArray} {K i t : Nat} {D : Dev} {h : H} {fr wl : List Im}
theorem Lg.congr (l : Lg V h i fr t wl) (hv : ∀ k, k < i → V2 (logN h k) = V (logN h k)) : Lg V2 h i fr t wl := by
 induction l with
 | nil => exact Lg.nil
 | page _ h1 h2 h3 h4 h5 h6 h7 ih => exact Lg.page (ih fun k hk => hv k (by omega)) ((hv _ (by omega)).trans h1) h2 h3 h4 h5 h6 h7
 | fin _ h1 h2 h3 h4 h5 h6 ih => exact Lg.fin (ih fun k hk => hv k (by omega)) ((hv _ (by omega)).trans h1) h2 h3 h4 h5 h6
theorem recall_lg (lg : Lg V h i fr t wl) (n : Nat) (hl : Live D V) (hi : i ≤ n) : ∃ D', Live D' V ∧ D'.m = D.m ∧ recallR n 0 ⟨D, h, 0, [], [], ⟨[], 0⟩⟩ [] = recallR (n - i) i ⟨D', h, t, fr, [], ⟨[], 0⟩⟩ wl := by
 induction lg with
 | nil => exact ⟨D, hl, rfl, rfl⟩
 | @page i t fr wl f _ h1 h2 h3 h4 h5 h6 h7 ih =>
  obtain ⟨D', l', m', e⟩ := ih (by omega)
  have hf := l'.frame (h := h) h2 h3 h4 h1
  refine ⟨D'.up, l'.up, m', e.trans ?_⟩
  rw [show n - i = (n - (i + 1)) + 1 by omega]
  exact recallR_page hf (followsB_iff.2 (by unfold Follows; rw [h5, if_neg (by simp)]; exact ⟨h6, h7⟩)) h5
 | @fin i t fr wl f _ h1 h2 h3 h4 h5 h6 ih =>
  obtain ⟨D', l', m', e⟩ := ih (by omega)
  have hf := l'.frame (h := h) h2 h3 h4 h1
  refine ⟨D'.up, l'.up, m', e.trans ?_⟩
  rw [show n - i = (n - (i + 1)) + 1 by omega]
  exact recallR_end hf (followsB_iff.2 (by unfold Follows; rw [h5, if_pos rfl]; exact h6)) h5
theorem recalled_lg (lg : Lg V h t fr t []) (hl : Live D V) (ht : t ≤ h.l.toNat) (hs : t < h.l.toNat → ∀ f, parseF (V (logN h t)) = some f → ¬ (f.e = h.e ∧ f.i = (t : Nat))) :
  ∃ D', Live D' V ∧ D'.m = D.m ∧ recalledR ⟨D, h, 0, [], [], ⟨[], 0⟩⟩ = (⟨D', h, t, fr, [], ⟨[], 0⟩⟩, 0) := by
 obtain ⟨D1, l1, m1, e⟩ := recall_lg lg h.l.toNat hl ht
 by_cases hlt : t < h.l.toNat
 ·have hg := l1.get (logN h t)
  refine ⟨D1.up, l1.up, m1, e.trans ?_⟩
  rw [show h.l.toNat - t = (h.l.toNat - (t + 1)) + 1 by omega]
  cases hp : parseF (V (logN h t)) with
  | none => exact recallR_stop (frameR_none hg hp) (Or.inl rfl)
  | some f => exact recallR_stop (frameR_other hg hp (hs hlt f hp)) (Or.inl rfl)
 ·refine ⟨D1, l1, m1, e.trans ?_⟩
  rw [show h.l.toNat - t = 0 by omega]
  rfl
theorem Live.started (l : Live D V) (hm : D.m = 0) (f : Fat) : Live (D.started f) V ∧ Hd.Calm (D.started f) D.n V 0 := by
 have hS : D.S = V := by
  funext j
  rw [← l.v j, hm]
  rfl
 have hs : startS f D.S D.LA D.LD D.m = V := by rw [hm]; exact hS
 exact ⟨⟨rfl, rfl, fun j => by show startS f D.S D.LA D.LD D.m j = V j; rw [hs]⟩, ⟨rfl, hs, rfl, rfl, rfl, Int.le_refl _, Int.le_refl _⟩⟩
theorem Calm.live {n k : Nat} (c : Hd.Calm D n V k) : Live D V := ⟨c.dead, c.left, fun j => by rw [c.m, c.s]; rfl⟩
theorem ConL.best (h : OkS s K) (c : ConL s V su) : bestH (V 0) (V 1) = s.h := by
 have e0 : s.h.e % 2 = 0 ∨ s.h.e % 2 = 1 := by omega
 rcases e0 with e | e
 ·have h1 := c.hd 0 e
  rw [h1]
  cases hp : parseH (V 1) with
  | none => exact best_fst (Hd.parse_own h.h) hp
  | some g =>
   have := c.hd2 1 (by decide) (by rw [e]; decide) g hp
   rw [best_two (Hd.parse_own h.h) hp, if_neg (by omega)]
 ·have h1 := c.hd 1 e
  rw [h1]
  cases hp : parseH (V 0) with
  | none => exact best_snd hp (Hd.parse_own h.h)
  | some g =>
   have := c.hd2 0 (by decide) (by rw [e]; decide) g hp
   rw [best_two hp (Hd.parse_own h.h), if_pos (by omega)]
theorem ConL.stop (c : ConL s V su) : s.t < s.h.l.toNat → ∀ f, parseF (V (logN s.h s.t)) = some f → ¬ (f.e = s.h.e ∧ f.i = (s.t : Nat)) := fun hlt f hf ⟨h1, h2⟩ => by
 have := (c.old s.t hlt f hf).2 h1 h2
 omega
theorem check_conL (h : OkS s K) (c : ConL s V su) (hr : RightH (nextH s.h)) : ∃ s2 V2, checkR s = (s2, 0) ∧ ConL s2 V2 su ∧ s2.h = nextH s.h ∧ s2.t = 0 ∧ s2.fr = [] ∧ s2.di = s.di ∧ s2.c = s.c := by
 obtain ⟨s2, V2, e, c2, e1, e2, e3, e4, e5, hv⟩ := check_con h c.c hr
 have hp : ∀ j, V2 (logN (nextH s.h) j) = V (logN s.h j) := fun j => by
  rw [hv _ (Or.inr (by unfold logN; show 2 + s.h.p.toNat ≤ 2 + s.h.p.toNat + j; omega))]
  exact if_neg (by unfold logN; show ¬ (s.h.e + 1) % 2 = _; omega)
 refine ⟨s2, V2, e, ⟨c2, ?_, fun j hj f hf => ?_, fun j hj => ?_, fun j hj hne g hg => ?_⟩, e1, e2, e3, e4, e5⟩
 ·rw [e2, e3]
  exact Lg.nil
 ·rw [e1] at hf hj ⊢
  rw [hp] at hf
  have := (c.old j hj f hf).1
  exact ⟨by show f.e ≤ s.h.e + 1; omega, fun he => absurd he (by show ¬ f.e = s.h.e + 1; omega)⟩
 ·rw [e1] at hj ⊢
  rw [hv j (Or.inl (by have : (s.h.e + 1) % 2 = (j : Int) := hj; omega))]
  exact if_pos hj
 ·rw [e1] at hne ⊢
  rw [hv j (Or.inl hj)] at hg
  have hg : parseH (putS V (nextH s.h) j) = some g := hg
  rw [show putS V (nextH s.h) j = V j from if_neg hne] at hg
  have hne : ¬ (s.h.e + 1) % 2 = (j : Int) := hne
  rw [c.hd j (by omega), Hd.parse_own h.h] at hg
  injection hg with hg
  rw [← hg]
  show s.h.e < s.h.e + 1
  omega
theorem lg_pages (t0 : Nat) : ∀ (l : List Pg) (k : Nat) (wl : List Im), Lg V h (t0 + k) fr t wl →
  (∀ i p, l[i]? = some p → V (logN h (t0 + (k + i))) = frameB (pageF h t0 (k + i) p) ∧ RightF (pageF h t0 (k + i) p) ∧ (p.no : Int) < h.p) →
  Lg V h (t0 + (k + l.length)) fr t (wl ++ l.mapIdx (fun i p => ⟨p.no, t0 + (k + i)⟩))
 | [], k, wl, hg, _ => by
  rw [List.mapIdx_nil, List.append_nil]
  exact hg
 | p :: l, k, wl, hg, hl => by
  obtain ⟨h1, h2, h3⟩ := hl 0 p rfl
  have hg2 := Lg.page hg h1 h2 rfl rfl rfl (Int.natCast_nonneg _) h3
  have ih := lg_pages t0 l (k + 1) _ hg2 (fun i q hq => by
   have := hl (i + 1) q (by rw [List.getElem?_cons_succ]; exact hq)
   rw [show k + (i + 1) = k + 1 + i by omega] at this
   exact this)
  rw [List.mapIdx_cons]
  rw [List.append_assoc] at ih
  rw [show k + (p :: l).length = k + 1 + l.length by rw [List.length_cons]; omega]
  rw [show (fun (i : Nat) (q : Pg) => (⟨q.no, t0 + (k + (i + 1))⟩ : Im)) = fun i q => ⟨q.no, t0 + (k + 1 + i)⟩ from by funext i q; rw [show k + (i + 1) = k + 1 + i by omega]]
  exact ih
theorem logged_conL (h : OkS s K) (c : ConL s V su) (hr : s.t + (s.di.length + 1) ≤ s.h.l.toNat) : ∃ D2 V2, loggedR s = (D2, 0) ∧ ConL (settledR { s with d := D2 }) V2 (nowL s.di su) := by
 obtain ⟨D2, V2, e, c2, h1, h2, h3⟩ := logged_con h c.c hr
 have hp1 := h.h.p0
 have hlen := frames_len s
 have hfr : ∀ k (hk : k < s.di.length + 1), V2 (logN s.h (s.t + k)) = frameB ((framesL s)[k]'(by rw [hlen]; exact hk)) ∧ RightF ((framesL s)[k]'(by rw [hlen]; exact hk)) := fun k hk => by
  have hm := List.getElem_mem (l := framesL s) (by rw [hlen]; exact hk)
  have e1 := h2 _ hm
  rw [frames_at] at e1
  exact ⟨e1, (frames_right h hr _ hm).1⟩
 have hpg : ∀ k (hk : k < s.di.length), (framesL s)[k]'(by rw [hlen]; omega) = pageF s.h s.t k (s.di[k]) := fun k hk => by
  unfold framesL
  rw [List.getElem_append_left (by rw [List.length_mapIdx]; exact hk), List.getElem_mapIdx]
 have hend : (framesL s)[s.di.length]'(by rw [hlen]; omega) = endF s.h s.t s.di.length := by
  unfold framesL
  rw [List.getElem_append_right (by rw [List.length_mapIdx]; exact Nat.le_refl _)]
  simp only [List.length_mapIdx, Nat.sub_self, List.getElem_cons_zero]
 have hlo : ∀ j, j < s.t → V2 (logN s.h j) = V (logN s.h j) := fun j hj => h1 _ (by unfold logN; omega)
 have lg1 := lg_pages (fr := s.fr) (t := s.t) (V := V2) (h := s.h) s.t s.di 0 [] (c.lg.congr hlo) (fun i p hi => by
  have hlt : i < s.di.length := (List.getElem?_eq_some_iff.1 hi).1
  have hpi : s.di[i] = p := (List.getElem?_eq_some_iff.1 hi).2
  obtain ⟨e1, e2⟩ := hfr i (by omega)
  rw [hpg i hlt, hpi] at e1 e2
  rw [Nat.zero_add]
  refine ⟨e1, e2, ?_⟩
  have := (h.di p (List.mem_of_getElem? hi)).1
  omega)
 obtain ⟨e3, e4⟩ := hfr s.di.length (by omega)
 rw [hend] at e3 e4
 have hims : ([] : List Im) ++ s.di.mapIdx (fun i p => (⟨p.no, s.t + (0 + i)⟩ : Im)) = imsL s := by
  unfold imsL
  rw [List.nil_append]
  congr 1
  funext i p
  rw [Nat.zero_add]
 rw [hims, Nat.zero_add] at lg1
 have hil : (imsL s).length = s.di.length := by unfold imsL; rw [List.length_mapIdx]
 have lg2 := Lg.fin lg1 e3 e4 rfl rfl rfl (by rw [hil]; rfl)
 have h0 : ∀ j, j < 2 → V2 j = V j := fun j hj => h1 j (by omega)
 refine ⟨D2, V2, e, ⟨c2, lg2, fun j hj f hf => ?_, fun j hj => ?_, fun j hj hne g hg => ?_⟩⟩
 ·show f.e ≤ s.h.e ∧ (f.e = s.h.e → f.i = (j : Nat) → j < s.t + (s.di.length + 1))
  have hj : j < s.h.l.toNat := hj
  have hf : parseF (V2 (logN s.h j)) = some f := hf
  by_cases ha : j < s.t
  ·rw [hlo j ha] at hf
   exact ⟨(c.old j hj f hf).1, fun _ _ => by omega⟩
  ·by_cases hb : j < s.t + (s.di.length + 1)
   ·obtain ⟨e5, e6⟩ := hfr (j - s.t) (by omega)
    have ef : ((framesL s)[j - s.t]'(by rw [hlen]; omega)).e = s.h.e := by
     by_cases hc : j - s.t < s.di.length
     ·rw [hpg _ hc]; rfl
     ·have : j - s.t = s.di.length := by omega
      simp only [this, hend]; rfl
    rw [show s.t + (j - s.t) = j by omega] at e5
    rw [e5, Fr.parse_own e6] at hf
    injection hf with hf
    rw [hf] at ef
    exact ⟨by omega, fun _ _ => hb⟩
   ·rw [h3 _ (by unfold logN; omega)] at hf
    have := c.old j hj f hf
    exact ⟨this.1, fun h5 h6 => by have := this.2 h5 h6; omega⟩
 ·have hj : s.h.e % 2 = (j : Int) := hj
  rw [h0 j (by omega)]
  exact c.hd j hj
 ·rw [h0 j hj] at hg
  exact c.hd2 j hj hne g hg
theorem read_conL (h : OkS s K) (c : ConL s V su) {no : Nat} (hno : no < s.h.p.toNat) : ∃ s2, readR s no = (s2, nowR s su no, 0) ∧ ConL s2 V su ∧ s2.h = s.h ∧ s2.t = s.t ∧ s2.fr = s.fr ∧ s2.di = s.di := by
 obtain ⟨s2, e, c2, e1, e2, e3, e4⟩ := read_con h c.c hno
 exact ⟨s2, e, ⟨c2, by rw [e1, e2, e3]; exact c.lg, by rw [e1, e2]; exact c.old, by rw [e1]; exact c.hd, by rw [e1]; exact c.hd2⟩, e1, e2, e3, e4⟩
theorem write_conL (h : OkS s K) (c : ConL s V su) {no : Nat} {d : ByteArray} (hno : no < s.h.p.toNat) (hd : d.size ≤ 200) : ∃ s2, writeR s no d = (s2, 0) ∧ ConL s2 V su ∧ s2.h = s.h ∧ s2.t = s.t ∧ s2.fr = s.fr ∧ s2.c = s.c ∧ s2.d = s.d ∧ nowR s2 su = fun k => if no = k then padP d else nowR s su k := by
 obtain ⟨s2, e, c2, e1, e2, e3, e4, e5⟩ := write_con h c.c hno hd
 refine ⟨s2, e, ⟨c2, by rw [e1, e2, e3]; exact c.lg, by rw [e1, e2]; exact c.old, by rw [e1]; exact c.hd, by rw [e1]; exact c.hd2⟩, e1, e2, e3, e4, ?_, e5⟩
 have := writeR_dds (s := s) no d
 rw [e] at this
 exact this
theorem abort_conL (c : ConL s V su) : ConL (abortR s) V su ∧ nowR (abortR s) su = su := ⟨⟨(abort_con c.c).1, c.lg, c.old, c.hd, c.hd2⟩, rfl⟩
theorem commit_conL (h : OkS s K) (c : ConL s V su) (hn : RightH (nextH s.h)) (hd : s.di ≠ []) (hl : s.di.length + 1 ≤ s.h.l.toNat) :
  ∃ s2 V2, commitR s = (s2, 0) ∧ ConL s2 V2 (nowR s su) ∧ s2.di = [] ∧ (s2.h = s.h ∨ s2.h = nextH s.h) ∧ (s.t + (s.di.length + 1) ≤ s.h.l.toNat → s2.h = s.h) := by
 have h0 := h.h.l0
 by_cases hr : s.t + (s.di.length + 1) ≤ s.h.l.toNat
 ·obtain ⟨D2, V2, e, c2⟩ := logged_conL h c hr
  exact ⟨_, V2, commitR_good c.c.l.dead hd (by omega) (by omega) e, c2, rfl, Or.inl rfl, fun _ => rfl⟩
 ·obtain ⟨s2, V2, e, c2, e1, e2, e3, e4, e5⟩ := check_conL h c hn
  have hok := checkR_ok h
  rw [e] at hok
  obtain ⟨D3, V3, e6, c3⟩ := logged_conL (s := s2) hok c2 (by rw [e2, e4, e1]; show 0 + (s.di.length + 1) ≤ s.h.l.toNat; omega)
  refine ⟨_, V3, commitR_check_good c.c.l.dead hd (by omega) (by omega) e e6, ?_, rfl, Or.inr e1, fun h => absurd h hr⟩
  rw [show nowR s su = nowL s2.di su by rw [e4]; rfl]
  exact c3
/-- Opened at rest it has the same pages, as they were committed last; its log is empty, and another one. -/
theorem open_conL (h : OkS s K) (c : ConL s V su) (hn : RightH (nextH s.h)) (f : Fat) : ∃ s2 V2, openR (s.d.started f) = (some s2, s2.d, 0) ∧ ConL s2 V2 su ∧ OkS s2 (K + 2000) ∧ s2.h = nextH s.h ∧ s2.t = 0 ∧ s2.fr = [] ∧ s2.di = [] ∧ s2.c = ⟨[], 0⟩ := by
 obtain ⟨l1, c1⟩ := c.c.l.started c.c.m f
 obtain ⟨D1, e1, c2⟩ := newest_calm c1
 have he0 := h.h.e0
 have hp0 := h.h.p0
 have hp1 := h.h.p1
 have hl0 := h.h.l0
 have hl1 := h.h.l1
 rw [c.best h, if_neg (by omega)] at e1
 have hsz : (((s.d.started f).n : Nat) : Int) = sizeN s.h := by
  show ((s.d.n : Nat) : Int) = 2 + s.h.p + s.h.l
  have := h.n
  omega
 obtain ⟨D2, l2, m2, e2⟩ := recalled_lg c.lg (Calm.live c2) h.t c.stop
 have hok1 : (s.d.started f).Ok 0 := Hd.Calm.ok c1 (by have := h.n; omega) (by have := h.n; omega) (fun j hj => by
  rw [← c1.s]
  exact startS_size f s.d.S s.d.LA s.d.LD s.d.n s.d.m h.d.sz h.d.lz j hj)
 have hok2 := (newest_ok hok1).1
 rw [e1] at hok2
 have hok3 := recalled_ok (h := s.h) (D := D1) hok2 h.h (by rw [c2.n]; exact h.n)
 rw [e2] at hok3
 have c3 : ConL ⟨D2, s.h, s.t, s.fr, [], ⟨[], 0⟩⟩ V su := ⟨⟨l2, m2.trans c2.m, c.c.sz, c.c.home, c.c.log, fun q hq => (by cases hq), c.c.lt⟩, c.lg, c.old, c.hd, c.hd2⟩
 obtain ⟨s2, V2, e3, c4, e4, e5, e6, e7, e8⟩ := check_conL hok3 c3 hn
 have hok4 := checkR_ok hok3
 rw [e3] at hok4
 refine ⟨s2, V2, openR_good e1 hsz e2 e3, c4, hok4.more ?_, e4, e5, e6, e7, e8⟩
 have := h.lfr
 show 0 + 2 + s.h.l.toNat + 2 * s.fr.length + 3 ≤ K + 2000
 omega
theorem nought_frame {f : F} (hf : parseF nought = some f) : False := by
 obtain ⟨h, e⟩ := Fr.parse_iff.1 hf
 obtain ⟨r, e2⟩ : ∃ r, (frameB f).data.toList = word f.c ++ r := ⟨_, by rw [frameB_data h.small]; unfold bodyF; simp only [List.append_assoc]; rfl⟩
 have h1 := congrArg (fun s : ByteArray => s.data.toList.getD 0 0) e
 have h1 : nought.data.toList.getD 0 0 = (frameB f).data.toList.getD 0 0 := h1
 rw [nought_list, e2] at h1
 cases hc : f.c
 ·rw [hc] at h1
  exact absurd h1 (by show ¬ (0 : UInt8) = (word false ++ r).getD 0 0; exact fun h => by cases h)
 ·rw [hc] at h1
  exact absurd h1 (by show ¬ (0 : UInt8) = (word true ++ r).getD 0 0; exact fun h => by cases h)
/-- A new store. -/
theorem new_conL {p l : Int} (hr : RightH ⟨p, l, 1⟩) : ∃ D V, formatR p l = (some ⟨D, ⟨p, l, 1⟩, 0, [], [], ⟨[], 0⟩⟩, 0) ∧ OkS ⟨D, ⟨p, l, 1⟩, 0, [], [], ⟨[], 0⟩⟩ 2 ∧ ConL ⟨D, ⟨p, l, 1⟩, 0, [], [], ⟨[], 0⟩⟩ V (fun _ => zeros 200) := by
 obtain ⟨D, e, hok, c⟩ := new_con hr
 refine ⟨D, _, e, hok, ⟨c, Lg.nil, fun j _ f hf => ?_, fun j hj => if_pos hj, fun j _ hne g hg => ?_⟩⟩
 ·have e2 : putS (fun _ => nought) ⟨p, l, 1⟩ (logN ⟨p, l, 1⟩ j) = nought := if_neg (by unfold logN; show ¬ (1 : Int) % 2 = _; omega)
  rw [e2] at hf
  exact (nought_frame hf).elim
 ·rw [show putS (fun _ => nought) ⟨p, l, 1⟩ j = nought from if_neg hne, parse_nought] at hg
  cases hg
end
end Go.Proofs.YtcgkbcgpnlogoaaGreatDoor.St

/- The document's examples of stores, plainly. No program. -/
namespace Go.Proofs.YtcgkbcgpnlogoaaGreatDoor.St
open Go.RowKit Go.Shelf Tal Sla Hd Fr Lf
def bAB : ByteArray := ⟨#[97, 98]⟩
def bXY : ByteArray := ⟨#[120, 121]⟩
section
variable {s : S} {V su : Nat → ByteArray} {K : Nat}
theorem write_eq {no : Nat} {d : ByteArray} (hno : (no : Int) < s.h.p) (hd : d.size ≤ 200) (h0 : s.d.dead = false) : writeR s no d = ({ s with di := insP s.di ⟨no, padP d⟩ }, 0) := by
 unfold writeR
 have hh : HasNo s.h (no : Int) := ⟨by omega, hno⟩
 rw [if_neg (by rintro (e | e); exact e hh; omega), if_neg (by rw [h0]; simp), Int.toNat_natCast]
end
structure Examples (s0 s1 s2 s3 s4 s5 s6 u u1 u2 : S) : Prop where
 f0 : formatR 8 4 = (some s0, 0)
 k0 : OkS s0 5000
 w1 : writeR s0 3 bAB = (s1, 0)
 k1 : OkS s1 5000
 c2 : commitR s1 = (s2, 0)
 k2 : OkS s2 5000
 w3 : writeR s2 3 bXY = (s3, 0)
 k3 : OkS s3 5000
 r4 : readR s3 3 = (s4, padP bXY, 0)
 k4 : OkS s4 5000
 a5 : abortR s3 = s5
 k5 : OkS s5 5000
 r6 : readR s5 3 = (s6, padP bAB, 0)
 k6 : OkS s6 5000
 z6 : s6.di = []
 op : openR (s3.d.started ⟨0, -1, 0⟩) = (some u, u.d, 0)
 ku : OkS u 9000
 eu : u.h.e = 2
 r1 : readR u 3 = (u1, padP bAB, 0)
 k7 : OkS u1 9001
 r2 : readR u 4 = (u2, zeros 200, 0)
 k8 : OkS u2 9001
 w8 : writeR s3 8 ⟨#[]⟩ = (s3, 1)
 f9 : formatR 7 4 = (none, 1)
theorem examples : ∃ s0 s1 s2 s3 s4 s5 s6 u u1 u2, Examples s0 s1 s2 s3 s4 s5 s6 u u1 u2 := by
 have hr : RightH ⟨8, 4, 1⟩ := ⟨by decide, by decide, by decide, by decide, by decide, by decide⟩
 have hr2 : RightH (nextH ⟨8, 4, 1⟩) := ⟨by decide, by decide, by decide, by decide, by decide, by decide⟩
 obtain ⟨D, V, e0, ok0, c0⟩ := new_conL hr
 generalize hs0 : (⟨D, ⟨8, 4, 1⟩, 0, [], [], ⟨[], 0⟩⟩ : S) = s0 at e0 ok0 c0
 have h0 : s0.h = ⟨8, 4, 1⟩ := by rw [← hs0]
 have t0 : s0.t = 0 := by rw [← hs0]
 have i0 : s0.di = [] := by rw [← hs0]
 have p0 : s0.h.p.toNat = 8 := by rw [h0]; rfl
 obtain ⟨s1, e1, c1, h1, t1, _, _, _, n1⟩ := write_conL ok0 c0 (no := 3) (d := bAB) (by rw [p0]; decide) (by decide)
 have e1 : writeR s0 3 bAB = (s1, 0) := e1
 have ok1 := writeR_ok ok0 3 bAB
 rw [e1] at ok1
 have i1 : s1.di = [⟨3, padP bAB⟩] := by
  have := write_eq (s := s0) (no := 3) (d := bAB) (by rw [h0]; decide) (by decide) c0.c.l.dead
  have this : writeR s0 3 bAB = _ := this
  rw [e1] at this
  have := congrArg (fun x => x.1.di) this
  simp only [i0] at this
  exact this
 obtain ⟨s2, V2, e2, c2, i2, _, h2⟩ := commit_conL ok1 c1 (by rw [h1, h0]; exact hr2) (by rw [i1]; simp) (by rw [i1, h1, h0]; decide)
 have h2 := h2 (by rw [t1, t0, i1, h1, h0]; decide)
 have ok2 := commitR_ok ok1
 rw [e2] at ok2
 have hl1 := ok1.lfr
 have hd1 := ok1.ldi
 rw [h1, p0] at hl1 hd1
 have hh2 : s2.h = ⟨8, 4, 1⟩ := h2.trans (h1.trans h0)
 have p2 : s2.h.p.toNat = 8 := by rw [hh2]; rfl
 have ns : nowR s1 (fun _ => zeros 200) = fun k => if 3 = k then padP bAB else zeros 200 := by
  rw [n1]
  funext k
  unfold nowR
  rw [i0]
  rfl
 rw [ns] at c2
 obtain ⟨s3, e3, c3, h3, t3, _, _, d3, n3⟩ := write_conL ok2 c2 (no := 3) (d := bXY) (by rw [p2]; decide) (by decide)
 have e3 : writeR s2 3 bXY = (s3, 0) := e3
 have ok3 := writeR_ok ok2 3 bXY
 rw [e3] at ok3
 have hh3 : s3.h = ⟨8, 4, 1⟩ := h3.trans hh2
 have p3 : s3.h.p.toNat = 8 := by rw [hh3]; rfl
 obtain ⟨s4, e4, _⟩ := read_conL ok3 c3 (no := 3) (by rw [p3]; decide)
 have ok4 := readR_ok ok3 3
 have e4 : readR s3 3 = (s4, _, 0) := e4
 rw [e4] at ok4
 rw [n3] at e4
 have c5 := abort_conL c3
 have ok5 := abortR_ok ok3
 obtain ⟨s6, e6, _, _, _, _, i6⟩ := read_conL ok5 c5.1 (no := 3) (by show 3 < s3.h.p.toNat; rw [p3]; decide)
 have ok6 := readR_ok ok5 3
 have e6 : readR (abortR s3) 3 = (s6, _, 0) := e6
 rw [e6] at ok6
 rw [c5.2] at e6
 obtain ⟨u, V7, e7, c7, ok7, h7, _, _, i7, _⟩ := open_conL ok3 c3 (by rw [hh3]; exact hr2) (⟨0, -1, 0⟩ : Fat)
 have p7 : u.h.p.toNat = 8 := by rw [h7, hh3]; rfl
 have n7 : ∀ su : Nat → ByteArray, nowR u su = su := fun su => by funext k; unfold nowR; rw [i7]; rfl
 obtain ⟨u1, e8, _⟩ := read_conL ok7 c7 (no := 3) (by rw [p7]; decide)
 have e8 : readR u 3 = (u1, _, 0) := e8
 have ok8 := readR_ok ok7 3
 rw [e8] at ok8
 rw [n7] at e8
 obtain ⟨u2, e9, _⟩ := read_conL ok7 c7 (no := 4) (by rw [p7]; decide)
 have e9 : readR u 4 = (u2, _, 0) := e9
 have ok9 := readR_ok ok7 4
 rw [e9] at ok9
 rw [n7] at e9
 refine ⟨s0, s1, s2, s3, s4, abortR s3, s6, u, u1, u2, ⟨e0, ok0.more (by decide), e1, ok1.more (by decide), e2, ok2.more (by omega), e3, ok3.more (by omega), e4, ok4.more (by omega), rfl, ok5.more (by omega), e6, ok6.more (by omega), i6, e7, ok7.more (by omega), by rw [h7, hh3]; rfl, e8, ok8.more (by omega), e9, ok9.more (by omega), ?_, ?_⟩⟩
 ·unfold writeR
  rw [if_pos (Or.inl (by rw [hh3]; exact fun h => absurd h.2 (by decide)))]
 ·unfold formatR
  rw [if_pos (fun h => absurd h.p0 (by decide))]
end Go.Proofs.YtcgkbcgpnlogoaaGreatDoor.St
