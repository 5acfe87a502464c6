/- A group's cells out of bytes, from the first one on, plainly; a value stored into rows of one's own. -/
import Derived.Test.YtabgbhilbnchnaaMiV
namespace Go.Proofs.Ytabgbhilbnchnaa.Mi
open Go.RowKit Pac Va Sc Ro Lex Go.Proofs.Ytabgbhilbnchnaa.Or

theorem readC_ok {k : Int} {f h : ByteArray} (hk : k = 1 ∨ k = 2 ∨ k = 3) : (readC k f h).Ok := by
  rcases hk with rfl | rfl | rfl
  · have hu := unbe_lt (f.data.toList.take 8)
    have hl : (f.data.toList.take 8).length ≤ 8 := by rw [List.length_take]; omega
    have h8 : (256 : Nat) ^ (f.data.toList.take 8).length ≤ 256 ^ 8 := Nat.pow_le_pow_right (by decide) hl
    have hs := sgn_range _ (Nat.lt_of_lt_of_le hu (Nat.le_trans h8 (by decide)))
    exact ok_of (by decide) (by decide) hs.1 hs.2
  · have hb := (f.data.toList[0]?.getD 0).toNat_lt
    rw [readC_2]
    exact ok_of (by decide) (by decide) (by omega) (by omega)
  · exact ok_of (by decide) (by decide) (by decide) (by decide)
theorem readC_size {k : Int} {f h : ByteArray} (hk : k = 1 ∨ k = 2 ∨ k = 3) : (readC k f h).s.size ≤ h.size := by
  rcases hk with rfl | rfl | rfl
  · exact Nat.zero_le _
  · exact Nat.zero_le _
  · rw [readC_3]
    show (h.extract 0 _).size ≤ _
    rw [ByteArray.size_extract]
    omega
/-- Where bytes are a cell's, it is read as it was. -/
theorem readC_back {k : Int} {v : V} {H : Nat} {f h : ByteArray} {fr hr : List UInt8} (hc : CellOk (k, v)) (hz : v.k ≠ 0) (hf : f.data.toList = one k v H ++ fr) (hh : h.data.toList = v.s.data.toList ++ hr) : readC k f h = v := by
  have hvk : v.k = k := by
    rcases hc.z with h1 | h1
    · exact absurd h1 hz
    · exact h1
  rcases hc.k with hk | hk | hk
  · simp only at hk
    subst hk
    have h1 := right_s hc.r (by show v.k ≠ 3; omega)
    have e1 : v.s = ⟨#[]⟩ := h1.1
    have ho : v.Ok := hc.ok
    have e3 : num8 f = v.n := by
      unfold num8
      rw [hf, one_1, List.take_left' (be_len 8 _), unbe_be 8 _ (by rw [show (256 : Nat) ^ 8 = 18446744073709551616 by decide]; omega), sgn_mod ho.n0 ho.n1]
    rw [readC_1, e3]
    obtain ⟨vk, vn, vs⟩ := v
    simp only at hvk e1
    rw [hvk, e1]
  · simp only at hk
    subst hk
    have h1 := right_s hc.r (by show v.k ≠ 3; omega)
    have e1 : v.s = ⟨#[]⟩ := h1.1
    have e2 : v.n = 0 ∨ v.n = 1 := h1.2.2 hvk
    rw [readC_2, hf, one_2]
    obtain ⟨vk, vn, vs⟩ := v
    simp only at hvk e1 e2
    rw [hvk, e1]
    rcases e2 with rfl | rfl <;> rfl
  · simp only at hk
    subst hk
    have h1 := right_3 hc.r hvk
    have e2 : v.n = 0 := h1.1
    have e3 : v.s.size ≤ 60 := h1.2
    have hvl : v.s.data.toList.length = v.s.size := by simp
    have hhs : h.size = v.s.size + hr.length := by
      have : h.data.toList.length = h.size := by simp
      rw [← this, hh, List.length_append, hvl]
    have e4 : (UInt8.ofNat v.s.size).toNat = v.s.size := ofNat_toNat _ (by omega)
    have e5 : h.extract 0 v.s.size = v.s := by
      apply bytesEq'
      rw [ByteArray.data_extract, Array.toList_extract, List.extract_eq_take_drop, List.drop_zero, Nat.sub_zero, hh, List.take_left' hvl]
    rw [readC_3, hf, one_3]
    show (⟨3, 0, h.extract 0 (min (UInt8.ofNat v.s.size).toNat h.size)⟩ : V) = v
    rw [e4, Nat.min_eq_left (by omega), e5]
    obtain ⟨vk, vn, vs⟩ := v
    simp only at hvk e2
    rw [hvk, e2]
theorem bit_print {ks : List Int} {cells : List (List V)} (h : RightM ks cells) (h8 : ks.length ≤ 8) {n : Nat} {k : Int} {v : V} (hn : (flat ks cells)[n]? = some (k, v)) : bitA (printM ks cells) n = (v.k != 0) := by
  have hd := dec_print h h8 hn
  have hv := h.ok (k, v) (List.mem_of_getElem? hn)
  cases hb : bitA (printM ks cells) n with
  | false =>
    unfold decV at hd
    rw [if_pos hb] at hd
    injection hd with hd
    rw [← hd]
    rfl
  | true =>
    unfold decV at hd
    rw [if_neg (by rw [hb]; decide)] at hd
    have hz : v.k ≠ 0 := by
      split at hd
      · injection hd with hd
        rw [← hd]
        show (1 : Int) ≠ 0
        decide
      · split at hd
        · split at hd
          · injection hd with hd
            rw [← hd]
            show (2 : Int) ≠ 0
            decide
          · cases hd
        · split at hd
          · injection hd with hd
            rw [← hd]
            show (3 : Int) ≠ 0
            decide
          · cases hd
    exact (bne_iff_ne.2 hz).symm
theorem zero_cell {k : Int} {v : V} (h : CellOk (k, v)) (hz : v.k = 0) : v = vZ := by
  have h1 := right_s h.r (by show v.k ≠ 3; omega)
  have e1 : v.s = ⟨#[]⟩ := h1.1
  have e2 : v.n = 0 := h1.2.1 hz
  obtain ⟨vk, vn, vs⟩ := v
  simp only at hz e1 e2
  rw [hz, e1, e2]
  rfl
/-- How far reading has come: of any cells whose bytes s is, the first n are read; what is left of their fixed bytes, of their heap. -/
def Upto (ks : List Int) (s : ByteArray) (M : List (List V)) (n : Nat) (f h : ByteArray) : Prop :=
  ∀ cells, RightM ks cells → printM ks cells = s → (flat ks M).take n = (flat ks cells).take n ∧ f.data.toList = fix (hp ((flat ks cells).take n)).length ((flat ks cells).drop n) ∧ h.data.toList = hp ((flat ks cells).drop n)
/-- What hasn't been read yet is nothing. -/
def Blank (ks : List Int) (M : List (List V)) (n : Nat) : Prop := ∀ (j : Nat) (p : Int × V), n ≤ j → (flat ks M)[j]? = some p → p.2 = vZ
theorem sub_list (s : ByteArray) (a b : Nat) : (s.extract a b).data.toList = (s.data.toList.drop a).take (b - a) := by rw [ByteArray.data_extract, Array.toList_extract, List.extract_eq_take_drop]
theorem ba_len (b : ByteArray) : b.data.toList.length = b.size := by simp
theorem upto_start {ks : List Int} {s : ByteArray} (M : List (List V)) (m : Nat) (hm : m = s.size) : Upto ks s M 0 ((s.extract ks.length m).extract 0 (8 * wide ks)) ((s.extract ks.length m).extract (8 * wide ks) (s.extract ks.length m).size) := fun cells hc e => by
  have hs : s.data.toList = printC (flat ks cells) ks.length := by rw [← e, printM_list]
  have hw : (fix 0 (flat ks cells)).length = 8 * wide ks := by
    rw [fix_len, kindsA_flat hc]
    unfold kindsA
    rw [wide_rep]
  have h1 : (s.extract ks.length m).data.toList = fix 0 (flat ks cells) ++ hp (flat ks cells) := by
    rw [sub_list, hs]
    unfold printC
    rw [List.append_assoc, List.drop_left' (mask_len _ _)]
    have hsz : s.data.toList.length = s.size := by simp
    rw [hs] at hsz
    unfold printC at hsz
    rw [List.length_append, List.length_append, mask_len] at hsz
    exact List.take_of_length_le (by rw [List.length_append]; omega)
  refine ⟨by simp, ?_, ?_⟩
  · rw [sub_list, h1, List.drop_zero, Nat.sub_zero, List.take_left' hw]
    rfl
  · rw [sub_list, h1, List.drop_left' hw, List.drop_zero]
    have := ba_len (s.extract ks.length m)
    rw [h1, List.length_append] at this
    exact List.take_of_length_le (by omega)
theorem set_get {α : Type} {l : List (List α)} {q t : Nat} {r : List α} {u : α} (hq : l[q]? = some r) : (l.set q (r.set t u))[q]? = some (r.set t u) := by
  rw [List.getElem?_set_self (List.getElem?_eq_some_iff.1 hq).1]
/-- One cell more. -/
theorem flat_set {ks : List Int} : ∀ {M : List (List V)} {q t : Nat} {r : List V} {k : Int} {u : V}, (∀ x ∈ M, x.length = ks.length) → M[q]? = some r → ks[t]? = some k → flat ks (M.set q (r.set t u)) = (flat ks M).set (q * ks.length + t) (k, u)
  | [], q, t, r, k, u, _, h, _ => by simp at h
  | x :: M, 0, t, r, k, u, hM, h, hk => by
    simp only [List.getElem?_cons_zero, Option.some.injEq] at h
    subst h
    have hl := hM x List.mem_cons_self
    have ht := (List.getElem?_eq_some_iff.1 hk).1
    show ks.zip (x.set t u) ++ flat ks M = (ks.zip x ++ flat ks M).set (0 * ks.length + t) (k, u)
    rw [Nat.zero_mul, Nat.zero_add, List.set_append_left _ _ (by rw [zip_len hl]; exact ht)]
    congr 1
    apply List.ext_getElem?
    intro j
    by_cases hj : j = t
    · subst hj
      rw [List.getElem?_set_self (by rw [zip_len hl]; exact ht), List.getElem?_zip_eq_some]
      exact ⟨hk, List.getElem?_set_self (by omega)⟩
    · rw [List.getElem?_set_ne (Ne.symm hj)]
      have e : (x.set t u)[j]? = x[j]? := List.getElem?_set_ne (Ne.symm hj)
      have : ∀ {a b : List V}, a[j]? = b[j]? → a.length = b.length → (ks.zip a)[j]? = (ks.zip b)[j]? := fun {a b} h hl => by
        unfold List.zip
        rw [List.getElem?_zipWith, List.getElem?_zipWith, h]
      exact this e (by rw [List.length_set])
  | x :: M, q + 1, t, r, k, u, hM, h, hk => by
    rw [List.getElem?_cons_succ] at h
    have ih := flat_set (fun y hy => hM y (List.mem_cons_of_mem _ hy)) h hk (u := u)
    have hl := hM x List.mem_cons_self
    show ks.zip x ++ flat ks (M.set q (r.set t u)) = (ks.zip x ++ flat ks M).set ((q + 1) * ks.length + t) (k, u)
    rw [ih, List.set_append_right _ _ (by rw [zip_len hl, Nat.add_mul]; omega), zip_len hl, show (q + 1) * ks.length + t - ks.length = q * ks.length + t by rw [Nat.add_mul]; omega]
theorem take_set {α : Type} {l : List α} {n : Nat} {x : α} (h : n < l.length) : (l.set n x).take (n + 1) = l.take n ++ [x] := by
  have e : (l.set n x)[n]? = some x := List.getElem?_set_self h
  rw [take_snoc e]
  congr 1
  apply List.ext_getElem?
  intro j
  rw [List.getElem?_take, List.getElem?_take]
  by_cases hj : j < n
  · rw [if_pos hj, if_pos hj, List.getElem?_set_ne (by omega)]
  · rw [if_neg hj, if_neg hj]
theorem drop_cons {α : Type} {l : List α} {n : Nat} {x : α} (h : l[n]? = some x) : l.drop n = x :: l.drop (n + 1) := by
  obtain ⟨hl, e⟩ := List.getElem?_eq_some_iff.1 h
  rw [← e, List.getElem_cons_drop]
section
variable {ks : List Int} {s f h : ByteArray} {M : List (List V)} {q t n : Nat} {r : List V} {k : Int}
theorem cell_there (hM : ∀ x ∈ M, x.length = ks.length) (h8 : M.length = 8) (hq : M[q]? = some r) (hk : ks[t]? = some k) (hn : q * ks.length + t = n) {cells : List (List V)} (hc : RightM ks cells) : ∃ v, (flat ks cells)[n]? = some (k, v) ∧ CellOk (k, v) := by
  have hq8 : q < 8 := by have := (List.getElem?_eq_some_iff.1 hq).1; omega
  have ht := (List.getElem?_eq_some_iff.1 hk).1
  have hg : cells[q]? = some (cells[q]'(by rw [hc.len]; exact hq8)) := List.getElem?_eq_getElem _
  have hl := hc.row _ (List.mem_of_getElem? hg)
  generalize (cells[q]'(by rw [hc.len]; exact hq8)) = r' at hg hl
  have hv : r'[t]? = some (r'[t]'(by omega)) := List.getElem?_eq_getElem _
  have hf := flat_at hc.row hg hv hk
  rw [hn] at hf
  exact ⟨_, hf, hc.ok _ (List.mem_of_getElem? hf)⟩
/-- Nothing stands there. -/
theorem upto_skip (hU : Upto ks s M n f h) (hB : Blank ks M n) (hM : ∀ x ∈ M, x.length = ks.length) (h8 : M.length = 8) (hk8 : ks.length ≤ 8) (hq : M[q]? = some r) (hk : ks[t]? = some k) (hn : q * ks.length + t = n) (hb : bitA s n = false) :
    Upto ks s M (n + 1) (f.extract (oneW k) f.size) h ∧ Blank ks M (n + 1) := by
  have ht := (List.getElem?_eq_some_iff.1 hk).1
  have hrl := hM r (List.mem_of_getElem? hq)
  refine ⟨fun cells hc e => ?_, fun j p hj hp => hB j p (by omega) hp⟩
  obtain ⟨h1, h2, h3⟩ := hU cells hc e
  obtain ⟨v, hv, hvo⟩ := cell_there hM h8 hq hk hn hc
  have hbv := bit_print hc hk8 hv
  rw [e, hb] at hbv
  have hvz : v = vZ := zero_cell hvo (by simpa using hbv.symm)
  subst hvz
  have hr : r[t]? = some (r[t]'(by omega)) := List.getElem?_eq_getElem _
  have hf := flat_at hM hq hr hk
  rw [hn] at hf
  have hz : (r[t]'(by omega)) = vZ := hB n _ (Nat.le_refl _) hf
  rw [hz] at hf
  have hts := take_snoc hv
  have hd := drop_cons hv
  refine ⟨?_, ?_, ?_⟩
  · rw [take_snoc hf, hts, h1]
  · rw [hd] at h2
    have h2 : f.data.toList = one k vZ (hp ((flat ks cells).take n)).length ++ fix ((hp ((flat ks cells).take n)).length + vZ.s.size) ((flat ks cells).drop (n + 1)) := h2
    rw [sub_list, hts, hp_snoc]
    have hl := congrArg List.length h2
    have hfl : f.data.toList.length = f.size := by simp
    rw [List.length_append, one_len, hfl] at hl
    rw [h2, List.drop_left' (one_len _ _ _), List.take_of_length_le (by omega)]
    congr 1
    rw [List.length_append]
    rfl
  · rw [h3, hd]
    rfl
/-- What stands there is read. -/
theorem upto_read (hU : Upto ks s M n f h) (hB : Blank ks M n) (hM : ∀ x ∈ M, x.length = ks.length) (h8 : M.length = 8) (hk8 : ks.length ≤ 8) (hq : M[q]? = some r) (hk : ks[t]? = some k) (hn : q * ks.length + t = n) (hb : bitA s n = true) :
    Upto ks s (M.set q (r.set t (readC k f h))) (n + 1) (f.extract (oneW k) f.size) (h.extract (readC k f h).s.size h.size) ∧ Blank ks (M.set q (r.set t (readC k f h))) (n + 1) := by
  have ht := (List.getElem?_eq_some_iff.1 hk).1
  have hrl := hM r (List.mem_of_getElem? hq)
  have hq8 := (List.getElem?_eq_some_iff.1 hq).1
  have hfs := flat_set hM hq hk (u := readC k f h)
  rw [hn] at hfs
  have hnl : n < (flat ks M).length := by
    rw [flat_len hM, h8, ← hn]
    have : (q + 1) * ks.length ≤ 8 * ks.length := Nat.mul_le_mul_right _ (by omega)
    rw [Nat.add_mul] at this
    omega
  refine ⟨fun cells hc e => ?_, fun j p hj hp => ?_⟩
  · obtain ⟨h1, h2, h3⟩ := hU cells hc e
    obtain ⟨v, hv, hvo⟩ := cell_there hM h8 hq hk hn hc
    have hbv := bit_print hc hk8 hv
    rw [e, hb] at hbv
    have hvz : v.k ≠ 0 := by simpa using hbv.symm
    have hts := take_snoc hv
    have hd := drop_cons hv
    rw [hd] at h2 h3
    have h2 : f.data.toList = one k v (hp ((flat ks cells).take n)).length ++ fix ((hp ((flat ks cells).take n)).length + v.s.size) ((flat ks cells).drop (n + 1)) := h2
    have h3 : h.data.toList = v.s.data.toList ++ hp ((flat ks cells).drop (n + 1)) := h3
    have hr := readC_back hvo hvz h2 h3
    have hvl : v.s.data.toList.length = v.s.size := by simp
    refine ⟨?_, ?_, ?_⟩
    · rw [hfs, take_set hnl, hts, h1, hr]
    · rw [sub_list, hts, hp_snoc]
      have hl := congrArg List.length h2
      have hfl : f.data.toList.length = f.size := by simp
      rw [List.length_append, one_len, hfl] at hl
      rw [h2, List.drop_left' (one_len _ _ _), List.take_of_length_le (by omega)]
      congr 1
      rw [List.length_append, hvl]
    · rw [hr, sub_list]
      have hl := congrArg List.length h3
      have hhl : h.data.toList.length = h.size := by simp
      rw [List.length_append, hvl, hhl] at hl
      rw [h3, List.drop_left' hvl, List.take_of_length_le (by omega)]
  · rw [hfs, List.getElem?_set_ne (by omega)] at hp
    exact hB j p (by omega) hp
end
theorem upto_end {ks : List Int} {s f h : ByteArray} {M : List (List V)} (hU : Upto ks s M (8 * ks.length) f h) (hM : ∀ x ∈ M, x.length = ks.length) (h8 : M.length = 8) {cells : List (List V)} (hc : RightM ks cells) (e : printM ks cells = s) : M = cells := by
  have h1 := (hU cells hc e).1
  rw [List.take_of_length_le (by rw [flat_len hM, h8]; exact Nat.le_refl _), List.take_of_length_le hc.few] at h1
  exact flat_inj (by rw [h8, hc.len]) hM hc.row h1
theorem bit_sub {s : ByteArray} {K n : Nat} (hn : n / 8 < K) (hs : K ≤ s.size) : bitA (s.extract 0 K) n = bitA s n := by
  unfold bitA
  rw [sub_list, List.drop_zero, Nat.sub_zero, List.getElem?_take, if_pos hn]
theorem blank_empty {ks : List Int} : Blank ks (emptyM ks.length) 0 := fun j p _ hp => by
  have hm := List.mem_of_getElem? hp
  unfold flat emptyM at hm
  obtain ⟨r, hr, hm⟩ := List.mem_flatMap.1 hm
  rw [List.eq_of_mem_replicate hr] at hm
  obtain ⟨k, v⟩ := p
  exact List.eq_of_mem_replicate (List.of_mem_zip hm).2
/-- A value stored into its place. -/
theorem cellsV_set : ∀ (l : List V) (i : Nat) (v : V), i < l.length → (((Li.cellsL cellsV l).set (i * 3) (.int .i64 v.k)).set (i * 3 + 1) (.int .i64 v.n)).set (i * 3 + 2) (.string v.s) = Li.cellsL cellsV (l.set i v)
  | [], i, v, h => by simp at h
  | x :: l, 0, v, _ => by
    show (((cellsV x ++ Li.cellsL cellsV l).set 0 _).set 1 _).set 2 _ = cellsV v ++ Li.cellsL cellsV l
    rfl
  | x :: l, i + 1, v, h => by
    have ih := cellsV_set l i v (by simpa using h)
    show (((cellsV x ++ Li.cellsL cellsV l).set ((i + 1) * 3) _).set ((i + 1) * 3 + 1) _).set ((i + 1) * 3 + 2) _ = cellsV x ++ Li.cellsL cellsV (l.set i v)
    have hx := cellsV_len x
    rw [List.set_append_right _ _ (by omega), List.set_append_right _ _ (by omega), List.set_append_right _ _ (by omega), hx, ← ih, show (i + 1) * 3 - 3 = i * 3 by omega, show (i + 1) * 3 + 1 - 3 = i * 3 + 1 by omega, show (i + 1) * 3 + 2 - 3 = i * 3 + 2 by omega]
def putV (w : World) (b i : Nat) (v : V) : World := ((w.setCell ⟨b, i * 3, none⟩ (.int .i64 v.k)).setCell ⟨b, i * 3 + 1, none⟩ (.int .i64 v.n)).setCell ⟨b, i * 3 + 2, none⟩ (.string v.s)
section
variable {w : World} {B q i : Nat} {os : List (Li.OG V)} {x : Li.OG V} {v : V}
theorem putV_free (h : Li.FreeG cellsV 3 36 w B os) (hq : os[q]? = some x) (hi : i < x.l.length) : Li.FreeG cellsV 3 36 (putV w x.b i v) B (os.set q ⟨x.b, x.cp, x.l.set i v⟩) := by
  have hx := h.own x (List.mem_of_getElem? hq)
  have hb : (os.set q ⟨x.b, x.cp, x.l.set i v⟩).map Li.OG.b = os.map Li.OG.b := by
    rw [List.map_set]
    apply List.ext_getElem?
    intro j
    by_cases hj : q = j
    · subst hj
      have hl := (List.getElem?_eq_some_iff.1 hq).1
      rw [List.getElem?_set_self (by rw [List.length_map]; exact hl), List.getElem?_map, hq]
      rfl
    · rw [List.getElem?_set_ne hj]
  have s1 := hx.stored (i * 3) (.int .i64 v.k)
  have s2 := s1.1.stored (i * 3 + 1) (.int .i64 v.n)
  have s3 := s2.1.stored (i * 3 + 2) (.string v.s)
  refine ⟨fun z hz => ?_, by rw [hb]; exact h.nd⟩
  obtain ⟨j, hj⟩ := List.mem_iff_getElem?.1 hz
  by_cases hjq : q = j
  · subst hjq
    rw [List.getElem?_set_self (List.getElem?_eq_some_iff.1 hq).1] at hj
    injection hj with hj
    subst hj
    have := s3.1
    rw [cellsV_set x.l i v hi] at this
    show World.ownsRow _ B _ 3 (.slice (some ⟨x.b, 0, none⟩) (x.l.set i v).length x.cp) (x.l.set i v).length _
    rw [List.length_set]
    exact this
  · rw [List.getElem?_set_ne hjq] at hj
    have hne : z.b ≠ x.b := h.ne hj hq (Ne.symm hjq)
    have hz := h.own z (List.mem_of_getElem? hj)
    have no : ∀ b, z.v.ownBlock = some b → some x.b ≠ some b := fun b e1 e2 => by
      have e1 : some z.b = some b := e1
      rw [← e1] at e2
      injection e2 with e2
      exact hne e2.symm
    exact own_other' (own_other' (own_other' hz s1.2 no) s2.2 no) s3.2 no
theorem putV_row {R : Nat} (h : Li.FreeG cellsV 3 36 w B os) (hq : os[q]? = some x) (ho : w.ownsRow B 34 1 (.slice (some ⟨R, 0, none⟩) 8 8) 8 (os.map Li.OG.v)) : (putV w x.b i v).ownsRow B 34 1 (.slice (some ⟨R, 0, none⟩) 8 8) 8 ((os.set q ⟨x.b, x.cp, x.l.set i v⟩).map Li.OG.v) := by
  have hx := h.own x (List.mem_of_getElem? hq)
  have hv : (os.set q ⟨x.b, x.cp, x.l.set i v⟩).map Li.OG.v = os.map Li.OG.v := by
    rw [List.map_set]
    apply List.ext_getElem?
    intro j
    by_cases hj : q = j
    · subst hj
      have hl := (List.getElem?_eq_some_iff.1 hq).1
      rw [List.getElem?_set_self (by rw [List.length_map]; exact hl), List.getElem?_map, hq]
      show some (Value.slice _ (x.l.set i v).length _) = some (Value.slice _ x.l.length _)
      rw [List.length_set]
    · rw [List.getElem?_set_ne hj]
  rw [hv]
  have s1 := hx.stored (i * 3) (.int .i64 v.k)
  have s2 := s1.1.stored (i * 3 + 1) (.int .i64 v.n)
  have s3 := s2.1.stored (i * 3 + 2) (.string v.s)
  have no : ∀ b, (Value.slice (some ⟨R, 0, none⟩) 8 8).ownBlock = some b → some x.b ≠ some b := fun b e1 e2 => by
    exact Li.own_kind ho hx (by decide) e1 e2
  exact own_other' (own_other' (own_other' ho s1.2 no) s2.2 no) s3.2 no
theorem putV_below {w0 : World} {B0 : Nat} (h : Li.FreeG cellsV 3 36 w B os) (hq : os[q]? = some x) (hB : Below B0 w0 w) (hb : B0 ≤ B) : Below B0 w0 (putV w x.b i v) := by
  have hx := h.lt (List.mem_of_getElem? hq)
  have hlb : B0 ≤ x.b := Nat.le_trans hb hx.1
  unfold putV
  exact ((hB.setCell (p := ⟨x.b, i * 3, none⟩) hlb _).setCell (p := ⟨x.b, i * 3 + 1, none⟩) hlb _).setCell (p := ⟨x.b, i * 3 + 2, none⟩) hlb _
end
end Go.Proofs.Ytabgbhilbnchnaa.Mi
