/- slices.IndexFunc, slices.Clone and slices.DeleteFunc over entries; the three predicates. -/
import Derived.Test.YtocmkjccaajnnaaBpA
import Derived.Lib.SliceRun
import Derived.Laws.Externs
namespace Go.Proofs.Ytocmkjccaajnnaa.Bu
open Go.RowKit Pac Ls

/-- The function value answers p of each entry, in every world in which all below B lies as it did. -/
def PredE (g : Nat) (kb : Nat) (p : E → Bool) (B : Nat) (w : World) : Prop :=
  ∀ (e : E) (W : World), Below B w W → B ≤ W.heap.size → Calls Try.prog g #[.agg #[.string e.key, .int .i64 e.t, .int .i64 e.s], .pointer (some ⟨kb, 0, none⟩)] W (fun r W' => r = .returned (.bool (p e)) ∧ Below W.heap.size W W')
def IdxPost (p : E → Bool) (l : List E) (w : World) (e : Ending) (w' : World) : Prop :=
  ∃ r : Int, e = .returned (.int .i64 r) ∧ ((r = -1 ∧ ∀ x ∈ l, p x = false) ∨ ∃ (k : Nat) (x : E), r = k ∧ l[k]? = some x ∧ p x = true ∧ ∀ y ∈ l.take k, p y = false) ∧ Below w.heap.size w w'
section
variable {A : Option Addr} {n cp : Nat} {l : List E} {w : World}
set_option maxRecDepth 20000 in
set_option maxHeartbeats 1600000 in
theorem index_drop (kb : Nat) (p : E → Bool) (lo B : Nat) (hl : HasE w lo A l) (hn : l.length = n) (h9 : n ≤ 100000) (hB9 : B ≤ w.heap.size) (hp : PredE 50 kb p B w) :
    Calls Try.prog 45 #[.slice A n cp, .func (.func 50) #[] #[.pointer (some ⟨kb, 0, none⟩)]] w (IdxPost p l w) := by
  have HL := Lib.hid (And.intro hl (And.intro hn hp))
  clear hl hn hp
  go_enter Try.func45, Try.ntmps45
  go_wp2
  go_loopw [5, 8] (fun _ i wr => ∃ q : Nat, q ≤ n ∧ i = .int .i64 q ∧ Hid (∀ y ∈ l.take q, p y = false) ∧ Below w.heap.size w wr) (fun _ i _ => n - (intOf i).toNat)
  case atStart => exact ⟨0, Nat.zero_le _, rfl, Lib.hid (fun x hx => by simp at hx), Below.refl _ w⟩
  case round =>
    obtain ⟨q, hq, rfl, hI, hB⟩ := hrel
    by_cases hlt : q < n
    · have hgt := List.getElem?_eq_getElem (l := l) (i := q) (by rw [HL.out.2.1]; exact hlt)
      generalize (l[q]'(by rw [HL.out.2.1]; exact hlt)) = x at hgt
      obtain ⟨b, o, rfl, _, hlb, d0, d1, d2⟩ := HasE.at (HL.out.1.below hB (Nat.le_refl _)) hgt
      have hcall := HL.out.2.2 x wr (hB.mono hB9) (Nat.le_trans hB9 hB.size)
      have HG := Lib.hid hgt
      have i1 : (q : Int) < (n : Int) := by omega
      have i0 : (0 : Int) ≤ (q : Int) := by omega
      clear hgt
      cases hq2 : p x with
      | true =>
        rw [hq2] at hcall
        have HQ := Lib.hid hq2
        obtain ⟨ek, et, es⟩ := x
        simp only at d0 d1 d2 hcall
        clear hq2
        go_wp2_with fail
        refine hcall.mono ?_
        rintro e w' ⟨rfl, hy⟩
        go_wp2
        go_ret
        exact ⟨(q : Int), rfl, .inr ⟨q, _, rfl, HG.out, HQ.out, hI.out⟩, hB.trans (hy.mono hB.size)⟩
      | false =>
        rw [hq2] at hcall
        have HI : Hid (∀ y ∈ l.take (q + 1), p y = false) := Lib.hid (fun y hy => by
          rw [take_snoc HG.out] at hy
          rcases List.mem_append.1 hy with h | h
          · exact hI.out y h
          · have : y = x := by simpa using h
            rw [this]
            exact hq2)
        obtain ⟨ek, et, es⟩ := x
        simp only at d0 d1 d2 hcall
        clear hq2
        go_wp2_with fail
        refine hcall.mono ?_
        rintro e w' ⟨rfl, hy⟩
        go_wp2
        go_roundw
        case rel => exact ⟨q + 1, by omega, by go_num, HI, hB.trans (hy.mono hB.size)⟩
        case measure => simp [intOf]; omega
    · obtain rfl : q = n := by omega
      have hfull : l.take q = l := List.take_of_length_le (by rw [HL.out.2.1]; exact Nat.le_refl _)
      have HN : Hid (∀ x ∈ l, p x = false) := Lib.hid (by have h := hI.out; rw [hfull] at h; exact h)
      clear hfull
      go_wp2
      go_ret
      exact ⟨-1, rfl, .inl ⟨rfl, HN.out⟩, hB⟩
set_option maxRecDepth 20000 in
set_option maxHeartbeats 1600000 in
theorem index_find (kb : Nat) (p : E → Bool) (lo B : Nat) (hl : HasE w lo A l) (hn : l.length = n) (h9 : n ≤ 100000) (hB9 : B ≤ w.heap.size) (hp : PredE 51 kb p B w) :
    Calls Try.prog 45 #[.slice A n cp, .func (.func 51) #[] #[.pointer (some ⟨kb, 0, none⟩)]] w (IdxPost p l w) := by
  have HL := Lib.hid (And.intro hl (And.intro hn hp))
  clear hl hn hp
  go_enter Try.func45, Try.ntmps45
  go_wp2
  go_loopw [5, 8] (fun _ i wr => ∃ q : Nat, q ≤ n ∧ i = .int .i64 q ∧ Hid (∀ y ∈ l.take q, p y = false) ∧ Below w.heap.size w wr) (fun _ i _ => n - (intOf i).toNat)
  case atStart => exact ⟨0, Nat.zero_le _, rfl, Lib.hid (fun x hx => by simp at hx), Below.refl _ w⟩
  case round =>
    obtain ⟨q, hq, rfl, hI, hB⟩ := hrel
    by_cases hlt : q < n
    · have hgt := List.getElem?_eq_getElem (l := l) (i := q) (by rw [HL.out.2.1]; exact hlt)
      generalize (l[q]'(by rw [HL.out.2.1]; exact hlt)) = x at hgt
      obtain ⟨b, o, rfl, _, hlb, d0, d1, d2⟩ := HasE.at (HL.out.1.below hB (Nat.le_refl _)) hgt
      have hcall := HL.out.2.2 x wr (hB.mono hB9) (Nat.le_trans hB9 hB.size)
      have HG := Lib.hid hgt
      have i1 : (q : Int) < (n : Int) := by omega
      have i0 : (0 : Int) ≤ (q : Int) := by omega
      clear hgt
      cases hq2 : p x with
      | true =>
        rw [hq2] at hcall
        have HQ := Lib.hid hq2
        obtain ⟨ek, et, es⟩ := x
        simp only at d0 d1 d2 hcall
        clear hq2
        go_wp2_with fail
        refine hcall.mono ?_
        rintro e w' ⟨rfl, hy⟩
        go_wp2
        go_ret
        exact ⟨(q : Int), rfl, .inr ⟨q, _, rfl, HG.out, HQ.out, hI.out⟩, hB.trans (hy.mono hB.size)⟩
      | false =>
        rw [hq2] at hcall
        have HI : Hid (∀ y ∈ l.take (q + 1), p y = false) := Lib.hid (fun y hy => by
          rw [take_snoc HG.out] at hy
          rcases List.mem_append.1 hy with h | h
          · exact hI.out y h
          · have : y = x := by simpa using h
            rw [this]
            exact hq2)
        obtain ⟨ek, et, es⟩ := x
        simp only at d0 d1 d2 hcall
        clear hq2
        go_wp2_with fail
        refine hcall.mono ?_
        rintro e w' ⟨rfl, hy⟩
        go_wp2
        go_roundw
        case rel => exact ⟨q + 1, by omega, by go_num, HI, hB.trans (hy.mono hB.size)⟩
        case measure => simp [intOf]; omega
    · obtain rfl : q = n := by omega
      have hfull : l.take q = l := List.take_of_length_le (by rw [HL.out.2.1]; exact Nat.le_refl _)
      have HN : Hid (∀ x ∈ l, p x = false) := Lib.hid (by have h := hI.out; rw [hfull] at h; exact h)
      clear hfull
      go_wp2
      go_ret
      exact ⟨-1, rfl, .inl ⟨rfl, HN.out⟩, hB⟩
set_option maxRecDepth 20000 in
set_option maxHeartbeats 1600000 in
theorem index_put (kb : Nat) (p : E → Bool) (lo B : Nat) (hl : HasE w lo A l) (hn : l.length = n) (h9 : n ≤ 100000) (hB9 : B ≤ w.heap.size) (hp : PredE 46 kb p B w) :
    Calls Try.prog 45 #[.slice A n cp, .func (.func 46) #[] #[.pointer (some ⟨kb, 0, none⟩)]] w (IdxPost p l w) := by
  have HL := Lib.hid (And.intro hl (And.intro hn hp))
  clear hl hn hp
  go_enter Try.func45, Try.ntmps45
  go_wp2
  go_loopw [5, 8] (fun _ i wr => ∃ q : Nat, q ≤ n ∧ i = .int .i64 q ∧ Hid (∀ y ∈ l.take q, p y = false) ∧ Below w.heap.size w wr) (fun _ i _ => n - (intOf i).toNat)
  case atStart => exact ⟨0, Nat.zero_le _, rfl, Lib.hid (fun x hx => by simp at hx), Below.refl _ w⟩
  case round =>
    obtain ⟨q, hq, rfl, hI, hB⟩ := hrel
    by_cases hlt : q < n
    · have hgt := List.getElem?_eq_getElem (l := l) (i := q) (by rw [HL.out.2.1]; exact hlt)
      generalize (l[q]'(by rw [HL.out.2.1]; exact hlt)) = x at hgt
      obtain ⟨b, o, rfl, _, hlb, d0, d1, d2⟩ := HasE.at (HL.out.1.below hB (Nat.le_refl _)) hgt
      have hcall := HL.out.2.2 x wr (hB.mono hB9) (Nat.le_trans hB9 hB.size)
      have HG := Lib.hid hgt
      have i1 : (q : Int) < (n : Int) := by omega
      have i0 : (0 : Int) ≤ (q : Int) := by omega
      clear hgt
      cases hq2 : p x with
      | true =>
        rw [hq2] at hcall
        have HQ := Lib.hid hq2
        obtain ⟨ek, et, es⟩ := x
        simp only at d0 d1 d2 hcall
        clear hq2
        go_wp2_with fail
        refine hcall.mono ?_
        rintro e w' ⟨rfl, hy⟩
        go_wp2
        go_ret
        exact ⟨(q : Int), rfl, .inr ⟨q, _, rfl, HG.out, HQ.out, hI.out⟩, hB.trans (hy.mono hB.size)⟩
      | false =>
        rw [hq2] at hcall
        have HI : Hid (∀ y ∈ l.take (q + 1), p y = false) := Lib.hid (fun y hy => by
          rw [take_snoc HG.out] at hy
          rcases List.mem_append.1 hy with h | h
          · exact hI.out y h
          · have : y = x := by simpa using h
            rw [this]
            exact hq2)
        obtain ⟨ek, et, es⟩ := x
        simp only at d0 d1 d2 hcall
        clear hq2
        go_wp2_with fail
        refine hcall.mono ?_
        rintro e w' ⟨rfl, hy⟩
        go_wp2
        go_roundw
        case rel => exact ⟨q + 1, by omega, by go_num, HI, hB.trans (hy.mono hB.size)⟩
        case measure => simp [intOf]; omega
    · obtain rfl : q = n := by omega
      have hfull : l.take q = l := List.take_of_length_le (by rw [HL.out.2.1]; exact Nat.le_refl _)
      have HN : Hid (∀ x ∈ l, p x = false) := Lib.hid (by have h := hI.out; rw [hfull] at h; exact h)
      clear hfull
      go_wp2
      go_ret
      exact ⟨-1, rfl, .inl ⟨rfl, HN.out⟩, hB⟩
/-- One of the two. -/
theorem first_or (p : E → Bool) : ∀ l : List E, (∀ x ∈ l, p x = false) ∨ ∃ (k : Nat) (x : E), l[k]? = some x ∧ p x = true ∧ ∀ y ∈ l.take k, p y = false
  | [] => .inl (by simp)
  | x :: l => by
    cases h : p x with
    | true => exact .inr ⟨0, x, rfl, h, by simp⟩
    | false =>
      rcases first_or p l with h2 | ⟨k, y, h2, h3, h4⟩
      · exact .inl fun z hz => by
          rcases List.mem_cons.1 hz with rfl | hz
          · exact h
          · exact h2 z hz
      · exact .inr ⟨k + 1, y, by simpa using h2, h3, fun z hz => by
          rw [List.take_succ_cons] at hz
          rcases List.mem_cons.1 hz with rfl | hz
          · exact h
          · exact h4 z hz⟩
theorem IdxPost.none {p : E → Bool} (h : ∀ x ∈ l, p x = false) (e : Ending) (w' : World) (hP : IdxPost p l w e w') : e = .returned (.int .i64 (-1)) ∧ Below w.heap.size w w' := by
  obtain ⟨r, rfl, h2 | ⟨k, x, _, h3, h4, _⟩, hB⟩ := hP
  · exact ⟨by rw [h2.1], hB⟩
  · rw [h x (List.mem_of_getElem? h3)] at h4
    cases h4
theorem IdxPost.some {p : E → Bool} {k : Nat} {x : E} (h1 : l[k]? = some x) (h2 : p x = true) (h3 : ∀ y ∈ l.take k, p y = false) (e : Ending) (w' : World) (hP : IdxPost p l w e w') : e = .returned (.int .i64 (k : Int)) ∧ Below w.heap.size w w' := by
  obtain ⟨r, rfl, h | ⟨k', x', rfl, g1, g2, g3⟩, hB⟩ := hP
  · rw [h.2 x (List.mem_of_getElem? h1)] at h2
    cases h2
  · refine ⟨?_, hB⟩
    have hk := (List.getElem?_eq_some_iff.1 h1).1
    have hk' := (List.getElem?_eq_some_iff.1 g1).1
    rcases Nat.lt_trichotomy k k' with h | h | h
    · have : x ∈ l.take k' := List.mem_of_getElem? (i := k) (by rw [List.getElem?_take, if_pos h]; exact h1)
      rw [g3 x this] at h2
      cases h2
    · rw [h]
    · have : x' ∈ l.take k := List.mem_of_getElem? (i := k') (by rw [List.getElem?_take, if_pos h]; exact g1)
      rw [h3 x' this] at g2
      cases g2
end
section
variable {A : Option Addr} {n cp : Nat} {l : List E} {w : World}
set_option maxRecDepth 20000 in
set_option maxHeartbeats 1600000 in
theorem clone_any (lo : Nat) (hl : HasE w lo A l) (hn : l.length = n) (h9 : n ≤ 100000) :
    Calls Try.prog 49 #[.slice A n cp] w fun e w' => ∃ v, e = .returned v ∧ OwnE w' w.heap.size v n l ∧ Below w.heap.size w w' := by
  obtain ⟨iE, hiE, hv0, hv1, hv2⟩ := info_parts infoE
  cases A with
  | none =>
    have hl0 : l = [] := by
      rcases l with _ | ⟨x, l⟩
      · rfl
      · obtain ⟨b, o, hA, _⟩ := hl (by simp)
        cases hA
    subst hl0
    have hn0 : n = 0 := by simpa using hn.symm
    subst hn0
    have hE := Lib.run_eql_slice_nil (P := Try.prog) w 42 51 none 0 cp 0 0 Try.underlying42
    go_enter Try.func49, Try.ntmps49
    go_wp2
    go_ret
    exact ⟨_, rfl, World.ownsRow_nil _ _ _ _, Below.refl _ _⟩
  | some a =>
    have hE := Lib.run_eql_slice_nil (P := Try.prog) w 42 51 (some a) n cp 0 0 Try.underlying42
    have HC : Hid (∀ j u, (Li.cellsL cellsE l)[j]? = some u → w.cell? (a.add j) = some u) := Lib.hid (fun j u hu => by
      rcases l with _ | ⟨x0, l0⟩
      · simp [Li.cellsL] at hu
      · obtain ⟨b, o, hA, _, _, hc⟩ := hl (by simp)
        injection hA with hA
        subst hA
        have hj := (List.getElem?_eq_some_iff.1 hu).1
        rw [cellsE_size] at hj
        have hq : j / 3 < (x0 :: l0).length := by omega
        have hx := List.getElem?_eq_getElem hq
        have hj3 : j % 3 < 3 := Nat.mod_lt _ (by omega)
        obtain ⟨v, hv⟩ : ∃ v, (cellsE ((x0 :: l0)[j / 3]'hq))[j % 3]? = some v := ⟨_, List.getElem?_eq_getElem (by rw [cellsE_len]; exact hj3)⟩
        have h1 := hc (j / 3) _ hx (j % 3) v hv
        have h2 := Li.cellsL_at cellsE_len _ (j / 3) _ hx (j % 3) v hv
        have e3 : j / 3 * 3 + j % 3 = j := by omega
        rw [e3] at h2
        rw [h2] at hu
        injection hu with hu
        subst hu
        rw [Addr.add_lit]
        rw [show o + j / 3 * 3 + j % 3 = o + j by omega] at h1
        exact h1)
    have HN := Lib.hid hn
    have hlen : (Li.cellsL cellsE l).length = n * 3 := by rw [cellsE_size, hn]
    have H1 : Hid (∀ u ∈ Li.cellsL cellsE l, u.oneCell' = true) := Lib.hid (cellsE_one l)
    unfold OwnE
    generalize Li.cellsL cellsE l = cs at HC hlen H1 ⊢
    have HLEN := Lib.hid hlen
    have hempty := World.ownsRow_lit (base := w.heap.size) (e := 51) (size := 3) w #[] 0 (Nat.le_refl _) (by unfold maxLen; omega) rfl
    have HO := Lib.hid (And.intro hempty (And.intro ((Below.refl w.heap.size w).alloc (Nat.le_refl _) (.cells #[] 51)) (fun (x : Addr) (v : Value) (h : w.cell? x = some v) => (show (w.alloc (.cells #[] 51)).cell? x = some v from Lib.cell?_alloc_some _ h))))
    clear hl hn hlen hempty
    go_enter Try.func49, Try.ntmps49
    go_wp2_with (at_builtin; go_must (refine wpList_append_own _ rfl _ _ 42 rfl w.heap.size 51 iE (.agg #[.string ⟨#[]⟩, .int .i64 0, .int .i64 0]) 3 32 Try.underlying42 hiE hv0 hv1 hv2 rfl (by decide) _ 0 [] rfl HO.out.1 a n cp cs rfl HLEN.out (fun j u hu => HO.out.2.2 _ _ (HC.out j u hu)) H1.out (by unfold maxLen; omega) (by omega) HO.out.2.1.size ?_))
    intro v5 y5 hown5 hgrow5 _
    have hB5 := HO.out.2.1.grown hgrow5 HO.out.2.1.size (fun k hk => (HO.out.1.lt k hk).1)
    have HF := Lib.hid (And.intro hown5 hB5)
    clear hown5 hB5 hgrow5
    go_wp2
    go_ret
    obtain ⟨h1, h2⟩ := HF.out
    exact ⟨_, rfl, h1, h2⟩
end
end Go.Proofs.Ytocmkjccaajnnaa.Bu
