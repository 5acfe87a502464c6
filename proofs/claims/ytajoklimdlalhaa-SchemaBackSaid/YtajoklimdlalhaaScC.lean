/- Names, and what may be in a column; walked. -/
import Derived.Test.YtajoklimdlalhaaScB
namespace Go.Proofs.Ytajoklimdlalhaa.Sc
open Go.RowKit Pac

def letB (b : UInt8) : Bool := decide (97 ≤ b.toNat) && decide (b.toNat ≤ 122)
theorem wordB_def (s : ByteArray) : wordB s = (s.data.toList.all letB && (decide (1 ≤ s.size) && decide (s.size ≤ 20))) := rfl
theorem let_succ {s : ByteArray} {q : Nat} (hq : q < s.size) (h : (s.data.toList.take q).all letB = true) (h1 : ¬ s[q].toNat < 97) (h2 : ¬ 122 < s[q].toNat) : (s.data.toList.take (q + 1)).all letB = true := by
  have hkl : s.data.toList.take (q + 1) = s.data.toList.take q ++ [s[q]] := by
    rw [List.take_succ_eq_append_getElem (by simpa using hq)]; rfl
  rw [hkl, List.all_append, h]
  simp only [List.all_cons, List.all_nil, letB, Bool.true_and, Bool.and_true, Bool.and_eq_true, decide_eq_true_eq]
  omega
theorem let_bad {s : ByteArray} {q : Nat} (hq : q < s.size) (h : s[q].toNat < 97 ∨ 122 < s[q].toNat) : wordB s = false := by
  have : s.data.toList.all letB = false := by
    rw [List.all_eq_false]
    refine ⟨s[q], List.getElem_mem (l := s.data.toList) (by simpa using hq), ?_⟩
    simp only [letB, Bool.and_eq_true, decide_eq_true_eq]
    omega
  rw [wordB_def, this]
  rfl
theorem let_all {s : ByteArray} {q : Nat} (hq : q = s.size) (h : (s.data.toList.take q).all letB = true) : wordB s = (decide (1 ≤ s.size) && decide (s.size ≤ 20)) := by
  rw [wordB_def]
  rw [List.take_of_length_le (by rw [Array.length_toList, hq]; exact Nat.le_refl _)] at h
  rw [h]
  rfl
theorem word_few {s : ByteArray} (h : s.size < 1) : wordB s = false := by
  rw [wordB_def, decide_eq_false (show ¬ 1 ≤ s.size by omega)]
  cases s.data.toList.all letB <;> rfl
theorem word_many {s : ByteArray} (h : 20 < s.size) : wordB s = false := by
  rw [wordB_def, decide_eq_false (show ¬ s.size ≤ 20 by omega)]
  cases s.data.toList.all letB
  · rfl
  · cases decide (1 ≤ s.size) <;> rfl

set_option maxHeartbeats 1000000 in
theorem isName_any (s : ByteArray) (w : World) (hs : s.size ≤ 9223372036854775807) : Calls Try.prog 18 #[.string s] w fun e w' => e = .returned (.bool (wordB s)) ∧ w = w' := by
  by_cases h1 : s.size < 1
  · rw [word_few h1]
    go_enter Try.func18, Try.ntmps18
    go_wp2
    go_ret
    exact ⟨rfl, rfl⟩
  · by_cases h2 : 20 < s.size
    · rw [word_many h2]
      go_enter Try.func18, Try.ntmps18
      go_wp2
      go_ret
      exact ⟨rfl, rfl⟩
    · obtain ⟨z, hz⟩ : ∃ z, wordB s = z := ⟨_, rfl⟩
      rw [hz]
      have HZ := Lib.hid hz
      clear hz
      go_enter Try.func18, Try.ntmps18
      go_wp2
      go_loop [3, 14] (fun _ i => ∃ q : Nat, q ≤ s.size ∧ i = .int .i64 q ∧ Hid ((s.data.toList.take q).all letB = true)) (fun _ i => s.size - (intOf i).toNat)
      case atStart => exact ⟨0, Nat.zero_le _, rfl, Lib.hid rfl⟩
      case round =>
        obtain ⟨q, hq, rfl, hH⟩ := hrel
        by_cases hlt : q < s.size
        · by_cases a1 : s[q].toNat < 97
          · have HB := Lib.hid (let_bad hlt (Or.inl a1))
            go_wp2
            go_ret
            exact ⟨by rw [← HZ.out, HB.out]; rfl, rfl⟩
          · by_cases a2 : 122 < s[q].toNat
            · have HB := Lib.hid (let_bad hlt (Or.inr a2))
              go_wp2
              go_ret
              exact ⟨by rw [← HZ.out, HB.out]; rfl, rfl⟩
            · go_wp2
              go_round
              case rel => exact ⟨q + 1, by omega, by go_num, Lib.hid (let_succ hlt hH.out a1 a2)⟩
              case measure => simp [intOf]; omega
        · obtain rfl : q = s.size := by omega
          go_wp2
          go_ret
          refine ⟨?_, rfl⟩
          rw [← HZ.out, let_all rfl hH.out, decide_eq_true (show 1 ≤ s.size by omega), decide_eq_true (show s.size ≤ 20 by omega)]
          rfl

set_option maxHeartbeats 1000000 in
theorem word_any (s : ByteArray) (w : World) (hs : s.size ≤ 9223372036854775807) : Calls Try.prog 22 #[.string s] w fun e w' => e = .returned (.bool (wordB s)) ∧ w = w' := by
  obtain ⟨z, hz⟩ : ∃ z, wordB s = z := ⟨_, rfl⟩
  rw [hz]
  have HZ := Lib.hid hz
  clear hz
  go_enter Try.func22, Try.ntmps22
  go_wp2
  go_loop [3] (fun i => ∃ q : Nat, q ≤ s.size ∧ i = .int .i64 q ∧ Hid ((s.data.toList.take q).all letB = true)) (fun i => s.size - (intOf i).toNat)
  case atStart => exact ⟨0, Nat.zero_le _, rfl, Lib.hid rfl⟩
  case round =>
    obtain ⟨q, hq, rfl, hH⟩ := hrel
    by_cases hlt : q < s.size
    · by_cases a1 : s[q].toNat < 97
      · have HB := Lib.hid (let_bad hlt (Or.inl a1))
        go_wp2
        go_ret
        exact ⟨by rw [← HZ.out, HB.out]; rfl, rfl⟩
      · by_cases a2 : 122 < s[q].toNat
        · have HB := Lib.hid (let_bad hlt (Or.inr a2))
          go_wp2
          go_ret
          exact ⟨by rw [← HZ.out, HB.out]; rfl, rfl⟩
        · go_wp2
          go_round
          case rel => exact ⟨q + 1, by omega, by go_num, Lib.hid (let_succ hlt hH.out a1 a2)⟩
          case measure => simp [intOf]; omega
    · obtain rfl : q = s.size := by omega
      have HF := Lib.hid (let_all rfl hH.out)
      have e20 : decide ((s.size : Int) ≤ 20) = decide (s.size ≤ 20) := decide_eq_decide.2 (by omega)
      by_cases h1 : 1 ≤ s.size
      · have H20 := Lib.hid e20
        have H1 := Lib.hid (decide_eq_true h1)
        clear e20
        go_wp2
        go_ret
        refine ⟨?_, rfl⟩
        rw [← HZ.out, HF.out, H1.out, ← H20.out]
        rfl
      · have H1 := Lib.hid (decide_eq_false h1)
        clear e20
        go_wp2
        go_ret
        refine ⟨?_, rfl⟩
        rw [← HZ.out, HF.out, H1.out]
        rfl

set_option maxHeartbeats 1000000 in
theorem rightCol_any (c : C) (w : World) (hc : c.Ok) : Calls Try.prog 19 #[c.v] w fun e w' => e = .returned (.bool (plainB c)) ∧ Below w.heap.size w w' := by
  obtain ⟨n, k, z⟩ := c
  obtain ⟨k0, k1, nz⟩ := hc
  simp only at k0 k1 nz
  show Calls Try.prog 19 #[.agg #[.string n, .int .i64 k, .bool z]] w _
  have hP : plainB ⟨n, k, z⟩ = (wordB n && decide (1 ≤ k) && decide (k ≤ 3)) := rfl
  have hcall := fun W : World => isName_any n W nz
  have HB := Lib.hid ((Below.refl w.heap.size w).alloc (Nat.le_refl _) (.cells #[.string n, .int .i64 k, .bool z] 41))
  generalize plainB ⟨n, k, z⟩ = r at hP ⊢
  generalize wordB n = x at hP hcall
  have HP := Lib.hid hP
  clear hP
  go_enter Try.func19, Try.ntmps19
  go_wp2_with fail
  refine (hcall _).mono ?_
  rintro e w1 ⟨rfl, rfl⟩
  clear hcall
  cases x
  · go_wp2
    go_ret
    exact ⟨by rw [HP.out]; rfl, HB.out⟩
  · by_cases h1 : 1 ≤ k
    · have H1 := Lib.hid (decide_eq_true h1)
      go_wp2
      go_ret
      exact ⟨by rw [HP.out, H1.out]; rfl, HB.out⟩
    · have H1 := Lib.hid (decide_eq_false h1)
      go_wp2
      go_ret
      exact ⟨by rw [HP.out, H1.out]; rfl, HB.out⟩

set_option maxHeartbeats 1000000 in
theorem rightKey_any (c : C) (w : World) (hc : c.Ok) : Calls Try.prog 21 #[c.v] w fun e w' => e = .returned (.bool (keyB c)) ∧ Below w.heap.size w w' := by
  obtain ⟨n, k, z⟩ := c
  obtain ⟨k0, k1, nz⟩ := hc
  simp only at k0 k1 nz
  show Calls Try.prog 21 #[.agg #[.string n, .int .i64 k, .bool z]] w _
  have HB := Lib.hid ((Below.refl w.heap.size w).alloc (Nat.le_refl _) (.cells #[.string n, .int .i64 k, .bool z] 41))
  have HP : Hid (keyB ⟨n, k, z⟩ = (!z && (k != 2))) := rfl
  generalize keyB ⟨n, k, z⟩ = r at HP ⊢
  go_enter Try.func21, Try.ntmps21
  cases z
  · by_cases h : k = 2
    · subst h
      go_wp2
      go_ret
      exact ⟨by rw [HP.out]; rfl, HB.out⟩
    · have e : (k != 2) = true := bne_iff_ne.2 h
      go_wp2
      go_ret
      exact ⟨by rw [HP.out, e]; rfl, HB.out⟩
  · go_wp2
    go_ret
    exact ⟨by rw [HP.out]; rfl, HB.out⟩

set_option maxHeartbeats 1000000 in
theorem hasName_any (A : Option Addr) (cp : Nat) (l : List C) (s : ByteArray) (lo : Nat) (w : World) (hl : l.length ≤ 9223372036854775807) (h : HasCols w lo A l) :
    Calls Try.prog 20 #[.slice A l.length cp, .string s] w fun e w' => e = .returned (.bool (nameIn l s)) ∧ Below w.heap.size w w' := by
  obtain ⟨m, hm⟩ : ∃ m, l.length = m := ⟨_, rfl⟩
  obtain ⟨z, hz⟩ : ∃ z, nameIn l s = z := ⟨_, rfl⟩
  rw [hm, hz]
  rw [hm] at hl
  have HA := Lib.hid h
  have HM := Lib.hid hm
  have HZ := Lib.hid hz
  clear h hm hz
  go_enter Try.func20, Try.ntmps20
  go_wp2
  go_loopw [9] (fun i wr => ∃ q : Nat, q ≤ m ∧ i = .int .i64 q ∧ Hid (nameIn (l.take q) s = false) ∧ Below w.heap.size w wr) (fun i _ => m - (intOf i).toNat)
  case atStart => exact ⟨0, Nat.zero_le _, rfl, Lib.hid rfl, Below.refl _ _⟩
  case round =>
    obtain ⟨q, hq, rfl, hH, hB⟩ := hrel
    by_cases hlt : q < m
    · have hne : l ≠ [] := fun e => by have := HM.out; rw [e] at this; simp at this; omega
      have hg : l[q]? = some (l[q]'(by rw [HM.out]; exact hlt)) := List.getElem?_eq_getElem _
      obtain ⟨b, o, rfl, hlo, hlb, hc⟩ := (HA.out.below hB (Nat.le_refl _)) hne
      obtain ⟨c0, c1, c2⟩ := hc q _ hg
      have HS := Lib.hid (nameIn_succ hg s)
      generalize (l[q]'(by rw [HM.out]; exact hlt)) = c at hg c0 c1 c2 HS
      obtain ⟨n, k, zz⟩ := c
      simp only at c0 c1 c2
      have HG := Lib.hid hg
      clear hc hg hne
      by_cases he : (n.toList == s.toList) = true
      · go_wp2
        go_ret
        refine ⟨?_, ?_⟩
        · rw [← HZ.out, nameIn_take (q := q + 1) (by rw [HS.out, he]; exact Bool.or_true _)]; rfl
        · repeat (first | (with_reducible exact hB) | refine Below.alloc ?_ hB.size _ | refine Below.setCell ?_ (by simpa using hB.size) _)
      · have he : (n.toList == s.toList) = false := by simpa using he
        go_wp2
        go_roundw
        case rel =>
          refine ⟨q + 1, by omega, by go_num, Lib.hid (by rw [HS.out, hH.out, he]; rfl), ?_⟩
          repeat (first | (with_reducible exact hB) | refine Below.alloc ?_ hB.size _ | refine Below.setCell ?_ (by simpa using hB.size) _)
        case measure => simp [intOf]; omega
    · obtain rfl : q = m := by omega
      go_wp2
      go_ret
      refine ⟨?_, hB⟩
      rw [← HZ.out, ← nameIn_all, HM.out, hH.out]
      rfl

set_option maxHeartbeats 1000000 in
theorem mark_any (c : C) (w : World) (h0 : 1 ≤ c.k) (h1 : c.k ≤ 3) : Calls Try.prog 34 #[c.v] w fun e w' => e = .returned (.int .i64 (colNum c)) ∧ Below w.heap.size w w' := by
  obtain ⟨n, k, z⟩ := c
  simp only at h0 h1
  show Calls Try.prog 34 #[.agg #[.string n, .int .i64 k, .bool z]] w _
  have HB := Lib.hid ((Below.refl w.heap.size w).alloc (Nat.le_refl _) (.cells #[.string n, .int .i64 k, .bool z] 41))
  have HP : Hid (colNum ⟨n, k, z⟩ = if z then 2 * k + 1 else 2 * k) := rfl
  generalize colNum ⟨n, k, z⟩ = r at HP ⊢
  go_enter Try.func34, Try.ntmps34
  cases z
  · go_wp2
    go_ret
    exact ⟨by rw [HP.out]; rfl, HB.out⟩
  · go_wp2
    go_ret
    exact ⟨by rw [HP.out]; rfl, HB.out⟩
end Go.Proofs.Ytajoklimdlalhaa.Sc
