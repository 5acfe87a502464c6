/- A value's key: the document's, walked. -/
import Derived.Test.YtijadbkdgekcdaaOrB
namespace Go.Proofs.Ytijadbkdgekcdaa.Or
open Go.RowKit Pac Va

def keyB (a : V) : ByteArray := ⟨(keyL a).toArray⟩
/-- The first q of a number's bytes behind its kind. -/
def partB (c : UInt8) (u q : Nat) : ByteArray := ⟨(c :: (be 8 u).take q).toArray⟩
theorem kindB (k : Int) : ∃ c : UInt8, k % 256 = (c.toNat : Int) ∧ c = UInt8.ofNat (k % 256).toNat := ⟨UInt8.ofNat (k % 256).toNat, by rw [ofNat_toNat _ (by omega)]; omega, rfl⟩
theorem part_num {k : Int} (n : Int) (s : ByteArray) {u : Nat} (hu : u = ((n + 9223372036854775808) % 18446744073709551616).toNat) (hk : k = 1 ∨ k = 2) : partB (UInt8.ofNat (k % 256).toNat) u 8 = keyB ⟨k, n, s⟩ := by
  unfold partB keyB keyL
  rw [List.take_of_length_le (by rw [be_len]; exact Nat.le_refl _), if_pos hk, hu]
theorem be_at : ∀ (f u q : Nat), u < 256 ^ f → q < f → (be f u)[q]? = some (UInt8.ofNat (u / 256 ^ (f - 1 - q) % 256))
  | 0, _, _, _, hq => absurd hq (Nat.not_lt_zero _)
  | f + 1, u, 0, hu, _ => by
    have h1 := head_lt hu
    show some (UInt8.ofNat (u / 256 ^ f)) = _
    rw [show f + 1 - 1 - 0 = f by omega, Nat.mod_eq_of_lt h1]
  | f + 1, u, q + 1, hu, hq => by
    show (be f (u % 256 ^ f))[q]? = _
    have hp : 0 < 256 ^ f := Nat.pow_pos (by omega)
    rw [be_at f (u % 256 ^ f) q (Nat.mod_lt _ hp) (by omega)]
    have e : f + 1 - 1 - (q + 1) = f - 1 - q := by omega
    rw [e]
    have hf : 256 ^ f = 256 ^ (f - 1 - q) * 256 ^ (q + 1) := by rw [← Nat.pow_add]; congr 1; omega
    rw [hf, Nat.mod_mul_right_div_self]
    congr 2
    rw [Nat.pow_succ, Nat.mul_comm, Nat.mod_mul_right_mod]
theorem part_size (c : UInt8) (u q : Nat) (hq : q ≤ 8) : (partB c u q).size = q + 1 := by
  show (c :: (be 8 u).take q).toArray.size = _
  simp [be_len]
  omega
theorem part_step (c : UInt8) (u q : Nat) (hu : u < 18446744073709551616) (hq : q < 8) : ∃ d : UInt8, (u : Int) / 2 ^ (8 * (7 - q)) % 256 = (d.toNat : Int) ∧ partB c u q ++ ⟨#[d]⟩ = partB c u (q + 1) := by
  refine ⟨UInt8.ofNat (u / 256 ^ (7 - q) % 256), ?_, ?_⟩
  · rw [ofNat_toNat _ (by omega)]
    have : (2 : Int) ^ (8 * (7 - q)) = ((256 ^ (7 - q) : Nat) : Int) := by
      rw [Int.pow_mul]
      simp
    rw [this]
    omega
  · have e := be_at 8 u q (by rw [p8]; exact hu) hq
    apply bytesEq'
    unfold partB
    rw [app_list]
    show c :: (be 8 u).take q ++ [_] = c :: (be 8 u).take (q + 1)
    rw [List.take_add_one, e]
    rfl
theorem key_text (n : Int) (s : ByteArray) : ⟨#[3]⟩ ++ s = keyB ⟨3, n, s⟩ := by
  apply bytesEq'
  rw [app_list]
  rfl
theorem key_else {k : Int} (n : Int) (s : ByteArray) (h : ¬ (k = 1 ∨ k = 2)) (h3 : ¬ k = 3) : keyB ⟨k, n, s⟩ = ⟨#[UInt8.ofNat (k % 256).toNat]⟩ := by
  unfold keyB keyL
  rw [if_neg h, if_neg h3]
theorem keyB_list (a : V) : (keyB a).toList = keyL a := by rw [ByteArray.toList_eq]; unfold keyB; simp
theorem keyB_size (a : V) : (keyB a).size = if a.k = 1 ∨ a.k = 2 then 9 else if a.k = 3 then a.s.size + 1 else 1 := by
  rw [← key_len a]
  rfl
theorem numU (n : Int) (h0 : -9223372036854775808 ≤ n) (h1 : n ≤ 9223372036854775807) : ∃ u : Nat, IntKind.u64.wrap (IntKind.u64.wrap n + 9223372036854775808) = (u : Int) ∧ u < 18446744073709551616 ∧ u = ((n + 9223372036854775808) % 18446744073709551616).toNat :=
  ⟨((n + 9223372036854775808) % 18446744073709551616).toNat, by rw [wrapU, wrapU]; omega, by omega, rfl⟩


set_option maxRecDepth 20000 in
set_option maxHeartbeats 1600000 in
theorem refKey_any (a : V) (w : World) (ho : a.Ok) (hs : a.s.size ≤ 9223372036854775000) : Calls Try.prog 8 #[a.v] w fun e w' => e = .returned (.string (keyB a)) ∧ Below w.heap.size w w' := by
  obtain ⟨k, n, s⟩ := a
  obtain ⟨h0, h1, h2, h3⟩ := ho
  simp only at h0 h1 h2 h3 hs
  obtain ⟨u, eu, hu, hu2⟩ := numU n h2 h3
  have hb0 := (Below.refl w.heap.size w).alloc (Nat.le_refl _) (.cells #[.int .i64 k, .int .i64 n, .string s] 23)
  by_cases k1 : k = 1
  · subst k1
    have HK : Hid (partB 1 u 8 = keyB ⟨1, n, s⟩) := Lib.hid (part_num (k := 1) n s hu2 (by decide))
    clear hu2
    have HB := Lib.hid (hb0.alloc hb0.size (.cells #[.int .u8 1] 5))
    have e2 : (convert 33 9 (.slice (some ⟨(w.alloc (.cells #[.int .i64 1, .int .i64 n, .string s] 23)).heap.size, 0, none⟩) 1 1)).run Try.prog ((w.alloc (.cells #[.int .i64 1, .int .i64 n, .string s] 23)).alloc (.cells #[.int .u8 1] 5)) = .ok (.string ⟨#[1]⟩) ((w.alloc (.cells #[.int .i64 1, .int .i64 n, .string s] 23)).alloc (.cells #[.int .u8 1] 5)) := oneByte _ 1
    rw [show (w.alloc (.cells #[.int .i64 1, .int .i64 n, .string s] 23)).heap.size = w.heap.size + 1 by simp] at e2
    clear hb0
    show Calls Try.prog 8 #[.agg #[.int .i64 1, .int .i64 n, .string s]] w _
    go_enter Try.func8, Try.ntmps8
    go_wp2
    go_loopw [3, 5] (fun x i wr => ∃ (q : Nat), q ≤ 8 ∧ i = .int .i64 (7 - (q : Int)) ∧ x = .string (partB 1 u q) ∧ Below w.heap.size w wr) (fun _ i _ => (intOf i + 1).toNat)
    case atStart => exact ⟨0, by omega, rfl, rfl, HB.out⟩
    case round =>
      clear e2
      obtain ⟨q, hq, rfl, rfl, hB⟩ := hrel
      by_cases hlt : q < 8
      · obtain ⟨d, ed, hd⟩ := part_step 1 u q hu hlt
        have hp := part_size 1 u q hq
        have e3 := oneByte wr d
        have HN := Lib.hid (hB.alloc hB.size (.cells #[.int .u8 (d.toNat : Int)] 5))
        generalize partB 1 u q = p at hp hd
        have HD := Lib.hid hd
        clear hd
        go_wp2
        go_roundw
        case rel => exact ⟨q + 1, by omega, by go_num, by rw [← HD.out], HN.out⟩
        case measure => simp [intOf]; omega
      · obtain rfl : q = 8 := by omega
        have HK := HK
        generalize partB 1 u 8 = p at HK
        go_wp2
        go_ret
        exact ⟨by rw [← HK.out]; rfl, hB⟩
  by_cases k1 : k = 2
  · subst k1
    have HK : Hid (partB 2 u 8 = keyB ⟨2, n, s⟩) := Lib.hid (part_num (k := 2) n s hu2 (by decide))
    clear hu2
    have HB := Lib.hid (hb0.alloc hb0.size (.cells #[.int .u8 2] 5))
    have e2 : (convert 33 9 (.slice (some ⟨(w.alloc (.cells #[.int .i64 2, .int .i64 n, .string s] 23)).heap.size, 0, none⟩) 1 1)).run Try.prog ((w.alloc (.cells #[.int .i64 2, .int .i64 n, .string s] 23)).alloc (.cells #[.int .u8 2] 5)) = .ok (.string ⟨#[2]⟩) ((w.alloc (.cells #[.int .i64 2, .int .i64 n, .string s] 23)).alloc (.cells #[.int .u8 2] 5)) := oneByte _ 2
    rw [show (w.alloc (.cells #[.int .i64 2, .int .i64 n, .string s] 23)).heap.size = w.heap.size + 1 by simp] at e2
    clear hb0
    show Calls Try.prog 8 #[.agg #[.int .i64 2, .int .i64 n, .string s]] w _
    go_enter Try.func8, Try.ntmps8
    go_wp2
    go_loopw [3, 5] (fun x i wr => ∃ (q : Nat), q ≤ 8 ∧ i = .int .i64 (7 - (q : Int)) ∧ x = .string (partB 2 u q) ∧ Below w.heap.size w wr) (fun _ i _ => (intOf i + 1).toNat)
    case atStart => exact ⟨0, by omega, rfl, rfl, HB.out⟩
    case round =>
      clear e2
      obtain ⟨q, hq, rfl, rfl, hB⟩ := hrel
      by_cases hlt : q < 8
      · obtain ⟨d, ed, hd⟩ := part_step 2 u q hu hlt
        have hp := part_size 2 u q hq
        have e3 := oneByte wr d
        have HN := Lib.hid (hB.alloc hB.size (.cells #[.int .u8 (d.toNat : Int)] 5))
        generalize partB 2 u q = p at hp hd
        have HD := Lib.hid hd
        clear hd
        go_wp2
        go_roundw
        case rel => exact ⟨q + 1, by omega, by go_num, by rw [← HD.out], HN.out⟩
        case measure => simp [intOf]; omega
      · obtain rfl : q = 8 := by omega
        have HK := HK
        generalize partB 2 u 8 = p at HK
        go_wp2
        go_ret
        exact ⟨by rw [← HK.out]; rfl, hB⟩
  by_cases k3 : k = 3
  · subst k3
    have HK : Hid (⟨#[3]⟩ ++ s = keyB ⟨3, n, s⟩) := Lib.hid (key_text n s)
    clear hu2
    have HB := Lib.hid (hb0.alloc hb0.size (.cells #[.int .u8 3] 5))
    have e2 : (convert 33 9 (.slice (some ⟨(w.alloc (.cells #[.int .i64 3, .int .i64 n, .string s] 23)).heap.size, 0, none⟩) 1 1)).run Try.prog ((w.alloc (.cells #[.int .i64 3, .int .i64 n, .string s] 23)).alloc (.cells #[.int .u8 3] 5)) = .ok (.string ⟨#[3]⟩) ((w.alloc (.cells #[.int .i64 3, .int .i64 n, .string s] 23)).alloc (.cells #[.int .u8 3] 5)) := oneByte _ 3
    rw [show (w.alloc (.cells #[.int .i64 3, .int .i64 n, .string s] 23)).heap.size = w.heap.size + 1 by simp] at e2
    clear hb0
    show Calls Try.prog 8 #[.agg #[.int .i64 3, .int .i64 n, .string s]] w _
    go_enter Try.func8, Try.ntmps8
    go_wp2
    go_ret
    exact ⟨by rw [← HK.out]; rfl, HB.out⟩
  · obtain ⟨c, ec, hc⟩ := kindB k
    have HK : Hid (⟨#[c]⟩ = keyB ⟨k, n, s⟩) := Lib.hid (by rw [hc]; exact (key_else n s (by omega) k3).symm)
    clear hu2 hc
    have HB := Lib.hid (hb0.alloc hb0.size (.cells #[.int .u8 (c.toNat : Int)] 5))
    have e2 := oneByte (w.alloc (.cells #[.int .i64 k, .int .i64 n, .string s] 23)) c
    rw [show (w.alloc (.cells #[.int .i64 k, .int .i64 n, .string s] 23)).heap.size = w.heap.size + 1 by simp] at e2
    clear hb0
    show Calls Try.prog 8 #[.agg #[.int .i64 k, .int .i64 n, .string s]] w _
    go_enter Try.func8, Try.ntmps8
    go_wp2
    go_ret
    exact ⟨by rw [← HK.out]; rfl, HB.out⟩
end Go.Proofs.Ytijadbkdgekcdaa.Or
