/- A value's key: what the program says, walked. -/
import Derived.Test.YtijadbkdgekcdaaOrC
namespace Go.Proofs.Ytijadbkdgekcdaa.Or
open Go.RowKit Pac Va

/-- Eight bytes in a row as a string. -/
theorem eightBytes (w : World) (c0 c1 c2 c3 c4 c5 c6 c7 : UInt8) : (convert 33 9 (.slice (some ⟨w.heap.size, 0, none⟩) 8 8)).run Try.prog (w.alloc (.cells #[.int .u8 (c0.toNat : Int), .int .u8 (c1.toNat : Int), .int .u8 (c2.toNat : Int), .int .u8 (c3.toNat : Int), .int .u8 (c4.toNat : Int), .int .u8 (c5.toNat : Int), .int .u8 (c6.toNat : Int), .int .u8 (c7.toNat : Int)] 5)) = .ok (.string ⟨#[c0, c1, c2, c3, c4, c5, c6, c7]⟩) (w.alloc (.cells #[.int .u8 (c0.toNat : Int), .int .u8 (c1.toNat : Int), .int .u8 (c2.toNat : Int), .int .u8 (c3.toNat : Int), .int .u8 (c4.toNat : Int), .int .u8 (c5.toNat : Int), .int .u8 (c6.toNat : Int), .int .u8 (c7.toNat : Int)] 5)) := by
  have := run_convert_bytes_arg (P := Try.prog) (w.alloc (.cells #[.int .u8 (c0.toNat : Int), .int .u8 (c1.toNat : Int), .int .u8 (c2.toNat : Int), .int .u8 (c3.toNat : Int), .int .u8 (c4.toNat : Int), .int .u8 (c5.toNat : Int), .int .u8 (c6.toNat : Int), .int .u8 (c7.toNat : Int)] 5)) 33 5 Try.underlying33 Try.underlying5 w.heap.size 0 8 8 [(c0.toNat : Int), (c1.toNat : Int), (c2.toNat : Int), (c3.toNat : Int), (c4.toNat : Int), (c5.toNat : Int), (c6.toNat : Int), (c7.toNat : Int)] rfl (by
    intro i hi
    match i, hi with
    | 0, _ => simp
    | 1, _ => simp
    | 2, _ => simp
    | 3, _ => simp
    | 4, _ => simp
    | 5, _ => simp
    | 6, _ => simp
    | 7, _ => simp) 9 Try.underlying9
  rw [this]
  have h := strOf_bys [c0, c1, c2, c3, c4, c5, c6, c7]
  unfold bys at h
  simp only [List.map_cons, List.map_nil] at h
  rw [h]

/-- A number's byte at its place. -/
theorem byte_at (u q : Nat) (p : Int) (hp : p = ((256 ^ q : Nat) : Int)) : ∃ d : UInt8, (u : Int) / p % 256 = (d.toNat : Int) ∧ d = UInt8.ofNat (u / 256 ^ q % 256) := by
  refine ⟨_, ?_, rfl⟩
  rw [ofNat_toNat _ (by omega), hp]
  omega
theorem be_eight (u : Nat) (hu : u < 18446744073709551616) : be 8 u = [UInt8.ofNat (u / 256 ^ 7 % 256), UInt8.ofNat (u / 256 ^ 6 % 256), UInt8.ofNat (u / 256 ^ 5 % 256), UInt8.ofNat (u / 256 ^ 4 % 256), UInt8.ofNat (u / 256 ^ 3 % 256), UInt8.ofNat (u / 256 ^ 2 % 256), UInt8.ofNat (u / 256 ^ 1 % 256), UInt8.ofNat (u / 256 ^ 0 % 256)] := by
  have h8 : u < 256 ^ 8 := by rw [p8]; exact hu
  apply List.ext_getElem?
  intro q
  by_cases hq : q < 8
  · rw [be_at 8 u q h8 hq]
    match q, hq with
    | 0, _ => rfl
    | 1, _ => rfl
    | 2, _ => rfl
    | 3, _ => rfl
    | 4, _ => rfl
    | 5, _ => rfl
    | 6, _ => rfl
    | 7, _ => rfl
  · rw [List.getElem?_eq_none (by rw [be_len]; omega), List.getElem?_eq_none (by simp; omega)]

set_option maxRecDepth 20000 in
set_option maxHeartbeats 1600000 in
theorem lifted_any (n : Int) (u : Nat) (w : World) (h2 : -9223372036854775808 ≤ n) (h3 : n ≤ 9223372036854775807) (eu : IntKind.u64.wrap (IntKind.u64.wrap n + 9223372036854775808) = (u : Int)) (hu : u < 18446744073709551616) : Calls Try.prog 13 #[.int .i64 n] w fun e w' => e = .returned (.string ⟨(be 8 u).toArray⟩) ∧ Below w.heap.size w w' := by
  obtain ⟨d0, e0, g0⟩ := byte_at u 7 72057594037927936 (by decide)
  obtain ⟨d1, e1, g1⟩ := byte_at u 6 281474976710656 (by decide)
  obtain ⟨d2, e2, g2⟩ := byte_at u 5 1099511627776 (by decide)
  obtain ⟨d3, e3, g3⟩ := byte_at u 4 4294967296 (by decide)
  obtain ⟨d4, e4, g4⟩ := byte_at u 3 16777216 (by decide)
  obtain ⟨d5, e5, g5⟩ := byte_at u 2 65536 (by decide)
  obtain ⟨d6, e6, g6⟩ := byte_at u 1 256 (by decide)
  obtain ⟨d7, e7, g7⟩ := byte_at u 0 1 (by decide)
  rw [Int.ediv_one] at e7
  have e0 : (u : Int) / 72057594037927936 = (d0.toNat : Int) := by omega
  have HQ : Hid ((⟨#[d0, d1, d2, d3, d4, d5, d6, d7]⟩ : ByteArray) = ⟨(be 8 u).toArray⟩) := Lib.hid (by rw [be_eight u hu, g0, g1, g2, g3, g4, g5, g6, g7])
  clear g0 g1 g2 g3 g4 g5 g6 g7
  have e8 := eightBytes w d0 d1 d2 d3 d4 d5 d6 d7
  have HB := Lib.hid ((Below.refl w.heap.size w).alloc (Nat.le_refl _) (.cells #[.int .u8 (d0.toNat : Int), .int .u8 (d1.toNat : Int), .int .u8 (d2.toNat : Int), .int .u8 (d3.toNat : Int), .int .u8 (d4.toNat : Int), .int .u8 (d5.toNat : Int), .int .u8 (d6.toNat : Int), .int .u8 (d7.toNat : Int)] 5))
  go_enter Try.func13, Try.ntmps13
  go_wp2
  go_ret
  exact ⟨by rw [← HQ.out]; rfl, HB.out⟩

theorem key_num {k : Int} (n : Int) (s : ByteArray) {u : Nat} (hu : u = ((n + 9223372036854775808) % 18446744073709551616).toNat) (hk : k = 1 ∨ k = 2) : ⟨#[UInt8.ofNat (k % 256).toNat]⟩ ++ (⟨(be 8 u).toArray⟩ : ByteArray) = keyB ⟨k, n, s⟩ := by
  apply bytesEq'
  rw [app_list]
  unfold keyB keyL
  rw [if_pos hk, hu]
  rfl
theorem be_size (u : Nat) : (⟨(be 8 u).toArray⟩ : ByteArray).size = 8 := by
  show (be 8 u).toArray.size = 8
  rw [List.size_toArray, be_len]

set_option maxRecDepth 20000 in
set_option maxHeartbeats 1600000 in
theorem key_any (a : V) (w : World) (ho : a.Ok) (hs : a.s.size ≤ 1000000) : Calls Try.prog 7 #[a.v] w fun e w' => e = .returned (.string (keyB a)) ∧ Below w.heap.size w w' := by
  obtain ⟨k, n, s⟩ := a
  obtain ⟨h0, h1, h2, h3⟩ := ho
  simp only at h0 h1 h2 h3 hs
  obtain ⟨u, eu, hu, hu2⟩ := numU n h2 h3
  have hb0 := (Below.refl w.heap.size w).alloc (Nat.le_refl _) (.cells #[.int .i64 k, .int .i64 n, .string s] 23)
  by_cases k1 : k = 1
  · subst k1
    have HK : Hid (⟨#[1]⟩ ++ (⟨(be 8 u).toArray⟩ : ByteArray) = keyB ⟨1, n, s⟩) := Lib.hid (key_num (k := 1) n s hu2 (by decide))
    have HL := Lib.hid (fun W : World => lifted_any n u W h2 h3 eu hu)
    have hz := be_size u
    clear hu2 eu
    have HB := Lib.hid (hb0.alloc hb0.size (.cells #[.int .u8 1] 5))
    have e2 : (convert 33 9 (.slice (some ⟨(w.alloc (.cells #[.int .i64 1, .int .i64 n, .string s] 23)).heap.size, 0, none⟩) 1 1)).run Try.prog ((w.alloc (.cells #[.int .i64 1, .int .i64 n, .string s] 23)).alloc (.cells #[.int .u8 1] 5)) = .ok (.string ⟨#[1]⟩) ((w.alloc (.cells #[.int .i64 1, .int .i64 n, .string s] 23)).alloc (.cells #[.int .u8 1] 5)) := oneByte _ 1
    rw [show (w.alloc (.cells #[.int .i64 1, .int .i64 n, .string s] 23)).heap.size = w.heap.size + 1 by simp] at e2
    clear hb0
    generalize (⟨(be 8 u).toArray⟩ : ByteArray) = p at HK HL hz
    show Calls Try.prog 7 #[.agg #[.int .i64 1, .int .i64 n, .string s]] w _
    go_enter Try.func7, Try.ntmps7
    go_wp2_with fail
    refine (HL.out _).mono ?_
    rintro e w1 ⟨rfl, hb⟩
    have hB := HB.out.trans (hb.mono HB.out.size)
    go_wp2
    go_ret
    exact ⟨by rw [← HK.out]; rfl, hB⟩
  by_cases k2 : k = 2
  · subst k2
    have HK : Hid (⟨#[2]⟩ ++ (⟨(be 8 u).toArray⟩ : ByteArray) = keyB ⟨2, n, s⟩) := Lib.hid (key_num (k := 2) n s hu2 (by decide))
    have HL := Lib.hid (fun W : World => lifted_any n u W h2 h3 eu hu)
    have hz := be_size u
    clear hu2 eu
    have HB := Lib.hid (hb0.alloc hb0.size (.cells #[.int .u8 2] 5))
    have e2 : (convert 33 9 (.slice (some ⟨(w.alloc (.cells #[.int .i64 2, .int .i64 n, .string s] 23)).heap.size, 0, none⟩) 1 1)).run Try.prog ((w.alloc (.cells #[.int .i64 2, .int .i64 n, .string s] 23)).alloc (.cells #[.int .u8 2] 5)) = .ok (.string ⟨#[2]⟩) ((w.alloc (.cells #[.int .i64 2, .int .i64 n, .string s] 23)).alloc (.cells #[.int .u8 2] 5)) := oneByte _ 2
    rw [show (w.alloc (.cells #[.int .i64 2, .int .i64 n, .string s] 23)).heap.size = w.heap.size + 1 by simp] at e2
    clear hb0
    generalize (⟨(be 8 u).toArray⟩ : ByteArray) = p at HK HL hz
    show Calls Try.prog 7 #[.agg #[.int .i64 2, .int .i64 n, .string s]] w _
    go_enter Try.func7, Try.ntmps7
    go_wp2_with fail
    refine (HL.out _).mono ?_
    rintro e w1 ⟨rfl, hb⟩
    have hB := HB.out.trans (hb.mono HB.out.size)
    go_wp2
    go_ret
    exact ⟨by rw [← HK.out]; rfl, hB⟩
  by_cases k3 : k = 3
  · subst k3
    have HK : Hid (⟨#[3]⟩ ++ s = keyB ⟨3, n, s⟩) := Lib.hid (key_text n s)
    clear hu2
    have HB := Lib.hid (hb0.alloc hb0.size (.cells #[.int .u8 3] 5))
    have e2 : (convert 33 9 (.slice (some ⟨(w.alloc (.cells #[.int .i64 3, .int .i64 n, .string s] 23)).heap.size, 0, none⟩) 1 1)).run Try.prog ((w.alloc (.cells #[.int .i64 3, .int .i64 n, .string s] 23)).alloc (.cells #[.int .u8 3] 5)) = .ok (.string ⟨#[3]⟩) ((w.alloc (.cells #[.int .i64 3, .int .i64 n, .string s] 23)).alloc (.cells #[.int .u8 3] 5)) := oneByte _ 3
    rw [show (w.alloc (.cells #[.int .i64 3, .int .i64 n, .string s] 23)).heap.size = w.heap.size + 1 by simp] at e2
    clear hb0
    show Calls Try.prog 7 #[.agg #[.int .i64 3, .int .i64 n, .string s]] w _
    go_enter Try.func7, Try.ntmps7
    go_wp2
    go_ret
    exact ⟨by rw [← HK.out]; rfl, HB.out⟩
  · obtain ⟨c, ec, hc⟩ := kindB k
    have HK : Hid (⟨#[c]⟩ = keyB ⟨k, n, s⟩) := Lib.hid (by rw [hc]; exact (key_else n s (by omega) k3).symm)
    clear hu2 hc
    have HB := Lib.hid (hb0.alloc hb0.size (.cells #[.int .u8 (c.toNat : Int)] 5))
    have e2 := oneByte (w.alloc (.cells #[.int .i64 k, .int .i64 n, .string s] 23)) c
    rw [show (w.alloc (.cells #[.int .i64 k, .int .i64 n, .string s] 23)).heap.size = w.heap.size + 1 by simp] at e2
    clear hb0
    show Calls Try.prog 7 #[.agg #[.int .i64 k, .int .i64 n, .string s]] w _
    go_enter Try.func7, Try.ntmps7
    go_wp2
    go_ret
    exact ⟨by rw [← HK.out]; rfl, HB.out⟩
end Go.Proofs.Ytijadbkdgekcdaa.Or
