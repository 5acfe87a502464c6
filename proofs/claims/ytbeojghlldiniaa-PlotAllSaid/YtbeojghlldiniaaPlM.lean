/- Which pages are taken: the program's functions, walked. -/
import Derived.Test.YtbeojghlldiniaaPlN
import Derived.OwnWalk
import Derived.Laws.BitsLemmas
namespace Go.Proofs.Ytbeojghlldiniaa.Pl
open Go.RowKit By
theorem info_partsN {n : TypeId} {z : Option Value} {s b : Nat} (h : (Try.prog.info? n).map (fun i => (i.zero, i.size, i.bytes)) = some (z, s, b)) : ∃ i, Try.prog.info? n = some i ∧ i.zero = z ∧ i.size = s ∧ i.bytes = b := by
  cases hi : Try.prog.info? n with
  | none => rw [hi] at h; cases h
  | some i =>
    rw [hi] at h
    simp only [Option.map_some, Option.some.injEq, Prod.mk.injEq] at h
    exact ⟨i, rfl, h.1, h.2.1, h.2.2⟩
section
variable {w : World} {s : ByteArray}
/-- Where a page's bit lies: the byte, the bit, and whether there is one. -/
def placeR (s : ByteArray) (n : Int) : Value := if 0 ≤ n ∧ n < 512 ∧ n / 8 < (s.size : Int) then .tuple #[.int .i64 (n / 8), .int .u8 ((2 : Int) ^ (n % 8).toNat % 256), .bool true] else .tuple #[.int .i64 0, .int .u8 0, .bool false]
set_option maxHeartbeats 1000000 in
theorem place_walk (n : Int) (hs : s.size ≤ 300) (h0 : -9223372036854775808 ≤ n) (h1 : n ≤ 9223372036854775807) :
    Calls Try.prog 21 #[.string s, .int .i64 n] w fun e w' => e = .returned (placeR s n) ∧ Below w.heap.size w w' := by
  by_cases c1 : 0 ≤ n ∧ n < 512 ∧ n / 8 < (s.size : Int)
  · obtain ⟨i, rfl⟩ : ∃ i : Nat, n = (i : Int) := ⟨n.toNat, by omega⟩
    obtain ⟨p, hp⟩ : ∃ p, i / 8 = p := ⟨_, rfl⟩
    obtain ⟨b, hb⟩ : ∃ b, i % 8 = b := ⟨_, rfl⟩
    have q1 : (i : Int).tdiv 8 = (p : Int) := by rw [Int.tdiv_eq_ediv_of_nonneg (by omega)]; omega
    have q2 : (i : Int).tmod 8 = (b : Int) := by rw [Int.tmod_eq_emod_of_nonneg (by omega)]; omega
    have d0 : ¬ (i : Int) < 0 := by omega
    have d1 : ¬ (512 : Int) ≤ (i : Int) := by omega
    have d2 : ¬ (s.size : Int) ≤ (p : Int) := by omega
    have i0 : (0 : Int) ≤ (b : Int) := by omega
    have hb8 : b < 8 := by omega
    have hr : placeR s (i : Int) = .tuple #[.int .i64 (p : Int), .int .u8 ((2 : Int) ^ b % 256), .bool true] := by
      unfold placeR
      rw [if_pos c1, show (i : Int) / 8 = (p : Int) by omega, show ((i : Int) % 8).toNat = b by omega]
    rw [hr]
    clear hp hb hr c1
    go_enter Try.func21, Try.ntmps21
    go_wp2
    go_region
    go_wp2
    go_ret3
    exact ⟨rfl, (Below.refl _ w).drew⟩
  · have hr : placeR s n = .tuple #[.int .i64 0, .int .u8 0, .bool false] := by unfold placeR; rw [if_neg c1]
    rw [hr]
    clear hr
    by_cases a1 : n < 0
    · clear c1
      go_enter Try.func21, Try.ntmps21
      go_wp2
      go_ret3
      exact ⟨rfl, Below.refl _ _⟩
    by_cases a2 : 512 ≤ n
    · clear c1
      go_enter Try.func21, Try.ntmps21
      go_wp2
      go_ret3
      exact ⟨rfl, Below.refl _ _⟩
    have q1 : n.tdiv 8 = n / 8 := Int.tdiv_eq_ediv_of_nonneg (by omega)
    have a3 : (s.size : Int) ≤ n / 8 := by omega
    clear c1
    go_enter Try.func21, Try.ntmps21
    go_wp2
    go_ret3
    exact ⟨rfl, Below.refl _ _⟩
theorem placeR_in {i p b : Nat} (hi : i < 512) (hp : i / 8 = p) (hb : i % 8 = b) (h : p < s.size) : placeR s (i : Int) = .tuple #[.int .i64 (p : Int), .int .u8 ((2 : Int) ^ b % 256), .bool true] := by
  unfold placeR
  rw [if_pos ⟨by omega, by omega, by omega⟩, show (i : Int) / 8 = (p : Int) by omega, show ((i : Int) % 8).toNat = b by omega]
theorem placeR_out {n : Int} (h : ¬ (0 ≤ n ∧ n < 512 ∧ n / 8 < (s.size : Int))) : placeR s n = .tuple #[.int .i64 0, .int .u8 0, .bool false] := by
  unfold placeR; rw [if_neg h]
theorem bit_ne : ∀ y < 256, ∀ b < 8, (bits .and .u8 ((y : Nat) : Int) ((2 : Int) ^ b % 256) != 0) = Nat.testBit y b := by decide +kernel
theorem tkI_in {i p b : Nat} (hi : i < 512) (hp : i / 8 = p) (hb : i % 8 = b) (h : p < s.size) : tkI s (i : Int) = (s[p]).toNat.testBit b := by
  rw [tkI_nat]
  unfold tk
  rw [hp, hb, decide_eq_true hi, decide_eq_true (show p < s.data.toList.length by simpa using h), byte_at h]
  rfl
theorem tkI_out {n : Int} (h : ¬ (0 ≤ n ∧ n < 512 ∧ n / 8 < (s.size : Int))) : tkI s n = false := by
  unfold tkI
  by_cases h0 : 0 ≤ n
  · rw [decide_eq_true h0, tk_out (by have : s.data.toList.length = s.size := by simp
                                      omega)]
    rfl
  · rw [decide_eq_false h0]; rfl
set_option maxHeartbeats 1000000 in
theorem taken_any {n : Int} (w : World) (hs : s.size ≤ 300) (h0 : -9223372036854775808 ≤ n) (h1 : n ≤ 9223372036854775807) :
    Calls Try.prog 10 #[.string s, .int .i64 n] w fun e w' => e = .returned (.bool (tkI s n)) ∧ Below w.heap.size w w' := by
  have HP := Lib.hid (place_walk (w := w) (s := s) n hs h0 h1)
  by_cases c1 : 0 ≤ n ∧ n < 512 ∧ n / 8 < (s.size : Int)
  · obtain ⟨i, rfl⟩ : ∃ i : Nat, n = (i : Int) := ⟨n.toNat, by omega⟩
    obtain ⟨p, hp⟩ : ∃ p, i / 8 = p := ⟨_, rfl⟩
    obtain ⟨b, hb⟩ : ∃ b, i % 8 = b := ⟨_, rfl⟩
    have c3 : p < s.size := by omega
    rw [placeR_in (by omega) hp hb c3] at HP
    rw [tkI_in (by omega) hp hb c3]
    have hy := (s[p]).toNat_lt
    have i0 : (0 : Int) ≤ (p : Int) := by omega
    have i1 : (p : Int) < (s.size : Int) := by omega
    have HE := Lib.hid (bit_ne _ hy b (by omega))
    clear hp hb c1 h0 h1 hy
    go_enter Try.func10, Try.ntmps10
    go_wp2_with fail
    refine HP.out.mono ?_
    rintro e y1 ⟨rfl, hB⟩
    go_wp2_with fail
    go_ret
    exact ⟨by rw [← HE.out]; rfl, hB⟩
  · rw [placeR_out c1] at HP
    rw [tkI_out c1]
    clear c1
    go_enter Try.func10, Try.ntmps10
    go_wp2_with fail
    refine HP.out.mono ?_
    rintro e y1 ⟨rfl, hB⟩
    go_wp2_with fail
    go_ret
    exact ⟨rfl, hB⟩
set_option maxRecDepth 100000 in
theorem bit_onN2 : ∀ y < 256, ∀ b < 8, bits .or .u8 (bits .andNot .u8 ((y : Nat) : Int) ((2 : Int) ^ b % 256)) ((2 : Int) ^ b % 256) = (((if Nat.testBit y b then y else y + 2 ^ b) % 256 : Nat) : Int) := by decide +kernel
theorem bit_on2 (x : UInt8) {b : Nat} (hb : b < 8) : bits .or .u8 (bits .andNot .u8 (x.toNat : Int) ((2 : Int) ^ b % 256)) ((2 : Int) ^ b % 256) = ((setB x b true).toNat : Int) := by
  rw [bit_onN2 _ x.toNat_lt _ hb]
  unfold setB
  rw [UInt8.toNat_ofNat', if_pos rfl]
theorem one_string {P : Program} {src dst e : TypeId} {w : World} (v : UInt8) {x : Int} (hx : (v.toNat : Int) = x) (hs : P.underlying src = some (.slice e)) (he : P.underlying e = some (.int .u8)) (hd : P.underlying dst = some .string) :
    (convert src dst (.slice (some ⟨w.heap.size, 0, none⟩) 1 1)).run P ((w.alloc (.cells #[.int .u8 x] e)).drew) = .ok (.string ⟨#[v]⟩) ((w.alloc (.cells #[.int .u8 x] e)).drew) := by
  subst hx
  have h := run_convert_bytes_back (P := P) ((w.alloc (.cells #[.int .u8 (v.toNat : Int)] e)).drew) src dst e ⟨w.heap.size, 0, none⟩ 1 [v] hs he hd (fun j hj => by
    match j, hj with
    | 0, _ =>
      show World.cell? _ _ = some (.int .u8 (v.toNat : Int))
      rw [Addr.add_lit]
      simp [go_sem])
  exact h
theorem set_one {α : Type} {l : List α} {a : α} {p : Nat} (h : p < l.length) : l.set p a = l.take p ++ [a] ++ l.drop (p + 1) := by
  rw [List.set_eq_take_append_cons_drop, if_pos h, List.append_assoc]
  rfl
theorem mkB_eq {i p b : Nat} {t : Bool} (hi : i < 512) (hp : i / 8 = p) (hb : i % 8 = b) (h : p < s.size) : mkB s (i : Int) t = s.extract 0 p ++ ⟨#[setB s[p] b t]⟩ ++ s.extract (p + 1) s.size := by
  apply ByteArray.ext
  apply Array.toList_inj.1
  have hl : s.data.toList.length = s.size := by simp
  have e1 : (mkB s (i : Int) t).data.toList = s.data.toList.set p (setB s[p] b t) := by
    rw [mkB_nat]
    unfold mk
    rw [if_pos ⟨hi, by rw [hp, hl]; exact h⟩, hp, hb, byte_at h]
  rw [e1, set_one (by omega)]
  simp
  rw [← hl, List.take_of_length_le (by simp)]
set_option maxRecDepth 20000 in
set_option maxHeartbeats 3200000 in
theorem mark_any {n : Int} (t : Bool) (w : World) (hs : s.size ≤ 300) (h0 : -9223372036854775808 ≤ n) (h1 : n ≤ 9223372036854775807) :
    Calls Try.prog 12 #[.string s, .int .i64 n, .bool t] w fun e w' => e = .returned (.string (mkB s n t)) ∧ Below w.heap.size w w' := by
  have HP := Lib.hid (place_walk (w := w) (s := s) n hs h0 h1)
  by_cases c1 : 0 ≤ n ∧ n < 512 ∧ n / 8 < (s.size : Int)
  · obtain ⟨i, rfl⟩ : ∃ i : Nat, n = (i : Int) := ⟨n.toNat, by omega⟩
    obtain ⟨p, hp⟩ : ∃ p, i / 8 = p := ⟨_, rfl⟩
    obtain ⟨b, hb⟩ : ∃ b, i % 8 = b := ⟨_, rfl⟩
    have c3 : p < s.size := by omega
    rw [placeR_in (by omega) hp hb c3] at HP
    rw [mkB_eq (by omega) hp hb c3]
    have i0 : (0 : Int) ≤ (p : Int) := by omega
    have i1 : (p : Int) < (s.size : Int) := by omega
    have i2 : (p : Int) ≤ (s.size : Int) := by omega
    have i3 : (p : Int) + 1 ≤ (s.size : Int) := by omega
    have i4 : (0 : Int) ≤ (p : Int) + 1 := by omega
    have hb8 : b < 8 := by omega
    have t1 : ((p : Int) + 1).toNat = p + 1 := by omega
    clear hp hb c1 h0 h1
    go_enter Try.func12, Try.ntmps12
    go_wp2_with fail
    refine HP.out.mono ?_
    rintro e y1 ⟨rfl, hB⟩
    have HB := Lib.hid hB
    clear hB
    cases t
    · have hx := bit_off s[p] hb8
      have hcv := one_string (P := Try.prog) (w := y1) (setB s[p] b false) hx.symm Try.underlying39 Try.underlying5 Try.underlying9
      clear hx
      go_wp2_with fail
      go_region
      have hB2 := (HB.out.alloc HB.out.size (.cells #[.int .u8 (bits .andNot .u8 (s[p].toNat : Int) ((2 : Int) ^ b % 256))] 5)).drew
      have HB2 := Lib.hid hB2
      clear hB2 hcv
      go_wp2_with fail
      go_ret
      exact ⟨rfl, HB2.out⟩
    · have hx := bit_on2 s[p] hb8
      have hcv := one_string (P := Try.prog) (w := y1) (setB s[p] b true) hx.symm Try.underlying39 Try.underlying5 Try.underlying9
      clear hx
      go_wp2_with fail
      go_region
      have hB2 := (HB.out.alloc HB.out.size (.cells #[.int .u8 (bits .or .u8 (bits .andNot .u8 (s[p].toNat : Int) ((2 : Int) ^ b % 256)) ((2 : Int) ^ b % 256))] 5)).drew
      have HB2 := Lib.hid hB2
      clear hB2 hcv
      go_wp2_with fail
      go_ret
      exact ⟨rfl, HB2.out⟩
  · rw [placeR_out c1] at HP
    rw [mkB_out c1]
    clear c1
    go_enter Try.func12, Try.ntmps12
    go_wp2_with fail
    refine HP.out.mono ?_
    rintro e y1 ⟨rfl, hB⟩
    go_wp2_with fail
    go_ret
    exact ⟨rfl, hB⟩
theorem bits_or_low {a b : Nat} (ha : a < 256) (hb : b < 256) : bits .or .i64 ((a : Int) * 256) (b : Int) = ((a * 256 + b : Nat) : Int) := by
  have h := bits_join .i64 63 (by decide) (fun n h0 h1 => by simp [IntKind.wrap, IntKind.bits, IntKind.signed]; omega) 8 ((a : Int) * 256) (b : Int) (by omega) (by omega) (by omega) (by omega) (by omega) (by omega)
  rw [h]; omega
set_option maxHeartbeats 1000000 in
theorem root_any (w : World) (hs : s.size ≤ 300) :
    Calls Try.prog 17 #[.string s] w fun e w' => e = .returned (.int .i64 (rootN s.data.toList : Nat)) ∧ Below w.heap.size w w' := by
  by_cases c1 : s.size < 66
  · have hv : rootN s.data.toList = 0 := by unfold rootN; rw [if_pos (by simpa using c1)]
    rw [hv]
    have d1 : (s.size : Int) < 66 := by omega
    go_enter Try.func17, Try.ntmps17
    go_wp2
    go_ret
    exact ⟨rfl, Below.refl _ _⟩
  · have hv : rootN s.data.toList = s[64].toNat * 256 + s[65].toNat := by unfold rootN; rw [if_neg (by simpa using c1), byte_at, byte_at]
    rw [hv]
    have h1 := s[64].toNat_lt
    have h2 := s[65].toNat_lt
    have d1 : ¬ (s.size : Int) < 66 := by omega
    have i1 : (64 : Int) < (s.size : Int) := by omega
    have i2 : (65 : Int) < (s.size : Int) := by omega
    have HO := Lib.hid (bits_or_low h1 h2)
    go_enter Try.func17, Try.ntmps17
    go_wp2
    go_quiet (fail)
    have hd := below_drewN (Below.refl w.heap.size w) nq
    go_wp2
    go_ret
    exact ⟨by rw [← HO.out]; rfl, hd⟩
set_option maxRecDepth 20000 in
set_option maxHeartbeats 3200000 in
theorem setRoot_any {n : Int} (w : World) (hs : s.size ≤ 300) (h0 : -9223372036854775808 ≤ n) (h1 : n ≤ 9223372036854775807) :
    Calls Try.prog 19 #[.string s, .int .i64 n] w fun e w' => e = .returned (.string (setRB s n)) ∧ Below w.heap.size w w' := by
  by_cases c0 : (s.size : Int) < 66
  · rw [setRB_out (by omega)]
    go_enter Try.func19, Try.ntmps19
    go_wp2
    go_ret
    exact ⟨rfl, Below.refl _ _⟩
  by_cases c1 : n < 0
  · rw [setRB_out (by omega)]
    go_enter Try.func19, Try.ntmps19
    go_wp2
    go_ret
    exact ⟨rfl, Below.refl _ _⟩
  by_cases c2 : 512 ≤ n
  · rw [setRB_out (by omega)]
    go_enter Try.func19, Try.ntmps19
    go_wp2
    go_ret
    exact ⟨rfl, Below.refl _ _⟩
  obtain ⟨i, rfl⟩ : ∃ i : Nat, n = (i : Int) := ⟨n.toNat, by omega⟩
  have i1 : (64 : Int) ≤ (s.size : Int) := by omega
  have i2 : (66 : Int) ≤ (s.size : Int) := by omega
  have c2' : i < 512 := by omega
  rw [setRB_eq (by omega) c2']
  go_enter Try.func19, Try.ntmps19
  go_wp2
  have hcv := two_string (P := Try.prog) (w := w) i c2' Try.underlying39 Try.underlying5 Try.underlying9
  go_region
  have hB := (Below.refl w.heap.size w).alloc (Nat.le_refl _) (.cells #[.int .u8 ((i : Int) / 256), .int .u8 ((i : Int) % 256)] 5)
  have HB := Lib.hid hB.drew
  clear hB hcv
  go_wp2
  go_ret
  exact ⟨rfl, HB.out⟩
set_option maxRecDepth 20000 in
set_option maxHeartbeats 1000000 in
theorem free_any {n : Int} (w : World) (hs : s.size ≤ 300) (h0 : -9223372036854775808 ≤ n) (h1 : n ≤ 9223372036854775807) :
    Calls Try.prog 14 #[.string s, .int .i64 n] w fun e w' => e = .returned (.int .i64 ((freeL s.data.toList n.toNat).length : Nat)) ∧ Below w.heap.size w w' := by
  obtain ⟨m, hm⟩ : ∃ m, min n.toNat 512 = m := ⟨_, rfl⟩
  have HM := Lib.hid (show m ≤ 512 ∧ (∀ q : Nat, (q : Int) < min n 512 ↔ q < m) ∧ freeL s.data.toList n.toNat = freeL s.data.toList m from ⟨by omega, fun q => by omega, by unfold freeL; rw [hm, show min m 512 = m by omega]⟩)
  rw [HM.out.2.2]
  have HT : Hid (∀ (W : World) (i : Nat), i < 512 → Calls Try.prog 10 #[.string s, .int .i64 i] W fun e w' => e = .returned (.bool (tk s.data.toList i)) ∧ Below W.heap.size W w') := Lib.hid (fun W i hi => by
    rw [← tkI_nat]; exact taken_any W hs (by omega) (by omega))
  clear hm hs
  generalize s.data.toList = l at HM HT ⊢
  by_cases c9 : 512 < n
  · have HQ := Lib.hid c9
    go_enter Try.func14, Try.ntmps14
    go_wp2_with fail
    go_loopw [5, 6, 9] (fun a z i wr => ∃ q c : Nat, q ≤ m ∧ c ≤ q ∧ a = .int .i64 c ∧ i = .int .i64 q ∧ Hid ((freeL l q).length = c) ∧ Below w.heap.size w wr) (fun _ _ i _ => m - (intOf i).toNat)
    case atStart => exact ⟨0, 0, by omega, by omega, rfl, rfl, Lib.hid rfl, Below.refl _ _⟩
    case round =>
      obtain ⟨q, c, hq, hcq, rfl, rfl, HC, hB⟩ := hrel
      have hm5 := HM.out.1
      by_cases hlt : q < m
      · have d1 : decide ((q : Int) < 512) = true := decide_eq_true (by have := (HM.out.2.1 q).2 hlt; have := HQ.out; omega)
        have l1 : q < 512 := by omega
        clear d1
        go_wp2_with fail
        refine (HT.out wr q l1).mono ?_
        rintro e y1 ⟨rfl, hb⟩
        have hB := hB.trans (hb.mono hB.size)
        clear hb
        cases ht : tk l q
        · have HC2 : Hid ((freeL l (q + 1)).length = c + 1) := Lib.hid (by rw [free_succ l1, ht, if_neg (by simp), List.length_append, HC.out]; rfl)
          clear ht
          go_wp2
          go_roundw
          case rel => exact ⟨q + 1, c + 1, by omega, by omega, by go_num, by go_num, HC2, hB⟩
          case measure => simp [intOf]; omega
        · have HC2 : Hid ((freeL l (q + 1)).length = c) := Lib.hid (by rw [free_succ l1, ht, if_pos rfl, HC.out])
          clear ht
          go_wp2
          go_roundw
          case rel => exact ⟨q + 1, c, by omega, by omega, rfl, by go_num, HC2, hB⟩
          case measure => simp [intOf]; omega
      · obtain rfl : q = m := by omega
        have d1 : decide ((q : Int) < 512) = false := decide_eq_false (fun h => hlt ((HM.out.2.1 q).1 (by have := HQ.out; omega)))
        have d2 : ¬ q < 512 := by have := of_decide_eq_false d1; omega
        clear hlt d1
        go_wp2
        go_ret
        exact ⟨by rw [HC.out]; rfl, hB⟩
  · have HQ := Lib.hid c9
    go_enter Try.func14, Try.ntmps14
    go_wp2_with fail
    go_loopw [5, 6, 9] (fun a z i wr => ∃ q c : Nat, q ≤ m ∧ c ≤ q ∧ a = .int .i64 c ∧ i = .int .i64 q ∧ Hid ((freeL l q).length = c) ∧ Below w.heap.size w wr) (fun _ _ i _ => m - (intOf i).toNat)
    case atStart => exact ⟨0, 0, by omega, by omega, rfl, rfl, Lib.hid rfl, Below.refl _ _⟩
    case round =>
      obtain ⟨q, c, hq, hcq, rfl, rfl, HC, hB⟩ := hrel
      have hm5 := HM.out.1
      by_cases hlt : q < m
      · have d1 : decide ((q : Int) < n) = true := decide_eq_true (by have := (HM.out.2.1 q).2 hlt; have := HQ.out; omega)
        have l1 : q < 512 := by omega
        go_wp2_with fail
        refine (HT.out wr q l1).mono ?_
        rintro e y1 ⟨rfl, hb⟩
        have hB := hB.trans (hb.mono hB.size)
        clear hb d1
        cases ht : tk l q
        · have HC2 : Hid ((freeL l (q + 1)).length = c + 1) := Lib.hid (by rw [free_succ l1, ht, if_neg (by simp), List.length_append, HC.out]; rfl)
          clear ht
          go_wp2
          go_roundw
          case rel => exact ⟨q + 1, c + 1, by omega, by omega, by go_num, by go_num, HC2, hB⟩
          case measure => simp [intOf]; omega
        · have HC2 : Hid ((freeL l (q + 1)).length = c) := Lib.hid (by rw [free_succ l1, ht, if_pos rfl, HC.out])
          clear ht
          go_wp2
          go_roundw
          case rel => exact ⟨q + 1, c, by omega, by omega, rfl, by go_num, HC2, hB⟩
          case measure => simp [intOf]; omega
      · obtain rfl : q = m := by omega
        have d1 : decide ((q : Int) < n) = false := decide_eq_false (fun h => hlt ((HM.out.2.1 q).1 (by have := HQ.out; omega)))
        clear hlt
        go_wp2
        go_ret
        exact ⟨by rw [HC.out]; rfl, hB⟩
set_option maxRecDepth 20000 in
set_option maxHeartbeats 2000000 in
theorem pick_any {n m : Int} (w : World) (hs : s.size ≤ 300) (h0 : -9223372036854775808 ≤ n) (h1 : n ≤ 9223372036854775807) (h2 : -9223372036854775808 ≤ m) (h3 : m ≤ 1000) :
    Calls Try.prog 8 #[.string s, .int .i64 n, .int .i64 m] w (PickPost (pickL s.data.toList n.toNat m.toNat) w) := by
  obtain ⟨i0, hi, hz0, hz1, hz2⟩ := info_partsN infoI
  obtain ⟨t, ht⟩ : ∃ t, min n.toNat 512 = t := ⟨_, rfl⟩
  obtain ⟨k, hk⟩ : ∃ k, m.toNat = k := ⟨_, rfl⟩
  obtain ⟨all, hall⟩ : ∃ all, (freeL s.data.toList t).length = all := ⟨_, rfl⟩
  have he : freeL s.data.toList n.toNat = freeL s.data.toList t := by unfold freeL; rw [ht, show min t 512 = t by omega]
  have h9 : all ≤ 512 := by
    rw [← hall]
    unfold freeL
    have := List.length_filter_le (fun i => !tk s.data.toList i) (List.range (min t 512))
    rw [List.length_range] at this
    omega
  have HM := Lib.hid (show t ≤ 512 ∧ (∀ c : Nat, (c : Int) < m ↔ c < k) ∧ pickL s.data.toList n.toNat k = pickL s.data.toList t k ∧ (freeL s.data.toList t).length = all ∧ ((all : Int) < m ↔ all < k) ∧ all ≤ 512 from ⟨by omega, fun c => by omega, by unfold pickL; rw [he], hall, by omega, h9⟩)
  rw [hk, HM.out.2.2.1]
  have HF := Lib.hid (free_any (s := s) (n := n) w hs h0 h1)
  rw [he, hall] at HF
  have HT : Hid (∀ (W : World) (i : Nat), i < 512 → Calls Try.prog 10 #[.string s, .int .i64 i] W fun e w' => e = .returned (.bool (tk s.data.toList i)) ∧ Below W.heap.size W w') := Lib.hid (fun W i hi => by
    rw [← tkI_nat]; exact taken_any W hs (by omega) (by omega))
  clear ht hs hk hall he h9
  generalize s.data.toList = l at HM HT ⊢
  obtain ⟨P, hP⟩ : ∃ P, PickPost (pickL l t k) w = P := ⟨_, rfl⟩
  rw [hP]
  have HPP := Lib.hid hP
  clear hP
  by_cases hno : (all : Int) < m
  · have hnone : pickL l t k = none := by unfold pickL; rw [HM.out.2.2.2.1, if_neg (by have := HM.out.2.2.2.2.1.1 hno; omega)]
    have HN := Lib.hid hnone
    clear hnone
    go_enter Try.func8, Try.ntmps8
    go_wp2_with fail
    refine HF.out.mono ?_
    rintro e y1 ⟨rfl, hB⟩
    have HB := Lib.hid hB
    clear hB
    go_wp2_with fail
    rw [← HPP.out, HN.out]
    exact ⟨none, 0, 0, rfl, rfl, Nat.le_refl _, Li.HasL.nil _ _ _, HB.out⟩
  · have hka : k ≤ all := by have h := HM.out.2.2.2.2.1; omega
    go_enter Try.func8, Try.ntmps8
    go_wp2_with fail
    refine HF.out.mono ?_
    rintro e y0 ⟨rfl, hB0⟩
    go_wp2_with fail
    obtain ⟨base, hbase⟩ : ∃ b, w.heap.size = b := ⟨_, rfl⟩
    have HBs := Lib.hid hbase
    have hB0' : Below base w y0 := hbase ▸ hB0
    have HB0 := Lib.hid hB0'
    clear hbase hB0 hB0'
    go_loopw [8, 9] (fun a i wr => ∃ (q c : Nat) (sv : Value), q ≤ t ∧ c ≤ q ∧ c ≤ k ∧ a = sv ∧ i = .int .i64 q ∧ Hid ((freeL l q).length = c) ∧ wr.ownsRow base 3 1 sv c (Li.cellsL cellsN (freeL l q)) ∧ Below base w wr) (fun _ i _ => t - (intOf i).toNat)
    case atStart => exact ⟨0, 0, _, by omega, by omega, by omega, rfl, rfl, Lib.hid rfl, World.ownsRow_nil _ _ _ _, HB0.out⟩
    case round =>
      obtain ⟨q, c, sv, hq, hcq, hck, rfl, rfl, HC, hown, hB⟩ := hrel
      have hm5 := HM.out.1
      obtain ⟨A, cp, rfl, hcp⟩ : ∃ A cp, u8 = .slice A c cp ∧ c ≤ cp := by
        obtain ⟨A, c', e, h1, _⟩ := Li.list_of_own cellsN_len hown HC.out
        exact ⟨A, c', e, h1⟩
      by_cases hlt : c < k
      · have hc := (HM.out.2.1 c).2 hlt
        have hqt : q < t := by
          have hl := HM.out.2.2.2.1
          by_cases h : q < t
          · exact h
          · obtain rfl : q = t := by omega
            rw [HC.out] at hl
            omega
        have d3 : decide ((c : Int) < m) = true := decide_eq_true hc
        have l1 : q < 512 := by omega
        clear hc
        go_wp2_with fail
        refine (HT.out wr q l1).mono ?_
        rintro e y1 ⟨rfl, hb⟩
        have hown := Li.own_below hown hb (Nat.le_refl _)
        have hB := hB.trans (hb.mono (HBs.out ▸ hB.size))
        clear hb d3
        have HB := Lib.hid (And.intro True.intro (And.intro hown hB))
        cases ht : tk l q
        · have HC2 : Hid (freeL l (q + 1) = freeL l q ++ [q] ∧ (freeL l (q + 1)).length = c + 1) := Lib.hid ⟨by rw [free_succ l1, ht, if_neg (by simp)], by rw [free_succ l1, ht, if_neg (by simp), List.length_append, HC.out]; rfl⟩
          have HW := Lib.hid (And.intro (hown.alloc (.cells #[.int .i64 q] 3)) (And.intro (hB.alloc (HBs.out ▸ hB.size) (.cells #[.int .i64 q] 3)) (heap_alloc_new y1 (.cells #[.int .i64 q] 3))))
          have hlt' := Lib.hid (And.intro hlt hqt)
          clear ht hown hB hlt HB hqt
          go_wp2_with (at_builtin; go_must (refine wpList_append_own _ rfl _ _ 24 rfl base 3 i0 (.int .i64 0) 1 8 Try.underlying24 hi hz0 hz1 hz2 rfl (by decide) (.slice A c cp) c (Li.cellsL cellsN (freeL l q)) rfl HW.out.1 ⟨y1.heap.size, 0, none⟩ 1 1 [.int .i64 q] rfl rfl (World.news_of_block HW.out.2.2) (by simp [Value.oneCell']) (by unfold maxLen; omega) (by omega) (HBs.out ▸ HW.out.2.1.size) ?_))
          intro v5 w5 hown5 hgrow5 _
          have hB5 := HW.out.2.1.grown hgrow5 (HBs.out ▸ HW.out.2.1.size) (fun k hk => (HW.out.1.lt k hk).1)
          clear hgrow5 HW
          go_wp2
          go_roundw
          case rel =>
            refine ⟨q + 1, c + 1, _, by have := hlt'.out; omega, by omega, by have := hlt'.out; omega, rfl, by go_num, Lib.hid HC2.out.2, ?_, hB5⟩
            rw [HC2.out.1, Li.cellsL_snoc]
            exact hown5
          case measure => have := hlt'.out; simp [intOf]; omega
        · have HC2 : Hid (freeL l (q + 1) = freeL l q) := Lib.hid (by rw [free_succ l1, ht, if_pos rfl])
          have hlt' := Lib.hid (And.intro hlt hqt)
          clear ht hlt hqt
          go_wp2
          go_roundw
          case rel => exact ⟨q + 1, c, _, by have := hlt'.out; omega, by omega, hck, rfl, by go_num, Lib.hid (by rw [HC2.out]; exact HC.out), by rw [HC2.out]; exact HB.out.2.1, HB.out.2.2⟩
          case measure => have := hlt'.out; simp [intOf]; omega
      · have d3 : decide ((c : Int) < m) = false := decide_eq_false (fun h => hlt ((HM.out.2.1 c).1 h))
        obtain rfl : c = k := by omega
        have HR : Hid (pickL l t c = some (freeL l q)) := Lib.hid (by
          have hsp := free_split (l := l) (p := t) (q := q) (by omega)
          unfold pickL
          rw [hsp, if_pos (by rw [List.length_append, HC.out]; omega), List.take_left' HC.out])
        obtain ⟨A3, c3, e3, hc3, hl3⟩ := Li.list_of_own cellsN_len hown HC.out
        have HL3 := Lib.hid (And.intro (hl3.lower (Nat.zero_le _)) (HBs.out ▸ hB))
        injection e3 with e3 _ e4
        subst e3 e4
        clear hlt hl3 hown hB
        go_wp2_with fail
        rw [← HPP.out, HR.out]
        exact ⟨A, c, cp, rfl, HC.out, hcp, HL3.out.1, HL3.out.2⟩
end
end Go.Proofs.Ytbeojghlldiniaa.Pl
