/- The document's own Box and Text, walked. -/
import Derived.Test.YtmjlfhfadmndhaaPacG
namespace Go.Proofs.Ytmjlfhfadmndhaa.Pac
open Go.RowKit

theorem refZig_neg (n : Int) (h0 : -9223372036854775808 ≤ n) (h1 : n < 0) :
    bits .xor .u64 IntKind.u64.max (IntKind.u64.wrap (IntKind.u64.wrap n * 2)) = (zig n : Int) := by
  have e1 : IntKind.u64.wrap (IntKind.u64.wrap n * 2) = ((2 * n + 18446744073709551616).toNat : Int) := by rw [wrapU, wrapU]; omega
  rw [e1, notU _ (by omega)]
  unfold zig
  rw [if_neg (by omega)]
  omega
set_option maxRecDepth 20000 in
set_option maxHeartbeats 400000 in
theorem refNum_any (n : Int) (w : World) (h0 : -9223372036854775808 ≤ n) (h1 : n ≤ 9223372036854775807) :
    Calls Try.prog 40 #[.int .i64 n] w fun e w' => e = .returned (.string (encB (zig n))) ∧ Below w.heap.size w w' := by
  have hz := zig_lt n h0 h1
  obtain ⟨z, hzz⟩ : ∃ z : Nat, zig n = z := ⟨_, rfl⟩
  have hr : Calls Try.prog 40 #[.int .i64 n] w fun e w' => e = .returned (.string (encB z)) ∧ Below w.heap.size w w' := by
    rw [hzz] at hz
    go_enter Try.func40, Try.ntmps40
    have hk : (if n < 0 then bits .xor .u64 IntKind.u64.max (IntKind.u64.wrap (IntKind.u64.wrap n * 2)) else n * 2) = (z : Int) := by
      split
      · rename_i h; rw [refZig_neg n h0 h, hzz]
      · rw [← hzz, zig_pos n (by omega)]
    clear hzz
    by_cases hn : n < 0
    all_goals
      simp only [hn, if_true, if_false] at hk
      have HK := Lib.hid hk
      clear hk
      go_wp2
      rw [HK.out]
      go_loopw [3, 4] (fun v x wr => ∃ (p : List UInt8) (f u : Nat) (s : ByteArray), v = .int .u64 u ∧ x = .string s ∧ s.size ≤ 9 ∧ p.length + f = 9 ∧ u < 18446744073709551616 ∧ Hid (s = ⟨p.toArray⟩ ∧ u < 128 ^ (f + 1) ∧ enc z = p ++ encF (f + 1) u) ∧ Below w.heap.size w wr)
        (fun v _ _ => (intOf v).toNat)
      case atStart => exact ⟨[], 9, z, ⟨#[]⟩, rfl, rfl, by decide, rfl, hz, Lib.hid ⟨rfl, lt_pow10 hz, rfl⟩, Below.refl _ _⟩
      case round =>
        obtain ⟨p, f, u, s, rfl, rfl, hs, hpf, hu, hH, hB⟩ := hrel
        have hbs := hB.size
        by_cases hlt : 128 ≤ u
        · have e1 := orMore u
          generalize hc : UInt8.ofNat (u % 128 + 128) = c at e1
          have HC := Lib.hid hc
          clear hc
          have e2 := oneByte wr c
          go_wp2
          go_roundw
          case rel =>
            cases f with
            | zero => exact absurd hH.out.2.1 (by omega)
            | succ f =>
              have hs2 : (s ++ (⟨#[c]⟩ : ByteArray)) = ⟨(p ++ [c]).toArray⟩ := by
                rw [hH.out.1]
                apply ByteArray.ext
                rw [ByteArray.data_append]
                simp
              refine ⟨p ++ [c], f, u / 128, s ++ (⟨#[c]⟩ : ByteArray), by go_num, rfl, ?_, by simp; omega, by omega, Lib.hid ⟨hs2, ?_, ?_⟩, hB.alloc (by omega) _⟩
              · rw [hs2]
                show (p ++ [c]).toArray.size ≤ 9
                simp
                omega
              · have := hH.out.2.1
                rw [Nat.pow_succ] at this
                exact Nat.div_lt_of_lt_mul (by omega)
              · rw [hH.out.2.2, ← HC.out, List.append_assoc]
                congr 1
                rw [encF, if_neg (by omega)]
                rfl
          case measure => simp [intOf]; omega
        · have HC : Hid ((u : Int) = ((UInt8.ofNat u).toNat : Int)) := Lib.hid (by rw [ofNat_toNat _ (by omega)])
          generalize hc : UInt8.ofNat u = c at HC
          have HD := Lib.hid hc
          clear hc
          have e2 := oneByte wr c
          rw [← HC.out] at e2
          go_wp2
          go_ret
          refine ⟨?_, hB.alloc (by omega) _⟩
          unfold encB
          rw [hH.out.2.2, encF, if_pos (by omega), HD.out]
          have hs2 : (s ++ (⟨#[c]⟩ : ByteArray)) = ⟨(p ++ [c]).toArray⟩ := by
            rw [hH.out.1]
            apply ByteArray.ext
            rw [ByteArray.data_append]
            simp
          rw [← hs2]
          rfl
  rw [← hzz] at hr
  exact hr

set_option maxHeartbeats 400000 in
theorem refText_any (s : ByteArray) (w : World) (hs : s.size ≤ 2147483647) :
    Calls Try.prog 41 #[.string s] w fun e w' => e = .returned (.string (txtB s)) ∧ Below w.heap.size w w' := by
  have hz := encB_size (zig s.size)
  have hc := refNum_any s.size w (by omega) (by omega)
  have hT : txtB s = encB (zig s.size) ++ s := rfl
  generalize encB (zig s.size) = q at hz hc hT
  have HT := Lib.hid hT
  clear hT
  go_enter Try.func41, Try.ntmps41
  go_wp2_with fail
  refine hc.mono ?_
  rintro e w1 ⟨rfl, hw1⟩
  go_wp2
  go_ret
  rw [HT.out]
  exact ⟨rfl, hw1⟩

set_option maxHeartbeats 400000 in
theorem refNum_bad (g : Nat) (s : ByteArray) (w : World) (hb : IsBox w g s true) :
    Calls Try.prog 47 #[.pointer (some ⟨g, 0, none⟩)] w fun e w' => e = .returned (.int .i64 0) ∧ IsBox w' g s true ∧ Bar g w w' := by
  have c0 := hb.c0
  have c1 := hb.c1
  have f := hb.f
  go_enter Try.func47, Try.ntmps47
  go_wp2
  go_loopw [3, 4] (fun v i wr => v = .int .u64 0 ∧ i = .int .i64 0 ∧ wr = w) (fun _ _ _ => 0)
  case atStart => exact ⟨rfl, rfl, rfl⟩
  case round =>
    obtain ⟨rfl, rfl, rfl⟩ := hrel
    go_wp2
    go_ret
    exact ⟨rfl, hb.set1 _, (Bar.refl _ _).setCell 1 _⟩

theorem rdB_yes {s : ByteArray} {v k : Nat} (h : rdN s.data.toList = some (v, s.data.toList.drop (k + 1))) (hk : k < s.size) : rdB s = (unzig v, k + 1) := by
  unfold rdB
  rw [h]
  have : s.size - (List.drop (k + 1) s.data.toList).length = k + 1 := by
    rw [List.length_drop, Array.length_toList]
    show s.size - (s.size - (k + 1)) = k + 1
    omega
  simp only [this]
theorem rdB_no {s : ByteArray} (h : rdN s.data.toList = none) : rdB s = (0, 0) := by
  unfold rdB
  rw [h]
theorem bytesEq {a b : ByteArray} (h : a.data.toList = b.data.toList) : a = b := ByteArray.ext (Array.toList_inj.1 h)
theorem extract_all (s : ByteArray) : s.extract 0 s.size = s := by
  apply bytesEq
  rw [← ByteArray.toList_eq, Lib.extract_toList, List.drop_zero, Nat.sub_zero]
  exact List.take_of_length_le (by rw [Array.length_toList]; exact Nat.le_refl _)
theorem num_yes {s : ByteArray} {v k : Nat} (h : rdB s = (unzig v, k + 1)) : numR s false = unzig v ∧ numS s false = s.extract (k + 1) s.size ∧ numBad s false = false := by
  unfold numR numS numBad
  rw [h]
  refine ⟨rfl, rfl, ?_⟩
  simp only [Bool.false_eq_true, if_false]
  exact beq_eq_false_iff_ne.2 (by omega)
theorem num_no {s : ByteArray} (h : rdB s = (0, 0)) : numR s false = 0 ∧ numS s false = s ∧ numBad s false = true := by
  unfold numR numS numBad
  rw [h]
  exact ⟨rfl, extract_all s, rfl⟩
theorem orStep' (k u c : Nat) (hk : k ≤ 9) (hu : u < 128 ^ k) (hc : c < 256) :
    bits .or .u64 (u : Int) (IntKind.u64.wrap (IntKind.u64.wrap (bits .and .u8 (c : Int) 127) * 2 ^ (7 * k))) = (((u + c % 128 * 128 ^ k) % 18446744073709551616 : Nat) : Int) := by
  have e1 : bits .andNot .u8 (c : Int) 128 = ((c % 128 : Nat) : Int) := by
    rw [show (128 : Int) = ((128 : Nat) : Int) from rfl, u8_andNot_nat _ _ hc (by omega), nat_mask7]
  have e2 : bits .and .u8 (c : Int) 127 = ((c % 128 : Nat) : Int) := by
    rw [show (127 : Int) = ((127 : Nat) : Int) from rfl, u8_and_nat _ _ hc (by omega), nat_mask7]
  have h := orStep k u c hk hu hc
  rw [e1] at h
  rw [e2, Nat.mul_comm 7 k, h]
theorem par (v : Nat) (hv : v < 18446744073709551616) : (v % 2 = 0 ∧ (bits .and .u64 (v : Int) 1 == 1) = false ∧ (v : Int) / 2 = unzig v) ∨ (v % 2 = 1 ∧ (bits .and .u64 (v : Int) 1 == 1) = true ∧ bits .xor .i64 (-1) ((v : Int) / 2) = unzig v) := by
  have h : v % 2 = 0 ∨ v % 2 = 1 := by omega
  rcases h with h | h
  · refine Or.inl ⟨h, by rw [andOne v hv, h]; rfl, ?_⟩
    unfold unzig
    rw [if_pos h]
    omega
  · refine Or.inr ⟨h, by rw [andOne v hv, h]; rfl, ?_⟩
    unfold unzig
    rw [if_neg (by omega), show (v : Int) / 2 = ((v / 2 : Nat) : Int) by omega, notI _ (by omega)]

set_option maxRecDepth 20000 in
set_option maxHeartbeats 1600000 in
theorem refNum_good (g : Nat) (s : ByteArray) (w : World) (hb : IsBox w g s false) (hs : s.size ≤ 9223372036854775807) :
    Calls Try.prog 47 #[.pointer (some ⟨g, 0, none⟩)] w fun e w' => e = .returned (.int .i64 (numR s false)) ∧ IsBox w' g (numS s false) (numBad s false) ∧ Bar g w w' := by
  have c0 := hb.c0
  have c1 := hb.c1
  have f := hb.f
  go_enter Try.func47, Try.ntmps47
  go_wp2
  go_loopw [3, 4, 5, 6] (fun v i _ _ wr => ∃ (k u : Nat), v = .int .u64 u ∧ i = .int .i64 k ∧ k ≤ s.size ∧ k ≤ 10 ∧ u < 18446744073709551616 ∧
        Hid (u = val (s.data.toList.take k) % 18446744073709551616 ∧ ∀ x ∈ s.data.toList.take k, 128 ≤ x.toNat) ∧ wr = w)
      (fun _ i _ _ _ => 10 - (intOf i).toNat)
  case atStart => exact ⟨0, 0, rfl, rfl, by omega, by omega, by omega, Lib.hid ⟨rfl, by simp⟩, rfl⟩
  case round =>
    obtain ⟨k, u, rfl, rfl, hk, hk2, hu, hH, rfl⟩ := hrel
    by_cases hlt : k < s.size ∧ k < 10
    · obtain ⟨hks, hlt⟩ := hlt
      have hkl : s.data.toList.take (k + 1) = s.data.toList.take k ++ [s[k]] := by
        rw [List.take_succ_eq_append_getElem (by simpa using hks)]; rfl
      have hkn : (s.data.toList.take k).length = k := by rw [List.length_take]; show min k s.data.toList.length = k; rw [Array.length_toList]; show min k s.size = k; omega
      have hv := val_lt (s.data.toList.take k)
      rw [hkn] at hv
      have hp : 128 ^ k ≤ 128 ^ 9 := Nat.pow_le_pow_right (by omega) (by omega)
      rw [show (128 : Nat) ^ 9 = 9223372036854775808 by decide] at hp
      have hu2 : u = val (s.data.toList.take k) := by rw [hH.out.1]; omega
      have e1 := orStep' k u s[k].toNat (by omega) (by rw [hu2]; exact hv) s[k].toNat_lt
      have hv2 : (u + s[k].toNat % 128 * 128 ^ k) % 18446744073709551616 = val (s.data.toList.take (k + 1)) % 18446744073709551616 := by
        rw [hkl, val_snoc, hkn, hu2]
      generalize hv3 : (u + s[k].toNat % 128 * 128 ^ k) % 18446744073709551616 = v at e1 hv2
      have hvv : v < 18446744073709551616 := by omega
      have HKL := Lib.hid hkl
      have HKN := Lib.hid hkn
      have HV2 := Lib.hid hv2
      clear hv3 hkl hv hp hu2 hv2 hkn
      have i1 : (k : Int) + 1 ≤ (s.size : Int) := by omega
      have i2 : (0 : Int) ≤ (k : Int) + 1 := by omega
      have i3 : ((k : Int) + 1).toNat = k + 1 := by omega
      have i4 : (k : Int) < 10 := by omega
      by_cases hb8 : s[k].toNat < 128
      · have hr := unzig_range v hvv
        have cd : wr.drew.cell? ⟨g, 0, none⟩ = some (.string s) := hb.drew.c0
        have CD := Lib.hid cd
        clear cd
        rcases par v hvv with ⟨_, eP, eN⟩ | ⟨_, eP, eN⟩
        all_goals
          have EN := Lib.hid eN
          clear eN
          by_cases heq : enc v = s.data.toList.take (k + 1)
          · have e2 : ((encB (zig (unzig v))).toList == (s.extract 0 (k + 1)).toList) = true := by
              rw [zig_unzig, Lib.extract_toList, ByteArray.toList_eq]
              unfold encB
              simp [heq]
            have HE := Lib.hid heq
            clear heq
            go_wp2
            rw [EN.out]
            go_region_held3 (fun w' => w'.cell? ⟨g, 0, none⟩ = some (.string s)) (first | (with_reducible exact hk6) | (with_reducible exact CD.out)) (first | (go_at_call 40; refine (refNum_any _ _ hr.1 hr.2).mono ?_; rintro e w6 ⟨rfl, hb6⟩; have hk6 := (hb.drew.below hb6 hb.drew.lt).c0))
            have hb7 := hb.drew.below hb6 hb.drew.lt
            have hB7 : Bar g wr w6 := (Bar.refl g wr).drew.trans (Bar.of_below g hb6 (Nat.le_refl _))
            have f6 := hb7.f
            have HN := Lib.hid (num_yes (rdB_yes (rdN_yes hvv HE.out) hks))
            go_wp2
            go_ret
            rw [HN.out.1, HN.out.2.1, HN.out.2.2]
            exact ⟨rfl, hb7.set0 _, hB7.setCell 0 _⟩
          · have e2 : ((encB (zig (unzig v))).toList == (s.extract 0 (k + 1)).toList) = false := by
              rw [zig_unzig, Lib.extract_toList, ByteArray.toList_eq]
              unfold encB
              simpa using heq
            have HE := Lib.hid heq
            clear heq
            go_wp2
            rw [EN.out]
            go_region_held3 (fun w' => w'.cell? ⟨g, 0, none⟩ = some (.string s)) (first | (with_reducible exact hk6) | (with_reducible exact CD.out)) (first | (go_at_call 40; refine (refNum_any _ _ hr.1 hr.2).mono ?_; rintro e w6 ⟨rfl, hb6⟩; have hk6 := (hb.drew.below hb6 hb.drew.lt).c0))
            have hb7 := hb.drew.below hb6 hb.drew.lt
            have hB7 : Bar g wr w6 := (Bar.refl g wr).drew.trans (Bar.of_below g hb6 (Nat.le_refl _))
            have f6 := hb7.f
            have c6 := hb7.c1
            have HN := Lib.hid (num_no (rdB_no (rdN_no HKL.out hH.out.2 hb8 HV2.out HE.out)))
            go_wp2
            go_ret
            rw [HN.out.1, HN.out.2.1, HN.out.2.2]
            exact ⟨rfl, hb7.set1 _, hB7.setCell 1 _⟩
      · go_wp2
        go_roundw
        case rel =>
          refine ⟨k + 1, v, rfl, by go_num, by omega, by omega, hvv, Lib.hid ⟨HV2.out, ?_⟩, trivial⟩
          intro x hx
          rw [HKL.out] at hx
          rcases List.mem_append.1 hx with h | h
          · exact hH.out.2 x h
          · simp at h; subst h; omega
        case measure => simp [intOf]; omega
    · have hy : rdN s.data.toList = none := rdN_end (fun x hx => hH.out.2 x (by
          rcases Nat.lt_or_ge s.size 10 with h | h
          · rw [List.take_of_length_le (by rw [Array.length_toList]; show s.size ≤ k; omega)]
            exact List.mem_of_mem_take hx
          · rw [show k = 10 by omega]
            exact hx))
      have HN := Lib.hid (num_no (rdB_no hy))
      clear hy
      by_cases h1 : k < s.size
      all_goals
        go_wp2
        go_ret
        rw [HN.out.1, HN.out.2.1, HN.out.2.2]
        exact ⟨rfl, hb.set1 _, (Bar.refl _ _).setCell 1 _⟩

theorem refBoxNum_any (g : Nat) (s : ByteArray) (bad : Bool) (w : World) (hb : IsBox w g s bad) (hs : s.size ≤ 9223372036854775807) :
    Calls Try.prog 47 #[.pointer (some ⟨g, 0, none⟩)] w fun e w' => e = .returned (.int .i64 (numR s bad)) ∧ IsBox w' g (numS s bad) (numBad s bad) ∧ Bar g w w' := by
  cases bad with
  | true => exact refNum_bad g s w hb
  | false => exact refNum_good g s w hb hs

set_option maxHeartbeats 400000 in
theorem refBetween_any (g : Nat) (s : ByteArray) (bad : Bool) (lo hi : Int) (w : World) (hb : IsBox w g s bad) (hs : s.size ≤ 9223372036854775807) :
    Calls Try.prog 34 #[.pointer (some ⟨g, 0, none⟩), .int .i64 lo, .int .i64 hi] w fun e w' => e = .returned (.int .i64 (btwR s bad lo hi)) ∧ IsBox w' g (numS s bad) (btwBad s bad lo hi) ∧ Bar g w w' := by
  have hc := refBoxNum_any g s bad w hb hs
  have hR : btwR s bad lo hi = if btwBad s bad lo hi then 0 else numR s bad := rfl
  have hB : btwBad s bad lo hi = (numBad s bad || decide (numR s bad < lo) || decide (hi < numR s bad)) := rfl
  generalize numR s bad = n at hR hB hc
  generalize numS s bad = s1 at hc ⊢
  generalize numBad s bad = d at hB hc
  generalize btwR s bad lo hi = r at hR ⊢
  generalize btwBad s bad lo hi = z at hR hB ⊢
  have HR := Lib.hid hR
  have HB := Lib.hid hB
  clear hR hB
  go_enter Try.func34, Try.ntmps34
  go_wp2_with fail
  refine hc.mono ?_
  rintro e w1 ⟨rfl, hb1, hw1⟩
  have c1 := hb1.c1
  have f := hb1.f
  cases d with
  | true =>
    have HZ : Hid (z = true ∧ r = 0) := Lib.hid (by have h1 := HB.out; have h2 := HR.out; simp at h1; subst h1; exact ⟨rfl, h2⟩)
    go_wp2
    go_ret
    rw [HZ.out.1, HZ.out.2]
    exact ⟨rfl, hb1.set1 _, hw1.setCell 1 _⟩
  | false =>
    by_cases h1 : n < lo
    · have HZ : Hid (z = true ∧ r = 0) := Lib.hid (by have h3 := HB.out; have h2 := HR.out; simp [h1] at h3; subst h3; exact ⟨rfl, h2⟩)
      go_wp2
      go_ret
      rw [HZ.out.1, HZ.out.2]
      exact ⟨rfl, hb1.set1 _, hw1.setCell 1 _⟩
    · by_cases h4 : hi < n
      · have HZ : Hid (z = true ∧ r = 0) := Lib.hid (by have h3 := HB.out; have h2 := HR.out; simp [h1, h4] at h3; subst h3; exact ⟨rfl, h2⟩)
        go_wp2
        go_ret
        rw [HZ.out.1, HZ.out.2]
        exact ⟨rfl, hb1.set1 _, hw1.setCell 1 _⟩
      · have HZ : Hid (z = false ∧ r = n) := Lib.hid (by have h3 := HB.out; have h2 := HR.out; simp [h1, h4] at h3; subst h3; exact ⟨rfl, h2⟩)
        go_wp2
        go_ret
        rw [HZ.out.1, HZ.out.2]
        exact ⟨rfl, hb1, hw1⟩

set_option maxHeartbeats 400000 in
theorem refBoxText_any (g : Nat) (s : ByteArray) (bad : Bool) (most : Int) (w : World) (hb : IsBox w g s bad) (hs : s.size ≤ 9223372036854775807) :
    Calls Try.prog 35 #[.pointer (some ⟨g, 0, none⟩), .int .i64 most] w fun e w' => e = .returned (.string (txtR s bad most)) ∧ IsBox w' g (txtS s bad most) (txtBad s bad most) ∧ Bar g w w' := by
  have hc := refBetween_any g s bad 0 most w hb hs
  have hR : txtR s bad most = if txtBad s bad most then ⟨#[]⟩ else (numS s bad).extract 0 (btwR s bad 0 most).toNat := rfl
  have hS : txtS s bad most = if txtBad s bad most then numS s bad else (numS s bad).extract (btwR s bad 0 most).toNat (numS s bad).size := rfl
  have hB : txtBad s bad most = (btwBad s bad 0 most || decide (((numS s bad).size : Int) < btwR s bad 0 most)) := rfl
  have hp := btwR_pos s bad 0 most (Int.le_refl _)
  have hsz := numS_size s bad
  generalize btwR s bad 0 most = n at hR hB hS hc hp
  generalize numS s bad = s1 at hR hS hB hc hsz
  generalize btwBad s bad 0 most = d at hB hc
  generalize txtR s bad most = r at hR ⊢
  generalize txtS s bad most = s2 at hS ⊢
  generalize txtBad s bad most = z at hR hB hS ⊢
  have HR := Lib.hid hR
  have HB := Lib.hid hB
  have HS := Lib.hid hS
  clear hR hB hS
  obtain ⟨k, rfl⟩ := Int.eq_ofNat_of_zero_le hp
  go_enter Try.func35, Try.ntmps35
  go_wp2_with fail
  refine hc.mono ?_
  rintro e w1 ⟨rfl, hb1, hw1⟩
  have c0 := hb1.c0
  have c1 := hb1.c1
  have f := hb1.f
  cases d with
  | true =>
    have HZ : Hid (z = true ∧ r = ⟨#[]⟩ ∧ s2 = s1) := Lib.hid (by have h1 := HB.out; have h2 := HR.out; have h3 := HS.out; simp at h1; subst h1; exact ⟨rfl, h2, h3⟩)
    go_wp2
    go_ret
    rw [HZ.out.1, HZ.out.2.1, HZ.out.2.2]
    exact ⟨rfl, hb1.set1 _, hw1.setCell 1 _⟩
  | false =>
    by_cases h1 : (s1.size : Int) < (k : Int)
    · have HZ : Hid (z = true ∧ r = ⟨#[]⟩ ∧ s2 = s1) := Lib.hid (by have h3 := HB.out; have h2 := HR.out; have h4 := HS.out; simp [h1] at h3; subst h3; exact ⟨rfl, h2, h4⟩)
      go_wp2
      go_ret
      rw [HZ.out.1, HZ.out.2.1, HZ.out.2.2]
      exact ⟨rfl, hb1.set1 _, hw1.setCell 1 _⟩
    · have HZ : Hid (z = false ∧ r = s1.extract 0 k ∧ s2 = s1.extract k s1.size) := Lib.hid (by
        have h3 := HB.out; have h2 := HR.out; have h4 := HS.out
        simp [h1] at h3
        subst h3
        exact ⟨rfl, h2, h4⟩)
      have i1 : (k : Int) ≤ (s1.size : Int) := by omega
      go_wp2
      go_ret
      rw [HZ.out.1, HZ.out.2.1, HZ.out.2.2]
      exact ⟨rfl, hb1.set0 _, hw1.setCell 0 _⟩
end Go.Proofs.Ytmjlfhfadmndhaa.Pac
