/- A group's small calls: the program's, walked. -/
import Derived.Test.YtabgbhilbnchnaaMiH
import Derived.Test.YtabgbhilbnchnaaMiQ
import Derived.Test.YtabgbhilbnchnaaVaB
namespace Go.Proofs.Ytabgbhilbnchnaa.Mi
open Go.RowKit Pac Va Sc Ro Lex Go.Proofs.Ytabgbhilbnchnaa.Or

/-- May a value stand in a column of that kind? -/
def fitM (k : Int) (v : V) : Bool := rightV v && (v.k == 0 || v.k == k)
set_option maxRecDepth 20000 in
set_option maxHeartbeats 1600000 in
theorem fits_any (k : Int) (v : V) (w : World) : Calls Try.prog 29 #[.int .i64 k, v.v] w fun e w' => e = .returned (.bool (fitM k v)) ∧ Below w.heap.size w w' := by
  obtain ⟨vk, vn, vs⟩ := v
  have hR : fitM k ⟨vk, vn, vs⟩ = (rightV ⟨vk, vn, vs⟩ && (vk == 0 || vk == k)) := rfl
  generalize fitM k ⟨vk, vn, vs⟩ = r at hR ⊢
  have hx := Sc.Box3.new w (.int .i64 vk) (.int .i64 vn) (.string vs) 36
  have hnew := (Below.refl w.heap.size w).alloc (Nat.le_refl _) (.cells #[.int .i64 vk, .int .i64 vn, .string vs] 36)
  show Calls Try.prog 29 #[.int .i64 k, .agg #[.int .i64 vk, .int .i64 vn, .string vs]] w _
  generalize hw1 : w.alloc (.cells #[.int .i64 vk, .int .i64 vn, .string vs] 36) = w1 at hx hnew
  have hc := Va.right_any ⟨vk, vn, vs⟩ w1
  generalize rightV ⟨vk, vn, vs⟩ = rr at hR hc
  have c0 := hx.c0
  have c1 := hx.c1
  have c2 := hx.c2
  go_enter Try.func29, Try.ntmps29
  go_wp2_with fail
  clear hw1 c0 c1 c2
  refine hc.mono ?_
  rintro e w2 ⟨rfl, hy⟩
  have c0 := (hx.below hy hx.lt).c0
  have HB := Lib.hid (hnew.trans (hy.mono hnew.size))
  clear hc hx hnew hy
  cases rr with
  | false =>
    have HR : Hid (r = false) := Lib.hid hR
    clear hR
    go_wp2
    go_ret
    exact ⟨by rw [HR.out]; rfl, HB.out⟩
  | true =>
    by_cases h0 : vk = 0
    · subst h0
      have HR : Hid (r = true) := Lib.hid hR
      clear hR
      go_wp2
      go_ret
      exact ⟨by rw [HR.out]; rfl, HB.out⟩
    · have e0 : (vk == 0) = false := beq_eq_false_iff_ne.2 h0
      by_cases h1 : vk = k
      · subst h1
        have HR : Hid (r = true) := Lib.hid (by rw [hR, e0]; simp)
        clear hR
        go_wp2
        go_ret
        exact ⟨by rw [HR.out]; rfl, HB.out⟩
      · have e1 : (vk == k) = false := beq_eq_false_iff_ne.2 h1
        have HR : Hid (r = false) := Lib.hid (by rw [hR, e0, e1]; rfl)
        clear hR
        go_wp2
        go_ret
        exact ⟨by rw [HR.out]; rfl, HB.out⟩

set_option maxRecDepth 20000 in
theorem width_any (k : Int) (w : World) (hk : k = 1 ∨ k = 2 ∨ k = 3) : Calls Try.prog 27 #[.int .i64 k] w fun e w' => e = .returned (.int .i64 (oneW k : Nat)) ∧ w' = w := by
  rcases hk with rfl | rfl | rfl
  all_goals
    go_enter Try.func27, Try.ntmps27
    go_wp2
    go_ret
    exact ⟨rfl, rfl⟩

set_option maxRecDepth 20000 in
theorem marks_any (A : Option Addr) (K c : Nat) (w : World) (hK : K ≤ 1000000) : Calls Try.prog 21 #[.slice A K c] w fun e w' => e = .returned (.int .i64 (K : Nat)) ∧ w' = w := by
  have eK : (8 * (K : Int) + 8 - 1) / 8 = (K : Int) := by omega
  go_enter Try.func21, Try.ntmps21
  go_wp2
  go_ret
  refine ⟨?_, rfl⟩
  show Ending.returned (.int .i64 ((8 * (K : Int) + 8 - 1) / 8)) = _
  rw [eK]

set_option maxRecDepth 20000 in
set_option maxHeartbeats 1600000 in
theorem fixed_any (A : Option Addr) (c lo : Nat) (ks : List Int) (w : World) (h : HasI w lo A ks) (hk : ∀ k ∈ ks, k = 1 ∨ k = 2 ∨ k = 3) (h8 : ks.length ≤ 8) : Calls Try.prog 25 #[.slice A ks.length c] w fun e w' => e = .returned (.int .i64 ((8 * wide ks : Nat) : Int)) ∧ w' = w := by
  obtain ⟨ans, hans⟩ : ∃ a, 8 * wide ks = a := ⟨_, rfl⟩
  rw [hans]
  obtain ⟨K, hK⟩ : ∃ m, ks.length = m := ⟨_, rfl⟩
  rw [hK] at h8 ⊢
  have HI := Lib.hid h
  have HK := Lib.hid (And.intro hK (And.intro hk hans))
  clear h hK hk hans
  go_enter Try.func25, Try.ntmps25
  go_wp2
  go_loopw [3, 8] (fun x i wr => ∃ (t u : Nat), t ≤ K ∧ i = .int .i64 t ∧ x = .int .i64 u ∧ u ≤ 64 * t ∧ Hid (u = 8 * wide (ks.take t)) ∧ w = wr) (fun _ i _ => K - (intOf i).toNat)
  case atStart => exact ⟨0, 0, Nat.zero_le _, rfl, rfl, by omega, Lib.hid (by simp [wide]), rfl⟩
  case round =>
    obtain ⟨t, u, ht, rfl, rfl, hu, hU, rfl⟩ := hrel
    by_cases hlt : t < K
    · have i1 : (t : Int) < (K : Int) := by omega
      have i0 : (0 : Int) ≤ (t : Int) := by omega
      have hkt : ks[t]? = some (ks[t]'(by rw [HK.out.1]; exact hlt)) := List.getElem?_eq_getElem _
      generalize (ks[t]'(by rw [HK.out.1]; exact hlt)) = kk at hkt
      obtain ⟨b3, o3, rfl, _, hlb3, f1⟩ := HI.out.at hkt
      have HU : Hid (u + 8 * oneW kk = 8 * wide (ks.take (t + 1))) := Lib.hid (by
        rw [List.take_add_one, hkt, wide_app, hU.out]
        show 8 * wide (ks.take t) + 8 * oneW kk = 8 * (wide (ks.take t) + (oneW kk + 0))
        omega)
      have hw8 : oneW kk ≤ 8 := by unfold oneW; split <;> (try split) <;> omega
      have hc := width_any kk w (HK.out.2.1 kk (List.mem_of_getElem? hkt))
      generalize oneW kk = z at HU hw8 hc
      clear hkt
      go_wp2_with fail
      refine hc.mono ?_
      rintro e w3 ⟨rfl, rfl⟩
      clear hc f1
      go_wp2
      go_roundw
      case rel => exact ⟨t + 1, u + 8 * z, by omega, by go_num, by go_num, by omega, HU, by trivial⟩
      case measure => simp [intOf]; omega
    · obtain rfl : t = K := by omega
      have HW : Hid (u = ans) := Lib.hid (by rw [hU.out, List.take_of_length_le (by rw [HK.out.1]; exact Nat.le_refl _)]; exact HK.out.2.2)
      go_wp2
      go_ret
      exact ⟨by rw [HW.out]; rfl, rfl⟩

/-- A number's bytes, the lowest q of them laid. -/
def pnum (u q : Nat) : List UInt8 := List.replicate (8 - q) 0 ++ (be 8 u).drop (8 - q)
theorem pnum_len (u : Nat) {q : Nat} (h : q ≤ 8) : (pnum u q).length = 8 := by
  unfold pnum
  rw [List.length_append, List.length_replicate, List.length_drop, be_len]
  omega
theorem pnum_all (u : Nat) : pnum u 8 = be 8 u := by unfold pnum; simp
theorem pnum_step {u q r : Nat} (hu : u < 18446744073709551616) (hq : q < 8) (hr : r = u / 2 ^ (8 * q)) : (pnum u q).set (7 - q) (UInt8.ofNat r) = pnum u (q + 1) := by
  obtain ⟨d, e, h⟩ := be_step u (7 - q) hu (by omega)
  have hd : UInt8.ofNat r = d := by
    apply UInt8.toNat_inj.1
    rw [show 7 - (7 - q) = q by omega] at e
    have e2 : ((u / 2 ^ (8 * q) : Nat) : Int) % 256 = (d.toNat : Int) := by rw [← e]; push_cast; rfl
    rw [← hr] at e2
    have : (UInt8.ofNat r).toNat = r % 256 := by simp
    rw [this]
    omega
  rw [hd]
  have hat : (be 8 u)[7 - q]? = some d := by
    have h2 := congrArg (fun l : List UInt8 => l[7 - q]?) h
    rw [List.getElem?_append_right (by rw [List.length_take, be_len]; omega), List.length_take, be_len, show 7 - q - min (7 - q) 8 = 0 by omega, List.getElem?_take, if_pos (by omega)] at h2
    exact h2.symm
  unfold pnum
  have e3 : (be 8 u).drop (8 - (q + 1)) = d :: (be 8 u).drop (8 - q) := by
    rw [show 8 - (q + 1) = 7 - q by omega, show 8 - q = 7 - q + 1 by omega]
    obtain ⟨hl, e4⟩ := List.getElem?_eq_some_iff.1 hat
    rw [← e4, List.getElem_cons_drop]
  rw [e3, show 8 - q = (8 - (q + 1)) + 1 by omega, List.replicate_succ', List.append_assoc, List.set_append_right _ _ (by rw [List.length_replicate]; omega), List.length_replicate, show 7 - q - (8 - (q + 1)) = 0 by omega]
  rfl
theorem made_num (u : Nat) : (madeCells #[.int .u8 0] 8).toList = nums (pnum u 0) := by
  have h : (be 8 u).drop 8 = [] := List.drop_of_length_le (by rw [be_len]; exact Nat.le_refl _)
  unfold pnum
  rw [toList_madeCells_one, Nat.sub_zero, h]
  rfl
/-- Bytes that a call makes. -/
def BytesPost (l : List UInt8) (w : World) (e : Ending) (w' : World) : Prop :=
  ∃ b c, e = .returned (.slice (some ⟨b, 0, none⟩) l.length c) ∧ (∀ (j : Nat) (u : Value), (nums l)[j]? = some u → w'.cell? ((⟨b, 0, none⟩ : Addr).add j) = some u) ∧ Below w.heap.size w w'
theorem BytesPost.own {l : List UInt8} {w w' : World} {g n c base : Nat} (h : w'.ownsRow base 5 1 (.slice (some ⟨g, 0, none⟩) n c) n (nums l)) (hB : Below w.heap.size w w') : BytesPost l w (.returned (.slice (some ⟨g, 0, none⟩) n c)) w' := by
  have hn : l.length = n := by have := h.1; rw [nums_len] at this; omega
  subst hn
  refine ⟨g, c, rfl, fun j u hj => ?_, hB⟩
  have hl := (List.getElem?_eq_some_iff.1 hj).1
  rw [nums_len] at hl
  have hadd : (⟨g, 0, none⟩ : Addr).add j = ⟨g, j, none⟩ := by unfold Addr.add; split <;> simp_all
  rw [hadd, h.cellAt j (by omega)]
  exact hj
theorem BytesPost.block {l : List UInt8} {w w' : World} {g c : Nat} {C : Array Value} {t : TypeId} (h : w'.heap[g]? = some (.cells C t (0, 0))) (hC : C.toList = nums l) (hB : Below w.heap.size w w') : BytesPost l w (.returned (.slice (some ⟨g, 0, none⟩) l.length c)) w' := by
  refine ⟨g, c, rfl, fun j u hj => ?_, hB⟩
  have hadd : (⟨g, 0, none⟩ : Addr).add j = ⟨g, j, none⟩ := by unfold Addr.add; split <;> simp_all
  rw [hadd, cell_of_row w' g _ C t (0, 0) h]
  rw [← hC] at hj
  simpa using hj

set_option maxRecDepth 20000 in
set_option maxHeartbeats 1600000 in
theorem printNum_any (n : Int) (w : World) (h0 : -9223372036854775808 ≤ n) (h1 : n ≤ 9223372036854775807) : Calls Try.prog 30 #[.int .i64 n] w (BytesPost (be 8 (n % 18446744073709551616).toNat) w) := by
  obtain ⟨i0, hi, hz0, hz1, hz2⟩ := info_parts infoByte
  obtain ⟨u, eu, hu, hu2⟩ := numW n h0 h1
  rw [← hu2]
  have hPG := fun (w' : World) (h : w'.ownsRow w.heap.size 5 1 (.slice (some ⟨w.heap.size, 0, none⟩) 8 8) 8 (nums (pnum u 8))) (hB : Below w.heap.size w w') => BytesPost.own h hB
  rw [pnum_all] at hPG
  generalize hpost : BytesPost (be 8 u) w = post at hPG ⊢
  have HPG := Lib.hid hPG
  clear hPG hpost hu2 h0 h1
  go_enter Try.func30, Try.ntmps30
  go_wp2_with (at_make; go_must (refine wpList_make_full _ rfl _ _ 47 rfl w.heap.size 5 i0 (.int .u8 0) 1 Try.underlying47 hi hz0 hz1 _ _ _ _ 8 rfl rfl rfl rfl (by rw [hz2]; decide) (by unfold maxLen; omega) (Nat.le_refl _) ?_))
  intro w3 hown3 hgrow3
  rw [made_num u] at hown3
  have hy : Below w.heap.size w w3 := (Below.refl _ _).grown hgrow3 (Nat.le_refl _) (fun k hk => by cases hk)
  clear hgrow3
  go_wp2
  go_loopw [4, 11] (fun x i wr => ∃ (q r : Nat), q ≤ 8 ∧ i = .int .i64 q ∧ x = .int .u64 r ∧ r < 18446744073709551616 ∧ Hid (r = u / 2 ^ (8 * q)) ∧ wr.ownsRow w.heap.size 5 1 (.slice (some ⟨w.heap.size, 0, none⟩) 8 8) 8 (nums (pnum u q)) ∧ Below w.heap.size w wr) (fun _ i _ => 8 - (intOf i).toNat)
  case atStart => exact ⟨0, u, Nat.zero_le _, rfl, rfl, hu, Lib.hid (by simp), hown3, hy⟩
  case round =>
    clear hown3 hy
    obtain ⟨q, r, hq, rfl, rfl, hr, hR, hown, hB⟩ := hrel
    by_cases hlt : q < 8
    · have i1 : (q : Int) < 8 := by omega
      obtain ⟨p, hp⟩ : ∃ p, 7 - q = p := ⟨_, rfl⟩
      have eP : (7 : Int) - (q : Int) = (p : Int) := by omega
      have hp8 : (p : Int) < 8 := by omega
      have hp0 : (0 : Int) ≤ (p : Int) := by omega
      obtain ⟨d, hd⟩ : ∃ d : UInt8, d = UInt8.ofNat r := ⟨_, rfl⟩
      have ed : (r : Int) % 256 = (d.toNat : Int) := by rw [hd]; simp
      obtain ⟨pv, hpv⟩ : ∃ v, (nums (pnum u q))[p]? = some v := ⟨_, List.getElem?_eq_getElem (by rw [nums_len, pnum_len u (by omega)]; omega)⟩
      have s1 := hown.cellAt p (by omega)
      have s2 := hown.frozenAt p
      rw [hpv] at s1
      have hst := hown.stored p (.int .u8 (d.toNat : Int))
      rw [nums_set, ← hp, hd, pnum_step hu hlt hR.out, hp, ← hd] at hst
      have HST := Lib.hid (And.intro hst.1 (hB.grown hst.2 hB.size (fun k hk => (hown.lt k hk).1)))
      have HR2 : Hid (r / 256 = u / 2 ^ (8 * (q + 1))) := Lib.hid (by rw [hR.out, Nat.div_div_eq_div_mul, show 8 * (q + 1) = 8 * q + 8 by omega, Nat.pow_add])
      clear hst hown hpv hd hp
      go_wp2
      clear s1 s2
      go_roundw
      case rel => exact ⟨q + 1, r / 256, by omega, by go_num, by go_num, by omega, HR2, HST.out.1, HST.out.2⟩
      case measure => simp [intOf]; omega
    · obtain rfl : q = 8 := by omega
      have HQ := Lib.hid (HPG.out wr hown hB)
      clear hown
      go_wp2
      exact HQ.out

/-- The number whose bytes these are, of a text's first eight. -/
def num8 (s : ByteArray) : Int := sgn (unbe (s.data.toList.take 8))
set_option maxRecDepth 20000 in
set_option maxHeartbeats 1600000 in
theorem readNum_any (s : ByteArray) (w : World) (hs : 8 ≤ s.size) (hs2 : s.size ≤ 1000000) : Calls Try.prog 31 #[.string s] w fun e w' => e = .returned (.int .i64 (num8 s)) ∧ w' = w := by
  obtain ⟨ans, hans⟩ : ∃ a, num8 s = a := ⟨_, rfl⟩
  rw [hans]
  have HA := Lib.hid hans
  clear hans
  go_enter Try.func31, Try.ntmps31
  go_wp2
  go_loopw [3, 5] (fun x i wx => ∃ (b uu : Nat), b ≤ 8 ∧ i = .int .i64 b ∧ x = .int .u64 uu ∧ uu < 256 ^ b ∧ Hid (uu = unbe (s.data.toList.take b)) ∧ w = wx) (fun _ i _ => 8 - (intOf i).toNat)
  case atStart => exact ⟨0, 0, Nat.zero_le _, rfl, rfl, by decide, Lib.hid rfl, rfl⟩
  case round =>
    obtain ⟨b, uu, hb8, rfl, rfl, hu2, hUU, rfl⟩ := hrel
    by_cases hlb : b < 8
    · have hbe : b < s.size := by omega
      have hu56 : uu < 72057594037927936 := Nat.lt_of_lt_of_le hu2 (Nat.le_trans (Nat.pow_le_pow_right (by decide) (show b ≤ 7 by omega)) (by decide))
      obtain ⟨x, ex, hx⟩ := or_byte (b := s[b]) hu56
      have hb256 := s[b].toNat_lt
      have hx2 : x < 256 ^ (b + 1) := by rw [hx, Nat.pow_succ]; omega
      have HX2 : Hid (x = unbe (s.data.toList.take (b + 1))) := Lib.hid (by rw [hx, hUU.out, unbe_next (byte_at hbe)])
      clear hx hb256
      go_wp2
      go_roundw
      case rel => exact ⟨b + 1, x, by omega, by go_num, by go_num, hx2, HX2, by trivial⟩
      case measure => simp [intOf]; omega
    · obtain rfl : b = 8 := by omega
      have hu64 : uu < 18446744073709551616 := by have : (256 : Nat) ^ 8 = 18446744073709551616 := by decide
                                                  omega
      have esg := wrap_sgn hu64
      have HU2 : Hid (sgn uu = ans) := Lib.hid (by rw [← HA.out, hUU.out]; rfl)
      clear hu2 hu64
      go_wp2
      go_ret
      exact ⟨by rw [← HU2.out]; rfl, rfl⟩
end Go.Proofs.Ytabgbhilbnchnaa.Mi
