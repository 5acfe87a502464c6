/- Texts HpA, HpB, HpC, one behind the other. -/
import Derived.Test.YtocmkjccaajnnaaHaK
import Derived.Test.YtocmkjccaajnnaaHaL
import Derived.BigQuiet
import Derived.Lib.SliceRun
/- An index: the program's round, Where, following and shaped, walked. -/
namespace Go.Proofs.Ytocmkjccaajnnaa.Ha
open Go.RowKit Pac Bu Ls Lex Go.Proofs.Ytocmkjccaajnnaa.Or

set_option maxRecDepth 20000 in
theorem round_any (lv p : Nat) (w : World) (hl : lv ≤ 8) (hp : 2 ^ lv = p) : Calls Try.prog 42 #[.int .i64 lv] w fun e w' => e = .returned (.int .i64 p) ∧ w' = w := by
  have hlv : ((lv : Int)).toNat = lv := by omega
  have hpw : Hid (wrap64 ((2 : Int) ^ lv) = (p : Int)) := Lib.hid (by
    obtain ⟨q, hq, hq1, hq2⟩ := powP hl
    rw [hp] at hq
    subst hq
    rw [powI hp]
    exact w64 (by omega) (by omega))
  clear hp
  go_enter Try.func42, Try.ntmps42
  go_wp2
  go_ret
  exact ⟨by rw [← hpw.out]; rfl, rfl⟩
set_option maxRecDepth 20000 in
set_option maxHeartbeats 1600000 in
theorem where_any0 (lv nx : Nat) (k : ByteArray) (w : World) (hl : lv ≤ 8) (hx : nx ≤ 1000) (hk : k.size ≤ 9223372036854775807) :
    Calls Try.prog 25 #[.int .i64 lv, .int .i64 nx, .string k] w fun e w' => e = .returned (.int .i64 (atN lv nx (spread k.data.toList) : Nat)) ∧ Below w.heap.size w w' := by
  have hc := spread_any k w hk
  generalize spread k.data.toList = u at hc ⊢
  obtain ⟨p, hp, hp1, hp2⟩ := powP hl
  have hR := fun W : World => round_any lv p W hl hp
  have E3 : Hid ((u : Int) % (p : Int) = ((u % p : Nat) : Int)) := Lib.hid (by push_cast; rfl)
  have E4 : Hid ((u : Int) % ((2 * p : Nat) : Int) = ((u % (2 * p) : Nat) : Int)) := Lib.hid (by rw [Int.natCast_emod])
  have hap : u % p < p := Nat.mod_lt _ (by omega)
  have hcp : u % (2 * p) < 2 * p := Nat.mod_lt _ (by omega)
  have E5 : Hid (wrap64 ((u % p : Nat) : Int) = ((u % p : Nat) : Int)) := Lib.hid (w64 (by omega) (by omega))
  have E6 : Hid (wrap64 ((u % (2 * p) : Nat) : Int) = ((u % (2 * p) : Nat) : Int)) := Lib.hid (w64 (by omega) (by omega))
  have HA : Hid (atN lv nx u = if u % p < nx then u % (2 * p) else u % p) := Lib.hid (by unfold atN; rw [Nat.pow_succ, hp, Nat.mul_comm])
  clear hp hap hcp
  go_enter Try.func25, Try.ntmps25
  go_wp2_with fail
  refine hc.mono ?_
  rintro e w1 ⟨rfl, hy⟩
  clear hc
  go_wp2_with fail
  refine (hR w1).mono ?_
  rintro e w2 ⟨rfl, rfl⟩
  clear hR
  go_wp2
  · rename wrap64 ((u : Int) % (p : Int)) < (nx : Int) => h
    rw [E3.out, E5.out] at h
    have hv : wrap64 ((u : Int) % (2 * (p : Int))) = ((atN lv nx u : Nat) : Int) := by
      have e4 := E4.out
      rw [show ((2 * p : Nat) : Int) = 2 * (p : Int) by push_cast; rfl] at e4
      rw [e4, E6.out, HA.out, if_pos (Int.ofNat_lt.1 h)]
    rw [hv]
    go_ret
    exact ⟨rfl, hy⟩
  · rename (nx : Int) ≤ wrap64 ((u : Int) % (p : Int)) => h
    rw [E3.out, E5.out] at h
    have hv : wrap64 ((u : Int) % (p : Int)) = ((atN lv nx u : Nat) : Int) := by rw [E3.out, E5.out, HA.out, if_neg (Nat.not_lt.2 (Int.ofNat_le.1 h))]
    rw [hv]
    go_ret
    exact ⟨rfl, hy⟩
set_option maxRecDepth 20000 in
set_option maxHeartbeats 1600000 in
theorem following_any (lv nx lv' nx' : Nat) (w : World) (hl : lv ≤ 8) (hx : nx ≤ 1000) (hs : stepL lv nx = (lv', nx')) :
    Calls Try.prog 35 #[.int .i64 lv, .int .i64 nx] w fun e w' => e = .returned (.tuple #[.int .i64 lv', .int .i64 nx']) ∧ w' = w := by
  obtain ⟨p, hp, hp1, hp2⟩ := powP hl
  have hR := fun W : World => round_any lv p W hl hp
  have HS : Hid ((if nx + 1 = p then (lv + 1, 0) else (lv, nx + 1)) = (lv', nx')) := Lib.hid (by rw [← hs]; unfold stepL; rw [hp])
  clear hp hs
  go_enter Try.func35, Try.ntmps35
  go_wp2_with fail
  refine (hR w).mono ?_
  rintro e w2 ⟨rfl, rfl⟩
  clear hR
  by_cases hq : nx + 1 = p
  · have hS := HS.out
    rw [if_pos hq] at hS
    injection hS with h1 h2
    subst h1 h2
    have hqi : ((nx : Int) + 1 == (p : Int)) = true := by rw [beq_iff_eq]; omega
    have hqn : ¬ ((nx : Int) + 1) ≠ (p : Int) := by omega
    clear HS hq
    go_wp2
    go_ret2
    exact ⟨rfl, rfl⟩
  · have hS := HS.out
    rw [if_neg hq] at hS
    injection hS with h1 h2
    subst h1 h2
    have hqi : ((nx : Int) + 1 == (p : Int)) = false := by rw [beq_eq_false_iff_ne]; omega
    clear HS hq
    go_wp2
    go_ret2
    exact ⟨rfl, rfl⟩
/-- An index has as many buckets as its round and its next one make. -/
structure ShapeN (lv nx : Int) (n : Nat) : Prop where
  l0 : 0 ≤ lv
  l8 : lv ≤ 8
  n0 : 0 ≤ nx
  n2 : nx < ((2 ^ lv.toNat : Nat) : Int)
  len : (n : Int) = ((2 ^ lv.toNat : Nat) : Int) + nx
section
variable {A : Option Addr} {n cp : Nat} {w : World}
set_option maxRecDepth 20000 in
set_option maxHeartbeats 6400000 in
theorem shaped_any (lv nx : Int) (hnx0 : -9223372036854775808 ≤ nx) (hnx1 : nx ≤ 9223372036854775807) (h9 : n ≤ 100000) :
    Calls Try.prog 28 #[.agg #[.int .i64 lv, .int .i64 nx, .slice A n cp]] w (SameHPost (ShapeN lv nx n) w) := by
  have hB := (Below.refl w.heap.size w).alloc (Nat.le_refl _) (.cells #[.int .i64 lv, .int .i64 nx, .slice A n cp] 27)
  have hD := fun k => below_drewN (Below.refl (w.alloc (.cells #[.int .i64 lv, .int .i64 nx, .slice A n cp] 27)).heap.size (w.alloc (.cells #[.int .i64 lv, .int .i64 nx, .slice A n cp] 27))) k
  generalize hP : ShapeN lv nx n = MP
  have HP := Lib.hid hP
  clear hP
  go_enter Try.func28, Try.ntmps28
  by_cases a1 : lv < 0
  · have HQ : Hid (¬ MP) := Lib.hid (by rw [← HP.out]; intro h; have := h.l0; omega)
    have a1' : decide ((0 : Int) ≤ lv) = false := decide_eq_false (by omega)
    go_wp2
    go_quiet (fail)
    go_wp2
    go_ret
    exact ⟨false, rfl, ⟨fun e => (by cases e), fun e => absurd e HQ.out⟩, hB.trans ((hD _).mono hB.size)⟩
  by_cases a2 : 8 < lv
  · have HQ : Hid (¬ MP) := Lib.hid (by rw [← HP.out]; intro h; have := h.l8; omega)
    have a1' : decide ((0 : Int) ≤ lv) = true := decide_eq_true (by omega)
    have a2' : decide (lv ≤ 8) = false := decide_eq_false (by omega)
    go_wp2
    go_quiet (fail)
    go_wp2
    go_ret
    exact ⟨false, rfl, ⟨fun e => (by cases e), fun e => absurd e HQ.out⟩, hB.trans ((hD _).mono hB.size)⟩
  by_cases a3 : nx < 0
  · have HQ : Hid (¬ MP) := Lib.hid (by rw [← HP.out]; intro h; have := h.n0; omega)
    have a1' : decide ((0 : Int) ≤ lv) = true := decide_eq_true (by omega)
    have a2' : decide (lv ≤ 8) = true := decide_eq_true (by omega)
    have a3' : decide ((0 : Int) ≤ nx) = false := decide_eq_false (by omega)
    go_wp2
    go_quiet (fail)
    go_wp2
    go_ret
    exact ⟨false, rfl, ⟨fun e => (by cases e), fun e => absurd e HQ.out⟩, hB.trans ((hD _).mono hB.size)⟩
  obtain ⟨l, rfl⟩ : ∃ l : Nat, lv = (l : Int) := ⟨lv.toNat, by omega⟩
  obtain ⟨j, rfl⟩ : ∃ j : Nat, nx = (j : Int) := ⟨nx.toNat, by omega⟩
  have hl8 : l ≤ 8 := by omega
  obtain ⟨p, hp, hp1, hp2⟩ := powP hl8
  have hR := fun W : World => round_any l p W hl8 hp
  have HPW : Hid (2 ^ ((l : Int)).toNat = p) := Lib.hid (by rw [Int.toNat_natCast]; exact hp)
  have a2' : decide ((l : Int) ≤ 8) = true := decide_eq_true (by omega)
  have a2'' : decide (l ≤ 8) = true := decide_eq_true hl8
  clear a1 a2 a3 hp
  by_cases a4 : j < p
  · have a4' : decide ((j : Int) < (p : Int)) = true := decide_eq_true (by omega)
    have a4'' : decide (j < p) = true := decide_eq_true a4
    have hw : IntKind.i64.wrap ((p : Int) + (j : Int)) = ((p + j : Nat) : Int) := by rw [IntWalk.i64_in _ (by omega)]; push_cast; rfl
    have hw' : wrap64 ((p : Int) + (j : Int)) = ((p + j : Nat) : Int) := by rw [w64 (by omega) (by omega)]; push_cast; rfl
    by_cases a5 : n = p + j
    · have HQ : Hid MP := Lib.hid (by rw [← HP.out]; exact ⟨by omega, by omega, by omega, by rw [HPW.out]; omega, by rw [HPW.out]; omega⟩)
      have a5' : ((n : Int) == ((p + j : Nat) : Int)) = true := by rw [beq_iff_eq]; omega
      have a5'' : ((n : Int) == (p : Int) + (j : Int)) = true := by rw [beq_iff_eq]; omega
      clear a5
      go_wp2
      go_quiet ((go_at_call 42; exact Calls.quiet_of_same (hR _)))
      go_wp2
      go_ret
      exact ⟨true, rfl, ⟨fun e => HQ.out, fun e => rfl⟩, hB.trans ((hD _).mono hB.size)⟩
    · have HQ : Hid (¬ MP) := Lib.hid (by rw [← HP.out]; intro h; have := h.len; rw [HPW.out] at this; omega)
      have a5' : ((n : Int) == ((p + j : Nat) : Int)) = false := by rw [beq_eq_false_iff_ne]; omega
      have a5'' : ((n : Int) == (p : Int) + (j : Int)) = false := by rw [beq_eq_false_iff_ne]; omega
      clear a5
      go_wp2
      go_quiet ((go_at_call 42; exact Calls.quiet_of_same (hR _)))
      go_wp2
      go_ret
      exact ⟨false, rfl, ⟨fun e => (by cases e), fun e => absurd e HQ.out⟩, hB.trans ((hD _).mono hB.size)⟩
  · have HQ : Hid (¬ MP) := Lib.hid (by rw [← HP.out]; intro h; have := h.n2; rw [HPW.out] at this; omega)
    have a4' : decide ((j : Int) < (p : Int)) = false := decide_eq_false (by omega)
    have a4'' : decide (j < p) = false := decide_eq_false a4
    go_wp2
    go_quiet ((go_at_call 42; exact Calls.quiet_of_same (hR _)))
    go_wp2
    go_ret
    exact ⟨false, rfl, ⟨fun e => (by cases e), fun e => absurd e HQ.out⟩, hB.trans ((hD _).mono hB.size)⟩
end
end Go.Proofs.Ytocmkjccaajnnaa.Ha

/- An index: the program's New and Count, walked. -/
namespace Go.Proofs.Ytocmkjccaajnnaa.Ha
open Go.RowKit Pac Bu Ls Lex Go.Proofs.Ytocmkjccaajnnaa.Or

section
variable {A : Option Addr} {n cp : Nat} {w : World}
set_option maxRecDepth 20000 in
set_option maxHeartbeats 1600000 in
theorem new_any (w : World) : Calls Try.prog 10 #[] w (HashPost (fun _ => False) newH w) := by
  obtain ⟨i0, hi, hz0, hz1, hz2⟩ := info_parts infoB
  obtain ⟨post, hpe⟩ : ∃ post, HashPost (fun _ => False) newH w = post := ⟨_, rfl⟩
  have HPE := Lib.hid hpe
  rw [hpe]
  clear hpe
  have hB := (Below.refl w.heap.size w).alloc (Nat.le_refl _) (.cells #[.int .i64 0, .int .i64 0, .slice none 0 0] 27)
  have hx := Box3.new w (.int .i64 0) (.int .i64 0) (.slice none 0 0) 27
  obtain ⟨g, hg⟩ : ∃ g, w.heap.size = g := ⟨_, rfl⟩
  have hz : (w.alloc (.cells #[.int .i64 0, .int .i64 0, .slice none 0 0] 27)).heap.size = g + 1 := by simp [hg]
  rw [hg] at hx
  generalize hw0 : w.alloc (.cells #[.int .i64 0, .int .i64 0, .slice none 0 0] 27) = wa at hB hx hz
  go_enter Try.func10, Try.ntmps10
  go_wp2_with (at_make; go_must (refine wpList_make_full _ rfl _ _ 25 rfl wa.heap.size 42 i0 (.slice none 0 0) 1 Try.underlying25 hi hz0 hz1 _ _ _ _ 1 rfl rfl rfl rfl (by rw [hz2]; omega) (by unfold maxLen; omega) (Nat.le_refl _) ?_))
  intro w1 hown1 hgrow1
  rw [made_one] at hown1
  have hb1 : Below wa.heap.size wa w1 := (Below.refl _ _).grown hgrow1 (by simp) (fun k hk => by cases hk)
  have hx := hx.below hb1 hx.lt
  have hB := hB.trans (hb1.mono hB.size)
  have hwa : w.heap.size ≤ wa.heap.size := by omega
  clear hgrow1 hb1 hw0
  have hgw : w.heap.size = g := hg
  clear hz hg
  have c0 := hx.c0
  have c1 := hx.c1
  have c2 := hx.c2
  have f0 := hx.f 0
  have f1 := hx.f 1
  have f2 := hx.f 2
  have hB9 := ((hB.setCell (p := ⟨g, 0, none⟩) (Nat.le_of_eq hgw) (.int .i64 0)).setCell (p := ⟨g, 1, none⟩) (Nat.le_of_eq hgw) (.int .i64 0)).setCell (p := ⟨g, 2, none⟩) (Nat.le_of_eq hgw) (.slice (some ⟨g + 1, 0, none⟩) 1 1)
  have hown9 := ownsRow_setCell_below (ownsRow_setCell_below (ownsRow_setCell_below hown1 (a := ⟨g, 0, none⟩) (Nat.lt_succ_self g) (.int .i64 0)) (a := ⟨g, 1, none⟩) (Nat.lt_succ_self g) (.int .i64 0)) (a := ⟨g, 2, none⟩) (Nat.lt_succ_self g) (.slice (some ⟨g + 1, 0, none⟩) 1 1)
  have HE := Lib.hid (new_post hown9 (by omega) hB9)
  rw [HPE.out] at HE
  have H9 := Lib.hid (((hx.set0 (.int .i64 0)).set1 (.int .i64 0)).set2 (.slice (some ⟨g + 1, 0, none⟩) 1 1))
  clear hx hB hB9 hown9 hown1
  go_wp2
  refine bodyPost_ret (results_hash rfl _ _ g _ _ _ rfl H9.out.c0 H9.out.c1 H9.out.c2) rfl ?_
  exact HE.out
end
section
variable {A : Option Addr} {n cp : Nat} {bs : List (List E)} {w : World}
set_option maxRecDepth 20000 in
set_option maxHeartbeats 3200000 in
theorem count_any0 (lv nx : Int) (lo : Nat) (hb : HasBs w lo A bs) (hn : bs.length = n) (h9 : n ≤ 100000) (hr : ∀ r ∈ bs, r.length ≤ 100000) :
    Calls Try.prog 21 #[.agg #[.int .i64 lv, .int .i64 nx, .slice A n cp]] w fun e w' => e = .returned (.int .i64 (total bs : Nat)) ∧ Below w.heap.size w w' := by
  have hB := (Below.refl w.heap.size w).alloc (Nat.le_refl _) (.cells #[.int .i64 lv, .int .i64 nx, .slice A n cp] 27)
  have hx := Box3.new w (.int .i64 lv) (.int .i64 nx) (.slice A n cp) 27
  have HL := Lib.hid (And.intro (hb.below hB (Nat.le_refl _)) (And.intro hn hr))
  obtain ⟨g, hg⟩ : ∃ g, w.heap.size = g := ⟨_, rfl⟩
  rw [hg] at hx
  generalize hw0 : w.alloc (.cells #[.int .i64 lv, .int .i64 nx, .slice A n cp] 27) = wa at hB hx HL
  clear hb hn hr
  go_enter Try.func21, Try.ntmps21
  have x2 := hx.c2
  go_wp2
  clear hw0 hg x2
  go_loopw [3, 5, 9] (fun v _ i wr => ∃ (q u : Nat), q ≤ n ∧ i = .int .i64 q ∧ v = .int .i64 u ∧ u ≤ 100000 * q ∧ Hid (u = total (bs.take q)) ∧ Below wa.heap.size wa wr) (fun _ _ i _ => n - (intOf i).toNat)
  case atStart => exact ⟨0, 0, Nat.zero_le _, rfl, rfl, Nat.zero_le _, Lib.hid rfl, Below.refl _ _⟩
  case round =>
    obtain ⟨q, u, hq, rfl, rfl, hu, hU, hy⟩ := hrel
    by_cases hlt : q < n
    · have hgt := List.getElem?_eq_getElem (l := bs) (i := q) (by rw [HL.out.2.1]; exact hlt)
      generalize (bs[q]'(by rw [HL.out.2.1]; exact hlt)) = r at hgt
      obtain ⟨b, o, A2, cp2, rfl, _, hlb, d0, _, _⟩ := Li.HasLs.at (HL.out.1.below hy (Nat.le_refl _)) hgt
      have hrm := HL.out.2.2 _ (List.mem_of_getElem? hgt)
      obtain ⟨rn, hrn⟩ : ∃ rn, r.length = rn := ⟨_, rfl⟩
      have HU : Hid (u + rn = total (bs.take (q + 1))) := Lib.hid (by rw [take_snocB hgt, total_snoc, ← hU.out, hrn])
      rw [hrn] at d0 hrm
      have i1 : (q : Int) < (n : Int) := by omega
      have i0 : (0 : Int) ≤ (q : Int) := by omega
      clear hgt hrn
      go_wp2
      go_roundw
      case rel => exact ⟨q + 1, u + rn, by omega, by go_num, by go_num, by omega, HU, hy⟩
      case measure => simp [intOf]; omega
    · obtain rfl : n = q := by omega
      have hfull : bs.take n = bs := List.take_of_length_le (by rw [HL.out.2.1]; exact Nat.le_refl _)
      have hU := hU.out
      rw [hfull] at hU
      have HU := Lib.hid hU
      have HB := Lib.hid (hB.trans (hy.mono hB.size))
      clear hfull hU
      go_wp2
      go_ret
      exact ⟨by rw [← HU.out]; rfl, HB.out⟩
end
end Go.Proofs.Ytocmkjccaajnnaa.Ha

/- An index: the program's slices.Clone of buckets, and with, walked. -/
namespace Go.Proofs.Ytocmkjccaajnnaa.Ha
open Go.RowKit Pac Bu Ls Lex Go.Proofs.Ytocmkjccaajnnaa.Or

section
variable {A A2 : Option Addr} {n cp m c2 : Nat} {w : World}
set_option maxRecDepth 20000 in
set_option maxHeartbeats 1600000 in
theorem cloneB_any (hs : List (Li.Gr E)) (bm om : Nat) (hHL : Li.HasL Li.cellsG 1 w 0 (some ⟨bm, om, none⟩) hs) (hlen : hs.length = n) (h9 : n ≤ 100000) :
    Calls Try.prog 44 #[.slice (some ⟨bm, om, none⟩) n cp] w fun e w' => ∃ v, e = .returned v ∧ w'.ownsRow w.heap.size 42 1 v n (Li.cellsL Li.cellsG hs) ∧ Below w.heap.size w w' := by
  obtain ⟨iS, hiS, hs0, hs1, hs2⟩ := info_parts infoB
  have hE := Lib.run_eql_slice_nil (P := Try.prog) w 25 42 (some ⟨bm, om, none⟩) n cp 0 0 Try.underlying25
  have hownW := World.ownsRow_lit (e := 42) (size := 1) (base := w.heap.size) w #[] 0 (Nat.le_refl _) (by unfold maxLen; omega) rfl
  have hy6 := (Below.refl w.heap.size w).alloc (Nat.le_refl _) (.cells #[] 42)
  have hnw := news_of (by decide) Li.cellsG_len (hHL.below hy6 (Nat.le_refl _))
  have HLN : Hid ((Li.cellsL Li.cellsG hs).length = n * 1) := Lib.hid (by rw [Li.cellsL_len Li.cellsG_len, hlen])
  have HON : Hid (∀ v ∈ Li.cellsL Li.cellsG hs, v.oneCell' = true) := Lib.hid (fun v hv => by
    rw [Li.cellsG_map] at hv
    obtain ⟨x, _, rfl⟩ := List.mem_map.1 hv
    simp [Value.oneCell'])
  have HW := Lib.hid (And.intro hownW (And.intro hnw hy6))
  generalize Li.cellsL Li.cellsG hs = cs at HLN HON HW ⊢
  clear hownW hnw hy6 hHL hlen
  go_enter Try.func44, Try.ntmps44
  go_wp2_with (at_builtin; go_must (refine wpList_append_own _ rfl _ _ 25 rfl w.heap.size 42 iS (.slice none 0 0) 1 24 Try.underlying25 hiS hs0 hs1 hs2 rfl (by decide) (.slice (some ⟨w.heap.size, 0, none⟩) 0 0) 0 [] rfl HW.out.1 ⟨bm, om, none⟩ n cp cs rfl HLN.out HW.out.2.1 HON.out (by unfold maxLen; omega) (by omega) HW.out.2.2.size ?_))
  intro v6 y6 hown hgrow6 _
  have hB5 := HW.out.2.2.grown hgrow6 HW.out.2.2.size (fun k hk => (HW.out.1.lt k hk).1)
  have HF := Lib.hid (And.intro hown hB5)
  clear hown hB5 hgrow6 HW
  go_wp2
  go_ret
  obtain ⟨h1, h2⟩ := HF.out
  exact ⟨_, rfl, h1, h2⟩
/-- What with answers: the row is its own. -/
def WithPost (lv nx n : Nat) (gs : List (Li.Gr E)) (w : World) (e : Ending) (w' : World) : Prop := ∃ g5 c5, e = .returned (.agg #[.int .i64 lv, .int .i64 nx, .slice (some ⟨g5, 0, none⟩) n c5]) ∧ w'.ownsRow w.heap.size 42 1 (.slice (some ⟨g5, 0, none⟩) n c5) n (Li.cellsL Li.cellsG gs) ∧ Below w.heap.size w w'
set_option maxRecDepth 20000 in
set_option maxHeartbeats 6400000 in
theorem with_own (lv nx i bm om : Nat) (hs : List (Li.Gr E)) (x : Li.Gr E) (hHL : Li.HasL Li.cellsG 1 w 0 (some ⟨bm, om, none⟩) hs) (hlen : hs.length = n) (h9 : n ≤ 100000) (hi : i < n) (hm : x.l.length = m) :
    Calls Try.prog 29 #[.agg #[.int .i64 lv, .int .i64 nx, .slice (some ⟨bm, om, none⟩) n cp], .int .i64 i, .slice x.A m x.cp] w (WithPost lv nx n (hs.set i x) w) := by
  subst hm
  obtain ⟨A2, c2, b⟩ := x
  simp only
  obtain ⟨post, hpe⟩ : ∃ post, WithPost lv nx n (hs.set i ⟨A2, c2, b⟩) w = post := ⟨_, rfl⟩
  have HPE := Lib.hid hpe
  rw [hpe]
  clear hpe
  have hB := (Below.refl w.heap.size w).alloc (Nat.le_refl _) (.cells #[.int .i64 lv, .int .i64 nx, .slice (some ⟨bm, om, none⟩) n cp] 27)
  have hx := Box3.new w (.int .i64 lv) (.int .i64 nx) (.slice (some ⟨bm, om, none⟩) n cp) 27
  obtain ⟨g, hg⟩ : ∃ g, w.heap.size = g := ⟨_, rfl⟩
  have hz : (w.alloc (.cells #[.int .i64 lv, .int .i64 nx, .slice (some ⟨bm, om, none⟩) n cp] 27)).heap.size = g + 1 := by simp [hg]
  rw [hg] at hx
  generalize hw0 : w.alloc (.cells #[.int .i64 lv, .int .i64 nx, .slice (some ⟨bm, om, none⟩) n cp] 27) = wa at hB hx hz
  have hBb := (Below.refl wa.heap.size wa).alloc (Nat.le_refl _) (.cells #[.int .i64 0, .int .i64 0, .slice none 0 0] 27)
  have hy := Box3.new wa (.int .i64 0) (.int .i64 0) (.slice none 0 0) 27
  have hz2 : (wa.alloc (.cells #[.int .i64 0, .int .i64 0, .slice none 0 0] 27)).heap.size = g + 1 + 1 := by simp [hz]
  rw [hz] at hy
  have hx := hx.below hBb hx.lt
  have hB := hB.trans (hBb.mono hB.size)
  generalize hw1 : wa.alloc (.cells #[.int .i64 0, .int .i64 0, .slice none 0 0] 27) = wb at hB hx hy hz2
  have hCl := cloneB_any (cp := cp) hs bm om (hHL.below hB (Nat.le_refl _)) hlen h9
  have x2 := hx.c2
  have HX := Lib.hid (And.intro hx (And.intro hy (And.intro hB (And.intro hz2 hlen))))
  clear hx hy hB hlen hBb hHL hz2
  go_enter Try.func29, Try.ntmps29
  go_wp2_with fail
  refine hCl.mono ?_
  rintro e y6 ⟨v6, rfl, hown, hb6⟩
  clear hCl x2
  obtain ⟨hx, hy, hB, hz2, hlen⟩ := HX.out
  obtain ⟨g5, c5, rfl, hg5, hgl⟩ := hown.form (by omega)
  have hB := hB.trans (hb6.mono hB.size)
  have hx := hx.below hb6 hx.lt
  have hy := hy.below hb6 hy.lt
  have x2 := hx.c2
  have xf := hx.f 2
  have hx := hx.set2 (.slice (some ⟨g5, 0, none⟩) n c5)
  have hy := hy.setOther (p := ⟨g, 2, none⟩) (by show g ≠ g + 1; omega) (.slice (some ⟨g5, 0, none⟩) n c5)
  have hB := hB.setCell (p := ⟨g, 2, none⟩) (by show w.heap.size ≤ g; omega) (.slice (some ⟨g5, 0, none⟩) n c5)
  have hown := ownsRow_setCell_below hown (a := ⟨g, 2, none⟩) (by show g < wb.heap.size; omega) (.slice (some ⟨g5, 0, none⟩) n c5)
  have s1 := hown.cellAt i (by omega)
  have hxi : hs[i]? = some (hs[i]'(by omega)) := List.getElem?_eq_getElem _
  generalize (hs[i]'(by omega)) = xi at hxi
  rw [Li.cellsG_map, List.getElem?_map, hxi] at s1
  have s1 : (y6.setCell ⟨g, 2, none⟩ (.slice (some ⟨g5, 0, none⟩) n c5)).cell? ⟨g5, i, none⟩ = some (.slice xi.A xi.l.length xi.cp) := s1
  clear hxi
  have s2 := hown.frozenAt i
  have hx8 := hx.setOther (p := ⟨g5, i, none⟩) (by show g5 ≠ g; omega) (.slice A2 b.length c2)
  have hy8 := hy.setOther (p := ⟨g5, i, none⟩) (by show g5 ≠ g + 1; omega) (.slice A2 b.length c2)
  have hB8 := hB.setCell (p := ⟨g5, i, none⟩) (by show w.heap.size ≤ g5; omega) (.slice A2 b.length c2)
  have hown8 := (hown.stored i (.slice A2 b.length c2)).1
  rw [show (Li.cellsL Li.cellsG hs).set i (.slice A2 b.length c2) = Li.cellsL Li.cellsG (hs.set i ⟨A2, c2, b⟩) from cellsG_setE hs i ⟨A2, c2, b⟩] at hown8
  have q0 := hx8.c0
  have q1 := hx8.c1
  have q2 := hx8.c2
  have r0 := hy8.c0
  have r1 := hy8.c1
  have r2 := hy8.c2
  have rf0 := hy8.f 0
  have rf1 := hy8.f 1
  have rf2 := hy8.f 2
  have i1 : (i : Int) < (n : Int) := by omega
  have i0 : (0 : Int) ≤ (i : Int) := by omega
  have hy9 := ((hy8.set0 (.int .i64 lv)).set1 (.int .i64 nx)).set2 (.slice (some ⟨g5, 0, none⟩) n c5)
  have hB9 := ((hB8.setCell (p := ⟨g + 1, 0, none⟩) (by show w.heap.size ≤ g + 1; omega) (.int .i64 lv)).setCell (p := ⟨g + 1, 1, none⟩) (by show w.heap.size ≤ g + 1; omega) (.int .i64 nx)).setCell (p := ⟨g + 1, 2, none⟩) (by show w.heap.size ≤ g + 1; omega) (.slice (some ⟨g5, 0, none⟩) n c5)
  have hown9 := ownsRow_setCell_below (ownsRow_setCell_below (ownsRow_setCell_below hown8 (a := ⟨g + 1, 0, none⟩) (by show g + 1 < wb.heap.size; omega) (.int .i64 lv)) (a := ⟨g + 1, 1, none⟩) (by show g + 1 < wb.heap.size; omega) (.int .i64 nx)) (a := ⟨g + 1, 2, none⟩) (by show g + 1 < wb.heap.size; omega) (.slice (some ⟨g5, 0, none⟩) n c5)
  have HE := Lib.hid (show WithPost lv nx n (hs.set i ⟨A2, c2, b⟩) w (.returned (.agg #[.int .i64 lv, .int .i64 nx, .slice (some ⟨g5, 0, none⟩) n c5])) _ from ⟨g5, c5, rfl, Li.own_base hown9 (by omega), hB9⟩)
  rw [HPE.out] at HE
  have H9 := Lib.hid hy9
  clear hx hy hB hown hb6 hz2 hx8 hy8 hB8 hown8 hy9 hB9 hown9 hlen HX
  go_wp2
  refine bodyPost_ret (results_hash rfl _ _ (g + 1) _ _ _ rfl H9.out.c0 H9.out.c1 H9.out.c2) rfl ?_
  exact HE.out
theorem with_any (X : Nat → Prop) (h : H) (i : Nat) (b : List E) (hb : HasBsX w X A h.bs) (hn : h.bs.length = n) (h9 : n ≤ 100000) (hi : i < n) (hB2 : HasEX w X A2 b) (hm : b.length = m) (hc : m ≤ c2) :
    Calls Try.prog 29 #[.agg #[.int .i64 h.lv, .int .i64 h.nx, .slice A n cp], .int .i64 i, .slice A2 m c2] w (HashPost X (withB h i b) w) := by
  subst hm
  obtain ⟨lv, nx, bs⟩ := h
  simp only at hb hn
  obtain ⟨hs, hhs, hHL, hall, _, hXA⟩ := hb
  have hlen : hs.length = n := by rw [← hn, ← hhs, List.length_map]
  obtain ⟨bm, om, hA, _⟩ := hHL (fun e => by rw [e] at hlen; simp at hlen; omega)
  subst hA
  refine (with_own lv nx i bm om hs ⟨A2, c2, b⟩ hHL hlen h9 hi rfl).mono ?_
  rintro e w' ⟨g5, c5, rfl, hown, hB⟩
  exact with_post hhs hall hXA hlen hB2 (Nat.le_refl _) hc hown hB
end
end Go.Proofs.Ytocmkjccaajnnaa.Ha
