/- A split's bytes: the program's, walked. -/
import Derived.Test.YtifcepjflkgbmaaSpH
import Derived.Test.YtifcepjflkgbmaaByA
namespace Go.Proofs.Ytifcepjflkgbmaa.Sp
open Go.RowKit Pac Lex By

set_option maxRecDepth 20000 in
set_option maxHeartbeats 1600000 in
theorem print_any (A1 : Option Addr) (cp1 : Nat) (l1 : List (List Int)) (n lo1 : Nat) (w : World) (h1 : HasLL w lo1 A1 l1) (hs : IsSplit l1 n) :
    Calls Try.prog 19 #[.slice A1 l1.length cp1] w fun e w' => e = .returned (.string (printSp l1)) ∧ Below w.heap.size w w' := by
  obtain ⟨i0, hi, hz0, hz1, hz2⟩ := info_parts info5
  have hm8 : l1.length ≤ 8 := by have := hs.few; have := hs.n8; omega
  have hP0 : encB (zig (l1.length : Int)) = pre1 l1 0 := by
    unfold pre1
    apply bytesEq'
    rw [app_list]
    show _ = _ ++ []
    rw [List.append_nil]
  have hP1 : pre1 l1 l1.length = printSp l1 := by unfold pre1 printSp; rw [List.take_length]
  have hc0 := fun W : World => num_any (l1.length : Int) W (by omega) (by omega)
  rw [hP0] at hc0
  generalize printSp l1 = ans at hP1 ⊢
  obtain ⟨m, hm⟩ : ∃ m, l1.length = m := ⟨_, rfl⟩
  rw [hm] at hm8 hP1 hc0 ⊢
  have HA := Lib.hid h1
  have HM := Lib.hid hm
  have HS := Lib.hid hs
  have HP1 := Lib.hid hP1
  clear h1 hm hs hP0 hP1
  have hx0 := pre1_size HS.out 0
  have HX0 : ∃ x, x = pre1 l1 0 := ⟨_, rfl⟩
  obtain ⟨x0, hx00⟩ := HX0
  rw [← hx00] at hc0 hx0
  have HX0 := Lib.hid hx00
  clear hx00
  go_enter Try.func19, Try.ntmps19
  go_wp2_with fail
  refine (hc0 _).mono ?_
  rintro e w1 ⟨rfl, hB⟩
  clear hc0
  obtain ⟨v0, w2, hcv, hO, hb2⟩ := run_bytes_own (P := Try.prog) w1 9 48 5 x0 Try.underlying9 Try.underlying48 Try.underlying5 (by unfold maxLen; omega)
  have hsz1 := hB.size
  have hB := hB.trans (hb2.mono hB.size)
  have hO' : OwnB w2 w.heap.size 5 v0 x0 := by
    obtain ⟨g, cap, cur, fz, e1, e2, r⟩ := hO
    exact ⟨g, cap, cur, fz, e1, Nat.le_trans hsz1 e2, r⟩
  clear hO hb2 hsz1
  go_wp2
  clear hcv
  go_loopw [3, 14] (fun x i wr => ∃ (q : Nat) (s : ByteArray) (sv : Value), q ≤ m ∧ i = .int .i64 q ∧ x = sv ∧ OwnB wr w.heap.size 5 sv s ∧ Hid (s = pre1 l1 q) ∧ Below w.heap.size w wr) (fun _ i _ => m - (intOf i).toNat)
  case atStart => exact ⟨0, x0, v0, Nat.zero_le _, rfl, rfl, hO', HX0, hB⟩
  case round =>
    clear hB hx0 hO'
    obtain ⟨q, s, sv, hq, rfl, rfl, hO, hH, hB⟩ := hrel
    have hz : s.size ≤ 200 := by rw [hH.out]; exact pre1_size HS.out q
    by_cases hlt : q < m
    · have hg1 : l1[q]? = some (l1[q]'(by rw [HM.out]; exact hlt)) := List.getElem?_eq_getElem _
      generalize (l1[q]'(by rw [HM.out]; exact hlt)) = g at hg1
      have hgm := List.mem_of_getElem? hg1
      have hp8 := HS.out.short hgm
      obtain ⟨b1, o1, A3, cp3, rfl, hlo1, hlb1, d1, hI1, _⟩ := HA.out.at hg1
      have d1 := (hB.cell (p := ⟨b1, o1 + q, none⟩) hlb1).trans d1
      have HI1 := Lib.hid hI1
      have HG1 := Lib.hid hg1
      have HGM := Lib.hid hgm
      have hc1 := fun W : World => num_any (g.length : Int) W (by omega) (by omega)
      have hy1 := encB_size (zig (g.length : Int))
      have hpz := pre2_zero l1 q g
      rw [← hH.out] at hpz
      obtain ⟨p, hp⟩ : ∃ p, g.length = p := ⟨_, rfl⟩
      rw [hp] at d1 hp8 hc1 hy1 hpz
      generalize encB (zig (p : Int)) = y at hc1 hy1 hpz
      have HP := Lib.hid hp
      have HPZ := Lib.hid hpz
      have i1 : (q : Int) < (m : Int) := by omega
      have i0' : (0 : Int) ≤ (q : Int) := by omega
      clear hp hg1 hgm hI1 hpz
      go_wp2_with fail
      refine (hc1 _).mono ?_
      rintro e w2 ⟨rfl, hw2⟩
      have hO := hO.below hw2 (Nat.le_refl _)
      have hB := hB.trans (hw2.mono hB.size)
      clear hw2 hc1 d1
      go_wp2_with (at_builtin; go_must (refine wpList_append_ownB _ rfl _ _ 48 9 rfl w.heap.size 5 i0 Try.underlying48 Try.underlying9 hi hz0 hz1 hz2 u3 s y rfl hO rfl (by unfold maxLen; omega) (by omega) hB.size ?_))
      intro v5 y5 hO5 hgrow5
      have hB := hB.grown hgrow5 hB.size (fun k hk => (hO.lt k hk).1)
      have HPZ2 := HPZ.out
      have hz2' : (s ++ y).size ≤ 400 := by rw [HPZ2]; exact pre2_size HS.out q HGM.out 0
      generalize s ++ y = s0 at HPZ2 hz2' hO5
      have HPZ3 := Lib.hid HPZ2
      clear HPZ2 HPZ hy1 hgrow5 hO
      go_wp2
      go_loopw [3, 25] (fun x i wr => ∃ (t : Nat) (s : ByteArray) (sv : Value), t ≤ p ∧ i = .int .i64 t ∧ x = sv ∧ OwnB wr w.heap.size 5 sv s ∧ Hid (s = pre2 l1 q g t) ∧ Below w.heap.size w wr) (fun _ i _ => p - (intOf i).toNat)
      case atStart => exact ⟨0, s0, v5, Nat.zero_le _, rfl, rfl, hO5, HPZ3, hB⟩
      case round =>
        clear hB hO5
        obtain ⟨t, s, sv, ht, rfl, rfl, hO, hT, hB⟩ := hrel
        have hz : s.size ≤ 400 := by rw [hT.out]; exact pre2_size HS.out q HGM.out t
        have hI1 : HasI wr lo1 A3 g := HI1.out.below hB (Nat.le_refl _)
        by_cases htp : t < p
        · have hx1 : g[t]? = some (g[t]'(by rw [HP.out]; exact htp)) := List.getElem?_eq_getElem _
          generalize (g[t]'(by rw [HP.out]; exact htp)) = c at hx1
          obtain ⟨b5, o5, rfl, _, hlb5, f1⟩ := hI1.at hx1
          have hcr := (HS.out.grp HG1.out).2.2 c (List.mem_of_getElem? hx1)
          have hn8 := HS.out.n8
          have hc1 := fun W : World => num_any c W (by omega) (by omega)
          have hy1 := encB_size (zig c)
          have hpn := pre2_next l1 q hx1
          rw [← hT.out] at hpn
          generalize encB (zig c) = y at hc1 hy1 hpn
          have HPN := Lib.hid hpn
          have j1 : (t : Int) < (p : Int) := by omega
          have j0 : (0 : Int) ≤ (t : Int) := by omega
          clear hI1 hx1 hcr hn8 hpn
          go_wp2_with fail
          refine (hc1 _).mono ?_
          rintro e w3 ⟨rfl, hw3⟩
          have hO := hO.below hw3 (Nat.le_refl _)
          have hB := hB.trans (hw3.mono hB.size)
          clear hw3 hc1 f1
          go_wp2_with (at_builtin; go_must (refine wpList_append_ownB _ rfl _ _ 48 9 rfl w.heap.size 5 i0 Try.underlying48 Try.underlying9 hi hz0 hz1 hz2 u3 s y rfl hO rfl (by unfold maxLen; omega) (by omega) hB.size ?_))
          intro v6 y6 hO6 hgrow6
          have hB := hB.grown hgrow6 hB.size (fun k hk => (hO.lt k hk).1)
          clear hgrow6 hO
          go_wp2
          go_roundw
          case rel => exact ⟨t + 1, s ++ y, _, by omega, by go_num, rfl, hO6, HPN, hB⟩
          case measure => simp [intOf]; omega
        · obtain rfl : t = p := by omega
          have HE : Hid (s = pre1 l1 (q + 1)) := Lib.hid (by rw [hT.out, ← pre1_next HG1.out, HP.out])
          go_wp2
          clear hI1
          go_roundw
          case rel => exact ⟨q + 1, s, _, by omega, by go_num, rfl, hO, HE, hB⟩
          case measure => simp [intOf]; omega
    · obtain rfl : q = m := by omega
      have HQ : Hid (s = ans) := Lib.hid (hH.out.trans HP1.out)
      have hcv := run_string_own (P := Try.prog) wr w.heap.size 48 9 5 _ s Try.underlying48 Try.underlying5 Try.underlying9 hO
      clear hO
      go_wp2
      go_ret
      exact ⟨by rw [HQ.out]; rfl, hB⟩
end Go.Proofs.Ytifcepjflkgbmaa.Sp
