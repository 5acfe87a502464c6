/- The law SlabCounts, walked to its end. -/
import Derived.Test.YtnmgaafpbbeceaaW
namespace Go.Proofs.Ytnmgaafpbbeceaa
open Go.RowKit Go.Shelf

theorem IsDev.shape {w : World} {v : Value} {D : Dev} (h : IsDev w v D) : ∃ b c B k, v = .agg #[.slice (some ⟨b, 0, none⟩) D.n c, .slice B D.m k, .bool D.dead, .int .i64 D.left, .int .i64 D.deeds] := by
  obtain ⟨b, B, c, k, hv, _⟩ := h
  exact ⟨b, c, B, k, hv⟩

def CountsRel (w : World) (g t q dn : Nat) (wr : World) : Prop :=
  ∃ (b c : Nat) (B : Option Addr) (k : Nat) (D : Dev), IsDev wr (.agg #[.slice (some ⟨b, 0, none⟩) D.n c, .slice B D.m k, .bool D.dead, .int .i64 D.left, .int .i64 D.deeds]) D ∧ D.Ok q ∧ Cnt D t dn ∧
    Box5 wr g (.slice (some ⟨b, 0, none⟩) D.n c) (.slice B D.m k) (.bool D.dead) (.int .i64 D.left) (.int .i64 D.deeds) ∧ Below w.heap.size w wr

set_option maxRecDepth 100000 in
set_option maxHeartbeats 2000000 in
theorem counts_walked (aw : Awake) (A : Option Addr) (m c : Nat) (L : Nat → Deed) (x : Int) (w : World) (hx : 0 ≤ x ∧ x < 256) (hm : m ≤ 9223372036854775807) (h : Acts w A m L) :
    Calls Try.prog 4 #[.int .u8 x, .slice A m c] w fun e w' => e = .returned (.bool true) ∧ Below w.heap.size w w' := by
  have AW := Lib.hid aw
  have HS := Lib.hid (small_any A m c L w hm h)
  have HA := Lib.hid h
  clear aw h
  go_enter Try.func4, Try.ntmps4
  go_wp2_with fail
  refine (HS.out).mono ?_
  rintro e w' ⟨r, rfl, hr, rfl⟩
  have HR := Lib.hid hr
  clear hr
  cases r
  · go_wp2_with (go_at_call 8; refine (AW.out _).mono ?_; rintro e w1 ⟨rfl, hb⟩)
    go_ret
    exact ⟨rfl, hb⟩
  · go_wp2_with fail
    refine (new_any 3 _ (by omega) (by omega)).mono ?_
    clear HS
    rintro e w1 ⟨v1, rfl, hd1, hb1⟩
    obtain ⟨b1, c1, B1, k1, rfl⟩ := hd1.shape
    obtain ⟨t, ht⟩ : ∃ t : Nat, x % 30 = (t : Int) := ⟨(x % 30).toNat, by omega⟩
    go_wp2_with fail
    refine (arm_dev _ (fresh 3) (t : Int) _ (hd1.below ((Below.refl _ w1).alloc (Nat.le_refl _) _) (Nat.le_refl _))).mono ?_
    rintro e w2 ⟨v2, rfl, hd2, hb2⟩
    have hlt1 : w.heap.size ≤ w1.heap.size := hb1.size
    have hs2 : w1.heap.size + 1 ≤ w2.heap.size := by have := hb2.size; simpa using this
    simp only [World.size_alloc] at hb2
    have hbw2 : Below w.heap.size w w2 := (hb1.alloc hb1.size _).trans (hb2.mono (by have := hb1.size; omega))
    have hy2 := (Box5.new w1 _ _ _ _ _ 31).below hb2 (by omega)
    obtain ⟨b2, c2, B2, k2, rfl⟩ := hd2.shape
    have HD2 := Lib.hid hd2
    have z0 := hy2.c0
    have z1 := hy2.c1
    have z2 := hy2.c2
    have z3 := hy2.c3
    have z4 := hy2.c4
    have zf := hy2.f
    clear hd1 hb1 hb2 hd2
    go_wp2_with fail
    have hp0 : CountsRel w w1.heap.size t 0 0 _ := ⟨b2, c2, B2, k2, armed (fresh 3) t, HD2.out.but (by show 1 ≤ 3; omega) z0 (but5 w2 w1.heap.size _ _ _ _ _), (fresh_ok 3 (by omega) (by omega)).armed t (by omega), cnt0 t,
      hy2.set _ _ _ _ _, hbw2.trans ((but5 w2 w1.heap.size _ _ _ _ _).below hlt1)⟩
    have HP0 := Lib.hid hp0
    clear hp0 hbw2 hy2 z0 z1 z2 z3 z4 zf HD2
    have HM := Lib.hid (HR.out (by first | rfl | trivial))
    have hm60 : m ≤ 60 := HM.out.1
    clear HR
    go_loopw [7, 8] (fun u v wr => ∃ q dn : Nat, q ≤ m ∧ u = .int .i64 dn ∧ v = .int .i64 q ∧ CountsRel w w1.heap.size t q dn wr) (fun _ v _ => m - (intOf v).toNat)
    case atStart => exact ⟨0, 0, Nat.zero_le _, rfl, rfl, HP0.out⟩
    case round =>
      obtain ⟨q, dn, hq, rfl, rfl, b, c', B, k, D, hd, hok, hcn, hbox, hbw⟩ := hrel
      have kx0 := hbox.c0
      have kx1 := hbox.c1
      have kx2 := hbox.c2
      have kx3 := hbox.c3
      have kx4 := hbox.c4
      have kxf := hbox.f
      have HD := Lib.hid hd
      have HC := Lib.hid hcn
      clear hd hcn
      by_cases hqm : q < m
      · obtain ⟨bl, off, rfl, hbl, hlc⟩ := HA.out.2 (by omega)
        obtain ⟨l0, _⟩ := hlc q hqm
        have m0 := (hbw.cell (p := ⟨bl, off + q * 6, none⟩) hbl).trans l0
        have i1 : (0 : Int) ≤ (q : Int) := by omega
        have i2 : (q : Int) < (m : Int) := by omega
        have hgl : w1.heap.size < wr.heap.size := World.block_lt_of_cell? wr _ kx0
        clear hlc l0
        go_wp2_with fail
        obtain ⟨a, hqa, ha4⟩ : ∃ a : Nat, (q : Int) % 4 = (a : Int) ∧ a < 4 := ⟨q % 4, by omega, by omega⟩
        have hgw : w.heap.size ≤ w1.heap.size := hlt1
        have hdt : dn ≤ t := HC.out.le
        have hdw : Below wr.heap.size wr wr.drew := (Below.refl _ wr).drew
        go_region
        go_wp2_with fail
        · refine (putC _ D t dn a _ _ (HD.out.below hdw (Nat.le_refl _)) hok (by omega) HC.out (by decide) ha4).mono ?_
          rintro e w5 ⟨v5, err, rfl, D5, dn5, hd5, hok5, hc5, hcame, hb5⟩
          obtain ⟨b5, c5, B5, k5, rfl⟩ := hd5.shape
          have hb35 : Below wr.heap.size wr w5 := hdw.trans hb5
          have hbox5 := hbox.below hb35 hgl
          have q0 := hbox5.c0
          have q1 := hbox5.c1
          have q2 := hbox5.c2
          have q3 := hbox5.c3
          have q4 := hbox5.c4
          have qf := hbox5.f
          have HD5 := Lib.hid hd5
          have HC5 := Lib.hid hc5
          clear hd5 hc5 kx0 kx1 kx2 kx3 kx4 kxf
          rcases hcame with ⟨rfl, rfl, rfl⟩ | ⟨h3, hlt, rfl, rfl⟩ | ⟨h3, rfl, rfl, rfl⟩
          · go_wp2
            go_roundw
            case rel => exact ⟨q + 1, dn5, by omega, rfl, by go_num, b5, c5, B5, k5, D5, HD5.out.but hok5.n1 q0 (but5 w5 _ _ _ _ _ _), hok5, HC5.out, hbox5.set _ _ _ _ _, (hbw.trans (hb35.mono hbw.size)).trans ((but5 w5 _ _ _ _ _ _).below hgw)⟩
            case measure => simp [intOf]; omega
          · have j1 : ¬ (a : Int) = 3 := by omega
            have j2 : (a : Int) < 3 := by omega
            have j3 : (dn : Int) < (t : Int) := by omega
            go_wp2
            go_roundw
            case rel => exact ⟨q + 1, dn + 1, by omega, by go_num, by go_num, b5, c5, B5, k5, D5, HD5.out.but hok5.n1 q0 (but5 w5 _ _ _ _ _ _), hok5, HC5.out, hbox5.set _ _ _ _ _, (hbw.trans (hb35.mono hbw.size)).trans ((but5 w5 _ _ _ _ _ _).below hgw)⟩
            case measure => simp [intOf]; omega
          · have j1 : ¬ (a : Int) = 3 := by omega
            have j2 : (a : Int) < 3 := by omega
            go_wp2
            go_roundw
            case rel => exact ⟨q + 1, _, by omega, rfl, by go_num, b5, c5, B5, k5, D5, HD5.out.but hok5.n1 q0 (but5 w5 _ _ _ _ _ _), hok5, HC5.out, hbox5.set _ _ _ _ _, (hbw.trans (hb35.mono hbw.size)).trans ((but5 w5 _ _ _ _ _ _).below hgw)⟩
            case measure => simp [intOf]; omega
        · refine (getC _ D t dn a _ (HD.out.below hdw (Nat.le_refl _)) hok (by omega) HC.out ha4).mono ?_
          rintro e w5 ⟨v5, s5, err, rfl, D5, dn5, hd5, hok5, hc5, hcame, hb5⟩
          obtain ⟨b5, c5, B5, k5, rfl⟩ := hd5.shape
          have hb35 : Below wr.heap.size wr w5 := hdw.trans hb5
          have hbox5 := hbox.below hb35 hgl
          have q0 := hbox5.c0
          have q1 := hbox5.c1
          have q2 := hbox5.c2
          have q3 := hbox5.c3
          have q4 := hbox5.c4
          have qf := hbox5.f
          have HD5 := Lib.hid hd5
          have HC5 := Lib.hid hc5
          clear hd5 hc5 kx0 kx1 kx2 kx3 kx4 kxf
          rcases hcame with ⟨rfl, rfl, rfl⟩ | ⟨h3, hlt, rfl, rfl⟩ | ⟨h3, rfl, rfl, rfl⟩
          · go_wp2
            go_roundw
            case rel => exact ⟨q + 1, dn5, by omega, rfl, by go_num, b5, c5, B5, k5, D5, HD5.out.but hok5.n1 q0 (but5 w5 _ _ _ _ _ _), hok5, HC5.out, hbox5.set _ _ _ _ _, (hbw.trans (hb35.mono hbw.size)).trans ((but5 w5 _ _ _ _ _ _).below hgw)⟩
            case measure => simp [intOf]; omega
          · have j1 : ¬ (a : Int) = 3 := by omega
            have j2 : (a : Int) < 3 := by omega
            have j3 : (dn : Int) < (t : Int) := by omega
            go_wp2
            go_roundw
            case rel => exact ⟨q + 1, dn + 1, by omega, by go_num, by go_num, b5, c5, B5, k5, D5, HD5.out.but hok5.n1 q0 (but5 w5 _ _ _ _ _ _), hok5, HC5.out, hbox5.set _ _ _ _ _, (hbw.trans (hb35.mono hbw.size)).trans ((but5 w5 _ _ _ _ _ _).below hgw)⟩
            case measure => simp [intOf]; omega
          · have j1 : ¬ (a : Int) = 3 := by omega
            have j2 : (a : Int) < 3 := by omega
            go_wp2
            go_roundw
            case rel => exact ⟨q + 1, _, by omega, rfl, by go_num, b5, c5, B5, k5, D5, HD5.out.but hok5.n1 q0 (but5 w5 _ _ _ _ _ _), hok5, HC5.out, hbox5.set _ _ _ _ _, (hbw.trans (hb35.mono hbw.size)).trans ((but5 w5 _ _ _ _ _ _).below hgw)⟩
            case measure => simp [intOf]; omega
      · obtain rfl : q = m := by omega
        have hgl : w1.heap.size < wr.heap.size := World.block_lt_of_cell? wr _ kx0
        go_wp2_with fail
        refine (start3 _ D _ HD.out hok (by omega)).mono ?_
        rintro e w5 ⟨v5, rfl, hd5, hb5⟩
        have hbox5 := hbox.below hb5 hgl
        obtain ⟨b5, c5, B5, k5, rfl⟩ := hd5.shape
        have q0 := hbox5.c0
        have q1 := hbox5.c1
        have q2 := hbox5.c2
        have q3 := hbox5.c3
        have q4 := hbox5.c4
        have HD5 := Lib.hid hd5
        clear hd5 kx0 kx1 kx2 kx3 kx4 kxf
        go_wp2_with fail
        refine (flush3 _ D _ hok HD5.out).mono ?_
        rintro e w6 ⟨v6, D6, rfl, hd6, hb6⟩
        obtain ⟨b6, c6, B6, k6, rfl⟩ := hd6.shape
        clear hd6
        have hbox6 := hbox5.below hb6 (by have := hb5.size; omega)
        have r0 := hbox6.c0
        have r1 := hbox6.c1
        have r2 := hbox6.c2
        have r3 := hbox6.c3
        have r4 := hbox6.c4
        clear q0 q1 q2 q3 q4
        go_wp2_with fail
        refine (AW.out _).mono ?_
        rintro e w7 ⟨rfl, hb7⟩
        simp only [World.size_alloc] at hb7
        have hb67 : Below w6.heap.size w6 w7 := ((Below.refl _ w6).alloc (Nat.le_refl _) _).trans (hb7.mono (by omega))
        have hbox7 := hbox6.below hb67 (World.block_lt_of_cell? _ _ r0)
        have s0 := hbox7.c0
        have s1 := hbox7.c1
        have s2 := hbox7.c2
        have s3 := hbox7.c3
        have s4 := hbox7.c4
        have hdd := HC.out.dd
        rw [hdd] at s4
        clear r0 r1 r2 r3 r4
        go_wp2
        go_ret
        exact ⟨rfl, ((hbw.trans (hb5.mono hbw.size)).trans (hb6.mono (Nat.le_trans hbw.size hb5.size))).trans (hb67.mono (Nat.le_trans hbw.size (Nat.le_trans hb5.size hb6.size)))⟩
end Go.Proofs.Ytnmgaafpbbeceaa
