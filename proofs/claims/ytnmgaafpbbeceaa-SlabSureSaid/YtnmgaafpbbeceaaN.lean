/- A list of deeds: whether it is small; a device behind it. -/
import Derived.Test.YtnmgaafpbbeceaaM
namespace Go.Proofs.Ytnmgaafpbbeceaa
open Go.RowKit Go.Shelf

structure Deed where
  k : Int
  at_ : Int
  d : ByteArray
  st : Int
  tn : Int
  by_ : Int
structure Deed.Ok (a : Deed) : Prop where
  a2 : a.at_ ≤ 9223372036854775807
  s0 : 0 ≤ a.st
  s1 : a.st < 18446744073709551616
  dz : a.d.size ≤ 9223372036854775807

/-- The slice at A of m deeds holds the deeds L. -/
def Acts (w : World) (A : Option Addr) (m : Nat) (L : Nat → Deed) : Prop :=
  (∀ j, j < m → (L j).Ok) ∧ (0 < m → ∃ b off, A = some ⟨b, off, none⟩ ∧ b < w.heap.size ∧ ∀ j, j < m →
    w.cell? ⟨b, off + j * 6, none⟩ = some (.int .i64 (L j).k) ∧ w.cell? ⟨b, off + j * 6 + 1, none⟩ = some (.int .i64 (L j).at_) ∧ w.cell? ⟨b, off + j * 6 + 2, none⟩ = some (.string (L j).d) ∧
    w.cell? ⟨b, off + j * 6 + 3, none⟩ = some (.int .u64 (L j).st) ∧ w.cell? ⟨b, off + j * 6 + 4, none⟩ = some (.int .i64 (L j).tn) ∧ w.cell? ⟨b, off + j * 6 + 5, none⟩ = some (.int .i64 (L j).by_))
theorem Acts.below {w w' : World} {A : Option Addr} {m : Nat} {L : Nat → Deed} {B : Nat} (h : Acts w A m L) (hb : Below B w w') (hB : w.heap.size ≤ B) : Acts w' A m L := by
  refine ⟨h.1, fun hm => ?_⟩
  obtain ⟨b, off, hA, hlt, hc⟩ := h.2 hm
  have hbB : b < B := Nat.lt_of_lt_of_le hlt hB
  have o : ∀ i, w'.cell? ⟨b, i, none⟩ = w.cell? ⟨b, i, none⟩ := fun i => hb.cell (p := ⟨b, i, none⟩) hbB
  exact ⟨b, off, hA, Nat.lt_of_lt_of_le hlt hb.size, fun j hj => by simp only [o]; exact hc j hj⟩

def SmallPost (m : Nat) (L : Nat → Deed) (w : World) (e : Ending) (w' : World) : Prop :=
  ∃ r : Bool, e = .returned (.bool r) ∧ (r = true → m ≤ 60 ∧ ∀ j, j < m → (L j).d.size ≤ 400) ∧ w = w'

set_option maxHeartbeats 1000000 in
theorem small_any (A : Option Addr) (m c : Nat) (L : Nat → Deed) (w : World) (hm : m ≤ 9223372036854775807) (h : Acts w A m L) : Calls Try.prog 7 #[.slice A m c] w (SmallPost m L w) := by
  have HA := Lib.hid h
  clear h
  go_enter Try.func7, Try.ntmps7
  go_wp2
  go_loop [3] (fun i => ∃ q : Nat, q ≤ m ∧ i = .int .i64 q ∧ Hid (∀ j, j < q → (L j).d.size ≤ 400)) (fun i => m - (intOf i).toNat)
  case atStart => exact ⟨0, Nat.zero_le _, rfl, fun j hj => absurd hj (Nat.not_lt_zero j)⟩
  case round =>
    obtain ⟨q, hq, rfl, hs⟩ := hrel
    by_cases hqm : q < m
    · obtain ⟨b, off, rfl, hlt, hc⟩ := HA.out.2 (by omega)
      obtain ⟨_, _, hd, _⟩ := hc q hqm
      have hdz := (HA.out.1 q hqm).dz
      clear hc
      by_cases h4 : (L q).d.size ≤ 400
      · go_wp2
        go_round
        case rel => exact ⟨q + 1, by omega, by go_num, fun j hj => by
          by_cases e : j = q
          · subst e; exact h4
          · exact hs.out j (by omega)⟩
        case measure => simp [intOf]; omega
      · go_wp2
        go_ret
        exact ⟨false, rfl, fun h => (by cases h), rfl⟩
    · obtain rfl : q = m := by omega
      by_cases h6 : q ≤ 60
      · go_wp2
        go_ret
        exact ⟨true, by simp; omega, fun _ => ⟨h6, hs.out⟩, rfl⟩
      · go_wp2
        go_ret
        exact ⟨false, by simp; omega, fun h => (by cases h), rfl⟩

def PlayedRel (w : World) (g r q : Nat) (wr : World) : Prop :=
  ∃ (b c : Nat) (B : Option Addr) (k : Nat) (D : Dev), IsDev wr (.agg #[.slice (some ⟨b, 0, none⟩) 5 c, .slice B D.m k, .bool D.dead, .int .i64 D.left, .int .i64 D.deeds]) D ∧ D.Ok q ∧ D.n = 5 ∧
    Box5 wr g (.slice (some ⟨b, 0, none⟩) 5 c) (.slice B D.m k) (.bool D.dead) (.int .i64 D.left) (.int .i64 D.deeds) ∧ (∃ y1 y2 y3 y4, Box5 wr r (.slice none 0 0) y1 y2 y3 y4) ∧ Below w.heap.size w wr

def PlayedPost (w : World) (e : Ending) (w' : World) : Prop := ∃ v, e = .returned v ∧ Weak 5 1000 w w' v

set_option maxHeartbeats 2000000 in
theorem played_any (A : Option Addr) (m c : Nat) (L : Nat → Deed) (w : World) (hm : m ≤ 60) (hz : ∀ j, j < m → (L j).d.size ≤ 400) (h : Acts w A m L) : Calls Try.prog 11 #[.slice A m c] w (PlayedPost w) := by
  have HA := Lib.hid h
  have HZ := Lib.hid hz
  clear h hz
  go_enter Try.func11, Try.ntmps11
  go_wp2_with (first
    | (go_at_call 13
       refine (new_any 5 _ (by omega) (by omega)).mono ?_
       rintro e w1 ⟨v1, rfl, hd1, hb1⟩
       obtain ⟨b1, B1, c1, k1, rfl, hlt1, hnc1, hc1, hl1, h01⟩ := hd1
       simp only [World.size_alloc] at hb1
       have hs1 : w.heap.size + 1 ≤ w1.heap.size := by have := hb1.size; simpa using this
       have hbw1 : Below w.heap.size w w1 := ((Below.refl w.heap.size w).alloc (Nat.le_refl _) _).trans (hb1.mono (by omega))
       have hy1 := (Box5.new w _ _ _ _ _ 31).below hb1 (by omega)
       have hd1 : IsDev w1 (.agg #[.slice (some ⟨b1, 0, none⟩) (fresh 5).n c1, .slice B1 (fresh 5).m k1, .bool (fresh 5).dead, .int .i64 (fresh 5).left, .int .i64 (fresh 5).deeds]) (fresh 5) := ⟨b1, B1, c1, k1, rfl, hlt1, hnc1, hc1, hl1, h01⟩
       have HD1 := Lib.hid hd1
       clear hc1 hl1 h01 hd1))
  have hbw2 := hbw1.alloc hbw1.size (.cells #[.slice (some ⟨b1, 0, none⟩) (fresh 5).n c1, .slice B1 (fresh 5).m k1, .bool (fresh 5).dead, .int .i64 (fresh 5).left, .int .i64 (fresh 5).deeds] 31)
  have hy2 := hy1.alloc (.cells #[.slice (some ⟨b1, 0, none⟩) (fresh 5).n c1, .slice B1 (fresh 5).m k1, .bool (fresh 5).dead, .int .i64 (fresh 5).left, .int .i64 (fresh 5).deeds] 31)
  have hp0 : PlayedRel w w1.heap.size w.heap.size 0 (w1.alloc (.cells #[.slice (some ⟨b1, 0, none⟩) (fresh 5).n c1, .slice B1 (fresh 5).m k1, .bool (fresh 5).dead, .int .i64 (fresh 5).left, .int .i64 (fresh 5).deeds] 31)) :=
    ⟨b1, c1, B1, k1, fresh 5, HD1.out.below ((Below.refl w1.heap.size w1).alloc (Nat.le_refl _) _) (Nat.le_refl _), fresh_ok 5 (by omega) (by omega), rfl, Box5.new w1 _ _ _ _ _ 31, ⟨_, _, _, _, hy2⟩, hbw2⟩
  have HP0 := Lib.hid hp0
  clear hp0 hbw2 hy2 hb1
  go_loopw [5] (fun u wr => ∃ q : Nat, q ≤ m ∧ u = .int .i64 q ∧ PlayedRel w w1.heap.size w.heap.size q wr) (fun u _ => m - (intOf u).toNat)
  case atStart => exact ⟨0, Nat.zero_le _, rfl, HP0.out⟩
  case round =>
    obtain ⟨q, hq, rfl, b, c', B, k, D, hd, hok, hn, hbox, ⟨y1, y2, y3, y4, hy⟩, hbw⟩ := hrel
    have kx0 := hbox.c0
    have kx1 := hbox.c1
    have kx2 := hbox.c2
    have kx3 := hbox.c3
    have kx4 := hbox.c4
    have HD := Lib.hid hd
    have HN := Lib.hid hn
    clear hd hn
    by_cases hqm : q < m
    · obtain ⟨bl, off, rfl, hbl, hlc⟩ := HA.out.2 (by omega)
      have hbw' := hbw
      obtain ⟨l0, l1, l2, l3, l4, l5⟩ := hlc q hqm
      have m0 := (hbw.cell (p := ⟨bl, off + q * 6, none⟩) hbl).trans l0
      have m1 := (hbw.cell (p := ⟨bl, off + q * 6 + 1, none⟩) hbl).trans l1
      have m2 := (hbw.cell (p := ⟨bl, off + q * 6 + 2, none⟩) hbl).trans l2
      have m3 := (hbw.cell (p := ⟨bl, off + q * 6 + 3, none⟩) hbl).trans l3
      have m4 := (hbw.cell (p := ⟨bl, off + q * 6 + 4, none⟩) hbl).trans l4
      have m5 := (hbw.cell (p := ⟨bl, off + q * 6 + 5, none⟩) hbl).trans l5
      have hz := HZ.out q hqm
      have hdo := HA.out.1 q hqm
      have i1 : (0 : Int) ≤ (q : Int) := by omega
      have i2 : (q : Int) < (m : Int) := by omega
      clear hlc l0 l1 l2 l3 l4 l5
      go_wp2
      have hgl : w1.heap.size < wr.heap.size := World.block_lt_of_cell? wr _ kx0
      go_region_with (go_at_call 23
                      refine (does_any _ D _ _ _ _ _ _ _ (HD.out.below ((Below.refl _ _).drew) (Nat.le_refl _)) hok (by omega) (by omega) hdo.a2 hdo.s0 hdo.s1).mono ?_
                      rintro e w5 ⟨v5, s5, err5, rfl, D5, ⟨b5, B5, c5, k5, rfl, hlt5, hnc5, hc5, hl5, h05⟩, hok5, hn5, hb5⟩
                      have hb35 : Below wr.heap.size wr w5 := (Below.refl _ wr).drew.trans hb5
                      have hbox5 := hbox.below hb35 hgl
                      have q0 := hbox5.c0
                      have q1 := hbox5.c1
                      have q2 := hbox5.c2
                      have q3 := hbox5.c3
                      have q4 := hbox5.c4
                      have qf := hbox5.f
                      have hd5 : IsDev w5 (.agg #[.slice (some ⟨b5, 0, none⟩) D5.n c5, .slice B5 D5.m k5, .bool D5.dead, .int .i64 D5.left, .int .i64 D5.deeds]) D5 := ⟨b5, B5, c5, k5, rfl, hlt5, hnc5, hc5, hl5, h05⟩
                      have HD5 := Lib.hid hd5
                      have HN5 := Lib.hid hn5
                      clear hd5 hn5 hc5 hl5 h05 hbox5)
      all_goals
        go_wp2
        go_roundw
        case rel =>
          have hn5 : D5.n = 5 := HN5.out.trans HN.out
          have hg : But w1.heap.size w5 _ := but5 w5 w1.heap.size (.slice (some ⟨b5, 0, none⟩) D5.n c5) (.slice B5 D5.m k5) (.bool D5.dead) (.int .i64 D5.left) (.int .i64 D5.deeds)
          have hbox6 := (hbox.below hb35 hgl).set (.slice (some ⟨b5, 0, none⟩) D5.n c5) (.slice B5 D5.m k5) (.bool D5.dead) (.int .i64 D5.left) (.int .i64 D5.deeds)
          have hdv := HD5.out.but hok5.n1 q0 hg
          rw [hn5] at hdv hbox6 hg
          refine ⟨q + 1, by omega, by go_num, b5, c5, B5, k5, D5, ?_, hok5, hn5, ?_, ⟨y1, y2, y3, y4, ?_⟩, ?_⟩
          · rw [hn5]; exact hdv
          · rw [hn5]; exact hbox6
          · rw [hn5]; exact (hy.below hb35 (by omega)).but hg (by omega)
          · rw [hn5]; exact (hbw.trans (hb35.mono (by omega))).trans (hg.below (by omega))
        case measure => simp [intOf]; omega
    · obtain rfl : q = m := by omega
      have z0 := hy.c0
      have z1 := hy.c1
      have z2 := hy.c2
      have z3 := hy.c3
      have z4 := hy.c4
      have zf := hy.f
      have hrs : w.heap.size < wr.heap.size := World.block_lt_of_cell? wr _ z0
      go_wp2
      refine bodyPost_ret (v := .agg #[.slice (some ⟨b, 0, none⟩) 5 c', .slice B D.m k, .bool D.dead, .int .i64 D.left, .int .i64 D.deeds]) (by simp [results, Try.results11, go_sem, z0, z1, z2, z3, z4]) rfl ⟨_, rfl, D, ?_, hok.more (by omega), HN.out, ?_⟩
      · exact HD.out.but hok.n1 hy.c0 (but5 wr w.heap.size _ _ _ _ _)
      · exact hbw.trans ((but5 wr w.heap.size _ _ _ _ _).below (Nat.le_refl _))
end Go.Proofs.Ytnmgaafpbbeceaa
