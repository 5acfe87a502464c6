/- slab.Put where the write is taken. -/
import Derived.Test.YtnmgaafpbbeceaaD
namespace Go.Proofs.Ytnmgaafpbbeceaa
open Go.RowKit Go.Shelf

set_option maxHeartbeats 2000000 in
theorem put_ok {K : Nat} (v : Value) (D : Dev) (x : Int) (d : ByteArray) (w : World) (h : IsDev w v D) (hok : D.Ok K) (hK : K ≤ 100000) (hs : d.size ≤ 256) (ha : D.has x = true) (hp : D.pow = true) :
    Calls Try.prog 12 #[v, .int .i64 x, .string d] w (DevErr (D.putAt x d) 0 w) := by
  obtain ⟨b, B, c, k, rfl, hlt, hnc, hc, hl, h0⟩ := h
  have HH := Lib.hid ha
  have HQ := Lib.hid (pow_yes hp)
  have hm := hok.m2
  have hd2 := hok.d2
  have hl1 := hok.l1
  have hl2 := hok.l2
  have hd1 := hok.d1
  have HC := Lib.hid hc
  have HL := Lib.hid hl
  have H0 := Lib.hid h0
  clear hc hl h0 ha hp hok
  obtain ⟨n, S, m, LA, LD, dead, left, deeds⟩ := D
  have HQ2 : Hid (dead = false ∧ left ≠ 0) := HQ
  simp only at hm hd2 hl1 hl2 hd1 hnc
  clear HQ
  obtain rfl : dead = false := HQ2.out.1
  have HQ3 := Lib.hid HQ2.out.2
  clear HQ2
  have HLE : Hid (lessLeft left = lessLeft left) := rfl
  go_enter Try.func12, Try.ntmps12
  go_wp2_with (first
    | (go_at_call 20
       refine (has_any _ _ _ _ _ _ _ _ _ _ _ true HH.out.symm).mono ?_
       rintro e w1 ⟨rfl, hb1⟩
       simp only [World.size_alloc] at hb1
       obtain ⟨hcc, hff⟩ := bcell hb1
       have hs1 := hb1.size
       simp only [World.size_alloc] at hs1)
    | (go_at_call 18
       refine (deed_yes _ _ _ _ _ _ _ _ _ HQ3.out (by omega) (by omega) (by omega) (by omega)).mono ?_
       rintro e w2 ⟨rfl, hb2⟩
       generalize hle : lessLeft left = left2
       have hb3 := hb1.trans (hb2.mono (by simpa using hs1))
       clear hcc hff
       have HX := Lib.hid (((Box5.new w _ _ _ _ _ 31).alloc _).below hb3 (by omega))
       have HY := Lib.hid ((Box5.new _ _ _ _ _ _ 31).below hb3 (by simp)))
    | (refine wpList_store5 rfl 31 (.tmp 3) (.tmp 22) rfl w.heap.size _ _ _ _ _ _ _ _ _ _ rfl rfl HX.out size31 (by simp [Value.oneCell']) ?_
       intro w3 hx3 hbut3
       have hy3 := HY.out.but hbut3 (by simp)
       simp only [World.size_alloc] at hy3
       have hb4 : Below w.heap.size w w3 := ((((Below.refl w.heap.size w).alloc (by simp) _).alloc (by simp) _).trans (hb3.mono (by omega))).trans (hbut3.below (Nat.le_refl _))
       have hs3 : w.heap.size + 1 < w3.heap.size := (World.block_lt_of_cell? w3 _ hy3.c0)
       have hcx1 := hx3.c1))
  have HLE2 := Lib.hid hle
  have hl3 : HasLate w3.drew B m LA LD := HL.out.below hb4.drew (Nat.le_refl _)
  have HL3 := Lib.hid hl3
  clear hl3 HL hle hb1 hb3 HX HY hbut3
  go_region_with (first
      | (go_at_call 25
         refine (padded_any _ _ hs).mono ?_
         rintro e w5 ⟨rfl, hb5⟩
         have hs5 : w3.heap.size ≤ w5.heap.size := hb5.size
         have hq5 : w5.cell? ⟨w.heap.size, 1, none⟩ = some (.slice B m k) := (hb5.cell (p := ⟨w.heap.size, 1, none⟩) (by simp; omega)).trans (by simp [*]))
      | (go_at_call 24
         refine (with_any _ _ _ LA LD _ _ _ (by omega) (HL3.out.below hb5 (Nat.le_refl _)) H0.out).mono ?_
         rintro e w6 ⟨g, cap, rfl, hl6, hg6, hb6⟩
         have hq6 : w6.cell? ⟨w.heap.size, 1, none⟩ = some (.slice B m k) := (hb6.cell (p := ⟨w.heap.size, 1, none⟩) (by simp; omega)).trans hq5
         have hf6 : w6.frozen? ⟨w.heap.size, 1, none⟩ = false := (hb6.frozen (p := ⟨w.heap.size, 1, none⟩) (by simp; omega)).trans ((hb5.frozen (p := ⟨w.heap.size, 1, none⟩) (by simp; omega)).trans (hx3.f 1))))
  all_goals
    have hb36 : Below w3.heap.size w3 w6 := ((Below.refl _ w3).drew.trans hb5).trans (hb6.mono hs5)
    have hb46 : Below w.heap.size w w6 := hb4.trans (hb36.mono (by omega))
    have hx6 := hx3.below hb36 (by omega)
    have hy6 := hy3.below hb36 (by omega)
    have hd6 : DevAt w6 b (some ⟨g, 0, none⟩) (.agg #[.slice (some ⟨b, 0, none⟩) n c, .slice (some ⟨g, 0, none⟩) (m + 1) cap, .bool false, .int .i64 left2, .int .i64 (deeds + 1)]) (Dev.putAt { n := n, S := S, m := m, LA := LA, LD := LD, dead := false, left := left, deeds := deeds } x d) :=
      ⟨c, cap, (by rw [← HLE2.out]; rfl), Nat.lt_of_lt_of_le hlt hb46.size, hnc, fun j hj => (hb46.cell (p := ⟨b, j, none⟩) hlt).trans (HC.out j hj), hl6, fun h => absurd h (by simp [Dev.putAt])⟩
    have n1 : w.heap.size ≠ b := by omega
    have n2 : w.heap.size + 1 ≠ b := by omega
    have n3 : w.heap.size ≠ g := by omega
    have n4 : w.heap.size + 1 ≠ g := by omega
    have hfx := hx6.f
    have hfy := hy6.f
    have kx0 := hx6.c0
    have kx2 := hx6.c2
    have kx3 := hx6.c3
    have kx4 := hx6.c4
    have ky0 := hy6.c0
    have ky1 := hy6.c1
    have ky2 := hy6.c2
    have ky3 := hy6.c3
    have ky4 := hy6.c4
    clear hb5 hb6 hb4 HL3 hcx1 hl6 hq5
    go_wp2
    refine bodyPost_ret (v := .tuple #[.agg #[.slice (some ⟨b, 0, none⟩) n c, .slice (some ⟨g, 0, none⟩) (m + 1) cap, .bool false, .int .i64 left2, .int .i64 (deeds + 1)], .int .i64 0]) (by simp [results, Try.results12, go_sem, ky0, ky1, ky2, ky3, ky4]) rfl ⟨_, rfl, ⟨b, some ⟨g, 0, none⟩, ?_⟩, ?_⟩
    · repeat (first | (with_reducible exact hd6) | refine DevAt.setCell ?_ (by simp; omega) (fun a h => by injection h with h; subst h; simp; omega) _)
    · repeat (first | (with_reducible exact hb46) | refine Below.setCell ?_ (by simp) _)
end Go.Proofs.Ytnmgaafpbbeceaa
