/- slab.Get where a sector is told. -/
import Derived.Test.YtnmgaafpbbeceaaH
namespace Go.Proofs.Ytnmgaafpbbeceaa
open Go.RowKit Go.Shelf

theorem keep5 {w : World} {g g' : Nat} {v0 v1 v2 v3 v4 : Value} (h : Box5 w g v0 v1 v2 v3 v4) (hne : g ≠ g') (u0 u1 u2 u3 u4 : Value) :
    (((((w.setCell ⟨g', 0, none⟩ u0).setCell ⟨g', 1, none⟩ u1).setCell ⟨g', 2, none⟩ u2).setCell ⟨g', 3, none⟩ u3).setCell ⟨g', 4, none⟩ u4).cell? ⟨g, 0, none⟩ = some v0 ∧
    (((((w.setCell ⟨g', 0, none⟩ u0).setCell ⟨g', 1, none⟩ u1).setCell ⟨g', 2, none⟩ u2).setCell ⟨g', 3, none⟩ u3).setCell ⟨g', 4, none⟩ u4).cell? ⟨g, 1, none⟩ = some v1 ∧
    (((((w.setCell ⟨g', 0, none⟩ u0).setCell ⟨g', 1, none⟩ u1).setCell ⟨g', 2, none⟩ u2).setCell ⟨g', 3, none⟩ u3).setCell ⟨g', 4, none⟩ u4).cell? ⟨g, 2, none⟩ = some v2 ∧
    (((((w.setCell ⟨g', 0, none⟩ u0).setCell ⟨g', 1, none⟩ u1).setCell ⟨g', 2, none⟩ u2).setCell ⟨g', 3, none⟩ u3).setCell ⟨g', 4, none⟩ u4).cell? ⟨g, 3, none⟩ = some v3 ∧
    (((((w.setCell ⟨g', 0, none⟩ u0).setCell ⟨g', 1, none⟩ u1).setCell ⟨g', 2, none⟩ u2).setCell ⟨g', 3, none⟩ u3).setCell ⟨g', 4, none⟩ u4).cell? ⟨g, 4, none⟩ = some v4 :=
  have hb := h.but ((((((But.refl g' w).setCell 0 u0).setCell 1 u1).setCell 2 u2).setCell 3 u3).setCell 4 u4) hne
  ⟨hb.c0, hb.c1, hb.c2, hb.c3, hb.c4⟩

set_option maxHeartbeats 2000000 in
theorem get_ok {K : Nat} (v : Value) (D : Dev) (x : Nat) (w : World) (h : IsDev w v D) (hok : D.Ok K) (hK : K ≤ 100000) (ha : D.has x = true) (hp : D.pow = true) :
    Calls Try.prog 15 #[v, .int .i64 x] w (GetErr D.up (look D.LA D.LD x (D.S x) D.m) 0 w) := by
  obtain ⟨b, B, c, k, rfl, hlt, hnc, hc, hl, h0⟩ := h
  have hd : DevAt w b B (.agg #[.slice (some ⟨b, 0, none⟩) D.n c, .slice B D.m k, .bool D.dead, .int .i64 (lessLeft D.left), .int .i64 (D.deeds + 1)]) D.up := ⟨c, k, rfl, hlt, hnc, hc, hl, h0⟩
  have HD := Lib.hid hd
  have hxn : x < D.n := by
    unfold Dev.has at ha
    simp at ha
    exact ha
  have HH := Lib.hid ha
  have HQ := Lib.hid (pow_yes hp)
  have hm := hok.m2
  have hd2 := hok.d2
  have hl1 := hok.l1
  have hl2 := hok.l2
  have hd1 := hok.d1
  have hS := hc x hxn
  have HS := Lib.hid hS
  have HL := Lib.hid hl
  have H0 := Lib.hid h0
  clear hc hl h0 ha hp hok hS hd
  obtain ⟨n, S, m, LA, LD, dead, left, deeds⟩ := D
  have HQ2 : Hid (dead = false ∧ left ≠ 0) := HQ
  simp only at hm hd2 hl1 hl2 hd1 hnc hxn
  clear HQ
  obtain rfl : dead = false := HQ2.out.1
  have HQ3 := Lib.hid HQ2.out.2
  clear HQ2
  have HS2 : Hid (w.cell? ⟨b, x, none⟩ = some (.string (S x))) := HS
  clear HS
  have HD2 : Hid (DevAt w b B (.agg #[.slice (some ⟨b, 0, none⟩) n c, .slice B m k, .bool false, .int .i64 (lessLeft left), .int .i64 (deeds + 1)]) (Dev.up { n := n, S := S, m := m, LA := LA, LD := LD, dead := false, left := left, deeds := deeds })) := HD
  clear HD
  show Calls Try.prog 15 _ w (GetErr _ (look LA LD x (S x) m) 0 w)
  go_enter Try.func15, Try.ntmps15
  go_wp2_with (first
    | (go_at_call 20
       refine (has_any _ _ _ _ _ _ _ _ _ _ _ true HH.out.symm).mono ?_
       rintro e w1 ⟨rfl, hb1⟩
       simp only [World.size_alloc] at hb1
       obtain ⟨hcc, hff⟩ := bcell hb1
       have hs1 := hb1.size
       simp only [World.size_alloc] at hs1)
    | (go_at_call 18
       refine (deed_yes _ _ _ _ _ _ _ _ _ HQ3.out (by omega) (by omega) (by omega) (by omega)).mono ?_
       rintro e w2 ⟨rfl, hb2⟩
       generalize hle : lessLeft left = left2 at HD2
       have hb3 := hb1.trans (hb2.mono (by simpa using hs1))
       clear hcc hff
       have HX := Lib.hid (((Box5.new w _ _ _ _ _ 31).alloc _).below hb3 (by omega))
       have HY := Lib.hid ((Box5.new _ _ _ _ _ _ 31).below hb3 (by simp)))
    | (refine wpList_store5 rfl 31 (.tmp 2) (.tmp 16) rfl w.heap.size _ _ _ _ _ _ _ _ _ _ rfl rfl HX.out size31 (by simp [Value.oneCell']) ?_
       intro w3 hx3 hbut3
       have hy3 := HY.out.but hbut3 (by simp)
       simp only [World.size_alloc] at hy3
       have hb4 : Below w.heap.size w w3 := ((((Below.refl w.heap.size w).alloc (by simp) _).alloc (by simp) _).trans (hb3.mono (by omega))).trans (hbut3.below (Nat.le_refl _))
       have hs3 : w.heap.size + 1 < w3.heap.size := (World.block_lt_of_cell? w3 _ hy3.c0)
       have hcx0 := hx3.c0
       have hcx1 := hx3.c1
       have hcx2 := hx3.c2
       have hcx3 := hx3.c3
       have hcx4 := hx3.c4))
  have hl3 : HasLate w3.drew B m LA LD := HL.out.below hb4.drew (Nat.le_refl _)
  have HL3 := Lib.hid hl3
  have HS3 : Hid (w3.drew.cell? ⟨b, x, none⟩ = some (.string (S x))) := (hb4.drew.cell (p := ⟨b, x, none⟩) hlt).trans HS2.out
  clear hl3 HL hle hb1 hb3 HX HY hbut3 HS2
  have hne : w.heap.size ≠ w.heap.size + 1 := by omega
  have hS0 : Hid (w3.drew.cell? ⟨w.heap.size, 0, none⟩ = some (.slice (some ⟨b, 0, none⟩) n c) ∧ w3.drew.cell? ⟨w.heap.size, 1, none⟩ = some (.slice B m k) ∧ w3.drew.cell? ⟨w.heap.size, 2, none⟩ = some (.bool false) ∧ w3.drew.cell? ⟨w.heap.size, 3, none⟩ = some (.int .i64 left2) ∧ w3.drew.cell? ⟨w.heap.size, 4, none⟩ = some (.int .i64 (deeds + 1))) := ⟨hcx0, hcx1, hcx2, hcx3, hcx4⟩
  clear hcx0 hcx1 hcx2 hcx3 hcx4
  go_region_held3 (fun w' => w'.cell? ⟨w.heap.size, 0, none⟩ = some (.slice (some ⟨b, 0, none⟩) n c) ∧ w'.cell? ⟨w.heap.size, 1, none⟩ = some (.slice B m k) ∧ w'.cell? ⟨w.heap.size, 2, none⟩ = some (.bool false) ∧ w'.cell? ⟨w.heap.size, 3, none⟩ = some (.int .i64 left2) ∧ w'.cell? ⟨w.heap.size, 4, none⟩ = some (.int .i64 (deeds + 1)))
    (first
      | (with_reducible exact ⟨hx6.c0, hx6.c1, hx6.c2, hx6.c3, hx6.c4⟩)
      | (with_reducible exact keep5 hx6 hne _ _ _ _ _)
      | (with_reducible exact hS0.out))
    ((go_at_call 27
      refine (latest_any _ _ _ _ _ _ _ _ _ x (S x) LA LD _ (by omega) hxn HS3.out HL3.out H0.out).mono ?_
      rintro e w6 ⟨rfl, hb6⟩
      have hb36 : Below w3.heap.size w3 w6 := (Below.refl _ w3).drew.trans hb6
      have hx6 := hx3.below hb36 (by omega)
      have hy6 := hy3.below hb36 (by omega)
      have ky0 := hy6.c0
      have ky1 := hy6.c1
      have ky2 := hy6.c2
      have ky3 := hy6.c3
      have ky4 := hy6.c4
      have hfy := hy6.f
      have hb46 : Below w.heap.size w w6 := hb4.trans (hb36.mono (by omega))))
  go_wp2
  refine bodyPost_ret (v := .tuple #[.agg #[.slice (some ⟨b, 0, none⟩) n c, .slice B m k, .bool false, .int .i64 left2, .int .i64 (deeds + 1)], .string (look LA LD x (S x) m), .int .i64 0]) (by simp [results, Try.results15, go_sem, ky0, ky1, ky2, ky3, ky4]) rfl (getErr_of HD2.out ?_)
  repeat (first | (with_reducible exact hb46) | refine Below.setCell ?_ (by simp) _)
end Go.Proofs.Ytnmgaafpbbeceaa
