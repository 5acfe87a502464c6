/- The document's device: Put, walked. -/
import Derived.Test.YtdbemkdfndjakaaDoorHdF
namespace Go.Proofs.YtdbemkdfndjakaaDoor.Hd
open Go.RowKit Go.Shelf Tal Sla
theorem own_below {w w' : World} {B base : Nat} {e : TypeId} {size : Nat} {v : Value} {n : Nat} {xs : List Value} (h : w.ownsRow base e size v n xs) (hb : Below B w w') (hB : w.heap.size ≤ B) : w'.ownsRow base e size v n xs := by
  refine ⟨h.1, ?_⟩
  rcases h.2 with h2 | ⟨g, cap, cur, e1, e2, e3, r⟩
  · exact Or.inl h2
  · refine Or.inr ⟨g, cap, cur, e1, e2, ?_, r⟩
    have hg : g < w.heap.size := (Array.getElem?_eq_some_iff.1 e3).1
    rw [hb.block g (Nat.lt_of_lt_of_le hg hB)]
    exact e3
set_option maxHeartbeats 1000000 in
theorem refPut_down (v : Value) (D : Dev) (x : Int) (d : ByteArray) (w : World) (h : IsDev w v D) (hs : d.size ≤ 256) (ha : D.has x = true) (hp : D.pow = false) :
    Calls Tryd.prog 41 #[v, .int .i64 x, .string d] w (DevErr D.down 10 w) := by
  obtain ⟨b, B, c, k, rfl, hlt, hnc, hc, hl, h0⟩ := h
  have hd : DevAt w b B _ D := ⟨c, k, rfl, hlt, hnc, hc, hl, h0⟩
  have HD := Lib.hid hd.down
  have HH := Lib.hid ha
  have HQ := Lib.hid (pow_no hp)
  clear hd hc hl h0 ha hp
  obtain ⟨n, S, m, LA, LD, dead, left, deeds⟩ := D
  have HQ2 : Hid (dead = true ∨ left = 0) := HQ
  clear HQ
  have hx := of_decide_eq_true HH.out
  simp only at hx
  obtain ⟨hx0, hx1⟩ := hx
  have hs1 : ¬ (256 : Int) < (d.size : Int) := by omega
  go_enter Tryd.func41, Tryd.ntmps41
  go_wp2_with (first
    | (go_at_call 51
       refine (spend_no _ _ _ _ _ _ _ _ _ _ HQ2.out).mono ?_
       rintro e w2 ⟨rfl, hb3⟩
       simp only [World.size_alloc] at hb3
       have HX := Lib.hid (((Box5.new w _ _ _ _ _ 39).alloc _).below hb3 (by omega))
       have HY := Lib.hid ((Box5.new _ _ _ _ _ _ 39).below hb3 (by simp)))
    | (refine wpList_store5 rfl 39 (.tmp 3) (.tmp 27) rfl w.heap.size _ _ _ _ _ _ _ _ _ _ rfl rfl HX.out size31 (by simp [Value.oneCell']) ?_
       intro w3 hx3 hbut3
       have hy3 := HY.out.but hbut3 (by simp)
       simp only [World.size_alloc] at hy3
       have hcx0 := hx3.c0
       have hcx1 := hx3.c1
       have hcx2 := hx3.c2
       have hcx3 := hx3.c3
       have hcx4 := hx3.c4
       have hcy0 := hy3.c0
       have hcy1 := hy3.c1
       have hcy2 := hy3.c2
       have hcy3 := hy3.c3
       have hcy4 := hy3.c4
       have hfy := hy3.f))
  refine bodyPost_ret (v := .tuple #[.agg #[.slice (some ⟨b, 0, none⟩) n c, .slice B m k, .bool true, .int .i64 left, .int .i64 deeds], .int .i64 10]) (by simp [results, Tryd.results41, go_sem, hcy0, hcy1, hcy2, hcy3, hcy4]) rfl (devErr_of HD.out ?_)
  have hb4 : Below w.heap.size w w3 := ((((Below.refl w.heap.size w).alloc (by simp) _).alloc (by simp) _).trans (hb3.mono (by omega))).trans (hbut3.below (Nat.le_refl _))
  repeat (first | (with_reducible exact hb4) | refine Below.setCell ?_ (by simp) _)
set_option maxRecDepth 20000 in
set_option maxHeartbeats 4000000 in
theorem refPut_ok {K : Nat} (v : Value) (D : Dev) (x : Int) (d : ByteArray) (w : World) (h : IsDev w v D) (hok : D.Ok K) (hK : K ≤ 100000) (hs : d.size ≤ 256) (ha : D.has x = true) (hp : D.pow = true) :
    Calls Tryd.prog 41 #[v, .int .i64 x, .string d] w (DevErr (D.putAt x d) 0 w) := by
  obtain ⟨b, B, c, k, rfl, hlt, hnc, hc, hl, h0⟩ := h
  have HH := Lib.hid ha
  have HQ := Lib.hid (pow_yes hp)
  have hm := hok.m2
  have hd2 := hok.d2
  have hl1 := hok.l1
  have hl2 := hok.l2
  have hd1 := hok.d1
  have HC := Lib.hid hc
  have HL := Lib.hid hl
  have H0 := Lib.hid h0
  clear hc hl h0 ha hp hok
  obtain ⟨n, S, m, LA, LD, dead, left, deeds⟩ := D
  have HQ2 : Hid (dead = false ∧ left ≠ 0) := HQ
  simp only at hm hd2 hl1 hl2 hd1 hnc
  clear HQ
  obtain rfl : dead = false := HQ2.out.1
  have HQ3 := Lib.hid HQ2.out.2
  clear HQ2
  have HLE : Hid (lessLeft left = lessLeft left) := rfl
  go_enter Tryd.func41, Tryd.ntmps41
  have hx := of_decide_eq_true HH.out
  simp only at hx
  obtain ⟨hx0, hx1⟩ := hx
  clear HH
  have hsz : ¬ (256 : Int) < (d.size : Int) := by omega
  obtain ⟨i0, hi, hz0, hz1, hz2⟩ := info_parts info41
  obtain ⟨t, htt⟩ : ∃ t : Nat, 256 - d.size = t := ⟨_, rfl⟩
  have e1 : (256 : Int) - (d.size : Int) = (t : Int) := by omega
  have htl : t ≤ 256 := by omega
  have HPD : Hid (d ++ zeros t = padB d) := by
    rw [← htt]
    exact Lib.hid rfl
  clear htt HLE
  rcases Nat.eq_zero_or_pos m with hm0 | hm0
  · obtain ⟨hB0, hk0⟩ := H0.out hm0
    subst hm0 hB0 hk0
    go_wp2_with (first
      | (go_at_call 51
         refine (spend_yes _ _ _ _ _ _ _ _ _ HQ3.out (by omega) (by omega) (by omega) (by omega)).mono ?_
         rintro e w2 ⟨rfl, hb3⟩
         simp only [World.size_alloc] at hb3
         generalize hle : lessLeft left = left2
         have HX := Lib.hid (((Box5.new w _ _ _ _ _ 39).alloc _).below hb3 (by omega))
         have HY := Lib.hid ((Box5.new _ _ _ _ _ _ 39).below hb3 (by simp)))
      | (refine wpList_store5 rfl 39 (.tmp 3) (.tmp 27) rfl w.heap.size _ _ _ _ _ _ _ _ _ _ rfl rfl HX.out size31 (by simp [Value.oneCell']) ?_
         intro w3 hx3 hbut3
         have hy3 := HY.out.but hbut3 (by simp)
         simp only [World.size_alloc] at hy3
         have hb4 : Below w.heap.size w w3 := ((((Below.refl w.heap.size w).alloc (by simp) _).alloc (by simp) _).trans (hb3.mono (by omega))).trans (hbut3.below (Nat.le_refl _))
         have hs3 : w.heap.size + 1 < w3.heap.size := (World.block_lt_of_cell? w3 _ hy3.c0)
         have hn4 := (Below.refl w3.heap.size w3).alloc (Nat.le_refl _) (.cells #[] 69)
         have hx4 := hx3.below hn4 (by omega)
         have hcx1 := hx4.c1))
    have HLE2 := Lib.hid hle
    have hownW := World.ownsRow_lit (e := 69) (size := 2) (base := w3.heap.size) w3 #[] 0 (Nat.le_refl _) (by unfold maxLen; omega) rfl
    have HL4 := Lib.hid (And.intro hownW (And.intro hn4 (HL.out.below (hb4.trans (hn4.mono (by omega))) (Nat.le_refl _))))
    clear hownW hn4 HL hle hb3 HX HY hbut3
    go_wp2_with (at_builtin; go_must (refine wpList_append_own_none rfl _ _ 37 rfl w3.heap.size 69 i0 2 Tryd.underlying37 hi (.slice (some ⟨w3.heap.size, 0, none⟩) 0 0) 0 [] rfl HL4.out.1 rfl ?_))
    have HO : Hid ((w3.alloc (.cells #[] 69)).ownsRow w3.heap.size 69 2 (.slice (some ⟨w3.heap.size, 0, none⟩) 0 0) 0 (lateCells LA LD 0) ∧ Below w3.heap.size w3 (w3.alloc (.cells #[] 69))) := Lib.hid ⟨HL4.out.1, HL4.out.2.1⟩
    clear HL4
    generalize w3.alloc (.cells #[] 69) = w6 at HO hx4 hcx1 ⊢
    generalize (.slice (some ⟨w3.heap.size, 0, none⟩) 0 0 : Value) = v6 at HO ⊢
    go_wp2_with fail
    refine (blank_any t _ (by omega)).mono ?_
    rintro e w7 ⟨rfl, hb7⟩
    have hrs : (zeros t).size ≤ 256 := by rw [zeros_size]; exact htl
    generalize zeros t = r at HPD hrs ⊢
    have hB7 := HO.out.2.trans (hb7.mono HO.out.2.size)
    have hown7 := own_below HO.out.1 hb7 (Nat.le_refl _)
    have HZ := Lib.hid (And.intro (hown7.alloc (.cells #[.int .i64 x, .string (d ++ r)] 69)) (And.intro (hB7.alloc hB7.size (.cells #[.int .i64 x, .string (d ++ r)] 69)) (heap_alloc_new w7 (.cells #[.int .i64 x, .string (d ++ r)] 69))))
    have hs7 := hB7.size
    have hcx1 := (hx3.below (hB7.alloc hB7.size (.cells #[.int .i64 x, .string (d ++ r)] 69)) (by omega)).c1
    clear hb7 HO hown7 hB7
    go_wp2_with (at_builtin; go_must (refine wpList_append_own _ rfl _ _ 37 rfl w3.heap.size 69 i0 (.agg #[.int .i64 0, .string ⟨#[]⟩]) 2 24 Tryd.underlying37 hi hz0 hz1 hz2 rfl (by decide) v6 0 (lateCells LA LD 0) rfl HZ.out.1 ⟨w7.heap.size, 0, none⟩ 1 1 [.int .i64 x, .string (d ++ r)] rfl rfl (World.news_of_block HZ.out.2.2) (by simp [Value.oneCell']) (by unfold maxLen; omega) (by omega) HZ.out.2.1.size ?_))
    intro v8 w8 hown8 hgrow8 _
    obtain ⟨hownZ, hbZ, hnZ⟩ := HZ.out
    have hb38 := hbZ.grown hgrow8 hbZ.size (fun k hk => (hownZ.lt k hk).1)
    rw [HPD.out, snoc_cells] at hown8
    obtain ⟨g8, c8, rfl, hg8, hgl8⟩ := hown8.form (by omega)
    have hl8 := late_of_own hown8 rfl hgl8
    have hb48 : Below w.heap.size w w8 := hb4.trans (hb38.mono (by omega))
    have hx8 := hx3.below hb38 (by omega)
    have hy8 := hy3.below hb38 (by omega)
    have hd8 : DevAt w8 b (some ⟨g8, 0, none⟩) (.agg #[.slice (some ⟨b, 0, none⟩) n c, .slice (some ⟨g8, 0, none⟩) (0 + 1) c8, .bool false, .int .i64 left2, .int .i64 (deeds + 1)]) (Dev.putAt { n := n, S := S, m := 0, LA := LA, LD := LD, dead := false, left := left, deeds := deeds } x d) :=
      ⟨c, c8, (by rw [← HLE2.out]; rfl), Nat.lt_of_lt_of_le hlt hb48.size, hnc, fun j hj => (hb48.cell (p := ⟨b, j, none⟩) hlt).trans (HC.out j hj), hl8, fun h => absurd h (by simp [Dev.putAt])⟩
    have n1 : w.heap.size ≠ b := by omega
    have n2 : w.heap.size + 1 ≠ b := by omega
    have n3 : w.heap.size ≠ g8 := by omega
    have n4 : w.heap.size + 1 ≠ g8 := by omega
    have hfx := hx8.f
    have hfy := hy8.f
    have kx0 := hx8.c0
    have kx1 := hx8.c1
    have kx2 := hx8.c2
    have kx3 := hx8.c3
    have kx4 := hx8.c4
    have ky0 := hy8.c0
    have ky1 := hy8.c1
    have ky2 := hy8.c2
    have ky3 := hy8.c3
    have ky4 := hy8.c4
    clear hownZ hbZ hnZ HZ hown8 hgrow8 hl8 hcx1 hb4
    go_wp2
    refine bodyPost_ret (v := .tuple #[.agg #[.slice (some ⟨b, 0, none⟩) n c, .slice (some ⟨g8, 0, none⟩) (0 + 1) c8, .bool false, .int .i64 left2, .int .i64 (deeds + 1)], .int .i64 0]) (by simp [results, Tryd.results41, go_sem, ky0, ky1, ky2, ky3, ky4]) rfl ⟨_, rfl, ⟨b, some ⟨g8, 0, none⟩, ?_⟩, ?_⟩
    · repeat (first | (with_reducible exact hd8) | refine DevAt.setCell ?_ (by simp; omega) (fun a h => by injection h with h; subst h; simp; omega) _)
    · repeat (first | (with_reducible exact hb48) | refine Below.setCell ?_ (by simp) _)
  · obtain ⟨bl, hBl, hbl, _⟩ := HL.out hm0
    subst hBl
    go_wp2_with (first
      | (go_at_call 51
         refine (spend_yes _ _ _ _ _ _ _ _ _ HQ3.out (by omega) (by omega) (by omega) (by omega)).mono ?_
         rintro e w2 ⟨rfl, hb3⟩
         simp only [World.size_alloc] at hb3
         generalize hle : lessLeft left = left2
         have HX := Lib.hid (((Box5.new w _ _ _ _ _ 39).alloc _).below hb3 (by omega))
         have HY := Lib.hid ((Box5.new _ _ _ _ _ _ 39).below hb3 (by simp)))
      | (refine wpList_store5 rfl 39 (.tmp 3) (.tmp 27) rfl w.heap.size _ _ _ _ _ _ _ _ _ _ rfl rfl HX.out size31 (by simp [Value.oneCell']) ?_
         intro w3 hx3 hbut3
         have hy3 := HY.out.but hbut3 (by simp)
         simp only [World.size_alloc] at hy3
         have hb4 : Below w.heap.size w w3 := ((((Below.refl w.heap.size w).alloc (by simp) _).alloc (by simp) _).trans (hb3.mono (by omega))).trans (hbut3.below (Nat.le_refl _))
         have hs3 : w.heap.size + 1 < w3.heap.size := (World.block_lt_of_cell? w3 _ hy3.c0)
         have hn4 := (Below.refl w3.heap.size w3).alloc (Nat.le_refl _) (.cells #[] 69)
         have hx4 := hx3.below hn4 (by omega)
         have hcx1 := hx4.c1
         have HLE2 := Lib.hid hle
         have hownW := World.ownsRow_lit (e := 69) (size := 2) (base := w3.heap.size) w3 #[] 0 (Nat.le_refl _) (by unfold maxLen; omega) rfl
         have HL4 := Lib.hid (And.intro hownW (And.intro hn4 (HL.out.below (hb4.trans (hn4.mono (by omega))) (Nat.le_refl _))))
         clear hownW hn4 HL hle hb3 HX HY hbut3
         have hlen := lateCells_length LA LD m
         have HONE := Lib.hid (lateCells_one LA LD m)
         obtain ⟨bl', hBl, hbl', hlc⟩ := HL4.out.2.2 hm0
         obtain rfl : bl = bl' := by injection hBl with h; injection h with h
         clear hBl
         have HNW := Lib.hid (news_of_late hlc)
         have hlen2 := Lib.hid hlen
         clear hlc)
      | (at_builtin; go_must (refine wpList_append_own _ rfl _ _ 37 rfl w3.heap.size 69 i0 (.agg #[.int .i64 0, .string ⟨#[]⟩]) 2 24 Tryd.underlying37 hi hz0 hz1 hz2 rfl (by decide) (.slice (some ⟨w3.heap.size, 0, none⟩) 0 0) 0 [] rfl HL4.out.1 ⟨bl, 0, none⟩ m k (lateCells LA LD m) rfl hlen2.out HNW.out HONE.out (by unfold maxLen; omega) (by omega) HL4.out.2.1.size ?_)
         intro v6 w6 hown hgrow6 _
         simp only [Nat.zero_add, List.nil_append] at hown
         have hB6 := HL4.out.2.1.grown hgrow6 HL4.out.2.1.size (fun k hk => (HL4.out.1.lt k hk).1)
         have HO := Lib.hid (And.intro hown hB6)
         have hcx1 := (hx3.below hB6 (by omega)).c1
         clear hown hgrow6 hB6 HL4 hx4 hlen2 HNW))
    go_wp2_with fail
    refine (blank_any t _ (by omega)).mono ?_
    rintro e w7 ⟨rfl, hb7⟩
    have hrs : (zeros t).size ≤ 256 := by rw [zeros_size]; exact htl
    generalize zeros t = r at HPD hrs ⊢
    have hB7 := HO.out.2.trans (hb7.mono HO.out.2.size)
    have hown7 := own_below HO.out.1 hb7 (Nat.le_refl _)
    have HZ := Lib.hid (And.intro (hown7.alloc (.cells #[.int .i64 x, .string (d ++ r)] 69)) (And.intro (hB7.alloc hB7.size (.cells #[.int .i64 x, .string (d ++ r)] 69)) (heap_alloc_new w7 (.cells #[.int .i64 x, .string (d ++ r)] 69))))
    have hs7 := hB7.size
    have hcx1 := (hx3.below (hB7.alloc hB7.size (.cells #[.int .i64 x, .string (d ++ r)] 69)) (by omega)).c1
    clear hb7 HO hown7 hB7
    go_wp2_with (at_builtin; go_must (refine wpList_append_own _ rfl _ _ 37 rfl w3.heap.size 69 i0 (.agg #[.int .i64 0, .string ⟨#[]⟩]) 2 24 Tryd.underlying37 hi hz0 hz1 hz2 rfl (by decide) v6 m (lateCells LA LD m) rfl HZ.out.1 ⟨w7.heap.size, 0, none⟩ 1 1 [.int .i64 x, .string (d ++ r)] rfl rfl (World.news_of_block HZ.out.2.2) (by simp [Value.oneCell']) (by unfold maxLen; omega) (by omega) HZ.out.2.1.size ?_))
    intro v8 w8 hown8 hgrow8 _
    obtain ⟨hownZ, hbZ, hnZ⟩ := HZ.out
    have hb38 := hbZ.grown hgrow8 hbZ.size (fun k hk => (hownZ.lt k hk).1)
    rw [HPD.out, snoc_cells] at hown8
    obtain ⟨g8, c8, rfl, hg8, hgl8⟩ := hown8.form (by omega)
    have hl8 := late_of_own hown8 rfl hgl8
    have hb48 : Below w.heap.size w w8 := hb4.trans (hb38.mono (by omega))
    have hx8 := hx3.below hb38 (by omega)
    have hy8 := hy3.below hb38 (by omega)
    have hd8 : DevAt w8 b (some ⟨g8, 0, none⟩) (.agg #[.slice (some ⟨b, 0, none⟩) n c, .slice (some ⟨g8, 0, none⟩) (m + 1) c8, .bool false, .int .i64 left2, .int .i64 (deeds + 1)]) (Dev.putAt { n := n, S := S, m := m, LA := LA, LD := LD, dead := false, left := left, deeds := deeds } x d) :=
      ⟨c, c8, (by rw [← HLE2.out]; rfl), Nat.lt_of_lt_of_le hlt hb48.size, hnc, fun j hj => (hb48.cell (p := ⟨b, j, none⟩) hlt).trans (HC.out j hj), hl8, fun h => absurd h (by simp [Dev.putAt])⟩
    have n1 : w.heap.size ≠ b := by omega
    have n2 : w.heap.size + 1 ≠ b := by omega
    have n3 : w.heap.size ≠ g8 := by omega
    have n4 : w.heap.size + 1 ≠ g8 := by omega
    have hfx := hx8.f
    have hfy := hy8.f
    have kx0 := hx8.c0
    have kx1 := hx8.c1
    have kx2 := hx8.c2
    have kx3 := hx8.c3
    have kx4 := hx8.c4
    have ky0 := hy8.c0
    have ky1 := hy8.c1
    have ky2 := hy8.c2
    have ky3 := hy8.c3
    have ky4 := hy8.c4
    clear hownZ hbZ hnZ HZ hown8 hgrow8 hl8 hcx1 hb4
    go_wp2
    refine bodyPost_ret (v := .tuple #[.agg #[.slice (some ⟨b, 0, none⟩) n c, .slice (some ⟨g8, 0, none⟩) (m + 1) c8, .bool false, .int .i64 left2, .int .i64 (deeds + 1)], .int .i64 0]) (by simp [results, Tryd.results41, go_sem, ky0, ky1, ky2, ky3, ky4]) rfl ⟨_, rfl, ⟨b, some ⟨g8, 0, none⟩, ?_⟩, ?_⟩
    · repeat (first | (with_reducible exact hd8) | refine DevAt.setCell ?_ (by simp; omega) (fun a h => by injection h with h; subst h; simp; omega) _)
    · repeat (first | (with_reducible exact hb48) | refine Below.setCell ?_ (by simp) _)
end Go.Proofs.YtdbemkdfndjakaaDoor.Hd
