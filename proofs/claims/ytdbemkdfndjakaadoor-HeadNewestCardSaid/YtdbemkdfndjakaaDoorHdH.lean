/- The document's device: Flush, walked. -/
import Derived.Test.YtdbemkdfndjakaaDoorHdG
namespace Go.Proofs.YtdbemkdfndjakaaDoor.Hd
open Go.RowKit Go.Shelf Tal Sla
theorem news_of_strs {w : World} {b n : Nat} {S : Nat → ByteArray} (hc : ∀ j, j < n → w.cell? ⟨b, j, none⟩ = some (.string (S j))) :
    ∀ (j : Nat) (u : Value), ((List.range n).map fun j => Value.string (S j))[j]? = some u → w.cell? ((⟨b, 0, none⟩ : Addr).add j) = some u := by
  intro j u hu
  rw [Sla.add_zero_off]
  have hj : j < n := by
    have := (List.getElem?_eq_some_iff.1 hu).1
    simpa using this
  rw [hc j hj]
  simpa [hj] using hu
theorem row_of_own {w : World} {base n : Nat} {v : Value} {S : Nat → ByteArray} (hown : w.ownsRow base 9 1 v n ((List.range n).map fun j => Value.string (S j))) (hn : 0 < n) :
    ∃ g cap, v = .slice (some ⟨g, 0, none⟩) n cap ∧ base ≤ g ∧ n ≤ cap ∧ StrRow w g n S := by
  obtain ⟨g, cap, rfl, hg, hlt⟩ := hown.form hn
  have hcap : n ≤ cap := by
    rcases hown.2 with ⟨h0, _⟩ | ⟨g', cap', cur, hv, _, _, hn, _⟩
    · cases h0
    · injection hv with _ _ h3
      subst h3
      exact hn
  refine ⟨g, cap, rfl, hg, hcap, ⟨hlt, fun j hj => ?_, fun i => hown.frozenAt i⟩⟩
  rw [hown.cellAt j (by omega)]
  simp [hj]
set_option maxHeartbeats 1000000 in
theorem refFlush_down (v : Value) (D : Dev) (w : World) (h : IsDev w v D) (hp : D.pow = false) :
    Calls Tryd.prog 42 #[v] w (DevErr D.down 10 w) := by
  obtain ⟨b, B, c, k, rfl, hlt, hnc, hc, hl, h0⟩ := h
  have hd : DevAt w b B _ D := ⟨c, k, rfl, hlt, hnc, hc, hl, h0⟩
  have HD := Lib.hid hd.down
  have HQ := Lib.hid (pow_no hp)
  clear hd hc hl h0 hp
  obtain ⟨n, S, m, LA, LD, dead, left, deeds⟩ := D
  have HQ2 : Hid (dead = true ∨ left = 0) := HQ
  clear HQ
  go_enter Tryd.func42, Tryd.ntmps42
  go_wp2_with (first
    | (go_at_call 51
       refine (spend_no _ _ _ _ _ _ _ _ _ _ HQ2.out).mono ?_
       rintro e w2 ⟨rfl, hb3⟩
       simp only [World.size_alloc] at hb3
       have HX := Lib.hid (((Box5.new w _ _ _ _ _ 39).alloc _).below hb3 (by omega))
       have HY := Lib.hid ((Box5.new _ _ _ _ _ _ 39).below hb3 (by simp)))
    | (refine wpList_store5 rfl 39 (.tmp 1) (.tmp 10) rfl w.heap.size _ _ _ _ _ _ _ _ _ _ rfl rfl HX.out size31 (by simp [Value.oneCell']) ?_
       intro w3 hx3 hbut3
       have hy3 := HY.out.but hbut3 (by simp)
       simp only [World.size_alloc] at hy3
       have hcx0 := hx3.c0
       have hcx1 := hx3.c1
       have hcx2 := hx3.c2
       have hcx3 := hx3.c3
       have hcx4 := hx3.c4
       have hcy0 := hy3.c0
       have hcy1 := hy3.c1
       have hcy2 := hy3.c2
       have hcy3 := hy3.c3
       have hcy4 := hy3.c4
       have hfy := hy3.f))
  refine bodyPost_ret (v := .tuple #[.agg #[.slice (some ⟨b, 0, none⟩) n c, .slice B m k, .bool true, .int .i64 left, .int .i64 deeds], .int .i64 10]) (by simp [results, Tryd.results42, go_sem, hcy0, hcy1, hcy2, hcy3, hcy4]) rfl (devErr_of HD.out ?_)
  have hb4 : Below w.heap.size w w3 := ((((Below.refl w.heap.size w).alloc (by simp) _).alloc (by simp) _).trans (hb3.mono (by omega))).trans (hbut3.below (Nat.le_refl _))
  repeat (first | (with_reducible exact hb4) | refine Below.setCell ?_ (by simp) _)

set_option maxRecDepth 20000 in
set_option maxHeartbeats 4000000 in
theorem refFlush_ok {K : Nat} (v : Value) (D : Dev) (w : World) (h : IsDev w v D) (hok : D.Ok K) (hK : K ≤ 100000) (hp : D.pow = true) :
    Calls Tryd.prog 42 #[v] w (DevErr D.flushed 0 w) := by
  obtain ⟨b, B, c, k, rfl, hlt, hnc, hc, hl, h0⟩ := h
  have HQ := Lib.hid (pow_yes hp)
  have hm := hok.m2
  have hd2 := hok.d2
  have hl1 := hok.l1
  have hl2 := hok.l2
  have hd1 := hok.d1
  have hn1 := hok.n1
  have hn2 := hok.n2
  have HLA := Lib.hid hok.la
  have HC := Lib.hid hc
  have HL := Lib.hid hl
  have H0 := Lib.hid h0
  clear hc hl h0 hp hok
  obtain ⟨n, S, m, LA, LD, dead, left, deeds⟩ := D
  have HQ2 : Hid (dead = false ∧ left ≠ 0) := HQ
  simp only at hm hd2 hl1 hl2 hd1 hnc hn1 hn2
  clear HQ
  obtain rfl : dead = false := HQ2.out.1
  have HQ3 := Lib.hid HQ2.out.2
  clear HQ2
  have HC2 : Hid (∀ j, j < n → w.cell? ⟨b, j, none⟩ = some (.string (S j))) := HC
  have HLA2 : Hid (∀ j, j < m → 0 ≤ LA j ∧ LA j < n) := HLA
  clear HC HLA
  obtain ⟨i9, hi9, hv0, hv1, hv2⟩ := info_parts info9
  go_enter Tryd.func42, Tryd.ntmps42
  go_wp2_with (first
    | (go_at_call 51
       refine (spend_yes _ _ _ _ _ _ _ _ _ HQ3.out (by omega) (by omega) (by omega) (by omega)).mono ?_
       rintro e w2 ⟨rfl, hb3⟩
       generalize hle : lessLeft left = left2
       simp only [World.size_alloc] at hb3
       have HX := Lib.hid (((Box5.new w _ _ _ _ _ 39).alloc _).below hb3 (by omega))
       have HY := Lib.hid ((Box5.new _ _ _ _ _ _ 39).below hb3 (by simp)))
    | (refine wpList_store5 rfl 39 (.tmp 1) (.tmp 10) rfl w.heap.size _ _ _ _ _ _ _ _ _ _ rfl rfl HX.out size31 (by simp [Value.oneCell']) ?_
       intro w3 hx3 hbut3
       have hy3 := HY.out.but hbut3 (by simp)
       simp only [World.size_alloc] at hy3
       have hb4 : Below w.heap.size w w3 := ((((Below.refl w.heap.size w).alloc (by simp) _).alloc (by simp) _).trans (hb3.mono (by omega))).trans (hbut3.below (Nat.le_refl _))
       have hs3 : w.heap.size + 1 < w3.heap.size := (World.block_lt_of_cell? w3 _ hy3.c0)
       have hn4 := (Below.refl w3.heap.size w3).alloc (Nat.le_refl _) (.cells #[] 9)
       have hcx0 := (hx3.below hn4 (by omega)).c0
       have hown0 := World.ownsRow_lit (e := 9) (size := 1) (base := w3.heap.size) w3 #[] 0 (Nat.le_refl _) (by unfold maxLen; omega) rfl
       have hnw := news_of_strs (S := S) (n := n) (fun j hj => (((hb4.trans (hn4.mono (by omega))).cell (p := ⟨b, j, none⟩) hlt)).trans (HC2.out j hj))
       have HW := Lib.hid (And.intro hown0 (And.intro hnw hn4))
       clear hown0 hnw hn4)
    | (at_builtin; go_must (refine wpList_append_own _ rfl _ _ 36 rfl w3.heap.size 9 i9 (.string ⟨#[]⟩) 1 16 Tryd.underlying36 hi9 hv0 hv1 hv2 rfl (by decide) (.slice (some ⟨w3.heap.size, 0, none⟩) 0 0) 0 [] rfl HW.out.1 ⟨b, 0, none⟩ n c ((List.range n).map fun j => .string (S j)) rfl (by simp) HW.out.2.1 (by simp [Value.oneCell']) (by unfold maxLen; omega) (by omega) HW.out.2.2.size ?_)
       intro v5 w4 hown hgrow5 _
       obtain ⟨hown0, _, hn4⟩ := HW.out
       have hb34 := hn4.grown hgrow5 hn4.size (fun k hk => (hown0.lt k hk).1)
       simp only [Nat.zero_add, List.nil_append] at hown
       obtain ⟨g, cap, rfl, hg3, hncap, hrow⟩ := row_of_own hown (by omega)
       clear hown hown0 hn4 hgrow5 HW
       have hx4 := hx3.below hb34 (by omega)
       have hy4 := hy3.below hb34 (by omega)
       have hcx1 := hx4.c1))
  have HLE2 := Lib.hid hle
  have hs34 : w3.heap.size ≤ w4.heap.size := hb34.size
  have hb46 : Below w.heap.size w w4 := hb4.trans (hb34.mono (by omega))
  clear hle hb3 HX HY hbut3 hcx0 hx3 hy3 hb34 hb4
  go_loopw [6] (fun u wr => ∃ q : Nat, q ≤ m ∧ u = .int .i64 q ∧ Below w3.heap.size w4 wr ∧ StrRow wr g n (flushS S LA LD q)) (fun u _ => m - (intOf u).toNat)
  case atStart => exact ⟨0, Nat.zero_le _, rfl, Below.refl _ _, hrow⟩
  case round =>
    obtain ⟨q, hq, rfl, hbr, hrr⟩ := hrel
    have hx5 := hx4.below hbr (by omega)
    have hcx0 := hx5.c0
    have hcx1 := hx5.c1
    have hcx2 := hx5.c2
    have hcx3 := hx5.c3
    have hcx4 := hx5.c4
    have hbw : Below w.heap.size w wr := hb46.trans (hbr.mono (by omega))
    by_cases hqm : q < m
    · obtain ⟨bl, rfl, hbl, hlc⟩ := HL.out (by omega)
      obtain ⟨a, ha⟩ := Int.eq_ofNat_of_zero_le (HLA2.out q hqm).1
      have han : a < n := by have := (HLA2.out q hqm).2; omega
      have kA : wr.cell? ⟨bl, q * 2, none⟩ = some (.int .i64 (a : Int)) := by rw [← ha]; exact (hbw.cell (p := ⟨bl, q * 2, none⟩) hbl).trans (hlc q hqm).1
      have kD : wr.cell? ⟨bl, q * 2 + 1, none⟩ = some (.string (LD q)) := (hbw.cell (p := ⟨bl, q * 2 + 1, none⟩) hbl).trans (hlc q hqm).2
      have HA := Lib.hid ha
      have hgl := hrr.1
      have kg := hrr.2.1 a han
      have kf := hrr.2.2 a
      have HR := Lib.hid hrr
      have i0 : (q : Int) < (m : Int) := by omega
      have i1 : (0 : Int) ≤ (a : Int) := by omega
      have i2 : (a : Int) < (n : Int) := by omega
      clear ha hrr hlc
      go_wp2
      go_region
      go_wp2
      go_roundw
      case rel =>
        refine ⟨q + 1, by omega, by go_num, ?_, ?_⟩
        · exact (Below.setCell hbr (by simp; omega) _).drew
        · refine ((HR.out.set han (LD q)).below (Below.refl _ _).drew (Nat.le_refl _)).congr fun j hj => ?_
          simp only [flushS]
          rw [HA.out]
          by_cases e : j = a
          · subst e; simp
          · rw [if_neg e, if_neg (by omega)]
      case measure => simp [intOf]; omega
    · obtain rfl : q = m := by omega
      have hy5 := hy4.below hbr (by omega)
      have hfx := hx5.f
      have hfy := hy5.f
      have ky0 := hy5.c0
      have ky1 := hy5.c1
      have ky2 := hy5.c2
      have ky3 := hy5.c3
      have ky4 := hy5.c4
      have hgl := hrr.1
      have i0 : ¬ (q : Int) < (q : Int) := by omega
      have hd5 : DevAt wr g none (.agg #[.slice (some ⟨g, 0, none⟩) n cap, .slice none 0 0, .bool false, .int .i64 left2, .int .i64 (deeds + 1)]) (Dev.flushed { n := n, S := S, m := q, LA := LA, LD := LD, dead := false, left := left, deeds := deeds }) :=
        ⟨cap, 0, (by rw [← HLE2.out]; rfl), hgl, hncap, hrr.2.1, fun h => absurd h (by simp [Dev.flushed]), fun _ => ⟨rfl, rfl⟩⟩
      go_wp2
      refine bodyPost_ret (v := .tuple #[.agg #[.slice (some ⟨g, 0, none⟩) n cap, .slice none 0 0, .bool false, .int .i64 left2, .int .i64 (deeds + 1)], .int .i64 0]) (by simp [results, Tryd.results42, go_sem, ky0, ky1, ky2, ky3, ky4]) rfl ⟨_, rfl, ⟨g, none, ?_⟩, ?_⟩
      · repeat (first | (with_reducible exact hd5) | refine DevAt.setCell ?_ (by simp; omega) (fun a h => by cases h) _)
      · repeat (first | (with_reducible exact hbw) | refine Below.setCell ?_ (by simp) _)
end Go.Proofs.YtdbemkdfndjakaaDoor.Hd
