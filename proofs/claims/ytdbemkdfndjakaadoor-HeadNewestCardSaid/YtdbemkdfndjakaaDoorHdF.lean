/- The document's device: blank, spend, Arm, Get, walked. -/
import Derived.Test.YtdbemkdfndjakaaDoorHdE
import Derived.Test.YtdbemkdfndjakaaDoorMgJ
namespace Go.Proofs.YtdbemkdfndjakaaDoor.Hd
open Go.RowKit Go.Shelf Tal Sla
set_option maxHeartbeats 400000 in
theorem blank_any (t : Nat) (w : World) (h : t ≤ 1000) :
    Calls Tryd.prog 43 #[.int .i64 t] w fun e w' => e = .returned (.string (zeros t)) ∧ Below w.heap.size w w' := by
  obtain ⟨i0, hi, hz0, hz1, hz2⟩ := info_partsF infoU8F
  go_enter Tryd.func43, Tryd.ntmps43
  go_wp2_with
    (at_make
     go_must (refine wpList_make_full _ rfl _ _ 42 rfl (w.heap.size) 5 i0 _ 1 Tryd.underlying42 hi hz0 hz1 _ _ _ _ t rfl rfl rfl rfl (by rw [hz2]; omega) (by unfold maxLen; omega) (by simp) ?_)
     intro w1 hown hgrow
     obtain ⟨hb1, hcv⟩ := noughts_new t hown hgrow
     clear hown hgrow)
  go_ret
  exact ⟨rfl, hb1⟩
set_option maxHeartbeats 400000 in
theorem spend_no (A B : Option Addr) (n c m k : Nat) (dead : Bool) (left deeds : Int) (w : World) (h : dead = true ∨ left = 0) :
    Calls Tryd.prog 51 #[.agg #[.slice A n c, .slice B m k, .bool dead, .int .i64 left, .int .i64 deeds]] w fun e w' =>
      e = .returned (.tuple #[.agg #[.slice A n c, .slice B m k, .bool true, .int .i64 left, .int .i64 deeds], .bool false]) ∧ Below w.heap.size w w' := by
  cases dead with
  | true =>
    clear h
    go_enter Tryd.func51, Tryd.ntmps51
    go_wp2
    exact bodyPost_ret (v := .tuple #[.agg #[.slice A n c, .slice B m k, .bool true, .int .i64 left, .int .i64 deeds], .bool false]) (by simp [results, Tryd.results51, go_sem]) rfl ⟨rfl, ((Below.refl _ _).alloc (by simp) _).alloc (by simp) _⟩
  | false =>
    obtain rfl : left = 0 := by simpa using h
    clear h
    go_enter Tryd.func51, Tryd.ntmps51
    go_wp2
    exact bodyPost_ret (v := .tuple #[.agg #[.slice A n c, .slice B m k, .bool true, .int .i64 0, .int .i64 deeds], .bool false]) (by simp [results, Tryd.results51, go_sem]) rfl ⟨rfl, ((Below.refl _ _).alloc (by simp) _).alloc (by simp) _⟩

set_option maxHeartbeats 400000 in
theorem spend_yes (A B : Option Addr) (n c m k : Nat) (left deeds : Int) (w : World) (h0 : left ≠ 0) (h1 : -9223372036854775808 ≤ left) (h2 : left ≤ 9223372036854775807) (h3 : 0 ≤ deeds) (h4 : deeds ≤ 1000000) :
    Calls Tryd.prog 51 #[.agg #[.slice A n c, .slice B m k, .bool false, .int .i64 left, .int .i64 deeds]] w fun e w' =>
      e = .returned (.tuple #[.agg #[.slice A n c, .slice B m k, .bool false, .int .i64 (lessLeft left), .int .i64 (deeds + 1)], .bool true]) ∧ Below w.heap.size w w' := by
  by_cases hl : 0 < left
  · have hf : lessLeft left = left - 1 := by unfold lessLeft; rw [if_pos hl]
    rw [hf]
    clear hf
    have hb : (left == 0) = false := by simpa using h0
    clear h0 h1
    go_enter Tryd.func51, Tryd.ntmps51
    go_wp2
    exact bodyPost_ret (v := .tuple #[.agg #[.slice A n c, .slice B m k, .bool false, .int .i64 (left - 1), .int .i64 (deeds + 1)], .bool true]) (by simp [results, Tryd.results51, go_sem]) rfl ⟨rfl, ((Below.refl _ _).alloc (by simp) _).alloc (by simp) _⟩
  · have hf : lessLeft left = left := by unfold lessLeft; rw [if_neg hl]
    rw [hf]
    clear hf
    have hb : (left == 0) = false := by simpa using h0
    have hl2 : left < 0 := by omega
    clear h0 h2 hl
    go_enter Tryd.func51, Tryd.ntmps51
    go_wp2
    exact bodyPost_ret (v := .tuple #[.agg #[.slice A n c, .slice B m k, .bool false, .int .i64 left, .int .i64 (deeds + 1)], .bool true]) (by simp [results, Tryd.results51, go_sem]) rfl ⟨rfl, ((Below.refl _ _).alloc (by simp) _).alloc (by simp) _⟩

set_option maxHeartbeats 400000 in
theorem refArm_any (A B : Option Addr) (n c m k : Nat) (dead : Bool) (left deeds x : Int) (w : World) :
    Calls Tryd.prog 20 #[.agg #[.slice A n c, .slice B m k, .bool dead, .int .i64 left, .int .i64 deeds], .int .i64 x] w fun e w' =>
      e = .returned (.agg #[.slice A n c, .slice B m k, .bool dead, .int .i64 (max x (-1)), .int .i64 deeds]) ∧ Below w.heap.size w w' := by
  go_enter Tryd.func20, Tryd.ntmps20
  go_wp2
  exact bodyPost_ret (v := .agg #[.slice A n c, .slice B m k, .bool dead, .int .i64 (max x (-1)), .int .i64 deeds]) (by simp [results, Tryd.results20, go_sem]) rfl ⟨rfl, ((Below.refl _ _).alloc (by simp) _).alloc (by simp) _⟩
theorem refArm_dev (v : Value) (D : Dev) (x : Int) (w : World) (h : IsDev w v D) :
    Calls Tryd.prog 20 #[v, .int .i64 x] w fun e w' => ∃ v', e = .returned v' ∧ IsDev w' v' (armed D x) ∧ Below w.heap.size w w' := by
  obtain ⟨b, B, c, k, rfl, hlt, hnc, hc, hl, h0⟩ := h
  refine (refArm_any _ _ _ _ _ _ _ _ _ _ _).mono ?_
  rintro e w' ⟨rfl, hb⟩
  have hd : DevAt w b B (.agg #[.slice (some ⟨b, 0, none⟩) D.n c, .slice B D.m k, .bool D.dead, .int .i64 (max x (-1)), .int .i64 D.deeds]) (armed D x) := ⟨c, k, rfl, hlt, hnc, hc, hl, h0⟩
  exact ⟨_, rfl, ⟨b, B, hd.below hb (Nat.le_refl _)⟩, hb⟩

set_option maxHeartbeats 1000000 in
theorem refGet_down (v : Value) (D : Dev) (x : Int) (w : World) (h : IsDev w v D) (ha : D.has x = true) (hp : D.pow = false) :
    Calls Tryd.prog 38 #[v, .int .i64 x] w (GetErr D.down ⟨#[]⟩ 10 w) := by
  obtain ⟨b, B, c, k, rfl, hlt, hnc, hc, hl, h0⟩ := h
  have hd : DevAt w b B _ D := ⟨c, k, rfl, hlt, hnc, hc, hl, h0⟩
  have HD := Lib.hid hd.down
  have HH := Lib.hid ha
  have HQ := Lib.hid (pow_no hp)
  clear hd hc hl h0 ha hp
  obtain ⟨n, S, m, LA, LD, dead, left, deeds⟩ := D
  have HQ2 : Hid (dead = true ∨ left = 0) := HQ
  clear HQ
  have hx := of_decide_eq_true HH.out
  simp only at hx
  obtain ⟨hx0, hx1⟩ := hx
  go_enter Tryd.func38, Tryd.ntmps38
  go_wp2_with (first
    | (go_at_call 51
       refine (spend_no _ _ _ _ _ _ _ _ _ _ HQ2.out).mono ?_
       rintro e w2 ⟨rfl, hb3⟩
       simp only [World.size_alloc] at hb3
       have HX := Lib.hid (((Box5.new w _ _ _ _ _ 39).alloc _).below hb3 (by omega))
       have HY := Lib.hid ((Box5.new _ _ _ _ _ _ 39).below hb3 (by simp)))
    | (refine wpList_store5 rfl 39 (.tmp 2) (.tmp 23) rfl w.heap.size _ _ _ _ _ _ _ _ _ _ rfl rfl HX.out size31 (by simp [Value.oneCell']) ?_
       intro w3 hx3 hbut3
       have hy3 := HY.out.but hbut3 (by simp)
       simp only [World.size_alloc] at hy3
       have hcx0 := hx3.c0
       have hcx1 := hx3.c1
       have hcx2 := hx3.c2
       have hcx3 := hx3.c3
       have hcx4 := hx3.c4
       have hcy0 := hy3.c0
       have hcy1 := hy3.c1
       have hcy2 := hy3.c2
       have hcy3 := hy3.c3
       have hcy4 := hy3.c4
       have hfy := hy3.f))
  refine bodyPost_ret (v := .tuple #[.agg #[.slice (some ⟨b, 0, none⟩) n c, .slice B m k, .bool true, .int .i64 left, .int .i64 deeds], .string ⟨#[]⟩, .int .i64 10]) (by simp [results, Tryd.results38, go_sem, hcy0, hcy1, hcy2, hcy3, hcy4]) rfl (getErr_of HD.out ?_)
  have hb4 : Below w.heap.size w w3 := ((((Below.refl w.heap.size w).alloc (by simp) _).alloc (by simp) _).trans (hb3.mono (by omega))).trans (hbut3.below (Nat.le_refl _))
  repeat (first | (with_reducible exact hb4) | refine Below.setCell ?_ (by simp) _)

set_option maxHeartbeats 2000000 in
theorem refGet_ok {K : Nat} (v : Value) (D : Dev) (x : Nat) (w : World) (h : IsDev w v D) (hok : D.Ok K) (hK : K ≤ 100000) (ha : D.has x = true) (hp : D.pow = true) :
    Calls Tryd.prog 38 #[v, .int .i64 x] w (GetErr D.up (Sla.look D.LA D.LD x (D.S x) D.m) 0 w) := by
  obtain ⟨b, B, c, k, rfl, hlt, hnc, hc, hl, h0⟩ := h
  have hd : DevAt w b B (.agg #[.slice (some ⟨b, 0, none⟩) D.n c, .slice B D.m k, .bool D.dead, .int .i64 (lessLeft D.left), .int .i64 (D.deeds + 1)]) D.up := ⟨c, k, rfl, hlt, hnc, hc, hl, h0⟩
  have HD := Lib.hid hd
  have hxn : x < D.n := by
    unfold Dev.has at ha
    simp at ha
    exact ha
  have HH := Lib.hid ha
  have HQ := Lib.hid (pow_yes hp)
  have hm := hok.m2
  have hd2 := hok.d2
  have hl1 := hok.l1
  have hl2 := hok.l2
  have hd1 := hok.d1
  have hS := hc x hxn
  have HS := Lib.hid hS
  have HL := Lib.hid hl
  have H0 := Lib.hid h0
  clear hc hl h0 ha hp hok hS hd
  obtain ⟨n, S, m, LA, LD, dead, left, deeds⟩ := D
  have HQ2 : Hid (dead = false ∧ left ≠ 0) := HQ
  simp only at hm hd2 hl1 hl2 hd1 hnc hxn
  clear HQ
  obtain rfl : dead = false := HQ2.out.1
  have HQ3 := Lib.hid HQ2.out.2
  clear HQ2
  have HS2 : Hid (w.cell? ⟨b, x, none⟩ = some (.string (S x))) := HS
  clear HS
  have HD2 : Hid (DevAt w b B (.agg #[.slice (some ⟨b, 0, none⟩) n c, .slice B m k, .bool false, .int .i64 (lessLeft left), .int .i64 (deeds + 1)]) (Dev.up { n := n, S := S, m := m, LA := LA, LD := LD, dead := false, left := left, deeds := deeds })) := HD
  clear HD
  show Calls Tryd.prog 38 _ w (GetErr _ (Sla.look LA LD x (S x) m) 0 w)
  have hx0 : (0 : Int) ≤ (x : Int) := by omega
  have hx1 : (x : Int) < (n : Int) := by omega
  go_enter Tryd.func38, Tryd.ntmps38
  go_wp2_with (first
    | (go_at_call 51
       refine (spend_yes _ _ _ _ _ _ _ _ _ HQ3.out (by omega) (by omega) (by omega) (by omega)).mono ?_
       rintro e w2 ⟨rfl, hb3⟩
       simp only [World.size_alloc] at hb3
       generalize hle : lessLeft left = left2 at HD2
       have HX := Lib.hid (((Box5.new w _ _ _ _ _ 39).alloc _).below hb3 (by omega))
       have HY := Lib.hid ((Box5.new _ _ _ _ _ _ 39).below hb3 (by simp)))
    | (refine wpList_store5 rfl 39 (.tmp 2) (.tmp 23) rfl w.heap.size _ _ _ _ _ _ _ _ _ _ rfl rfl HX.out size31 (by simp [Value.oneCell']) ?_
       intro w3 hx3 hbut3
       have hy3 := HY.out.but hbut3 (by simp)
       simp only [World.size_alloc] at hy3
       have hb4 : Below w.heap.size w w3 := ((((Below.refl w.heap.size w).alloc (by simp) _).alloc (by simp) _).trans (hb3.mono (by omega))).trans (hbut3.below (Nat.le_refl _))
       have hs3 : w.heap.size + 1 < w3.heap.size := (World.block_lt_of_cell? w3 _ hy3.c0)
       have hcx0 := hx3.c0
       have hcx1 := hx3.c1
       have hcx2 := hx3.c2
       have hcx3 := hx3.c3
       have hcx4 := hx3.c4
       have kSx : w3.cell? ⟨b, x, none⟩ = some (.string (S x)) := (hb4.cell (p := ⟨b, x, none⟩) hlt).trans HS2.out))
  have HL3 : Hid (HasLate w3 B m LA LD) := Lib.hid (HL.out.below hb4 (Nat.le_refl _))
  clear HL hle hb3 HX HY hbut3 HS2 HH
  go_loopw [8, 9] (fun t i wr => ∃ q : Nat, q ≤ m ∧ i = .int .i64 q ∧ t = .string (Sla.look LA LD x (S x) q) ∧ wr = w3) (fun _ i _ => m - (intOf i).toNat)
  case atStart => exact ⟨0, Nat.zero_le _, rfl, rfl, rfl⟩
  case round =>
    obtain ⟨q, hq, rfl, rfl, rfl⟩ := hrel
    by_cases hqm : q < m
    · obtain ⟨bl, rfl, hbl, hlc⟩ := HL3.out (by omega)
      have kA := (hlc q hqm).1
      have kD := (hlc q hqm).2
      clear hlc
      have i1 : (q : Int) < (m : Int) := by omega
      by_cases he : LA q = (x : Int)
      · have hlk : Sla.look LA LD x (S x) (q + 1) = LD q := by simp only [Sla.look]; rw [if_pos he]
        rw [he] at kA
        go_wp2
        go_roundw
        case rel => exact ⟨q + 1, by omega, by go_num, by rw [hlk], (by first | rfl | trivial)⟩
        case measure => simp [intOf]; omega
      · have hlk : Sla.look LA LD x (S x) (q + 1) = Sla.look LA LD x (S x) q := by simp only [Sla.look]; rw [if_neg he]
        have he2 : (LA q == (x : Int)) = false := beq_eq_false_iff_ne.2 he
        generalize Sla.look LA LD x (S x) q = lq at hlk
        go_wp2
        go_roundw
        case rel => exact ⟨q + 1, by omega, by go_num, by rw [hlk], (by first | rfl | trivial)⟩
        case measure => simp [intOf]; omega
    · obtain rfl : q = m := by omega
      generalize hlq : Sla.look LA LD x (S x) q = lq
      have HLQ := Lib.hid hlq
      clear hlq
      have i1 : ¬ (q : Int) < (q : Int) := by omega
      have ky0 := hy3.c0
      have ky1 := hy3.c1
      have ky2 := hy3.c2
      have ky3 := hy3.c3
      have ky4 := hy3.c4
      have hfy := hy3.f
      go_wp2
      refine bodyPost_ret (v := .tuple #[.agg #[.slice (some ⟨b, 0, none⟩) n c, .slice B q k, .bool false, .int .i64 left2, .int .i64 (deeds + 1)], .string lq, .int .i64 0]) (by simp [results, Tryd.results38, go_sem, ky0, ky1, ky2, ky3, ky4]) rfl ?_
      rw [HLQ.out]
      refine getErr_of HD2.out ?_
      repeat (first | (with_reducible exact hb4) | refine Below.setCell ?_ (by simp) _)
end Go.Proofs.YtdbemkdfndjakaaDoor.Hd
