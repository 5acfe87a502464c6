/- Texts TpA, TpB, TpC, TpD, TpE, TpF, TpG, one behind the other. -/
import Derived.Test.YtpnnkhpokangfaaDoorTiD
import Derived.Shelf.Spec.TrailingZeros
import Derived.Laws.BitsAllLaws
import Derived.Test.YtpnnkhpokangfaaDoorMgB
import Derived.Test.YtpnnkhpokangfaaDoorRoM
import Derived.Test.YtpnnkhpokangfaaDoorMgL
import Derived.Test.YtpnnkhpokangfaaDoorMgY
import Derived.Test.YtpnnkhpokangfaaDoorShelf
import Derived.Test.YtpnnkhpokangfaaDoorMgU
import Derived.Test.YtpnnkhpokangfaaDoorTiH
import Derived.Test.YtpnnkhpokangfaaDoorRoE
import Derived.Deep.QuietTactic
/- The program's bits of a tile: which places are taken, which is free. -/
namespace Go.Proofs.YtpnnkhpokangfaaDoor.Ti
open Go.RowKit Pac Va Sc Mi Sp

theorem tz64_core (x k idx : Nat) (w : World) (hx0 : ((x : Int) == 0) = false)
  (key : IntKind.u64.wrap (bits BinOp.and IntKind.u64 (x : Int) (IntKind.u64.wrap (-(x : Int))) * 285870213051353865) / 288230376151711744 = (idx : Int))
  (hi : idx < 64) (hk : k < 64) (hcell : w.cell? ⟨1, idx, none⟩ = some (.int .u8 k)) :
  Calls Tryd.prog 69 #[.int .u64 x] w fun e w' => e = .returned (.int .i64 k) ∧ w' = w := by
 go_enter Tryd.func69, Tryd.ntmps69
 go_wp2_with (simp only [key])
 go_ret
 exact ⟨rfl, rfl⟩
theorem tab_at {w : World} (ht : Tab w) {i k : Nat} (hi : i < 64) (hk : Lib.deBruijn64tab.getD i 0 = k) : w.cell? ⟨1, i, none⟩ = some (.int .u8 k) := by
 rw [← hk]
 exact ht.1 i hi
theorem tz64_any (x : Nat) (hx0 : x ≠ 0) (hx : x < 18446744073709551616) (w : World) (ht : Tab w) :
  Calls Tryd.prog 69 #[.int .u64 x] w fun e w' => e = .returned (.int .i64 (Lib.ctz 64 x)) ∧ w' = w := by
 obtain ⟨hlow, hk⟩ := Lib.lowest_bit 64 x hx0 hx
 obtain ⟨hi, htab⟩ := Lib.deBruijn64_at _ hk
 exact tz64_core x _ _ w (by simp; omega) (tz64_key x _ hx hx0 hlow) hi hk (tab_at ht hi htab)
theorem tz_any (x : Nat) (hx0 : x ≠ 0) (hx : x < 18446744073709551616) (w : World) (ht : Tab w) :
  Calls Tryd.prog 48 #[.int .u64 x] w fun e w' => e = .returned (.int .i64 (Lib.ctz 64 x)) ∧ w' = w := by
 have hc := tz64_any x hx0 hx w ht
 clear ht
 go_enter Tryd.func48, Tryd.ntmps48
 go_wp2_with fail
 refine hc.mono ?_
 rintro e w' ⟨rfl, rfl⟩
 clear hc
 go_wp2
 go_ret
 exact ⟨rfl, rfl⟩
theorem live_test (f : Nat → Bool) {i : Nat} (hi : i < 8) : (liveN f).testBit i = f i := by
 rw [Nat.testBit_eq_decide_div_mod_eq, live_bit f hi]
 cases f i <;> rfl
theorem and_at : ∀ m < 256, ∀ i < 8, (bits .and .i64 ((m : Nat) : Int) ((2 ^ i : Nat) : Int) != 0) = m.testBit i := by decide +kernel
theorem or_at : ∀ m < 256, ∀ i < 8, m.testBit i = false → bits .or .i64 ((m : Nat) : Int) ((2 ^ i : Nat) : Int) = ((m + 2 ^ i : Nat) : Int) := by decide +kernel
theorem drop_at : ∀ m < 256, ∀ i < 8, m.testBit i = true → bits .andNot .i64 ((m : Nat) : Int) ((2 ^ i : Nat) : Int) = ((m - 2 ^ i : Nat) : Int) := by decide +kernel
theorem not_at : ∀ m < 256, bits .xor .u64 IntKind.u64.max ((m : Nat) : Int) = ((18446744073709551615 - m : Nat) : Int) := by decide +kernel
theorem wrap_at : ∀ m < 256, IntKind.u64.wrap ((m : Nat) : Int) = ((m : Nat) : Int) := by decide +kernel
theorem ctz_at : ∀ m < 256, (Lib.ctz 64 (18446744073709551615 - m) < 8 → m.testBit (Lib.ctz 64 (18446744073709551615 - m)) = false) ∧ (∀ j < 8, j < Lib.ctz 64 (18446744073709551615 - m) → m.testBit j = true) := by decide +kernel
theorem live_or (f : Nat → Bool) {i : Nat} (hi : i < 8) (hf : f i = false) : bits .or .i64 (liveN f : Int) ((2 ^ i : Nat) : Int) = (liveN (fun j => if j = i then true else f j) : Int) := by
 rw [live_set hi hf]
 exact or_at _ (live_lt f) i hi (by rw [live_test f hi]; exact hf)
theorem live_drop (f : Nat → Bool) {i : Nat} (hi : i < 8) (hf : f i = true) : bits .andNot .i64 (liveN f : Int) ((2 ^ i : Nat) : Int) = (liveN (fun j => if j = i then false else f j) : Int) := by
 have h := live_set (f := fun j => if j = i then false else f j) hi (if_pos rfl)
 have e : (fun j => if j = i then true else (fun j => if j = i then false else f j) j) = f := by
  funext j
  by_cases hj : j = i
  ·subst hj
   simp [hf]
  ·simp [hj]
 rw [e] at h
 rw [drop_at _ (live_lt f) i hi (by rw [live_test f hi]; exact hf), h]
 congr 1
 omega
theorem free_ctz (f : Nat → Bool) : (Lib.ctz 64 (18446744073709551615 - liveN f) < 8 → freeI f = (Lib.ctz 64 (18446744073709551615 - liveN f) : Int)) ∧ (¬ Lib.ctz 64 (18446744073709551615 - liveN f) < 8 → freeI f = -1) := by
 obtain ⟨h1, h2⟩ := ctz_at _ (live_lt f)
 have hb : ∀ j < 8, (liveN f).testBit j = f j := fun j hj => live_test f hj
 generalize Lib.ctz 64 (18446744073709551615 - liveN f) = k at h1 h2 ⊢
 unfold freeI
 refine ⟨fun hk => ?_, fun hk => ?_⟩
 ·rw [free_at hk (by rw [← hb k hk]; exact h1 hk) (fun j hj => by rw [← hb j (by omega)]; exact h2 j (by omega) hj)]
 ·rw [free_all (fun j hj => by rw [← hb j hj]; exact h2 j hj (by omega))]

theorem bit_any {i : Nat} (hi : i < 8) (w : World) : Calls Tryd.prog 49 #[.int .i64 (i : Int)] w fun e w' => e = .returned (.int .i64 ((2 ^ i : Nat) : Int)) ∧ w' = w := by
 have h : i = 0 ∨ i = 1 ∨ i = 2 ∨ i = 3 ∨ i = 4 ∨ i = 5 ∨ i = 6 ∨ i = 7 := by omega
 rcases h with rfl | rfl | rfl | rfl | rfl | rfl | rfl | rfl
 all_goals
  go_enter Tryd.func49, Tryd.ntmps49
  go_wp2
  go_ret
  exact ⟨rfl, rfl⟩
section
variable {cs : List C} {w : World} {X : Nat → Prop} {t : TV} {r : R}
set_option maxRecDepth 20000 in
set_option maxHeartbeats 1600000 in
theorem taken_any (s : Int) (hT : HasT cs w X t r) (h0 : -9223372036854775808 ≤ s) (h1 : s ≤ 9223372036854775807) :
  Calls Tryd.prog 25 #[t.v, .int .i64 s] w fun e w' => e = .returned (.bool (takenB r s)) ∧ Below w.heap.size w w' := by
 have hm := hT.m
 have hm256 := hT.lt
 obtain ⟨A, n, c, m, B, d⟩ := t
 simp only at hm hm256
 have hnew := (Below.refl w.heap.size w).alloc (Nat.le_refl _) (.cells #[.slice A n c, .int .i64 m, .slice B n d] 32)
 have hx0 := Sc.Box3.new w (.slice A n c) (.int .i64 m) (.slice B n d) 32
 have c1 := hx0.c1
 unfold TV.v
 simp only
 by_cases q0 : s < 0
 ·have hR : takenB r s = false := by unfold takenB; rw [decide_eq_false (by omega)]; rfl
  rw [hR]
  clear hT hx0 c1 hm
  have q0' : decide (0 ≤ s) = false := decide_eq_false (by omega)
  have q00 : ¬ (0 ≤ s) := by omega
  go_enter Tryd.func25, Tryd.ntmps25
  go_wp2_with fail
  go_quiet (fail)
  go_wp2
  go_ret
  exact ⟨rfl, below_drewN hnew nq⟩
 by_cases q8 : 8 ≤ s
 ·have hR : takenB r s = false := by unfold takenB; rw [decide_eq_false (show ¬ s < 8 by omega)]; simp
  rw [hR]
  clear hT hx0 c1 hm
  have q00 : 0 ≤ s := by omega
  have q88 : decide (s < 8) = false := decide_eq_false (by omega)
  go_enter Tryd.func25, Tryd.ntmps25
  go_wp2_with fail
  go_quiet (fail)
  go_wp2
  go_ret
  exact ⟨rfl, below_drewN hnew nq⟩
 obtain ⟨i, rfl⟩ : ∃ i : Nat, s = (i : Int) := ⟨s.toNat, by omega⟩
 have hi : i < 8 := by omega
 have hR : takenB r (i : Int) = r.f i := by
  unfold takenB
  rw [decide_eq_true (by omega), decide_eq_true (by omega), Int.toNat_natCast]
  rfl
 have hb := and_at _ (live_lt r.f) i hi
 rw [live_test r.f hi] at hb
 rw [hR, ← hm] at *
 generalize r.f i = x at hb ⊢
 have i1 : decide ((i : Int) < 8) = true := decide_eq_true (by omega)
 have i0 : (0 : Int) ≤ (i : Int) := by omega
 have hcb := fun W : World => bit_any hi W
 generalize 2 ^ i = z at hb hcb
 clear hT hx0 hR hm q0 q8
 go_enter Tryd.func25, Tryd.ntmps25
 go_wp2_with fail
 go_quiet ((go_at_call 49; exact Calls.quiet_of_same (hcb _)))
 go_wp2
 go_ret
 exact ⟨rfl, below_drewN hnew nq⟩

set_option maxRecDepth 20000 in
set_option maxHeartbeats 1600000 in
theorem free_any (hT : HasT cs w X t r) : Calls Tryd.prog 23 #[t.v] w fun e w' => e = .returned (.int .i64 (freeI r.f)) ∧ Below w.heap.size w w' := by
 have hm := hT.m
 have hm256 := hT.lt
 have ht := hT.tab
 obtain ⟨A, n, c, m, B, d⟩ := t
 simp only at hm hm256
 have hnew := (Below.refl w.heap.size w).alloc (Nat.le_refl _) (.cells #[.slice A n c, .int .i64 m, .slice B n d] 32)
 have hx0 := Sc.Box3.new w (.slice A n c) (.int .i64 m) (.slice B n d) 32
 have c1 := hx0.c1
 unfold TV.v
 simp only
 have ht := ht.below hnew (Nat.le_refl _)
 have hF := free_ctz r.f
 rw [← hm] at hF
 generalize freeI r.f = ans at hF ⊢
 have e1 := wrap_at m hm256
 have e2 := not_at m hm256
 have hc := tz_any (18446744073709551615 - m) (by omega) (by omega) _ ht
 generalize 18446744073709551615 - m = y at e2 hc hF
 generalize Lib.ctz 64 y = k at hc hF
 clear hT hx0 hm ht
 by_cases hk : k < 8
 ·obtain rfl := hF.1 hk
  have k1 : ¬ (8 : Int) ≤ (k : Int) := by omega
  clear hF
  go_enter Tryd.func23, Tryd.ntmps23
  go_wp2_with fail
  refine hc.mono ?_
  rintro e w' ⟨rfl, rfl⟩
  clear hc
  go_wp2
  go_ret
  exact ⟨rfl, hnew⟩
 ·obtain rfl := hF.2 hk
  have k1 : (8 : Int) ≤ (k : Int) := by omega
  clear hF
  go_enter Tryd.func23, Tryd.ntmps23
  go_wp2_with fail
  refine hc.mono ?_
  rintro e w' ⟨rfl, rfl⟩
  clear hc
  go_wp2
  go_ret
  exact ⟨rfl, hnew⟩
end
end Go.Proofs.YtpnnkhpokangfaaDoor.Ti

/- The program's rows of a tile: empty ones, a group's cells of them. -/
namespace Go.Proofs.YtpnnkhpokangfaaDoor.Ti
open Go.RowKit Pac Va Sc Mi Sp Ro Lex

theorem pick_cells {r : List V} {g : List Int} (h : ∀ c ∈ g, 0 ≤ c ∧ c < r.length) : pickO r g = some (g.map (cellAt r)) := by
 obtain ⟨p, hp, hl, hc⟩ := pick_some h
 rw [hp]
 congr 1
 apply List.ext_getElem?
 intro j
 rw [List.getElem?_map]
 by_cases hj : j < g.length
 ·have hg : g[j]? = some (g[j]'hj) := List.getElem?_eq_getElem _
  have hr := h _ (List.mem_of_getElem? hg)
  rw [hc j _ hg, hg]
  show _ = some (cellAt r _)
  unfold cellAt
  rw [List.getElem?_eq_getElem (show (g[j]'hj).toNat < r.length by omega)]
  rfl
 ·rw [List.getElem?_eq_none (by omega), List.getElem?_eq_none (by omega)]
  rfl
/-- An empty row, made. -/
def MadeRow (m : Nat) (w : World) (e : Ending) (w' : World) : Prop :=
 e = .returned (.slice (some ⟨w.heap.size + 1, 0, none⟩) m m) ∧ w'.ownsRow (w.heap.size + 1) 37 3 (.slice (some ⟨w.heap.size + 1, 0, none⟩) m m) m (Li.cellsL cellsV (List.replicate m vZ)) ∧ Below w.heap.size w w'
set_option maxRecDepth 20000 in
set_option maxHeartbeats 1600000 in
theorem emptyRow_any (nm : ByteArray) (A : Option Addr) (mc cp : Nat) (w : World) (hm : mc ≤ 1000000) :
  Calls Tryd.prog 55 #[.agg #[.string nm, .slice A mc cp]] w (MadeRow mc w) := by
 obtain ⟨i0, hi, hz0, hz1, hz2⟩ := info_parts infoV
 have hnew := (Below.refl w.heap.size w).alloc (Nat.le_refl _) (.cells #[.string nm, .slice A mc cp] 24)
 have hx0 := Box2.new w (.string nm) (.slice A mc cp) 24
 have hz : (w.alloc (.cells #[.string nm, .slice A mc cp] 24)).heap.size = w.heap.size + 1 := by simp
 have c1 := hx0.c1
 unfold MadeRow
 rw [← hz]
 have hq : w.heap.size ≤ (w.alloc (.cells #[.string nm, .slice A mc cp] 24)).heap.size := by rw [hz]; omega
 have HB := Lib.hid (And.intro hnew hq)
 clear hz hx0 hnew hq
 go_enter Tryd.func55, Tryd.ntmps55
 generalize hw1 : w.alloc (.cells #[.string nm, .slice A mc cp] 24) = w1 at c1 HB ⊢
 go_wp2_with (at_make; go_must (refine wpList_make_full _ rfl _ _ 35 rfl w1.heap.size 37 i0 (.agg #[.int .i64 0, .int .i64 0, .string ⟨#[]⟩]) 3 Tryd.underlying35 hi hz0 hz1 _ _ _ _ mc rfl rfl rfl rfl (by rw [hz2]; omega) (by unfold maxLen; omega) (Nat.le_refl _) ?_))
 intro w2 hown2 hgrow2
 rw [made_vals] at hown2
 have hy : Below w1.heap.size w1 w2 := (Below.refl _ _).grown hgrow2 (Nat.le_refl _) (fun k hk => by cases hk)
 have HQ := Lib.hid (And.intro hown2 (HB.out.1.trans (hy.mono HB.out.2)))
 clear hown2 hgrow2 hy HB c1
 go_wp2
 go_ret
 exact ⟨rfl, HQ.out.1, HQ.out.2⟩

/-- Eight rows that are nobody else's, in a slice that is nobody else's. -/
structure Rw (w : World) (B Rb : Nat) (os : List (Li.OG V)) : Prop where
 row : w.ownsRow B 35 1 (.slice (some ⟨Rb, 0, none⟩) 8 8) 8 (os.map Li.OG.v)
 free : Li.FreeG cellsV 3 37 w B os
section
variable {w w' : World} {B B' Rb : Nat} {os : List (Li.OG V)}
theorem Rw.below (h : Rw w B Rb os) (hb : Below B' w w') (hB : w.heap.size ≤ B') : Rw w' B Rb os := ⟨Li.own_below h.row hb hB, h.free.below hb hB⟩
theorem Rw.lt (h : Rw w B Rb os) : B ≤ Rb ∧ Rb < w.heap.size := h.row.lt Rb rfl
theorem Rw.len (h : Rw w B Rb os) : os.length = 8 := by
 have := h.row.1
 rw [List.length_map] at this
 simpa using this
theorem Rw.base (h : Rw w B Rb os) (hB : B' ≤ B) : Rw w B' Rb os := ⟨Li.own_base h.row hB, ⟨fun x hx => Li.own_base (h.free.own x hx) hB, h.free.nd⟩⟩
theorem Rw.vv (h : Rw w B Rb os) (hl : os.length = 8) : HasVV w B (some ⟨Rb, 0, none⟩) (os.map Li.OG.l) := by
 have hown' := h.row
 rw [← Li.cells_og] at hown'
 obtain ⟨A', c', e', hcc, hl⟩ := Li.list_of_own Li.cellsG_len hown' (by rw [List.length_map, hl])
 injection e' with e1 _ e3
 subst e1 e3
 exact ⟨os.map Li.OG.gr, by rw [List.map_map]; rfl, hl, fun x hx => h.free.has cellsV_len hx⟩
end
def RowsPost (M : List (List V)) (w : World) (e : Ending) (w' : World) : Prop :=
 ∃ (os : List (Li.OG V)) (Rb : Nat), e = .returned (.slice (some ⟨Rb, 0, none⟩) 8 8) ∧ os.map Li.OG.l = M ∧ Rw w' w.heap.size Rb os ∧ Below w.heap.size w w'
set_option maxRecDepth 20000 in
set_option maxHeartbeats 3200000 in
theorem emptyRows_any (nm : ByteArray) (A : Option Addr) (m cp : Nat) (w : World) (hm : m ≤ 1000000) :
  Calls Tryd.prog 39 #[.agg #[.string nm, .slice A m cp]] w (RowsPost (emptyM m) w) := by
 obtain ⟨i2, hi2, hy0, hy1, hy2⟩ := info_parts infoRow
 have hPG := fun (w' : World) (os : List (Li.OG V)) (Rb : Nat) (hR : Rw w' w.heap.size Rb os) (e : os.map Li.OG.l = emptyM m) (hB : Below w.heap.size w w') =>
  (show RowsPost (emptyM m) w (.returned (.slice (some ⟨Rb, 0, none⟩) 8 8)) w' from ⟨os, Rb, rfl, e, hR, hB⟩)
 generalize RowsPost (emptyM m) w = post at hPG ⊢
 have HPG := Lib.hid hPG
 clear hPG
 have hnew := (Below.refl w.heap.size w).alloc (Nat.le_refl _) (.cells #[.string nm, .slice A m cp] 24)
 have hx0 := Box2.new w (.string nm) (.slice A m cp) 24
 have hz : (w.alloc (.cells #[.string nm, .slice A m cp] 24)).heap.size = w.heap.size + 1 := by simp
 have hce := fun W : World => emptyRow_any nm A m cp W hm
 go_enter Tryd.func39, Tryd.ntmps39
 generalize hw0 : w.alloc (.cells #[.string nm, .slice A m cp] 24) = w0 at hnew hx0 hz
 have HZ := Lib.hid hz
 have hzl : w.heap.size ≤ w0.heap.size := by omega
 clear hz
 go_wp2_with (at_make; go_must (refine wpList_make_full _ rfl _ _ 69 rfl w0.heap.size 35 i2 (.slice none 0 0) 1 Tryd.underlying69 hi2 hy0 hy1 _ _ _ _ 8 rfl rfl rfl rfl (by rw [hy2]; omega) (by unfold maxLen; omega) (Nat.le_refl _) ?_))
 intro w1 hown1 hgrow1
 have hy := (Below.refl w0.heap.size w0).grown hgrow1 (Nat.le_refl _) (fun k hk => by cases hk)
 have hb1 : Below w.heap.size w w1 := hnew.trans (hy.mono hzl)
 have hx1 := hx0.below hy hx0.lt
 rw [made_rows] at hown1
 have hown1 := Li.own_base hown1 hzl
 obtain ⟨Rb, hRb⟩ : ∃ Rb, w0.heap.size = Rb := ⟨_, rfl⟩
 rw [hRb] at hown1 ⊢
 have hgl : w.heap.size < Rb := by have := HZ.out; omega
 clear hgrow1 hy hx0 hnew hRb hzl
 go_wp2
 go_loopw [8] (fun i wr => ∃ (q : Nat) (os : List (Li.OG V)), q ≤ 8 ∧ i = .int .i64 q ∧ wr.ownsRow w.heap.size 35 1 (.slice (some ⟨Rb, 0, none⟩) 8 8) 8 (os.map Li.OG.v ++ List.replicate (8 - q) (.slice none 0 0)) ∧ Hid (os.length = q ∧ os.map Li.OG.l = List.replicate q (List.replicate m vZ) ∧ Li.FreeG cellsV 3 37 wr w.heap.size os) ∧ Below w.heap.size w wr ∧ Box2 wr w.heap.size (.string nm) (.slice A m cp)) (fun i _ => 8 - (intOf i).toNat)
 case atStart => exact ⟨0, [], Nat.zero_le _, rfl, hown1, Lib.hid ⟨rfl, rfl, Li.FreeG.nil _ _ _ _ _⟩, hb1, hx1⟩
 case round =>
  clear hown1 hb1 hx1
  obtain ⟨q, os, hq, rfl, hown, hH, hB, hx⟩ := hrel
  by_cases hlt : q < 8
  ·have i1 : (q : Int) < 8 := by omega
   have i0' : (0 : Int) ≤ (q : Int) := by omega
   have c0 := hx.c0
   have c1 := hx.c1
   go_wp2_with fail
   refine (hce _).mono ?_
   rintro e w2 ⟨rfl, hown2, hy1⟩
   have hownR := Li.own_below hown hy1 (Nat.le_refl _)
   have hx := hx.below hy1 hx.lt
   obtain ⟨bk, hbk⟩ : ∃ bk, wr.heap.size + 1 = bk := ⟨_, rfl⟩
   rw [hbk] at hown2 ⊢
   have hF : Li.FreeG cellsV 3 37 w2 w.heap.size (os ++ [⟨bk, m, List.replicate m vZ⟩]) := (hH.out.2.2.below hy1 (Nat.le_refl _)).push (x := ⟨bk, m, List.replicate m vZ⟩) (by
    unfold Li.OG.v
    show World.ownsRow w2 w.heap.size 37 3 (.slice (some ⟨bk, 0, none⟩) (List.replicate m vZ).length m) (List.replicate m vZ).length _
    rw [List.length_replicate]
    exact Li.own_base hown2 (by have := hB.size; omega)) (fun x hx => by
    have := (hH.out.2.2.lt hx).2
    show x.b ≠ bk
    omega)
   obtain ⟨hlen, hls, _⟩ := hH.out
   have hmv : (os.map Li.OG.v).length = q := by rw [List.length_map, hlen]
   have s1 := hownR.cellAt q (by omega)
   have s2 := hownR.frozenAt q
   have hat : (os.map Li.OG.v ++ List.replicate (8 - q) (Value.slice none 0 0))[q]? = some (.slice none 0 0) := by
    rw [List.getElem?_append_right (by omega), hmv, Nat.sub_self, List.getElem?_replicate, if_pos (by omega)]
   rw [hat] at s1
   have hst := hownR.stored q (.slice (some ⟨bk, 0, none⟩) m m)
   rw [rest_set _ _ _ hlt hmv] at hst
   have hF2 := hF.grown hownR (by decide) hst.2
   have HX : Hid ((os ++ [(⟨bk, m, List.replicate m vZ⟩ : Li.OG V)]).length = q + 1 ∧ (os ++ [(⟨bk, m, List.replicate m vZ⟩ : Li.OG V)]).map Li.OG.l = List.replicate (q + 1) (List.replicate m vZ) ∧ Li.FreeG cellsV 3 37 (w2.setCell ⟨Rb, q, none⟩ (.slice (some ⟨bk, 0, none⟩) m m)) w.heap.size (os ++ [⟨bk, m, List.replicate m vZ⟩])) :=
    Lib.hid ⟨by rw [List.length_append, hlen]; rfl, by rw [List.map_append, hls, empty_snoc]; rfl, hF2⟩
   have hnv : (os ++ [(⟨bk, m, List.replicate m vZ⟩ : Li.OG V)]).map Li.OG.v = os.map Li.OG.v ++ [.slice (some ⟨bk, 0, none⟩) m m] := by
    rw [List.map_append]
    show _ ++ [Value.slice _ (List.replicate m vZ).length _] = _
    rw [List.length_replicate]
   rw [← hnv] at hst
   have HST := Lib.hid (And.intro hst.1 (And.intro ((hB.trans (hy1.mono hB.size)).grown hst.2 (Nat.le_trans hB.size hy1.size) (fun k hk => (hownR.lt k hk).1)) (Sc.box2_setOther hx (p := ⟨Rb, q, none⟩) (by show Rb ≠ w.heap.size; omega) (.slice (some ⟨bk, 0, none⟩) m m))))
   clear hown hown2 hy1 hownR hF hlen hls hmv hat hst hF2 hnv hB hx c0 c1 hbk
   go_wp2
   clear s1 s2
   go_roundw
   case rel => exact ⟨q + 1, _, by omega, by go_num, HST.out.1, HX, HST.out.2.1, HST.out.2.2⟩
   case measure => simp [intOf]; omega
  ·obtain rfl : q = 8 := by omega
   have HQ := Lib.hid (HPG.out wr os Rb ⟨by simpa using hown, hH.out.2.2⟩ hH.out.2.1 hB)
   clear hown
   go_wp2
   exact HQ.out

/-- Rows, a list of them. -/
def VVPost (L : List (List V)) (w : World) (e : Ending) (w' : World) : Prop :=
 ∃ (A : Option Addr) (c : Nat), e = .returned (.slice A L.length c) ∧ HasVV w' w.heap.size A L ∧ Below w.heap.size w w'
set_option maxRecDepth 20000 in
set_option maxHeartbeats 3200000 in
theorem groupCells_any {n : Nat} (A1 A2 : Option Addr) (cp cp2 : Nat) (M : List (List V)) (g : List Int) (lo1 lo2 : Nat) (w : World) (h1 : HasVV w lo1 A1 M) (h2 : Ro.HasI w lo2 A2 g) (hM : M.length ≤ 1000000) (hn : n ≤ 1000000) (hrow : ∀ r ∈ M, r.length = n) (hg : ∀ c ∈ g, 0 ≤ c ∧ c < (n : Int)) (hg1 : 1 ≤ g.length) (hg8 : g.length ≤ 1000000) :
  Calls Tryd.prog 58 #[.slice A1 M.length cp, .slice A2 g.length cp2] w (VVPost (gcells g M) w) := by
 obtain ⟨i0, hi, hz0, hz1, hz2⟩ := info_parts infoRow
 have hPG := fun (w' : World) (os : List (Li.OG V)) (sv : Value) (e : os.map Li.OG.l = gcells g M) (hown : w'.ownsRow w.heap.size 35 1 sv os.length (os.map Li.OG.v)) (hF : Li.FreeG cellsV 3 37 w' w.heap.size os) (hB : Below w.heap.size w w') =>
  (show VVPost (gcells g M) w (.returned sv) w' from by
   have hown' := hown
   rw [← Li.cells_og] at hown'
   obtain ⟨A', c', rfl, hcc, hl⟩ := Li.list_of_own Li.cellsG_len hown' (by rw [List.length_map])
   exact ⟨A', c', by rw [← e, List.length_map], ⟨os.map Li.OG.gr, by rw [List.map_map]; exact e, hl, fun x hx => hF.has cellsV_len hx⟩, hB⟩)
 generalize VVPost (gcells g M) w = post at hPG ⊢
 have HPG := Lib.hid hPG
 clear hPG
 obtain ⟨m, hm⟩ : ∃ m, M.length = m := ⟨_, rfl⟩
 have hcP := fun (W : World) (r : List V) (A : Option Addr) (c : Nat) (hr : r ∈ M) (h1 : HasV W lo1 A r) (h2 : Ro.HasI W lo2 A2 g) => pickOwn_any A A2 c cp2 r g lo1 lo2 W h1 h2 (by rw [hrow r hr]; omega) hg8
 obtain ⟨p, hp⟩ : ∃ p, g.length = p := ⟨_, rfl⟩
 rw [hm] at hM ⊢
 rw [hp] at hcP hg1 hg8 ⊢
 have HCP := Lib.hid hcP
 have HA := Lib.hid h1
 have HB := Lib.hid h2
 have HM := Lib.hid hm
 have HP : Hid (∀ r ∈ M, pickO r g = some (g.map (cellAt r)) ∧ (g.map (cellAt r)).length = p) := Lib.hid (fun r hr => ⟨pick_cells (fun c hc => by rw [hrow r hr]; exact hg c hc), by rw [List.length_map, hp]⟩)
 have HR := Lib.hid hrow
 clear hcP h1 h2 hm hp hrow hg
 go_enter Tryd.func58, Tryd.ntmps58
 go_wp2
 go_loopw [5, 12] (fun x i wr => ∃ (q : Nat) (os : List (Li.OG V)) (sv : Value), q ≤ m ∧ i = .int .i64 q ∧ x = sv ∧ wr.ownsRow w.heap.size 35 1 sv q (os.map Li.OG.v) ∧ Hid (os.length = q ∧ os.map Li.OG.l = (gcells g M).take q ∧ Li.FreeG cellsV 3 37 wr w.heap.size os) ∧ Below w.heap.size w wr) (fun _ i _ => m - (intOf i).toNat)
 case atStart => exact ⟨0, [], _, Nat.zero_le _, rfl, rfl, World.ownsRow_nil _ _ _ _, Lib.hid ⟨rfl, rfl, Li.FreeG.nil _ _ _ _ _⟩, Below.refl _ w⟩
 case round =>
  obtain ⟨q, os, sv, hq, rfl, rfl, hown, hH, hB⟩ := hrel
  by_cases hlt : q < m
  ·have hr : M[q]? = some (M[q]'(by rw [HM.out]; exact hlt)) := List.getElem?_eq_getElem _
   generalize (M[q]'(by rw [HM.out]; exact hlt)) = r at hr
   have hrm := List.mem_of_getElem? hr
   obtain ⟨b1, o1, A3, cp3, rfl, _, hlb1, d1, hV1, _⟩ := (HA.out.below hB (Nat.le_refl _)).at hr
   rw [HR.out r hrm] at d1
   have hc := fun W (h1 : HasV W lo1 A3 r) (h2 : Ro.HasI W lo2 A2 g) => HCP.out W r A3 cp3 hrm h1 h2
   rw [HR.out r hrm] at hc
   have HV1 := Lib.hid (And.intro hV1 hrm)
   have HG := Lib.hid (gcells_at (g := g) hr)
   have i1 : (q : Int) < (m : Int) := by omega
   have i0' : (0 : Int) ≤ (q : Int) := by omega
   clear hV1 hrm hr
   go_wp2_with fail
   refine (hc _ HV1.out.1 (HB.out.below hB (Nat.le_refl _))).mono ?_
   rintro e w2 ⟨su, ps, ok, rfl, hok, hps, hownp, hy⟩
   obtain ⟨hpk, hpl⟩ := HP.out r HV1.out.2
   rw [hpk] at hok hps
   obtain rfl : ok = true := hok
   obtain rfl : ps = g.map (cellAt r) := hps
   rw [hpl] at hownp
   generalize g.map (cellAt r) = ps at hpl hownp HG
   obtain ⟨gb, gc, rfl, hgb, hgl⟩ := hownp.form (by omega)
   have hnW := heap_alloc_new w2 (.cells #[.slice (some ⟨gb, 0, none⟩) p gc] 35)
   have hyW := hy.alloc hy.size (.cells #[.slice (some ⟨gb, 0, none⟩) p gc] 35)
   have hownR := Li.own_below hown hyW (Nat.le_refl _)
   have hal := (Below.refl w2.heap.size w2).alloc (Nat.le_refl _) (.cells #[.slice (some ⟨gb, 0, none⟩) p gc] 35)
   have hownp2 := Li.own_below hownp hal (Nat.le_refl _)
   have hF : Li.FreeG cellsV 3 37 (w2.alloc (.cells #[.slice (some ⟨gb, 0, none⟩) p gc] 35)) w.heap.size (os ++ [⟨gb, gc, ps⟩]) := (hH.out.2.2.below hyW (Nat.le_refl _)).push (x := ⟨gb, gc, ps⟩) (by
    unfold Li.OG.v
    show World.ownsRow _ w.heap.size 37 3 (.slice (some ⟨gb, 0, none⟩) ps.length gc) ps.length _
    rw [hpl]
    exact Li.own_base hownp2 hB.size) (fun x hx => by
    have := (hH.out.2.2.lt hx).2
    show x.b ≠ gb
    omega)
   have HW := Lib.hid (And.intro hownR (And.intro (hB.trans (hyW.mono hB.size)) (And.intro hnW (And.intro hF (Nat.le_trans hB.size hyW.size)))))
   have HPL := Lib.hid hpl
   clear hownR hnW hF hyW hal hownp hownp2 hown hB hy hpl hpk d1 hc hlb1
   go_wp2_with (at_builtin; go_must (refine wpList_append_own _ rfl _ _ 69 rfl w.heap.size 35 i0 (.slice none 0 0) 1 24 Tryd.underlying69 hi hz0 hz1 hz2 rfl (by decide) u5 q (os.map Li.OG.v) rfl HW.out.1 ⟨w2.heap.size, 0, none⟩ 1 1 [.slice (some ⟨gb, 0, none⟩) p gc] rfl rfl (World.news_of_block HW.out.2.2.1) (by simp [Value.oneCell']) (by unfold maxLen; omega) (by omega) HW.out.2.2.2.2 ?_))
   intro v5 y5 hown5 hgrow5 _
   obtain ⟨hownW, hbW, _, hF, hsz⟩ := HW.out
   have hB := hbW.grown hgrow5 hbW.size (fun k hk => (hownW.lt k hk).1)
   have hF := hF.grown hownW (by decide) hgrow5
   have HX : Hid ((os ++ [(⟨gb, gc, ps⟩ : Li.OG V)]).length = q + 1 ∧ (os ++ [(⟨gb, gc, ps⟩ : Li.OG V)]).map Li.OG.l = (gcells g M).take (q + 1) ∧ Li.FreeG cellsV 3 37 y5 w.heap.size (os ++ [⟨gb, gc, ps⟩])) := Lib.hid ⟨by rw [List.length_append, hH.out.1]; rfl, by rw [List.map_append, hH.out.2.1, List.take_add_one, HG.out]; rfl, hF⟩
   have hnv : os.map Li.OG.v ++ [.slice (some ⟨gb, 0, none⟩) p gc] = (os ++ [(⟨gb, gc, ps⟩ : Li.OG V)]).map Li.OG.v := by
    rw [List.map_append]
    show _ = _ ++ [Value.slice _ ps.length _]
    rw [HPL.out]
   rw [hnv] at hown5
   clear hownW hbW hgrow5 HW hF hnv
   go_wp2
   go_roundw
   case rel => exact ⟨q + 1, _, _, by omega, by go_num, rfl, hown5, HX, hB⟩
   case measure => simp [intOf]; omega
  ·obtain rfl : q = m := by omega
   have HQ := Lib.hid (HPG.out wr os u5 (by rw [hH.out.2.1, List.take_of_length_le (by rw [gcells_len, HM.out]; exact Nat.le_refl _)]) (by rw [hH.out.1]; exact hown) hH.out.2.2 hB)
   clear hown
   go_wp2
   exact HQ.out
end Go.Proofs.YtpnnkhpokangfaaDoor.Ti

/- The program's tile of rows, by a split: walked. -/
namespace Go.Proofs.YtpnnkhpokangfaaDoor.Ti
open Go.RowKit Pac Va Sc Mi Sp Ro Lex

theorem infoStr : (Tryd.prog.info? 9).map (fun i => (i.zero, i.size, i.bytes)) = some (some (.string ⟨#[]⟩), 1, 16) := by kernel_rfl
theorem p_grp {nm : ByteArray} {cs : List C} {l : List (List Int)} {g : List Int} (hr : rightS nm cs = true) (h : IsSplit l cs.length) (hg : g ∈ l) : Grp nm cs g :=
 ⟨hr, List.length_pos_iff.2 (h.ne g hg), by
  have := in_len hg
  have := h.len
  have := h.n8
  omega, fun c hc => h.rng c (List.mem_flatten.2 ⟨g, hg, hc⟩), h.n8⟩
theorem results_tile1 {fn : Func} {p : Tmp} (h : fn.results = #[.cell p 32]) (tmps : Array Value) (w : World) (g : Nat) (v0 v1 v2 : Value)
  (hp : tmps.getD p undef = .pointer (some ⟨g, 0, none⟩)) (c0 : w.cell? ⟨g, 0, none⟩ = some v0) (c1 : w.cell? ⟨g, 1, none⟩ = some v1) (c2 : w.cell? ⟨g, 2, none⟩ = some v2) :
  (results fn tmps).run Tryd.prog w = .ok (.agg #[v0, v1, v2]) w := by
 have hp' : tmps[p]?.getD undef = .pointer (some ⟨g, 0, none⟩) := by simpa using hp
 clear hp
 simp only [results, h]
 go_simp
/-- What the walk holds: the schema's box, the result's, the tile's; so many groups are copied, so many printed. -/
structure Ld (w : World) (g1 g2 mc cp : Nat) (nm : ByteArray) (A : Option Addr) (m : Int) (l : List (List Int)) (tx : List ByteArray) (q1 q2 : Nat) (os : List (Li.OG Int)) (sv tv : Value) (W : World) : Prop where
 b0 : Box2 W w.heap.size (.string nm) (.slice A mc cp)
 b1 : Sc.Box3 W g1 (.slice none 0 0) (.int .i64 0) (.slice none 0 0)
 b2 : Sc.Box3 W g2 sv (.int .i64 m) tv
 r1 : W.ownsRow (g2 + 1) 67 1 sv q1 (os.map Li.OG.v)
 fr : Li.FreeG Sp.cellsI 1 3 W (g2 + 1) os
 r2 : W.ownsRow (g2 + 1) 9 1 tv q2 (Li.cellsL cellsS (tx.take q2))
 ol : os.map Li.OG.l = l.take q1
 b : Below w.heap.size w W
 z : g2 < W.heap.size
section
variable {w W W' : World} {g1 g2 mc cp q1 q2 : Nat} {nm : ByteArray} {A : Option Addr} {m : Int} {l : List (List Int)} {tx : List ByteArray} {os : List (Li.OG Int)} {sv tv : Value}
theorem Ld.below (h : Ld w g1 g2 mc cp nm A m l tx q1 q2 os sv tv W) (hb : Below W.heap.size W W') : Ld w g1 g2 mc cp nm A m l tx q1 q2 os sv tv W' :=
 ⟨h.b0.below hb h.b0.lt, h.b1.below hb h.b1.lt, h.b2.below hb h.b2.lt, Li.own_below h.r1 hb (Nat.le_refl _), h.fr.below hb (Nat.le_refl _), Li.own_below h.r2 hb (Nat.le_refl _), h.ol, h.b.trans (hb.mono h.b.size), Nat.lt_of_lt_of_le h.z hb.size⟩
theorem own_else {B B' : Nat} {e e' : TypeId} {s s' n n' : Nat} {v v' : Value} {xs xs' : List Value} (h : W.ownsRow B e s v n xs) (h' : W.ownsRow B' e' s' v' n' xs') (hne : e ≠ e') (hg : W.grownBy W' v'.ownBlock) : W'.ownsRow B e s v n xs := by
 refine Li.own_other h hg ?_
 cases hb : v.ownBlock with
 | none => exact Or.inl rfl
 | some b => exact Or.inr (fun e2 => Li.own_kind h h' hne hb e2.symm)
theorem Ld.group {y3 : World} {g5 c5 cb cc p : Nat} {gg : List Int} (h : Ld w g1 g2 mc cp nm A m l tx q1 q2 os sv tv W) (h12 : w.heap.size < g1 ∧ g1 < g2) (hown : y3.ownsRow (g2 + 1) 67 1 (.slice (some ⟨g5, 0, none⟩) (q1 + 1) c5) (q1 + 1) (os.map Li.OG.v ++ [.slice (some ⟨cb, 0, none⟩) p cc])) (hg : W.grownBy y3 sv.ownBlock)
  (hc : W.ownsRow (g2 + 1) 3 1 (.slice (some ⟨cb, 0, none⟩) p cc) p (gg.map (Value.int .i64))) (hp : gg.length = p) (hl : l[q1]? = some gg) (hne : ∀ z ∈ os, z.b ≠ cb) :
  Ld w g1 g2 mc cp nm A m l tx (q1 + 1) q2 (os ++ [⟨cb, cc, gg⟩]) (.slice (some ⟨g5, 0, none⟩) (q1 + 1) c5) tv (y3.setCell ⟨g2, 0, none⟩ (.slice (some ⟨g5, 0, none⟩) (q1 + 1) c5)) := by
 have hz := h.z
 have hb := (Below.refl (g2 + 1) W).grown hg hz (fun k hk => (h.r1.lt k hk).1)
 have hv : os.map Li.OG.v ++ [.slice (some ⟨cb, 0, none⟩) p cc] = (os ++ [(⟨cb, cc, gg⟩ : Li.OG Int)]).map Li.OG.v := by
  rw [List.map_append, ← hp]
  rfl
 rw [hv] at hown
 have hF : Li.FreeG Sp.cellsI 1 3 W (g2 + 1) (os ++ [⟨cb, cc, gg⟩]) := h.fr.push (x := ⟨cb, cc, gg⟩) (by
  have e2 : Li.cellsL Sp.cellsI gg = gg.map (Value.int .i64) := by unfold Li.cellsL Sp.cellsI; rw [List.map_eq_flatMap]
  show W.ownsRow (g2 + 1) 3 1 (.slice (some ⟨cb, 0, none⟩) gg.length cc) gg.length (Li.cellsL Sp.cellsI gg)
  rw [e2, hp]
  exact hc) hne
 have hF := hF.grown h.r1 (by decide) hg
 refine ⟨Sc.box2_setOther (h.b0.below hb (by omega)) (p := ⟨g2, 0, none⟩) (by show g2 ≠ w.heap.size; omega) _, (h.b1.below hb (by omega)).setOther (p := ⟨g2, 0, none⟩) (by show g2 ≠ g1; omega) _, (h.b2.below hb (by omega)).set0 _, ownsRow_setCell_below hown (a := ⟨g2, 0, none⟩) (Nat.lt_succ_self _) _, ⟨fun x hx => ownsRow_setCell_below (hF.own x hx) (a := ⟨g2, 0, none⟩) (Nat.lt_succ_self _) _, hF.nd⟩, ownsRow_setCell_below (own_else h.r2 h.r1 (by decide) hg) (a := ⟨g2, 0, none⟩) (Nat.lt_succ_self _) _, ?_, ?_, ?_⟩
 ·rw [List.map_append, h.ol, List.take_add_one, hl]
  rfl
 ·exact (h.b.trans (hb.mono (by omega))).setCell (p := ⟨g2, 0, none⟩) (by show w.heap.size ≤ g2; omega) _
 ·have := hb.size
  show g2 < (y3.setCell _ _).heap.size
  rw [World.size_setCell]
  omega
theorem Ld.text {y3 : World} {g5 c5 : Nat} {tz : ByteArray} (h : Ld w g1 g2 mc cp nm A m l tx q1 q2 os sv tv W) (h12 : w.heap.size < g1 ∧ g1 < g2) (hown : y3.ownsRow (g2 + 1) 9 1 (.slice (some ⟨g5, 0, none⟩) (q2 + 1) c5) (q2 + 1) (Li.cellsL cellsS (tx.take q2) ++ [.string tz])) (hg : W.grownBy y3 tv.ownBlock) (hl : tx[q2]? = some tz) :
  Ld w g1 g2 mc cp nm A m l tx q1 (q2 + 1) os sv (.slice (some ⟨g5, 0, none⟩) (q2 + 1) c5) (y3.setCell ⟨g2, 2, none⟩ (.slice (some ⟨g5, 0, none⟩) (q2 + 1) c5)) := by
 have hz := h.z
 have hb := (Below.refl (g2 + 1) W).grown hg hz (fun k hk => (h.r2.lt k hk).1)
 have hv : Li.cellsL cellsS (tx.take q2) ++ [.string tz] = Li.cellsL cellsS (tx.take (q2 + 1)) := by
  rw [List.take_add_one, hl]
  exact (Li.cellsL_snoc ..).symm
 rw [hv] at hown
 have hF := h.fr.grown h.r2 (by decide) hg
 refine ⟨Sc.box2_setOther (h.b0.below hb (by omega)) (p := ⟨g2, 2, none⟩) (by show g2 ≠ w.heap.size; omega) _, (h.b1.below hb (by omega)).setOther (p := ⟨g2, 2, none⟩) (by show g2 ≠ g1; omega) _, (h.b2.below hb (by omega)).set2 _, ownsRow_setCell_below (own_else h.r1 h.r2 (by decide) hg) (a := ⟨g2, 2, none⟩) (Nat.lt_succ_self _) _, ⟨fun x hx => ownsRow_setCell_below (hF.own x hx) (a := ⟨g2, 2, none⟩) (Nat.lt_succ_self _) _, hF.nd⟩, ownsRow_setCell_below hown (a := ⟨g2, 2, none⟩) (Nat.lt_succ_self _) _, h.ol, ?_, ?_⟩
 ·exact (h.b.trans (hb.mono (by omega))).setCell (p := ⟨g2, 2, none⟩) (by show w.heap.size ≤ g2; omega) _
 ·have := hb.size
  show g2 < (y3.setCell _ _).heap.size
  rw [World.size_setCell]
  omega
/-- All groups copied and printed: a tile. -/
theorem Ld.done {n : Nat} {cs : List C} {X : Nat → Prop} {f : Nat → Bool} {M : List (List V)} (h : Ld w g1 g2 mc cp nm A m l (minis cs ⟨l, f, M⟩) n n os sv tv W) (hm : m = (liveN f : Int)) (hn : l.length = n) (hX : ∀ b, g2 + 1 ≤ b → X b) (ht : Tab w) (hx0 : X 1) (hT : Tile cs ⟨l, f, M⟩) :
  ∃ A1 c1 A2 c2, sv = .slice A1 n c1 ∧ tv = .slice A2 n c2 ∧ HasT cs W X ⟨A1, n, c1, liveN f, A2, c2⟩ ⟨l, f, M⟩ := by
 have hol : os.map Li.OG.l = l := by rw [h.ol, List.take_of_length_le (by omega)]
 have hmn : (minis cs ⟨l, f, M⟩).length = n := by unfold minis; rw [List.length_map]; exact hn
 have hc : Li.cellsL Sp.cellsG (os.map fun x => (⟨some ⟨x.b, 0, none⟩, x.cp, x.l⟩ : Sp.G)) = os.map Li.OG.v := by
  unfold Li.cellsL Sp.cellsG
  rw [List.flatMap_map, List.map_eq_flatMap]
  rfl
 have hr1 := h.r1
 rw [← hc] at hr1
 obtain ⟨A1, c1, e1, hc1, hl1⟩ := Li.list_of_own Sp.cellsG_len hr1 (by rw [List.length_map, ← hn, ← hol, List.length_map])
 have hr2 := h.r2
 rw [List.take_of_length_le (by omega)] at hr2
 obtain ⟨A2, c2, e2, hc2, hl2⟩ := Li.list_of_own cellsS_len hr2 hmn
 refine ⟨A1, c1, A2, c2, e1, e2, ⟨sp_of (lo := g2 + 1) ⟨_, by rw [List.map_map]; exact hol, hl1, fun x hx => ?_⟩ (fun b hb _ => hX b hb), hl2.lower (Nat.zero_le _), on_of hl2 (fun b hb _ => hX b hb), hn, hc1, hc2, rfl, hT, ht.below h.b (Nat.le_refl _), hx0⟩⟩
 obtain ⟨z, hz, rfl⟩ := List.mem_map.1 hx
 obtain ⟨A', c', e', hc', hl'⟩ := Li.list_of_own Sp.cellsI_len (h.fr.own z hz) rfl
 unfold Li.OG.v at e'
 injection e' with e1 e2 e3
 subst e1 e3
 exact ⟨hl', hc'⟩
end
theorem clone_any (A : Option Addr) (c : Nat) (g : List Int) (W : World) (hI : Sp.HasI W 0 A g) (h1 : 1 ≤ g.length) (h8 : g.length ≤ 1000000) :
  Calls Tryd.prog 56 #[.slice A g.length c] W fun e w' => ∃ v', e = .returned v' ∧ w'.ownsRow W.heap.size 3 1 v' g.length (g.map (Value.int .i64)) ∧ v' ≠ .slice none 0 0 ∧ Below W.heap.size W w' := by
 obtain ⟨b3, o3, rfl, _, _, hc3⟩ := hI (fun e => by subst e; exact absurd h1 (by decide))
 have hc := Tryd.slices_Clone_int b3 o3 g.length c g W (Nat.le_refl _) (by omega) (fun j hj => by
  have := hc3 j _ (List.getElem?_eq_getElem hj) 0 _ rfl
  rw [Nat.mul_one, Nat.add_zero] at this
  rw [List.getD_eq_getElem?_getD, List.getElem?_eq_getElem hj]
  exact this)
 rw [List.take_length] at hc
 exact hc

set_option maxRecDepth 20000 in
set_option maxHeartbeats 6400000 in
theorem laid_any {nm : ByteArray} {cs : List C} {A : Option Addr} {mc cp : Nat} {w : World} {X : Nat → Prop} {f : Nat → Bool} {M : List (List V)} {l : List (List Int)} (A2 A3 : Option Addr) (n cp2 c3 lo : Nat) (ht : Tab w) (hx0 : X 1) (hX : ∀ b, w.heap.size ≤ b → X b) (hS : HasSch w A mc cp nm cs) (hl : HasLL w 0 A2 l) (hn : l.length = n) (hM : HasVV w lo A3 M) (hT : Tile cs ⟨l, f, M⟩) :
  Calls Tryd.prog 38 #[.agg #[.string nm, .slice A mc cp], .slice A2 n cp2, .int .i64 (liveN f : Int), .slice A3 8 c3] w (TilePost cs X ⟨l, f, M⟩ w) := by
 obtain ⟨i0, hi, hz0, hz1, hz2⟩ := info_parts infoG
 obtain ⟨iS, hiS, hs0, hs1, hs2⟩ := info_parts infoStr
 have hP := fun (t : TV) (W : World) (h1 : HasT cs W X t ⟨l, f, M⟩) (h2 : Below w.heap.size w W) => (show TilePost cs X ⟨l, f, M⟩ w (.returned t.v) W from ⟨t, rfl, h1, h2⟩)
 generalize TilePost cs X ⟨l, f, M⟩ w = post at hP ⊢
 have HP := Lib.hid hP
 clear hP
 have hn8 : n ≤ 8 := by have h1 : l.length ≤ cs.length := hT.s.few; have h2 := hT.s.n8; omega
 have hM8 : M.length = 8 := hT.m.len
 obtain ⟨tx, htx⟩ : ∃ tx, minis cs ⟨l, f, M⟩ = tx := ⟨_, rfl⟩
 have HTXX : Hid (∀ (q : Nat) (gg : List Int), l[q]? = some gg → tx[q]? = some (printM (kindsL cs gg) (gcells gg M))) := Lib.hid (fun q gg h => by
  rw [← htx]
  unfold minis
  rw [List.getElem?_map, h]
  rfl)
 have HDN := Lib.hid (fun (W : World) (g1 g2 : Nat) (os : List (Li.OG Int)) (sv tv : Value) (hg : w.heap.size < g1 ∧ g1 < g2) (h : Ld w g1 g2 mc cp nm A (liveN f : Int) l tx n n os sv tv W) => Ld.done (X := fun b => X b ∧ b ≠ g1) (f := f) (M := M) (cs := cs) (htx ▸ h) rfl hn (fun b hb => ⟨hX b (by omega), by omega⟩) ht ⟨hx0, by have := ht.2; omega⟩ hT)
 have hcG := fun (W : World) (gg : List Int) (Ag : Option Addr) (gc : Nat) (hgm : gg ∈ l) (hI : Ro.HasI W 0 Ag gg) (hb : Below w.heap.size w W) => groupCells_any (n := cs.length) A3 Ag c3 gc M gg lo 0 W (hM.below hb (Nat.le_refl _)) hI (by omega) (by have := hT.s.n8; omega) (fun r hr => by rw [hT.m.row r hr, allK_len]) (p_grp hS.r hT.s hgm).at' (p_grp hS.r hT.s hgm).g1 (by have := (p_grp hS.r hT.s hgm).g8; omega)
 have hcP := fun (W : World) (gg : List Int) (Ag A5 : Option Addr) (gc c5 lo5 : Nat) (hgm : gg ∈ l) (hI : Ro.HasI W 0 Ag gg) (hb : Below w.heap.size w W) (hV : HasVV W lo5 A5 (gcells gg M)) => print_any nm A Ag A5 cp gc c5 cs gg (gcells gg M) 0 0 lo5 W (hS.below hb (Nat.le_refl _)).c hI hV (p_grp hS.r hT.s hgm) (gcells_right hT.m (p_grp hS.r hT.s hgm).at')
 have HCG := Lib.hid hcG
 have HCP := Lib.hid hcP
 have HM8 := Lib.hid hM8
 have HGS := Lib.hid (And.intro hS.n (And.intro (fun gg (h : gg ∈ l) => p_grp hS.r hT.s h) hn))
 have HL := Lib.hid hl
 clear hcG hcP htx hX ht hx0 hS hl hM hT hM8 hn
 rw [HGS.out.1] at HCP
 rw [HM8.out] at HCG
 have hb1 := (Below.refl w.heap.size w).alloc (Nat.le_refl _) (.cells #[.string nm, .slice A mc cp] 24)
 have hx0 := Box2.new w (.string nm) (.slice A mc cp) 24
 have hz1' : w.heap.size < (w.alloc (.cells #[.string nm, .slice A mc cp] 24)).heap.size := by simp
 generalize hw1 : w.alloc (.cells #[.string nm, .slice A mc cp] 24) = w1 at hb1 hx0 hz1'
 have hb2 := hb1.alloc hb1.size (.cells #[.slice none 0 0, .int .i64 0, .slice none 0 0] 32)
 have hx1 := Sc.Box3.new w1 (.slice none 0 0) (.int .i64 0) (.slice none 0 0) 32
 have hx0 := hx0.alloc (.cells #[.slice none 0 0, .int .i64 0, .slice none 0 0] 32)
 have hz2' : w1.heap.size < (w1.alloc (.cells #[.slice none 0 0, .int .i64 0, .slice none 0 0] 32)).heap.size := by simp
 generalize hw2 : w1.alloc (.cells #[.slice none 0 0, .int .i64 0, .slice none 0 0] 32) = w2 at hb2 hx0 hx1 hz2'
 have hb3 := hb2.alloc hb2.size (.cells #[.slice none 0 0, .int .i64 0, .slice none 0 0] 32)
 have hx2 := Sc.Box3.new w2 (.slice none 0 0) (.int .i64 0) (.slice none 0 0) 32
 have hx0 := hx0.alloc (.cells #[.slice none 0 0, .int .i64 0, .slice none 0 0] 32)
 have hx1 := hx1.alloc (.cells #[.slice none 0 0, .int .i64 0, .slice none 0 0] 32)
 have hz3' : w2.heap.size < (w2.alloc (.cells #[.slice none 0 0, .int .i64 0, .slice none 0 0] 32)).heap.size := by simp
 generalize hw3 : w2.alloc (.cells #[.slice none 0 0, .int .i64 0, .slice none 0 0] 32) = w3 at hb3 hx0 hx1 hx2 hz3'
 have hD0 : Ld w w1.heap.size w2.heap.size mc cp nm A (liveN f : Int) l tx 0 0 [] (.slice none 0 0) (.slice none 0 0) (((w3.setCell ⟨w2.heap.size, 0, none⟩ (.slice none 0 0)).setCell ⟨w2.heap.size, 1, none⟩ (.int .i64 (liveN f : Int))).setCell ⟨w2.heap.size, 2, none⟩ (.slice none 0 0)) := by
  have l2 : w.heap.size ≤ w2.heap.size := by omega
  refine ⟨Sc.box2_setOther (Sc.box2_setOther (Sc.box2_setOther hx0 (p := ⟨w2.heap.size, 0, none⟩) (by show w2.heap.size ≠ w.heap.size; omega) _) (p := ⟨w2.heap.size, 1, none⟩) (by show w2.heap.size ≠ w.heap.size; omega) _) (p := ⟨w2.heap.size, 2, none⟩) (by show w2.heap.size ≠ w.heap.size; omega) _, ((hx1.setOther (p := ⟨w2.heap.size, 0, none⟩) (by show w2.heap.size ≠ w1.heap.size; omega) _).setOther (p := ⟨w2.heap.size, 1, none⟩) (by show w2.heap.size ≠ w1.heap.size; omega) _).setOther (p := ⟨w2.heap.size, 2, none⟩) (by show w2.heap.size ≠ w1.heap.size; omega) _, ((hx2.set0 _).set1 _).set2 _, World.ownsRow_nil _ _ _ _, Li.FreeG.nil _ _ _ _ _, World.ownsRow_nil _ _ _ _, rfl, ((hb3.setCell (p := ⟨w2.heap.size, 0, none⟩) l2 _).setCell (p := ⟨w2.heap.size, 1, none⟩) l2 _).setCell (p := ⟨w2.heap.size, 2, none⟩) l2 _, by simpa using hz3'⟩
 have hg12 : w.heap.size < w1.heap.size ∧ w1.heap.size < w2.heap.size := ⟨hz1', hz2'⟩
 have HG12 := Lib.hid hg12
 have d0 := hx2.c0
 have d1 := hx2.c1
 have d2 := hx2.c2
 have df := hx2.f
 have HD0 := Lib.hid hD0
 obtain ⟨m, hm⟩ : ∃ m : Nat, liveN f = m := ⟨_, rfl⟩
 rw [hm] at HD0 HDN ⊢
 clear hb1 hb2 hb3 hx0 hx1 hx2 hD0 hz1' hz2' hz3' hm hg12
 go_enter Tryd.func38, Tryd.ntmps38
 go_wp2
 clear d0 d1 d2 df hw1 hw2 hw3
 have hD0 := HD0.out
 clear HD0
 generalize ((w3.setCell ⟨w2.heap.size, 0, none⟩ (.slice none 0 0)).setCell ⟨w2.heap.size, 1, none⟩ (.int .i64 (m : Int))).setCell ⟨w2.heap.size, 2, none⟩ (.slice none 0 0) = wa at hD0 ⊢
 go_loopw [16] (fun i wr => ∃ (q : Nat) (os : List (Li.OG Int)) (sv tv : Value), q ≤ n ∧ i = .int .i64 q ∧ Ld w w1.heap.size w2.heap.size mc cp nm A (m : Int) l tx q q os sv tv wr) (fun i _ => n - (intOf i).toNat)
 case atStart => exact ⟨0, [], _, _, Nat.zero_le _, rfl, hD0⟩
 case round =>
  clear hD0
  obtain ⟨q, os, sv, tv, hq, rfl, hD⟩ := hrel
  by_cases hlt : q < n
  ·have hgl : l[q]? = some (l[q]'(by rw [HGS.out.2.2]; exact hlt)) := List.getElem?_eq_getElem _
   generalize (l[q]'(by rw [HGS.out.2.2]; exact hlt)) = gg at hgl
   have hgm := List.mem_of_getElem? hgl
   have hG := HGS.out.2.1 gg hgm
   have HTX := Lib.hid (HTXX.out q gg hgl)
   obtain ⟨b1, o1, Ag, gc, rfl, _, _, f1, hI, _⟩ := (HL.out.below hD.b (Nat.le_refl _)).at hgl
   have hcG := fun (W : World) (hI : Ro.HasI W 0 Ag gg) (hb : Below w.heap.size w W) => HCG.out W gg Ag gc hgm hI hb
   have hcP := fun (W : World) (A5 : Option Addr) (c5 lo5 : Nat) (hI : Ro.HasI W 0 Ag gg) (hb : Below w.heap.size w W) (hV : HasVV W lo5 A5 (gcells gg M)) => HCP.out W gg Ag A5 gc c5 lo5 hgm hI hb hV
   have hIw : Sp.HasI w 0 Ag gg := by
    obtain ⟨_, _, Ag', gc', e', _, _, f1', hI', _⟩ := HL.out.at hgl
    injection e' with e'
    injection e' with e1 e2 _
    subst e1 e2
    have h2 := Ro.cell_below hD.b f1'
    rw [f1] at h2
    injection h2 with h2
    injection h2 with e1 _ _
    rw [e1]
    exact hI'
   have hcC := fun (W : World) (hI : Sp.HasI W 0 Ag gg) => clone_any Ag gc gg W hI hG.g1 (by have := hG.g8; omega)
   obtain ⟨p, hp⟩ : ∃ p, gg.length = p := ⟨_, rfl⟩
   have hp1 : 0 < p := by have := hG.g1; omega
   rw [hp] at f1 hcG hcP hcC
   have hcG := fun (W : World) (hb : Below w.heap.size w W) => hcG W (hIw.below hb (Nat.le_refl _)) hb
   have hcP := fun (W : World) (A5 : Option Addr) (c5 lo5 : Nat) (hb : Below w.heap.size w W) (hV : HasVV W lo5 A5 (gcells gg M)) => hcP W A5 c5 lo5 (hIw.below hb (Nat.le_refl _)) hb hV
   generalize printM (kindsL cs gg) (gcells gg M) = tz at HTX hcP
   have HCG2 := Lib.hid hcG
   have HCP2 := Lib.hid hcP
   have i1 : (q : Int) < (n : Int) := by omega
   have i0' : (0 : Int) ≤ (q : Int) := by omega
   clear hcG hcP hIw hG hgm
   go_wp2
   clear f1 i1 i0'
   have hg12 := HG12.out
   refine Lex.region_last (ops := laraw) (ops1 := laops) (calls := lacalls) 7 _ laord (fun W => W.cell? ⟨w2.heap.size, 0, none⟩ = some sv) (by kernel_rfl) laeq lalast rfl rfl (by kernel_rfl) (by kernel_rfl) (by kernel_rfl) (by kernel_rfl) lasel (by kernel_rfl) (by kernel_rfl) lalex (hD.b2.c0) ?_
   unfold laord
   have hI := hI.below (Below.refl wr.heap.size wr).drew (Nat.le_refl _)
   have hD := hD.below (Below.refl wr.heap.size wr).drew
   generalize wr.drew = wd at hD hI ⊢
   have HZR : Hid (w2.heap.size < wd.heap.size) := Lib.hid hD.z
   have HFR := Lib.hid hD.fr
   refine Lex.step_take (.pointer (some ⟨w2.heap.size, 0, none⟩)) la0 rfl (Lex.want_none rfl) (by intro Wx hSw; (try dsimp only at hSw); go_simp; (try (first | (with_reducible rfl) | assumption | rfl))) ?_
   simp only [Act.put, List.setIfInBounds_toArray, List.set_cons_zero, List.set_cons_succ]
   refine Lex.step_take (sv) la1 rfl (Lex.want_none rfl) (by intro Wx hSw; (try dsimp only at hSw); go_simp; (try (first | (with_reducible rfl) | assumption | rfl))) ?_
   simp only [Act.put, List.setIfInBounds_toArray, List.set_cons_zero, List.set_cons_succ]
   refine Lex.step_take (.slice Ag p gc) la2 rfl (Lex.want_none rfl) (by intro Wx hSw; (try dsimp only at hSw); go_simp; (try (first | (with_reducible rfl) | assumption | rfl))) ?_
   simp only [Act.put, List.setIfInBounds_toArray, List.set_cons_zero, List.set_cons_succ]
   refine Lex.step_call la3 rfl (Lex.want_none rfl) (fun K hK => ?_)
   go_simp
   refine (hcC _ hI).mono ?_
   rintro e y1 ⟨v', rfl, hownc, _, hy1⟩
   obtain ⟨cb, cc, rfl, hcb, hcl⟩ := hownc.form hp1
   have hD := hD.below hy1
   clear hcC hI
   refine hK.out _ _ _ (fun _ h => h) hD.b2.c0 ?_
   clear hK K
   try simp only [Act.put, List.setIfInBounds_toArray, List.set_cons_zero, List.set_cons_succ]
   refine Lex.step_call la4 rfl (Lex.want_none rfl) (fun K hK => ?_)
   go_simp
   have hal := (Below.refl y1.heap.size y1).alloc (Nat.le_refl _) (.cells #[.slice (some ⟨cb, 0, none⟩) p cc] 67)
   have hD := hD.below hal
   have hownc := Li.own_below hownc hal (Nat.le_refl _)
   have hnews := heap_alloc_new y1 (.cells #[.slice (some ⟨cb, 0, none⟩) p cc] 67)
   have hsz := Nat.succ_le_of_lt hD.z
   refine hK.out _ _ _ (fun _ h => h) hD.b2.c0 ?_
   clear hK K
   try simp only [Act.put, List.setIfInBounds_toArray, List.set_cons_zero, List.set_cons_succ]
   refine Lex.step_call la5 rfl (Lex.want_none rfl) (fun K hK => ?_)
   refine wp_append_lies _ (.tmp 21) (.tmp 24) 28 (by rfl) (w2.heap.size + 1) 67 i0 _ 1 24 Tryd.underlying28 hi hz0 hz1 hz2 rfl (by omega) sv q (os.map Li.OG.v) (by rfl) hD.r1 ⟨y1.heap.size, 0, none⟩ 1 1 [.slice (some ⟨cb, 0, none⟩) p cc] (by rfl) (by rfl) (World.news_of_block hnews) (by simp [Value.oneCell']) (by omega) (by unfold maxLen; omega) (by omega) hsz _ rfl ?_
   intro g5 cap5 y3 hown5 hgrow5 _ hlt5
   have hDD := hD.group hg12 hown5 hgrow5 (Li.own_base hownc HZR.out) hp hgl (fun z hz => by have := (HFR.out.lt hz).2; omega)
   have hb5 := (Below.refl (w2.heap.size + 1) _).grown hgrow5 hsz (fun k hk => (hD.r1.lt k hk).1)
   have hx2 := hD.b2.below hb5 (Nat.lt_succ_self _)
   clear hD hgrow5 hown5 hownc hnews hb5
   refine hK.out _ _ _ (fun _ h => h) hx2.c0 ?_
   clear hK K
   try simp only [Act.put, List.setIfInBounds_toArray, List.set_cons_zero, List.set_cons_succ]
   refine Lex.step_take (.pointer (some ⟨w2.heap.size, 0, none⟩)) la6 rfl (Lex.want_none rfl) (by intro Wx hSw; (try dsimp only at hSw); go_simp; (try (first | (with_reducible rfl) | assumption | rfl))) ?_
   simp only [Act.put, List.setIfInBounds_toArray, List.set_cons_zero, List.set_cons_succ]
   refine Lex.step_take (.bool true) la7 rfl (Lex.want_none rfl) (by intro Wx hSw; (try dsimp only at hSw); go_simp; (try (first | (with_reducible rfl) | assumption | rfl))) ?_
   simp only [Act.put, List.setIfInBounds_toArray, List.set_cons_zero, List.set_cons_succ]
   have k0 := hx2.c0
   have kf := hx2.f 0
   refine Lex.last_op lalast rfl (fun K hK => ?_)
   go_simp
   refine hK.out _ _ ?_
   clear hK K k0 kf hx2 HZR HFR
   generalize y3.setCell ⟨w2.heap.size, 0, none⟩ (.slice (some ⟨g5, 0, none⟩) (q + 1) cap5) = wq at hDD ⊢
   have hD := hDD
   clear hDD
   have hcG := HCG2.out
   have hcP := HCP2.out
   clear hg12
   go_wp2
   have hg12 := HG12.out
   refine Lex.region_last (ops := lbraw) (ops1 := lbops) (calls := lbcalls) 11 _ lbord (fun W => W.cell? ⟨w.heap.size, 0, none⟩ = some (.string nm) ∧ W.cell? ⟨w.heap.size, 1, none⟩ = some (.slice A mc cp) ∧ W.cell? ⟨w2.heap.size, 2, none⟩ = some tv) (by kernel_rfl) lbeq lblast rfl rfl (by kernel_rfl) (by kernel_rfl) (by kernel_rfl) (by kernel_rfl) lbsel (by kernel_rfl) (by kernel_rfl) lblex (⟨hD.b0.c0, hD.b0.c1, hD.b2.c2⟩) ?_
   unfold lbord
   have hD := hD.below (Below.refl wq.heap.size wq).drew
   generalize wq.drew = wd at hD ⊢
   refine Lex.step_take (.pointer (some ⟨w2.heap.size, 2, none⟩)) lb0 rfl (Lex.want_none rfl) (by intro Wx hSw; (try dsimp only at hSw); go_simp; (try (first | (with_reducible rfl) | assumption | rfl))) ?_
   simp only [Act.put, List.setIfInBounds_toArray, List.set_cons_zero, List.set_cons_succ]
   refine Lex.step_take (tv) lb1 rfl (Lex.want_none rfl) (by intro Wx hSw; (try dsimp only at hSw); go_simp; (try (first | (with_reducible rfl) | assumption | rfl))) ?_
   simp only [Act.put, List.setIfInBounds_toArray, List.set_cons_zero, List.set_cons_succ]
   refine Lex.step_take (.agg #[.string nm, .slice A mc cp]) lb2 rfl (Lex.want_none rfl) (by intro Wx hSw; (try dsimp only at hSw); go_simp; (try (first | (with_reducible rfl) | assumption | rfl))) ?_
   simp only [Act.put, List.setIfInBounds_toArray, List.set_cons_zero, List.set_cons_succ]
   refine Lex.step_take (.slice Ag p gc) lb3 rfl (Lex.want_none rfl) (by intro Wx hSw; (try dsimp only at hSw); go_simp; (try (first | (with_reducible rfl) | assumption | rfl))) ?_
   simp only [Act.put, List.setIfInBounds_toArray, List.set_cons_zero, List.set_cons_succ]
   refine Lex.step_take (.slice A3 8 c3) lb4 rfl (Lex.want_none rfl) (by intro Wx hSw; (try dsimp only at hSw); go_simp; (try (first | (with_reducible rfl) | assumption | rfl))) ?_
   simp only [Act.put, List.setIfInBounds_toArray, List.set_cons_zero, List.set_cons_succ]
   refine Lex.step_take (.slice Ag p gc) lb5 rfl (Lex.want_none rfl) (by intro Wx hSw; (try dsimp only at hSw); go_simp; (try (first | (with_reducible rfl) | assumption | rfl))) ?_
   simp only [Act.put, List.setIfInBounds_toArray, List.set_cons_zero, List.set_cons_succ]
   refine Lex.step_call lb6 rfl (Lex.want_none rfl) (fun K hK => ?_)
   go_simp
   refine (hcG _ hD.b).mono ?_
   rintro e y4 ⟨A5, c5, rfl, hVV, hy4⟩
   rw [gcells_len, HM8.out]
   have hD := hD.below hy4
   clear hcG
   refine hK.out _ _ _ (fun _ h => h) ⟨hD.b0.c0, hD.b0.c1, hD.b2.c2⟩ ?_
   clear hK K
   try simp only [Act.put, List.setIfInBounds_toArray, List.set_cons_zero, List.set_cons_succ]
   refine Lex.step_call lb7 rfl (Lex.want_none rfl) (fun K hK => ?_)
   go_simp
   refine (hcP _ A5 c5 _ hD.b hVV).mono ?_
   rintro e y5 ⟨rfl, hy5⟩
   have hD := hD.below hy5
   clear hcP hVV hy5
   refine hK.out _ _ _ (fun _ h => h) ⟨hD.b0.c0, hD.b0.c1, hD.b2.c2⟩ ?_
   clear hK K
   try simp only [Act.put, List.setIfInBounds_toArray, List.set_cons_zero, List.set_cons_succ]
   refine Lex.step_call lb8 rfl (Lex.want_none rfl) (fun K hK => ?_)
   go_simp
   have hal := (Below.refl y5.heap.size y5).alloc (Nat.le_refl _) (.cells #[.string tz] 9)
   have hD := hD.below hal
   have hnews := heap_alloc_new y5 (.cells #[.string tz] 9)
   have hsz := Nat.succ_le_of_lt hD.z
   refine hK.out _ _ _ (fun _ h => h) ⟨hD.b0.c0, hD.b0.c1, hD.b2.c2⟩ ?_
   clear hK K
   try simp only [Act.put, List.setIfInBounds_toArray, List.set_cons_zero, List.set_cons_succ]
   refine Lex.step_call lb9 rfl (Lex.want_none rfl) (fun K hK => ?_)
   refine wp_append_lies _ (.tmp 28) (.tmp 35) 30 (by rfl) (w2.heap.size + 1) 9 iS _ 1 16 Tryd.underlying30 hiS hs0 hs1 hs2 rfl (by omega) tv q (Li.cellsL cellsS (tx.take q)) (by rfl) hD.r2 ⟨y5.heap.size, 0, none⟩ 1 1 [.string tz] (by rfl) (by rfl) (World.news_of_block hnews) (by simp [Value.oneCell']) (by omega) (by unfold maxLen; omega) (by omega) hsz _ rfl ?_
   intro g6 cap6 y6 hown6 hgrow6 _ hlt6
   have hDD := hD.text hg12 hown6 hgrow6 HTX.out
   have hb6 := (Below.refl (w2.heap.size + 1) _).grown hgrow6 hsz (fun k hk => (hD.r2.lt k hk).1)
   have hx2 := hD.b2.below hb6 (Nat.lt_succ_self _)
   have hx0 := hD.b0.below hb6 (by omega)
   clear hD hgrow6 hown6 hnews hb6
   refine hK.out _ _ _ (fun _ h => h) ⟨hx0.c0, hx0.c1, hx2.c2⟩ ?_
   clear hK K
   try simp only [Act.put, List.setIfInBounds_toArray, List.set_cons_zero, List.set_cons_succ]
   refine Lex.step_take (.pointer (some ⟨w2.heap.size, 2, none⟩)) lb10 rfl (Lex.want_none rfl) (by intro Wx hSw; (try dsimp only at hSw); go_simp; (try (first | (with_reducible rfl) | assumption | rfl))) ?_
   simp only [Act.put, List.setIfInBounds_toArray, List.set_cons_zero, List.set_cons_succ]
   refine Lex.step_take (.bool true) lb11 rfl (Lex.want_none rfl) (by intro Wx hSw; (try dsimp only at hSw); go_simp; (try (first | (with_reducible rfl) | assumption | rfl))) ?_
   simp only [Act.put, List.setIfInBounds_toArray, List.set_cons_zero, List.set_cons_succ]
   have k0 := hx2.c2
   have kf := hx2.f 2
   refine Lex.last_op lblast rfl (fun K hK => ?_)
   go_simp
   refine hK.out _ _ ?_
   clear hK K k0 kf hx2 hx0
   generalize y6.setCell ⟨w2.heap.size, 2, none⟩ (.slice (some ⟨g6, 0, none⟩) (q + 1) cap6) = ww at hDD ⊢
   clear hg12
   go_wp2
   go_roundw
   case rel => exact ⟨q + 1, _, _, _, by omega, by go_num, hDD⟩
   case measure => simp [intOf]; omega
  ·obtain rfl : q = n := by omega
   have hg12 := HG12.out
   obtain ⟨B1, c1, B2, c2, rfl, rfl, hT⟩ := HDN.out wr w1.heap.size w2.heap.size os sv tv hg12 hD
   have k0 := hD.b2.c0
   have k1 := hD.b2.c1
   have k2 := hD.b2.c2
   have r0 := hD.b1.c0
   have r1 := hD.b1.c1
   have r2 := hD.b1.c2
   have rf := hD.b1.f
   have HR := Lib.hid (((hD.b1.set0 (.slice B1 q c1)).set1 (.int .i64 (m : Int))).set2 (.slice B2 q c2))
   have HH := Lib.hid (And.intro hT hD)
   clear hT hD hg12
   go_wp2
   obtain ⟨hT, hD⟩ := HH.out
   have hg12 := HG12.out
   refine bodyPost_ret (results_tile1 rfl _ _ w1.heap.size _ _ _ rfl HR.out.c0 HR.out.c1 HR.out.c2) rfl ?_
   have hTT := (hT.bar ((((Bar.refl w1.heap.size wr).setCell 0 (.slice B1 q c1)).setCell 1 (.int .i64 (m : Int))).setCell 2 (.slice B2 q c2)) (fun h => h.2 rfl)).mono (fun b h => h.1)
   have l1 : w.heap.size ≤ w1.heap.size := by omega
   exact HP.out ⟨B1, q, c1, m, B2, c2⟩ _ hTT (((hD.b.setCell (p := ⟨w1.heap.size, 0, none⟩) l1 _).setCell (p := ⟨w1.heap.size, 1, none⟩) l1 _).setCell (p := ⟨w1.heap.size, 2, none⟩) l1 _)
end Go.Proofs.YtpnnkhpokangfaaDoor.Ti

/- The program's rows of a tile, read: walked. -/
namespace Go.Proofs.YtpnnkhpokangfaaDoor.Ti
open Go.RowKit Pac Va Sc Mi Sp Ro Lex

theorem txt_at {w : World} {A : Option Addr} {l : List ByteArray} {q : Nat} {s : ByteArray} (h : HasS w A l) (hq : l[q]? = some s) : ∃ b o, A = some ⟨b, o, none⟩ ∧ b < w.heap.size ∧ w.cell? ⟨b, o + q, none⟩ = some (.string s) := by
 obtain ⟨b, o, hA, _, hlt, hc⟩ := h (fun e => by rw [e] at hq; simp at hq)
 refine ⟨b, o, hA, hlt, ?_⟩
 have := hc q s hq 0 _ rfl
 rwa [Nat.mul_one, Nat.add_zero] at this
def RowsPostB (M : List (List V)) (w : World) (e : Ending) (w' : World) : Prop :=
 ∃ (os : List (Li.OG V)) (Rb : Nat), e = .returned (.tuple #[.slice (some ⟨Rb, 0, none⟩) 8 8, .bool true]) ∧ os.map Li.OG.l = M ∧ Rw w' w.heap.size Rb os ∧ Below w.heap.size w w'
/-- What the walk holds: the boxes, the rows so far; where they are what they shall be. -/
structure Rr (w : World) (g1 mc cp : Nat) (nm : ByteArray) (A : Option Addr) (v0 v1 v2 : Value) (K B Rb : Nat) (M : List (List V)) (D : Nat → Nat → Prop) (os : List (Li.OG V)) (W : World) : Prop where
 b0 : Box2 W w.heap.size (.string nm) (.slice A mc cp)
 b1 : Sc.Box3 W g1 v0 v1 v2
 rw : Rw W B Rb os
 k : ∀ x ∈ os, x.l.length = K
 got : ∀ s c, D s c → ((os.map Li.OG.l)[s]?.getD [])[c]? = (M[s]?.getD [])[c]?
 b : Below w.heap.size w W
section
variable {w W W' : World} {g1 mc cp K B Rb : Nat} {nm : ByteArray} {A : Option Addr} {v0 v1 v2 : Value} {M : List (List V)} {D D' : Nat → Nat → Prop} {os : List (Li.OG V)}
theorem Rr.below (h : Rr w g1 mc cp nm A v0 v1 v2 K B Rb M D os W) (hb : Below W.heap.size W W') : Rr w g1 mc cp nm A v0 v1 v2 K B Rb M D os W' :=
 ⟨h.b0.below hb h.b0.lt, h.b1.below hb h.b1.lt, h.rw.below hb (Nat.le_refl _), h.k, h.got, h.b.trans (hb.mono h.b.size)⟩
theorem Rr.mono (h : Rr w g1 mc cp nm A v0 v1 v2 K B Rb M D os W) (hD : ∀ s c, D' s c → D s c) : Rr w g1 mc cp nm A v0 v1 v2 K B Rb M D' os W :=
 ⟨h.b0, h.b1, h.rw, h.k, fun s c hd => h.got s c (hD s c hd), h.b⟩
theorem Rr.put {s c xb xc : Nat} {xl y : List V} {v : V} (h : Rr w g1 mc cp nm A v0 v1 v2 K B Rb M D os W) (h1 : w.heap.size < g1) (hg : g1 < B) (hs : os[s]? = some ⟨xb, xc, xl⟩) (hy : M[s]? = some y) (hv : y[c]? = some v) (hc : c < xl.length) :
  Rr w g1 mc cp nm A v0 v1 v2 K B Rb M (fun s' c' => D s' c' ∨ (s' = s ∧ c' = c)) (os.set s ⟨xb, xc, xl.set c v⟩) (Mi.putV W xb c v) := by
 have hx := h.rw.free.lt (List.mem_of_getElem? hs)
 have hxb : B ≤ xb := hx.1
 have hsl := (List.getElem?_eq_some_iff.1 hs).1
 refine ⟨Sc.box2_setOther (Sc.box2_setOther (Sc.box2_setOther h.b0 (p := ⟨xb, c * 3, none⟩) (by show xb ≠ w.heap.size; omega) _) (p := ⟨xb, c * 3 + 1, none⟩) (by show xb ≠ w.heap.size; omega) _) (p := ⟨xb, c * 3 + 2, none⟩) (by show xb ≠ w.heap.size; omega) _, ((h.b1.setOther (p := ⟨xb, c * 3, none⟩) (by show xb ≠ g1; omega) _).setOther (p := ⟨xb, c * 3 + 1, none⟩) (by show xb ≠ g1; omega) _).setOther (p := ⟨xb, c * 3 + 2, none⟩) (by show xb ≠ g1; omega) _, ⟨Mi.putV_row (x := ⟨xb, xc, xl⟩) h.rw.free hs h.rw.row, Mi.putV_free (x := ⟨xb, xc, xl⟩) h.rw.free hs hc⟩, fun x hx => ?_, fun s' c' hd => ?_, Mi.putV_below (x := ⟨xb, xc, xl⟩) h.rw.free hs h.b (by omega)⟩
 ·rcases List.mem_or_eq_of_mem_set hx with hx | rfl
  ·exact h.k x hx
  ·show (xl.set c v).length = K
   rw [List.length_set]
   exact h.k _ (List.mem_of_getElem? hs)
 ·rw [List.map_set]
  show (((os.map Li.OG.l).set s (xl.set c v))[s']?.getD [])[c']? = _
  by_cases e : s' = s
  ·subst e
   rw [List.getElem?_set_self (by rw [List.length_map]; exact hsl), hy]
   show (xl.set c v)[c']? = y[c']?
   by_cases e2 : c' = c
   ·subst e2
    rw [List.getElem?_set_self hc, hv]
   ·rw [List.getElem?_set_ne (Ne.symm e2)]
    rcases hd with hd | hd
    ·have := h.got s' c' hd
     rw [List.getElem?_map, hs, hy] at this
     exact this
    ·exact absurd hd.2 e2
  ·rw [List.getElem?_set_ne (Ne.symm e)]
   rcases hd with hd | hd
   ·exact h.got s' c' hd
   ·exact absurd hd.1 e
theorem Rr.all {l : List (List Int)} (h : Rr w g1 mc cp nm A v0 v1 v2 K B Rb M (fun s c => s < 8 ∧ ∃ g ∈ l, (c : Int) ∈ g) os W) (hl : os.length = 8) (hs : IsSplit l K) (hM : M.length = 8) (hr : ∀ y ∈ M, y.length = K) : os.map Li.OG.l = M := by
 apply List.ext_getElem?
 intro s
 by_cases h8 : s < 8
 ·have hx : os[s]? = some (os[s]'(by omega)) := List.getElem?_eq_getElem _
  have hy : M[s]? = some (M[s]'(by omega)) := List.getElem?_eq_getElem _
  generalize (os[s]'(by omega)) = x at hx
  generalize (M[s]'(by omega)) = y at hy
  rw [List.getElem?_map, hx, hy]
  show some x.l = some y
  congr 1
  have kx := h.k x (List.mem_of_getElem? hx)
  have ky := hr y (List.mem_of_getElem? hy)
  apply List.ext_getElem?
  intro c
  by_cases hc : c < K
  ·have hm : ((c : Nat) : Int) ∈ l.flatten := hs.all (by omega) (by omega)
   obtain ⟨g, hg, hcg⟩ := List.mem_flatten.1 hm
   have := h.got s c ⟨h8, g, hg, hcg⟩
   rw [List.getElem?_map, hx, hy] at this
   exact this
  ·rw [List.getElem?_eq_none (by omega), List.getElem?_eq_none (by omega)]
 ·rw [List.getElem?_eq_none (by rw [List.length_map]; omega), List.getElem?_eq_none (by omega)]
end
theorem step_in {gg : List Int} {t cn : Nat} (h : gg[t]? = some (cn : Int)) {D : Nat → Nat → Prop} {s : Nat} : ∀ s' c', (D s' c' ∨ (s' = s ∧ (c' : Int) ∈ gg.take (t + 1))) → ((D s' c' ∨ (s' = s ∧ (c' : Int) ∈ gg.take t)) ∨ (s' = s ∧ c' = cn)) := fun s' c' hd => by
 rcases hd with hd | ⟨e, hd⟩
 ·exact Or.inl (Or.inl hd)
 ·rw [List.take_add_one, h] at hd
  rcases List.mem_append.1 hd with hd | hd
  ·exact Or.inl (Or.inr ⟨e, hd⟩)
  ·have hd : (c' : Int) = (cn : Int) := by simpa using hd
   exact Or.inr ⟨e, by omega⟩

set_option maxRecDepth 20000 in
set_option maxHeartbeats 6400000 in
theorem readRows_any {nm : ByteArray} {cs : List C} {A : Option Addr} {mc cp : Nat} {w : World} {X : Nat → Prop} {t : TV} {r : R} (hS : HasSch w A mc cp nm cs) (hT : HasT cs w X t r) :
  Calls Tryd.prog 47 #[.agg #[.string nm, .slice A mc cp], t.v] w (RowsPostB r.M w) := by
 obtain ⟨l, f, M⟩ := r
 obtain ⟨At, n, c0, m, Bt, d⟩ := t
 unfold TV.v
 simp only
 have hP := fun (W : World) (os : List (Li.OG V)) (Rb : Nat) (e : os.map Li.OG.l = M) (h1 : Rw W w.heap.size Rb os) (h2 : Below w.heap.size w W) => (show RowsPostB M w (.returned (.tuple #[.slice (some ⟨Rb, 0, none⟩) 8 8, .bool true])) W from ⟨os, Rb, rfl, e, h1, h2⟩)
 generalize RowsPostB M w = post at hP ⊢
 have HP := Lib.hid hP
 clear hP
 have hs : IsSplit l cs.length := hT.ok.s
 have hrm : RightM (allK cs) M := hT.ok.m
 have hn : l.length = n := hT.n
 have hn8 : n ≤ 8 := hT.few
 have hM8 : M.length = 8 := hT.ok.m.len
 have hMr : ∀ y ∈ M, y.length = cs.length := fun y hy => hT.ok.m.row y hy |>.trans (allK_len cs)
 have hmi : HasS w Bt (minis cs ⟨l, f, M⟩) := hT.mi
 have hll : HasLL w 0 At l := hT.sp.ll
 have hcs8 : cs.length ≤ 8 := hs.n8
 have hcR := fun (W : World) (gg : List Int) (Ag : Option Addr) (gc : Nat) (hgm : gg ∈ l) (hI : Ro.HasI W 0 Ag gg) (hb : Below w.heap.size w W) => read_any nm A Ag cp gc cs gg (printM (kindsL cs gg) (gcells gg M)) 0 0 W (hS.below hb (Nat.le_refl _)).c hI (p_grp hS.r hs hgm) (by have := (printM_le (gcells_right hrm (p_grp hS.r hs hgm).at') (by rw [kinds_len]; exact (p_grp hS.r hs hgm).g8)).2; omega)
 have hRD : ∀ gg ∈ l, readM (kindsL cs gg) (printM (kindsL cs gg) (gcells gg M)) = some (gcells gg M) := fun gg hgm => read_print (gcells_right hrm (p_grp hS.r hs hgm).at')
 have hcX := fun (W : World) (hb : Below w.heap.size w W) => right_any At c0 l (mc : Int) 0 W (hll.below hb (Nat.le_refl _)) (by omega) (fun g hg => by have := (p_grp hS.r hs hg).g8; omega) (by omega) (by have := hS.n; omega)
 have hrt : rightSp l (mc : Int) = true := by rw [← hS.n]; exact rightSp_nat.1 hs
 rw [hrt, hn] at hcX
 have hce := fun W : World => emptyRows_any nm A mc cp W (by have := hS.n; omega)
 have HCR := Lib.hid hcR
 rw [hS.n] at HCR hs hMr hcs8
 have HM := Lib.hid (And.intro hM8 (And.intro hMr (And.intro hs (And.intro hRD hn))))
 have HGG := Lib.hid (fun gg (h : gg ∈ l) => (p_grp hS.r (hS.n.symm ▸ hs) h))
 have HML := Lib.hid (And.intro hmi hll)
 have hMS := hS.n
 clear hrm hcR hT hS hs hM8 hMr hmi hll hRD hrt hn
 have hb1 := (Below.refl w.heap.size w).alloc (Nat.le_refl _) (.cells #[.string nm, .slice A mc cp] 24)
 have hx0 := Box2.new w (.string nm) (.slice A mc cp) 24
 have hz1' : w.heap.size < (w.alloc (.cells #[.string nm, .slice A mc cp] 24)).heap.size := by simp
 generalize hw1 : w.alloc (.cells #[.string nm, .slice A mc cp] 24) = w1 at hb1 hx0 hz1'
 have hb2 := hb1.alloc hb1.size (.cells #[.slice At n c0, .int .i64 m, .slice Bt n d] 32)
 have hx1 := Sc.Box3.new w1 (.slice At n c0) (.int .i64 m) (.slice Bt n d) 32
 have hx0 := hx0.alloc (.cells #[.slice At n c0, .int .i64 m, .slice Bt n d] 32)
 generalize hw2 : w1.alloc (.cells #[.slice At n c0, .int .i64 m, .slice Bt n d] 32) = w2 at hb2 hx0 hx1
 have a0 := hx0.c0
 have a1 := hx0.c1
 have c0' := hx1.c0
 have c2' := hx1.c2
 have HG1 := Lib.hid hz1'
 have hne : ((n : Int) != (n : Int)) = false := by simp
 clear hb1 hz1'
 go_enter Tryd.func47, Tryd.ntmps47
 go_wp2_with fail
 clear hw1 hw2
 refine (hcX _ hb2).mono ?_
 rintro e w3 ⟨rfl, hy⟩
 have hB := hb2.trans (hy.mono hb2.size)
 have hx0 := hx0.below hy hx0.lt
 have hx1 := hx1.below hy hx1.lt
 clear hcX hy hb2 a0 a1 c0' c2'
 have a0 := hx0.c0
 have a1 := hx0.c1
 have c0' := hx1.c0
 have c2' := hx1.c2
 go_wp2_with fail
 refine (hce _).mono ?_
 rintro e w4 ⟨os, Rb, rfl, hos, hRw, hy⟩
 have hB := hB.trans (hy.mono hB.size)
 have hgB : w1.heap.size < w3.heap.size := hx1.lt
 have hx0 := hx0.below hy hx0.lt
 have hx1 := hx1.below hy hx1.lt
 have hD0 : Rr w w1.heap.size mc cp nm A (.slice At n c0) (.int .i64 m) (.slice Bt n d) mc w3.heap.size Rb M (fun s c => s < 8 ∧ ∃ g ∈ l.take 0, (c : Int) ∈ g) os w4 := ⟨hx0, hx1, hRw, fun x hx => by
  have h1 : x.l ∈ os.map Li.OG.l := List.mem_map_of_mem hx
  rw [hos] at h1
  unfold emptyM at h1
  rw [List.eq_of_mem_replicate h1, List.length_replicate], fun s c hd => by simp at hd, hB⟩
 clear hce hy a0 a1 c0' c2' hx0 hx1 hos hB hRw
 have HGB := Lib.hid hgB
 obtain ⟨B0, hB0⟩ : ∃ B0, w3.heap.size = B0 := ⟨_, rfl⟩
 rw [hB0] at hD0 HGB
 clear hgB hB0
 have c0' := hD0.b1.c0
 go_wp2
 clear c0'
 go_loopw [36] (fun i wr => ∃ (q : Nat) (os : List (Li.OG V)), q ≤ n ∧ i = .int .i64 q ∧ Rr w w1.heap.size mc cp nm A (.slice At n c0) (.int .i64 m) (.slice Bt n d) mc B0 Rb M (fun s c => s < 8 ∧ ∃ g ∈ l.take q, (c : Int) ∈ g) os wr) (fun i _ => n - (intOf i).toNat)
 case atStart => exact ⟨0, os, Nat.zero_le _, rfl, hD0⟩
 case round =>
  clear hD0
  obtain ⟨q, os, hq, rfl, hD⟩ := hrel
  by_cases hlt : q < n
  ·have hgl : l[q]? = some (l[q]'(by rw [HM.out.2.2.2.2]; exact hlt)) := List.getElem?_eq_getElem _
   generalize (l[q]'(by rw [HM.out.2.2.2.2]; exact hlt)) = gg at hgl
   have hgm := List.mem_of_getElem? hgl
   have hG := HGG.out gg hgm
   have HRD := Lib.hid (HM.out.2.2.2.1 gg hgm)
   obtain ⟨b1, o1, Ag, gc, eA, _, _, f1w, hIw, _⟩ := HML.out.2.at hgl
   subst eA
   have hmq : (minis cs ⟨l, f, M⟩)[q]? = some (printM (kindsL cs gg) (gcells gg M)) := by unfold minis; rw [List.getElem?_map, hgl]; rfl
   obtain ⟨bm, om, eB, _, f6w⟩ := txt_at HML.out.1 hmq
   subst eB
   have hcR := fun (W : World) (hb : Below w.heap.size w W) => HCR.out W gg Ag gc hgm (hIw.below hb (Nat.le_refl _)) hb
   generalize printM (kindsL cs gg) (gcells gg M) = tx at HRD hcR f6w
   have F6 := Lib.hid f6w
   have HGL := Lib.hid (And.intro hgl (And.intro hG hIw))
   obtain ⟨p, hp⟩ : ∃ p, gg.length = p := ⟨_, rfl⟩
   have hp8 : p ≤ 8 := by have := hG.g8; omega
   rw [hp] at f1w hcR
   have HPP := Lib.hid hp
   have f1 := Ro.cell_below hD.b f1w
   have i1 : (q : Int) < (n : Int) := by omega
   have i0' : (0 : Int) ≤ (q : Int) := by omega
   clear hgl hgm hG hIw hmq f6w f1w hp
   go_wp2
   clear f1
   refine Lex.region_lex (ops := rrops) (calls := rrcalls) rrord (fun W => W.cell? ⟨w.heap.size, 0, none⟩ = some (.string nm) ∧ W.cell? ⟨w.heap.size, 1, none⟩ = some (.slice A mc cp) ∧ W.cell? ⟨w1.heap.size, 2, none⟩ = some (.slice (some ⟨bm, om, none⟩) n d) ∧ W.cell? ⟨bm, om + q, none⟩ = some (.string tx)) (by kernel_rfl) (by kernel_rfl) rrsel (by kernel_rfl) (by kernel_rfl) rrlex (⟨hD.b0.c0, hD.b0.c1, hD.b1.c2, Ro.cell_below hD.b F6.out⟩) ?_
   unfold rrord
   have hD := hD.below (Below.refl wr.heap.size wr).drew
   generalize wr.drew = wd at hD ⊢
   refine Lex.step_take (.agg #[.string nm, .slice A mc cp]) rr0 rfl (Lex.want_none rfl) (by intro Wx hSw; (try dsimp only at hSw); go_simp; (try (first | (with_reducible rfl) | assumption | rfl))) ?_
   simp only [Act.put, List.setIfInBounds_toArray, List.set_cons_zero, List.set_cons_succ]
   refine Lex.step_take (.slice Ag p gc) rr1 rfl (Lex.want_none rfl) (by intro Wx hSw; (try dsimp only at hSw); go_simp; (try (first | (with_reducible rfl) | assumption | rfl))) ?_
   simp only [Act.put, List.setIfInBounds_toArray, List.set_cons_zero, List.set_cons_succ]
   refine Lex.step_take (.pointer (some ⟨w1.heap.size, 2, none⟩)) rr2 rfl (Lex.want_none rfl) (by intro Wx hSw; (try dsimp only at hSw); go_simp; (try (first | (with_reducible rfl) | assumption | rfl))) ?_
   simp only [Act.put, List.setIfInBounds_toArray, List.set_cons_zero, List.set_cons_succ]
   refine Lex.step_take (.slice (some ⟨bm, om, none⟩) n d) rr3 rfl (Lex.want_none rfl) (by intro Wx hSw; (try dsimp only at hSw); go_simp; (try (first | (with_reducible rfl) | assumption | rfl))) ?_
   simp only [Act.put, List.setIfInBounds_toArray, List.set_cons_zero, List.set_cons_succ]
   refine Lex.step_take (.int .i64 (q : Int)) rr4 rfl (Lex.want_none rfl) (by intro Wx hSw; (try dsimp only at hSw); go_simp; (try (first | (with_reducible rfl) | assumption | rfl))) ?_
   simp only [Act.put, List.setIfInBounds_toArray, List.set_cons_zero, List.set_cons_succ]
   refine Lex.step_take (.pointer (some ⟨bm, om + q, none⟩)) rr5 rfl (Lex.want_none rfl) (by intro Wx hSw; (try dsimp only at hSw); go_simp; (try (first | (with_reducible rfl) | assumption | rfl))) ?_
   simp only [Act.put, List.setIfInBounds_toArray, List.set_cons_zero, List.set_cons_succ]
   refine Lex.step_take (.string tx) rr6 rfl (Lex.want_none rfl) (by intro Wx hSw; (try dsimp only at hSw); go_simp; (try (first | (with_reducible rfl) | assumption | rfl))) ?_
   simp only [Act.put, List.setIfInBounds_toArray, List.set_cons_zero, List.set_cons_succ]
   refine Lex.step_call rr7 rfl (Lex.want_none rfl) (fun K hK => ?_)
   go_simp
   refine (hcR _ hD.b).mono ?_
   rintro e y4 ⟨v3, bb, rfl, hbb, hcells, hy4⟩
   rw [HRD.out] at hbb hcells
   obtain rfl : bb = true := hbb
   obtain ⟨A5, c5, rfl, hVV⟩ := hcells _ rfl
   rw [gcells_len, HM.out.1]
   have hlt5 := fun x hx => (hD.rw.free.lt (x := x) hx).2
   have hD := hD.below hy4
   clear hcR hy4 hcells
   refine hK.out _ _ _ (fun _ h => h) ⟨hD.b0.c0, hD.b0.c1, hD.b1.c2, Ro.cell_below hD.b F6.out⟩ ?_
   clear hK K
   try simp only [Act.put, List.setIfInBounds_toArray, List.set_cons_zero, List.set_cons_succ]
   refine Lex.step_take (.tuple #[.slice A5 8 c5, .bool true]) rr8 rfl (Lex.want_none rfl) (by intro Wx hSw; (try dsimp only at hSw); go_simp; (try (first | (with_reducible rfl) | assumption | rfl))) ?_
   simp only [Act.put, List.setIfInBounds_toArray, List.set_cons_zero, List.set_cons_succ]
   refine Lex.step_take (.slice A5 8 c5) rr9 rfl (Lex.want_none rfl) (by intro Wx hSw; (try dsimp only at hSw); go_simp; (try (first | (with_reducible rfl) | assumption | rfl))) ?_
   simp only [Act.put, List.setIfInBounds_toArray, List.set_cons_zero, List.set_cons_succ]
   refine Lex.step_take (.bool true) rr10 rfl (Lex.want_none rfl) (by intro Wx hSw; (try dsimp only at hSw); go_simp; (try (first | (with_reducible rfl) | assumption | rfl))) ?_
   simp only [Act.put, List.setIfInBounds_toArray, List.set_cons_zero, List.set_cons_succ]
   refine Lex.step_take (.slice A5 8 c5) rr11 rfl (Lex.want_none rfl) (by intro Wx hSw; (try dsimp only at hSw); go_simp; (try (first | (with_reducible rfl) | assumption | rfl))) ?_
   simp only [Act.put, List.setIfInBounds_toArray, List.set_cons_zero, List.set_cons_succ]
   refine Lex.step_take (.bool true) rr12 rfl (Lex.want_none rfl) (by intro Wx hSw; (try dsimp only at hSw); go_simp; (try (first | (with_reducible rfl) | assumption | rfl))) ?_
   simp only [Act.put, List.setIfInBounds_toArray, List.set_cons_zero, List.set_cons_succ]
   have HV := Lib.hid (And.intro hVV hlt5)
   have hD := hD.mono (D' := fun s c => (s < 8 ∧ ∃ g ∈ l.take q, (c : Int) ∈ g) ∨ (s < 0 ∧ (c : Int) ∈ gg)) (fun s c hd => by
    rcases hd with hd | hd
    ·exact hd
    ·omega)
   generalize wd.heap.size = lc at HV
   clear hVV hlt5
   refine NoPanic.normal ?_
   go_wp2
   go_loopw [56] (fun i wr => ∃ (s : Nat) (os : List (Li.OG V)), s ≤ 8 ∧ i = .int .i64 s ∧ Rr w w1.heap.size mc cp nm A (.slice (some ⟨b1, o1, none⟩) n c0) (.int .i64 m) (.slice (some ⟨bm, om, none⟩) n d) mc B0 Rb M (fun s' c => (s' < 8 ∧ ∃ g ∈ l.take q, (c : Int) ∈ g) ∨ (s' < s ∧ (c : Int) ∈ gg)) os wr ∧ Hid (HasVV wr lc A5 (gcells gg M) ∧ ∀ x ∈ os, x.b < lc)) (fun i _ => 8 - (intOf i).toNat)
   case atStart => exact ⟨0, _, Nat.zero_le _, rfl, hD, HV⟩
   case round =>
    clear hD HV
    obtain ⟨s, os, hs8, rfl, hD, HV⟩ := hrel
    by_cases hslt : s < 8
    ·have hy : M[s]? = some (M[s]'(by rw [HM.out.1]; exact hslt)) := List.getElem?_eq_getElem _
     generalize (M[s]'(by rw [HM.out.1]; exact hslt)) = y at hy
     obtain ⟨b5, o5, A6, c6, rfl, _, _, f5, hV6, _⟩ := HV.out.1.at (gcells_at (g := gg) hy)
     rw [List.length_map, HPP.out] at f5
     have HY := Lib.hid hy
     have s1 : (s : Int) < 8 := by omega
     have s0 : (0 : Int) ≤ (s : Int) := by omega
     have HVX : Hid (HasVV wr lc (some ⟨b5, o5, none⟩) (gcells gg M) ∧ HasV wr lc A6 (gg.map (cellAt y)) ∧ ∀ x ∈ os, x.b < lc) := Lib.hid ⟨HV.out.1, hV6, HV.out.2⟩
     have hD := hD.mono (D' := fun s' c => ((s' < 8 ∧ ∃ g ∈ l.take q, (c : Int) ∈ g) ∨ (s' < s ∧ (c : Int) ∈ gg)) ∨ (s' = s ∧ (c : Int) ∈ gg.take 0)) (fun s' c hd => by
      rcases hd with hd | hd
      ·exact hd
      ·have := hd.2
       simp at this)
     clear hy hV6 HV
     go_wp2
     clear f5
     go_loopw [63] (fun i wr => ∃ (t : Nat) (os : List (Li.OG V)), t ≤ p ∧ i = .int .i64 t ∧ Rr w w1.heap.size mc cp nm A (.slice (some ⟨b1, o1, none⟩) n c0) (.int .i64 m) (.slice (some ⟨bm, om, none⟩) n d) mc B0 Rb M (fun s' c => ((s' < 8 ∧ ∃ g ∈ l.take q, (c : Int) ∈ g) ∨ (s' < s ∧ (c : Int) ∈ gg)) ∨ (s' = s ∧ (c : Int) ∈ gg.take t)) os wr ∧ Hid (HasVV wr lc (some ⟨b5, o5, none⟩) (gcells gg M) ∧ HasV wr lc A6 (gg.map (cellAt y)) ∧ ∀ x ∈ os, x.b < lc)) (fun i _ => p - (intOf i).toNat)
     case atStart => exact ⟨0, _, Nat.zero_le _, rfl, hD, HVX⟩
     case round =>
      clear hD HVX
      obtain ⟨t, os, htp, rfl, hD, HV⟩ := hrel
      by_cases htl : t < p
      ·have hgt : gg[t]? = some (gg[t]'(by rw [HPP.out]; exact htl)) := List.getElem?_eq_getElem _
       have hcr := HGL.out.2.1.at' _ (List.mem_of_getElem? hgt)
       generalize (gg[t]'(by rw [HPP.out]; exact htl)) = cc at hgt hcr
       obtain ⟨cn, rfl⟩ : ∃ cn : Nat, cc = (cn : Int) := ⟨cc.toNat, by omega⟩
       have hcn : cn < mc := by omega
       obtain ⟨bg, og, rfl, _, _, f7⟩ := Sp.HasI.at (HGL.out.2.2.below hD.b (Nat.le_refl _)) hgt
       have hyl : y.length = mc := HM.out.2.1 y (List.mem_of_getElem? HY.out)
       have hyv : y[cn]? = some (y[cn]'(by omega)) := List.getElem?_eq_getElem _
       generalize (y[cn]'(by omega)) = v at hyv
       have hpv : (gg.map (cellAt y))[t]? = some v := by rw [List.getElem?_map, hgt]; exact congrArg some (cellAt_of hyv)
       obtain ⟨b6, o6, rfl, _, _, p0, p1, p2⟩ := HV.out.2.1.at hpv
       obtain ⟨vk, vn, vs⟩ := v
       simp only at p0 p1 p2
       have hxo : os[s]? = some (os[s]'(by have := hD.rw.len; omega)) := List.getElem?_eq_getElem _
       generalize (os[s]'(by have := hD.rw.len; omega)) = x at hxo
       obtain ⟨xb, xc, xl⟩ := x
       have hxl : xl.length = mc := hD.k _ (List.mem_of_getElem? hxo)
       have e0 := hD.rw.row.cellAt s (by omega)
       rw [List.getElem?_map, hxo] at e0
       have e1 : wr.cell? ⟨Rb, s, none⟩ = some (.slice (some ⟨xb, 0, none⟩) xl.length xc) := e0
       rw [hxl] at e1
       have hold : xl[cn]? = some (xl[cn]'(by omega)) := List.getElem?_eq_getElem _
       generalize (xl[cn]'(by omega)) = ov at hold
       have hxw := hD.rw.free.own _ (List.mem_of_getElem? hxo)
       have hlen : (Li.cellsL cellsV xl).length = xl.length * 3 := Li.cellsL_len cellsV_len xl
       have ev : ∀ i < 3, ∀ u, (cellsV ov)[i]? = some u → wr.cell? ⟨xb, cn * 3 + i, none⟩ = some u := fun i hi u hu => by
        rw [hxw.cellAt (cn * 3 + i) (by show cn * 3 + i < xl.length * 3; omega)]
        exact Li.cellsL_at cellsV_len xl cn ov hold i u hu
       have x0 := ev 0 (by decide) _ rfl
       have x1 := ev 1 (by decide) _ rfl
       have x2 := ev 2 (by decide) _ rfl
       have xf : ∀ i, wr.frozen? ⟨xb, i, none⟩ = false := fun i => hxw.frozenAt i
       rw [Nat.add_zero] at x0
       have hg1 := HG1.out
       have hgB := HGB.out
       have hD2 := (hD.put hg1 hgB hxo HY.out hyv (by omega)).mono (step_in hgt)
       have hxlc := HV.out.2.2 _ (List.mem_of_getElem? hxo)
       have hbar : Bar xb wr (Mi.putV wr xb cn ⟨vk, vn, vs⟩) := (((Bar.refl xb wr).setCell (cn * 3) _).setCell (cn * 3 + 1) _).setCell (cn * 3 + 2) _
       have HV2 : Hid (HasVV (Mi.putV wr xb cn ⟨vk, vn, vs⟩) lc (some ⟨b5, o5, none⟩) (gcells gg M) ∧ HasV (Mi.putV wr xb cn ⟨vk, vn, vs⟩) lc (some ⟨b6, o6, none⟩) (gg.map (cellAt y)) ∧ ∀ x ∈ os.set s ⟨xb, xc, xl.set cn ⟨vk, vn, vs⟩⟩, x.b < lc) := Lib.hid ⟨HV.out.1.bar hbar (Or.inl hxlc), HV.out.2.1.bar hbar (Or.inl hxlc), fun x hx => by
        rcases List.mem_or_eq_of_mem_set hx with hx | rfl
        ·exact HV.out.2.2 x hx
        ·exact hxlc⟩
       have HD2 := Lib.hid (And.intro hD2 HV2)
       have t1 : (t : Int) < (p : Int) := by omega
       have t0 : (0 : Int) ≤ (t : Int) := by omega
       have k1 : (cn : Int) < (mc : Int) := by omega
       have k0 : (0 : Int) ≤ (cn : Int) := by omega
       clear hgt hcr hyl hyv hpv hxo hxl e0 hold hxw hlen ev hD2 hD HV HV2 hxlc hbar hg1 hgB
       go_wp2_with fail
       go_region
       obtain ⟨hD, HV⟩ := HD2.out
       clear HD2 x0 x1 x2 xf e1 p0 p1 p2 f7
       unfold Mi.putV at hD HV
       simp only at hD HV
       have hD := hD.below (Below.refl _ _).drew
       have HV := Lib.hid (And.intro (HV.out.1.below (Below.refl _ _).drew (Nat.le_refl _)) (And.intro (HV.out.2.1.below (Below.refl _ _).drew (Nat.le_refl _)) HV.out.2.2))
       generalize (((wr.setCell ⟨xb, cn * 3, none⟩ (.int .i64 vk)).setCell ⟨xb, cn * 3 + 1, none⟩ (.int .i64 vn)).setCell ⟨xb, cn * 3 + 2, none⟩ (.string vs)).drew = y5 at hD HV ⊢
       go_wp2
       go_roundw
       case rel => exact ⟨t + 1, _, by omega, by go_num, hD, HV⟩
       case measure => simp [intOf]; omega
      ·obtain rfl : t = p := by omega
       have HD2 := Lib.hid (hD.mono (D' := fun s' c => (s' < 8 ∧ ∃ g ∈ l.take q, (c : Int) ∈ g) ∨ (s' < s + 1 ∧ (c : Int) ∈ gg)) (fun s' c hd => by
        rcases hd with hd | ⟨h1, h2⟩
        ·exact Or.inl (Or.inl hd)
        ·by_cases e : s' = s
         ·exact Or.inr ⟨e, by rw [List.take_of_length_le (by rw [HPP.out]; exact Nat.le_refl _)]; exact h2⟩
         ·exact Or.inl (Or.inr ⟨by omega, h2⟩)))
       clear hD
       go_wp2
       go_roundw
       case rel => exact ⟨s + 1, _, by omega, by go_num, HD2.out, Lib.hid ⟨HV.out.1, HV.out.2.2⟩⟩
       case measure => simp [intOf]; omega
    ·obtain rfl : s = 8 := by omega
     have HD2 := Lib.hid (hD.mono (D' := fun s c => s < 8 ∧ ∃ g ∈ l.take (q + 1), (c : Int) ∈ g) (fun s c hd => by
      obtain ⟨h8, g, hg, hcg⟩ := hd
      rw [List.take_add_one, HGL.out.1] at hg
      rcases List.mem_append.1 hg with hg | hg
      ·exact Or.inl ⟨h8, g, hg, hcg⟩
      ·have hg : g = gg := by simpa using hg
       rw [hg] at hcg
       exact Or.inr ⟨h8, hcg⟩))
     clear hD
     go_wp2
     go_roundw
     case rel => exact ⟨q + 1, _, by omega, by go_num, HD2.out⟩
     case measure => simp [intOf]; omega
  ·obtain rfl : q = n := by omega
   have hl : l.take q = l := List.take_of_length_le (by rw [HM.out.2.2.2.2]; exact Nat.le_refl _)
   rw [hl] at hD
   have HQ := Lib.hid (HP.out wr os Rb (hD.all hD.rw.len HM.out.2.2.1 HM.out.1 HM.out.2.1) (hD.rw.base (by have := HGB.out; have := HG1.out; omega)) hD.b)
   clear hD hl
   go_wp2
   exact HQ.out
end Go.Proofs.YtpnnkhpokangfaaDoor.Ti

/- The program's cell of a tile: walked. -/
namespace Go.Proofs.YtpnnkhpokangfaaDoor.Ti
open Go.RowKit Pac Va Sc Mi Sp Ro Lex

set_option maxRecDepth 20000 in
set_option maxHeartbeats 3200000 in
theorem cell_any {nm : ByteArray} {cs : List C} {A : Option Addr} {mc cp : Nat} {w : World} {X : Nat → Prop} {t : TV} {r : R} (s c : Int) (hS : HasSch w A mc cp nm cs) (hT : HasT cs w X t r) (h0 : -9223372036854775808 ≤ s) (h1 : s ≤ 9223372036854775807) (h2 : -9223372036854775808 ≤ c) (h3 : c ≤ 9223372036854775807) :
  Calls Tryd.prog 18 #[.agg #[.string nm, .slice A mc cp], t.v, .int .i64 s, .int .i64 c] w (CellPost (cellR cs r s c) w) := by
 have hb1 := (Below.refl w.heap.size w).alloc (Nat.le_refl _) (.cells #[.string nm, .slice A mc cp] 24)
 have hx0 := Box2.new w (.string nm) (.slice A mc cp) 24
 have hb2 := hb1.alloc hb1.size (.cells #[.slice t.A t.n t.c, .int .i64 t.m, .slice t.B t.n t.d] 32)
 have hx1 := Sc.Box3.new (w.alloc (.cells #[.string nm, .slice A mc cp] 24)) (.slice t.A t.n t.c) (.int .i64 t.m) (.slice t.B t.n t.d) 32
 have hb3 := hb2.alloc hb2.size (.cells #[.int .i64 0, .int .i64 0, .string ⟨#[]⟩] 37)
 have hx2 := Sc.Box3.new ((w.alloc (.cells #[.string nm, .slice A mc cp] 24)).alloc (.cells #[.slice t.A t.n t.c, .int .i64 t.m, .slice t.B t.n t.d] 32)) (.int .i64 0) (.int .i64 0) (.string ⟨#[]⟩) 37
 have hx0 := (hx0.alloc (.cells #[.slice t.A t.n t.c, .int .i64 t.m, .slice t.B t.n t.d] 32)).alloc (.cells #[.int .i64 0, .int .i64 0, .string ⟨#[]⟩] 37)
 have hx1 := hx1.alloc (.cells #[.int .i64 0, .int .i64 0, .string ⟨#[]⟩] 37)
 rw [show (w.alloc (.cells #[.string nm, .slice A mc cp] 24)).heap.size = w.heap.size + 1 by simp] at hx1
 rw [show ((w.alloc (.cells #[.string nm, .slice A mc cp] 24)).alloc (.cells #[.slice t.A t.n t.c, .int .i64 t.m, .slice t.B t.n t.d] 32)).heap.size = w.heap.size + 1 + 1 by simp] at hx2
 have hS0 := hS.below hb3 (Nat.le_refl _)
 have hT0 := hT.below hb3 (Nat.le_refl _)
 have hP : ∀ (v : V) (W : World), cellR cs r s c = some v → Below w.heap.size w W → CellPost (cellR cs r s c) w (.returned (.tuple #[.agg #[.int .i64 v.k, .int .i64 v.n, .string v.s], .bool true])) W := fun v W h hB => by rw [h]; exact ⟨rfl, hB⟩
 have hN : ∀ (W : World), cellR cs r s c = none → Below w.heap.size w W → CellPost (cellR cs r s c) w (.returned (.tuple #[.agg #[.int .i64 0, .int .i64 0, .string ⟨#[]⟩], .bool false])) W := fun W h hB => by rw [h]; exact ⟨rfl, hB⟩
 have HP := Lib.hid hP
 have HN := Lib.hid hN
 clear hP hN hb1 hb2
 generalize CellPost (cellR cs r s c) w = post at HP HN ⊢
 have hlen8 : r.l.length ≤ 8 := by have := hT.ok.s.few; have := hT.ok.s.n8; omega
 have hcF := find_any t.A t.c r.l c 0 _ hT0.sp.ll (by omega) (fun g hg => by have := grp_len hT.ok.s hg; omega)
 rw [hT.n] at hcF
 have hcT := fun (W : World) (h : HasT cs W X t r) => taken_any (w := W) (t := t) s h h0 h1
 obtain ⟨tA, n, c0, m, tB, d0⟩ := t
 unfold TV.v at hcT ⊢
 simp only at hcF hcT hx0 hx1 hx2 hb3 hS0 hT0 ⊢
 have HT := Lib.hid hT0
 have HS := Lib.hid hS0
 clear hT hS hT0 hS0
 go_enter Tryd.func18, Tryd.ntmps18
 go_wp2_with fail
 generalize ((w.alloc (.cells #[.string nm, .slice A mc cp] 24)).alloc (.cells #[.slice tA n c0, .int .i64 m, .slice tB n d0] 32)).alloc (.cells #[.int .i64 0, .int .i64 0, .string ⟨#[]⟩] 37) = w3 at hcF hx0 hx1 hx2 hb3 HT HS ⊢
 refine hcF.mono ?_
 rintro e w4 ⟨i, k, bb, rfl, hF1, hF0, hw4⟩
 have hx0 := hx0.below hw4 hx0.lt
 have hx1 := hx1.below hw4 hx1.lt
 have hx2 := hx2.below hw4 hx2.lt
 have hB3 := hb3.trans (hw4.mono hb3.size)
 have HT := Lib.hid (HT.out.below hw4 (Nat.le_refl _))
 have HS := Lib.hid (HS.out.below hw4 (Nat.le_refl _))
 clear hcF hw4 hb3
 cases bb with
 | false =>
  have hc0 := (hF0 rfl).1
  have HC : Hid (cellR cs r s c = none) := Lib.hid (by
   unfold cellR
   rw [if_neg (fun h => col_none HT.out.ok.s hc0 ⟨h.2.1, h.2.2⟩)])
  have HR := Lib.hid (((hx2.set0 (.int .i64 0)).set1 (.int .i64 0)).set2 (.string ⟨#[]⟩))
  have HB := Lib.hid (((hB3.setCell (p := ⟨w.heap.size + 1 + 1, 0, none⟩) (by show w.heap.size ≤ w.heap.size + 1 + 1; omega) (.int .i64 0)).setCell (p := ⟨w.heap.size + 1 + 1, 1, none⟩) (by show w.heap.size ≤ w.heap.size + 1 + 1; omega) (.int .i64 0)).setCell (p := ⟨w.heap.size + 1 + 1, 2, none⟩) (by show w.heap.size ≤ w.heap.size + 1 + 1; omega) (.string ⟨#[]⟩))
  have x0 := hx2.c0
  have x1 := hx2.c1
  have x2 := hx2.c2
  have xf := hx2.f
  clear hF1 hF0 hc0 hx0 hx1 hx2
  go_wp2
  refine bodyPost_ret (results_val2 rfl _ _ (w.heap.size + 1 + 1) _ _ _ rfl HR.out.c0 HR.out.c1 HR.out.c2) rfl ?_
  exact HN.out _ HC.out HB.out
 | true =>
  have hat := hF1 rfl
  obtain ⟨gg, hgi, hgk⟩ := atG_get hat
  clear hF1 hF0 hat
  have hgm := List.mem_of_getElem? hgi
  have hcr := HT.out.ok.s.rng c (List.mem_flatten.2 ⟨gg, hgm, List.mem_of_getElem? hgk⟩)
  have hil : i < n := by
   have := (List.getElem?_eq_some_iff.1 hgi).1
   have := HT.out.n
   simp only at this
   omega
  have x10 := hx1.c0
  have x11 := hx1.c1
  have x12 := hx1.c2
  have hc := hcT w4 HT.out
  cases htk : takenB r s with
  | false =>
   rw [htk] at hc
   have HC : Hid (cellR cs r s c = none) := Lib.hid (by
    unfold cellR
    rw [if_neg (fun h => by rw [htk] at h; cases h.1)])
   clear htk
   go_wp2_with fail
   refine hc.mono ?_
   rintro e w5 ⟨rfl, hw5⟩
   have hx2 := hx2.below hw5 hx2.lt
   have hB3 := hB3.trans (hw5.mono hB3.size)
   have HR := Lib.hid (((hx2.set0 (.int .i64 0)).set1 (.int .i64 0)).set2 (.string ⟨#[]⟩))
   have HB := Lib.hid (((hB3.setCell (p := ⟨w.heap.size + 1 + 1, 0, none⟩) (by show w.heap.size ≤ w.heap.size + 1 + 1; omega) (.int .i64 0)).setCell (p := ⟨w.heap.size + 1 + 1, 1, none⟩) (by show w.heap.size ≤ w.heap.size + 1 + 1; omega) (.int .i64 0)).setCell (p := ⟨w.heap.size + 1 + 1, 2, none⟩) (by show w.heap.size ≤ w.heap.size + 1 + 1; omega) (.string ⟨#[]⟩))
   have x0 := hx2.c0
   have x1 := hx2.c1
   have x2 := hx2.c2
   have xf := hx2.f
   clear hc hw5 hx0 hx1 hx2 x10 x11 x12
   go_wp2
   refine bodyPost_ret (results_val2 rfl _ _ (w.heap.size + 1 + 1) _ _ _ rfl HR.out.c0 HR.out.c1 HR.out.c2) rfl ?_
   exact HN.out _ HC.out HB.out
  | true =>
   rw [htk] at hc
   obtain ⟨s0, s8, hsf⟩ := taken_in htk
   obtain ⟨j, rfl⟩ : ∃ j : Nat, s = (j : Int) := ⟨s.toNat, by omega⟩
   have hj8 : j < 8 := by omega
   obtain ⟨xr, hxr⟩ : ∃ xr, r.M[j]? = some xr := ⟨_, List.getElem?_eq_getElem (by rw [HT.out.ok.m.len]; exact hj8)⟩
   have hxl : xr.length = cs.length := by rw [HT.out.ok.m.row xr (List.mem_of_getElem? hxr), allK_len]
   have hcv : xr[c.toNat]? = some (cellAt xr c) := by
    obtain ⟨cn, rfl⟩ : ∃ cn : Nat, c = (cn : Int) := ⟨c.toNat, by omega⟩
    rw [Int.toNat_natCast]
    have hl : cn < xr.length := by omega
    rw [List.getElem?_eq_getElem hl]
    rw [cellAt_of (List.getElem?_eq_getElem hl)]
   have HC : Hid (cellR cs r (j : Int) c = some (cellAt xr c)) := Lib.hid (by
    unfold cellR
    rw [if_pos ⟨htk, hcr.1, hcr.2⟩, Int.toNat_natCast, hxr, Option.getD_some, hcv]
    rfl)
   clear htk hsf s0 s8 hcv hxl
   go_wp2_with fail
   refine hc.mono ?_
   rintro e wx ⟨rfl, hw5⟩
   have hx0 := hx0.below hw5 hx0.lt
   have hx1 := hx1.below hw5 hx1.lt
   have hx2 := hx2.below hw5 hx2.lt
   have hB3 := hB3.trans (hw5.mono hB3.size)
   have HT := Lib.hid (HT.out.below hw5 (Nat.le_refl _))
   have hS3 := HS.out.below hw5 (Nat.le_refl _)
   clear hc hw5 x10 x11 x12 HS
   obtain ⟨ba, oa, A2, cp2, hAe, _, _, f5, hI3, hcp2⟩ := HT.out.sp.ll.at hgi
   have hAe : tA = some ⟨ba, oa, none⟩ := hAe
   subst hAe
   have hI3 : Ro.HasI wx 0 A2 gg := hI3
   have hmi : (minis cs r)[i]? = some (printM (kindsL cs gg) (gcells gg r.M)) := by unfold minis; rw [List.getElem?_map, hgi]; rfl
   obtain ⟨bm, om, hBe, _, f6⟩ := HT.out.mi.at' hmi
   have hBe : tB = some ⟨bm, om, none⟩ := hBe
   subst hBe
   have hG := grp_in hS3.r HT.out.ok.s hgm
   have hRM := gcells_right HT.out.ok.m hG.at'
   have hkl8 : (kindsL cs gg).length ≤ 8 := by rw [kinds_len]; exact hG.g8
   have hsz := (printM_le hRM hkl8).2
   have HRD : Hid (readM (kindsL cs gg) (printM (kindsL cs gg) (gcells gg r.M)) = some (gcells gg r.M)) := Lib.hid (read_print hRM)
   have hcR := fun (W : World) (h4 : HasSch W A mc cp nm cs) (h5 : Ro.HasI W 0 A2 gg) => readF_any nm A A2 cp cp2 cs gg (printM (kindsL cs gg) (gcells gg r.M)) 0 0 W h4.c h5 (by have := hG.len; omega) hG.at' hG.g1 hG.g8 (kinds_ok hG) (by omega)
   generalize printM (kindsL cs gg) (gcells gg r.M) = tx at hcR HRD f6
   rw [hS3.n] at hcR
   obtain ⟨p, hp⟩ : ∃ p, gg.length = p := ⟨_, rfl⟩
   rw [hp] at hcR f5 hcp2
   have f1 := hx0.c0
   have f2 := hx0.c1
   have f3 := hx1.c0
   have f4 := hx1.c2
   have i1 : (i : Int) < (n : Int) := by omega
   have i2 : ¬ (n : Int) ≤ (i : Int) := by omega
   have i0 : (0 : Int) ≤ (i : Int) := by omega
   clear hG hRM hkl8 hsz hmi hgm hx0 hx1
   go_wp2
   refine Lex.region_lex (ops := ceops) (calls := cecalls) ceord (fun W => W.cell? ⟨w.heap.size, 0, none⟩ = some (.string nm) ∧ W.cell? ⟨w.heap.size, 1, none⟩ = some (.slice A mc cp) ∧ W.cell? ⟨w.heap.size + 1, 0, none⟩ = some (.slice (some ⟨ba, oa, none⟩) n c0) ∧ W.cell? ⟨w.heap.size + 1, 2, none⟩ = some (.slice (some ⟨bm, om, none⟩) n d0) ∧ W.cell? ⟨ba, oa + i, none⟩ = some (.slice A2 p cp2) ∧ W.cell? ⟨bm, om + i, none⟩ = some (.string tx)) (by kernel_rfl) (by kernel_rfl) cesel (by kernel_rfl) (by kernel_rfl) celex (⟨f1, f2, f3, f4, f5, f6⟩) ?_
   unfold ceord
   have f1 : wx.drew.cell? ⟨w.heap.size, 0, none⟩ = some (.string nm) := f1
   have f2 : wx.drew.cell? ⟨w.heap.size, 1, none⟩ = some (.slice A mc cp) := f2
   have f3 : wx.drew.cell? ⟨w.heap.size + 1, 0, none⟩ = some (.slice (some ⟨ba, oa, none⟩) n c0) := f3
   have f4 : wx.drew.cell? ⟨w.heap.size + 1, 2, none⟩ = some (.slice (some ⟨bm, om, none⟩) n d0) := f4
   have f5 : wx.drew.cell? ⟨ba, oa + i, none⟩ = some (.slice A2 p cp2) := f5
   have f6 : wx.drew.cell? ⟨bm, om + i, none⟩ = some (.string tx) := f6
   have hS4 : HasSch wx.drew A mc cp nm cs := hS3.below ((Below.refl wx.heap.size wx).drew) (Nat.le_refl _)
   have hI4 : Ro.HasI wx.drew 0 A2 gg := hI3.below ((Below.refl wx.heap.size wx).drew) (Nat.le_refl _)
   have hB3 := hB3.drew
   have hx2 := hx2.drew
   generalize wx.drew = wz at *
   refine Lex.step_take (.agg #[.string nm, .slice A mc cp]) ce0 rfl (Lex.want_none rfl) (by intro Wx hSw; (try dsimp only at hSw); go_simp; (try (first | (with_reducible rfl) | assumption | rfl))) ?_
   simp only [Act.put, List.setIfInBounds_toArray, List.set_cons_zero, List.set_cons_succ]
   refine Lex.step_take (.pointer (some ⟨w.heap.size + 1, 0, none⟩)) ce1 rfl (Lex.want_none rfl) (by intro Wx hSw; (try dsimp only at hSw); go_simp; (try (first | (with_reducible rfl) | assumption | rfl))) ?_
   simp only [Act.put, List.setIfInBounds_toArray, List.set_cons_zero, List.set_cons_succ]
   refine Lex.step_take (.slice (some ⟨ba, oa, none⟩) n c0) ce2 rfl (Lex.want_none rfl) (by intro Wx hSw; (try dsimp only at hSw); go_simp; (try (first | (with_reducible rfl) | assumption | rfl))) ?_
   simp only [Act.put, List.setIfInBounds_toArray, List.set_cons_zero, List.set_cons_succ]
   refine Lex.step_take (.int .i64 (i : Int)) ce3 rfl (Lex.want_none rfl) (by intro Wx hSw; (try dsimp only at hSw); go_simp; (try (first | (with_reducible rfl) | assumption | rfl))) ?_
   simp only [Act.put, List.setIfInBounds_toArray, List.set_cons_zero, List.set_cons_succ]
   refine Lex.step_take (.pointer (some ⟨ba, oa + i, none⟩)) ce4 rfl (Lex.want_none rfl) (by intro Wx hSw; (try dsimp only at hSw); go_simp; (try (first | (with_reducible rfl) | assumption | rfl))) ?_
   simp only [Act.put, List.setIfInBounds_toArray, List.set_cons_zero, List.set_cons_succ]
   refine Lex.step_take (.slice A2 p cp2) ce5 rfl (Lex.want_none rfl) (by intro Wx hSw; (try dsimp only at hSw); go_simp; (try (first | (with_reducible rfl) | assumption | rfl))) ?_
   simp only [Act.put, List.setIfInBounds_toArray, List.set_cons_zero, List.set_cons_succ]
   refine Lex.step_take (.pointer (some ⟨w.heap.size + 1, 2, none⟩)) ce6 rfl (Lex.want_none rfl) (by intro Wx hSw; (try dsimp only at hSw); go_simp; (try (first | (with_reducible rfl) | assumption | rfl))) ?_
   simp only [Act.put, List.setIfInBounds_toArray, List.set_cons_zero, List.set_cons_succ]
   refine Lex.step_take (.slice (some ⟨bm, om, none⟩) n d0) ce7 rfl (Lex.want_none rfl) (by intro Wx hSw; (try dsimp only at hSw); go_simp; (try (first | (with_reducible rfl) | assumption | rfl))) ?_
   simp only [Act.put, List.setIfInBounds_toArray, List.set_cons_zero, List.set_cons_succ]
   refine Lex.step_take (.int .i64 (i : Int)) ce8 rfl (Lex.want_none rfl) (by intro Wx hSw; (try dsimp only at hSw); go_simp; (try (first | (with_reducible rfl) | assumption | rfl))) ?_
   simp only [Act.put, List.setIfInBounds_toArray, List.set_cons_zero, List.set_cons_succ]
   refine Lex.step_take (.pointer (some ⟨bm, om + i, none⟩)) ce9 rfl (Lex.want_none rfl) (by intro Wx hSw; (try dsimp only at hSw); go_simp; (try (first | (with_reducible rfl) | assumption | rfl))) ?_
   simp only [Act.put, List.setIfInBounds_toArray, List.set_cons_zero, List.set_cons_succ]
   refine Lex.step_take (.string tx) ce10 rfl (Lex.want_none rfl) (by intro Wx hSw; (try dsimp only at hSw); go_simp; (try (first | (with_reducible rfl) | assumption | rfl))) ?_
   simp only [Act.put, List.setIfInBounds_toArray, List.set_cons_zero, List.set_cons_succ]
   refine Lex.step_call ce11 rfl (Lex.want_none rfl) (fun K hK => ?_)
   go_simp
   refine (hcR _ hS4 hI4).mono ?_
   rintro e y4 ⟨v3, bb, rfl, hbb, hcells, hw4⟩
   rw [HRD.out] at hbb hcells
   obtain rfl : bb = true := hbb
   obtain ⟨A3, cp3, hs3, rfl, hcp3, _, hl3, hT3, hV3, bt, ot, rfl, hF3⟩ := hcells _ rfl
   have hB4 := hB3.trans (hw4.mono hB3.size)
   have f1 := cell_below hw4 f1
   have f2 := cell_below hw4 f2
   have f3 := cell_below hw4 f3
   have f4 := cell_below hw4 f4
   have f5 := cell_below hw4 f5
   have f6 := cell_below hw4 f6
   have hx2 := hx2.below hw4 hx2.lt
   clear hw4 hcells
   refine hK.out _ _ _ (fun _ h => h) ⟨f1, f2, f3, f4, f5, f6⟩ ?_
   clear hK K
   try simp only [Act.put, List.setIfInBounds_toArray, List.set_cons_zero, List.set_cons_succ]
   refine Lex.step_take (.tuple #[.slice (some ⟨bt, ot, none⟩) 8 cp3, .bool true]) ce12 rfl (Lex.want_none rfl) (by intro Wx hSw; (try dsimp only at hSw); go_simp; (try (first | (with_reducible rfl) | assumption | rfl))) ?_
   simp only [Act.put, List.setIfInBounds_toArray, List.set_cons_zero, List.set_cons_succ]
   refine Lex.step_take (.slice (some ⟨bt, ot, none⟩) 8 cp3) ce13 rfl (Lex.want_none rfl) (by intro Wx hSw; (try dsimp only at hSw); go_simp; (try (first | (with_reducible rfl) | assumption | rfl))) ?_
   simp only [Act.put, List.setIfInBounds_toArray, List.set_cons_zero, List.set_cons_succ]
   refine Lex.step_take (.bool true) ce14 rfl (Lex.want_none rfl) (by intro Wx hSw; (try dsimp only at hSw); go_simp; (try (first | (with_reducible rfl) | assumption | rfl))) ?_
   simp only [Act.put, List.setIfInBounds_toArray, List.set_cons_zero, List.set_cons_succ]
   refine Lex.step_take (.slice (some ⟨bt, ot, none⟩) 8 cp3) ce15 rfl (Lex.want_none rfl) (by intro Wx hSw; (try dsimp only at hSw); go_simp; (try (first | (with_reducible rfl) | assumption | rfl))) ?_
   simp only [Act.put, List.setIfInBounds_toArray, List.set_cons_zero, List.set_cons_succ]
   refine Lex.step_take (.bool true) ce16 rfl (Lex.want_none rfl) (by intro Wx hSw; (try dsimp only at hSw); go_simp; (try (first | (with_reducible rfl) | assumption | rfl))) ?_
   simp only [Act.put, List.setIfInBounds_toArray, List.set_cons_zero, List.set_cons_succ]
   have hj3 : (gcells gg r.M)[j]? = some (gg.map (cellAt xr)) := gcells_at hxr
   obtain ⟨x3, hx3, hxe⟩ : ∃ x3, hs3[j]? = some x3 ∧ x3.l = gg.map (cellAt xr) := by
    rw [← hl3, List.getElem?_map] at hj3
    exact Option.map_eq_some_iff.1 hj3
   obtain ⟨b5, o5, hA5, _⟩ := hF3 j x3 hx3
   obtain ⟨b', o', eA, _, _, hce⟩ := hT3 (fun e => by rw [e] at hx3; simp at hx3)
   injection eA with eA
   injection eA with eA eO
   subst eA eO
   have g1 := hce j x3 hx3 0 _ rfl
   rw [Nat.mul_one, Nat.add_zero, hA5, hxe, List.length_map, hp] at g1
   have hv3 := (hV3 x3 (List.mem_of_getElem? hx3)).1
   rw [hA5, hxe] at hv3
   have hk3 : (gg.map (cellAt xr))[k]? = some (cellAt xr c) := by rw [List.getElem?_map, hgk]; rfl
   obtain ⟨b6, o6, e6, _, _, v1, v2, v3⟩ := hv3.at hk3
   injection e6 with e6
   injection e6 with e6 e6o
   subst e6 e6o
   have hkp : k < p := by
    have := (List.getElem?_eq_some_iff.1 hgk).1
    omega
   have q1 : (j : Int) < 8 := by omega
   have q0 : (0 : Int) ≤ (j : Int) := by omega
   have q2 : (k : Int) < (p : Int) := by omega
   have q3 : (0 : Int) ≤ (k : Int) := by omega
   clear hk3
   generalize cellAt xr c = cv at v1 v2 v3 HC
   obtain ⟨vk, vn, vs⟩ := cv
   have HR := Lib.hid (((hx2.set0 (.int .i64 vk)).set1 (.int .i64 vn)).set2 (.string vs))
   have HB := Lib.hid (((hB4.setCell (p := ⟨w.heap.size + 1 + 1, 0, none⟩) (by show w.heap.size ≤ w.heap.size + 1 + 1; omega) (.int .i64 vk)).setCell (p := ⟨w.heap.size + 1 + 1, 1, none⟩) (by show w.heap.size ≤ w.heap.size + 1 + 1; omega) (.int .i64 vn)).setCell (p := ⟨w.heap.size + 1 + 1, 2, none⟩) (by show w.heap.size ≤ w.heap.size + 1 + 1; omega) (.string vs))
   have x0 := hx2.c0
   have x1 := hx2.c1
   have x2 := hx2.c2
   have xf := hx2.f
   clear hx2 hB3 hB4 f1 f2 f3 f4 f5 f6 hl3 hT3 hV3 hF3 hx3 hxe hce hv3 hj3
   refine NoPanic.normal ?_
   go_wp2
   refine bodyPost_ret (results_val2 rfl _ _ (w.heap.size + 1 + 1) _ _ _ rfl HR.out.c0 HR.out.c1 HR.out.c2) rfl ?_
   exact HP.out _ _ HC.out HB.out
end Go.Proofs.YtpnnkhpokangfaaDoor.Ti

/- The program's other calls of a tile: walked. -/
namespace Go.Proofs.YtpnnkhpokangfaaDoor.Ti
open Go.RowKit Pac Va Sc Mi Sp Ro Lex

theorem p_res2 {fn : Func} {p q : Tmp} (h : fn.results = #[.cell p 32, .tmp q]) (tmps : Array Value) (w : World) (g : Nat) (v0 v1 v2 : Value)
  (hp : tmps.getD p undef = .pointer (some ⟨g, 0, none⟩)) (c0 : w.cell? ⟨g, 0, none⟩ = some v0) (c1 : w.cell? ⟨g, 1, none⟩ = some v1) (c2 : w.cell? ⟨g, 2, none⟩ = some v2) :
  (results fn tmps).run Tryd.prog w = .ok (.tuple #[.agg #[v0, v1, v2], tmps.getD q undef]) w := by
 have hp' : tmps[p]?.getD undef = .pointer (some ⟨g, 0, none⟩) := by simpa using hp
 clear hp
 simp only [results, h]
 go_simp
theorem p_res3 {fn : Func} {p q s : Tmp} (h : fn.results = #[.cell p 32, .tmp q, .tmp s]) (tmps : Array Value) (w : World) (g : Nat) (v0 v1 v2 : Value)
  (hp : tmps.getD p undef = .pointer (some ⟨g, 0, none⟩)) (c0 : w.cell? ⟨g, 0, none⟩ = some v0) (c1 : w.cell? ⟨g, 1, none⟩ = some v1) (c2 : w.cell? ⟨g, 2, none⟩ = some v2) :
  (results fn tmps).run Tryd.prog w = .ok (.tuple #[.agg #[v0, v1, v2], tmps.getD q undef, tmps.getD s undef]) w := by
 have hp' : tmps[p]?.getD undef = .pointer (some ⟨g, 0, none⟩) := by simpa using hp
 clear hp
 simp only [results, h]
 go_simp
/-- Three cells of one box, all set. -/
def put3 (w : World) (g : Nat) (u0 u1 u2 : Value) : World := ((w.setCell ⟨g, 0, none⟩ u0).setCell ⟨g, 1, none⟩ u1).setCell ⟨g, 2, none⟩ u2
theorem put3_bar (w : World) (g : Nat) (u0 u1 u2 : Value) : Bar g w (put3 w g u0 u1 u2) := (((Bar.refl g w).setCell 0 u0).setCell 1 u1).setCell 2 u2
theorem put3_below {B g : Nat} {w w' : World} (h : Below B w w') (hg : B ≤ g) (u0 u1 u2 : Value) : Below B w (put3 w' g u0 u1 u2) :=
 ((h.setCell (p := ⟨g, 0, none⟩) hg u0).setCell (p := ⟨g, 1, none⟩) hg u1).setCell (p := ⟨g, 2, none⟩) hg u2
theorem done_tile {cs : List C} {w : World} {X : Nat → Prop} {t : TV} {r : R} {g : Nat} {u0 u1 u2 : Value} (h : HasT cs w (fun b => X b ∧ b ≠ g) t r) : HasT cs (put3 w g u0 u1 u2) X t r :=
 (h.bar (put3_bar w g u0 u1 u2) (fun h => h.2 rfl)).mono (fun _ h => h.1)
/-- What these walks hold: the schema's box, the tile's, the result's. -/
structure Bs (w : World) (g1 g2 mc cp : Nat) (nm : ByteArray) (A : Option Addr) (v0 v1 v2 u0 u1 u2 : Value) (W : World) : Prop where
 b0 : Box2 W w.heap.size (.string nm) (.slice A mc cp)
 b1 : Sc.Box3 W g1 v0 v1 v2
 b2 : Sc.Box3 W g2 u0 u1 u2
 b : Below w.heap.size w W
section
variable {w W W' : World} {g1 g2 mc cp : Nat} {nm : ByteArray} {A : Option Addr} {v0 v1 v2 u0 u1 u2 : Value}
theorem Bs.below (h : Bs w g1 g2 mc cp nm A v0 v1 v2 u0 u1 u2 W) (hb : Below W.heap.size W W') : Bs w g1 g2 mc cp nm A v0 v1 v2 u0 u1 u2 W' :=
 ⟨h.b0.below hb h.b0.lt, h.b1.below hb h.b1.lt, h.b2.below hb h.b2.lt, h.b.trans (hb.mono h.b.size)⟩
theorem Bs.put (h : Bs w g1 g2 mc cp nm A v0 v1 v2 u0 u1 u2 W) (x0 x1 x2 : Value) (hg : w.heap.size < g1 ∧ g1 < g2) : Bs w g1 g2 mc cp nm A v0 v1 v2 x0 x1 x2 (put3 W g2 x0 x1 x2) := by
 refine ⟨Sc.box2_setOther (Sc.box2_setOther (Sc.box2_setOther h.b0 (p := ⟨g2, 0, none⟩) (by show g2 ≠ w.heap.size; omega) _) (p := ⟨g2, 1, none⟩) (by show g2 ≠ w.heap.size; omega) _) (p := ⟨g2, 2, none⟩) (by show g2 ≠ w.heap.size; omega) _, ((h.b1.setOther (p := ⟨g2, 0, none⟩) (by show g2 ≠ g1; omega) _).setOther (p := ⟨g2, 1, none⟩) (by show g2 ≠ g1; omega) _).setOther (p := ⟨g2, 2, none⟩) (by show g2 ≠ g1; omega) _, ((h.b2.set0 _).set1 _).set2 _, put3_below h.b (by omega) _ _ _⟩
theorem Bs.done (h : Bs w g1 g2 mc cp nm A v0 v1 v2 u0 u1 u2 W) (hg : w.heap.size < g1 ∧ g1 < g2) {x0 x1 x2 : Value} : Below w.heap.size w (put3 W g2 x0 x1 x2) := put3_below h.b (by omega) _ _ _
/-- A store into rows that lie apart, elsewhere. -/
theorem Bs.set (h : Bs w g1 g2 mc cp nm A v0 v1 v2 u0 u1 u2 W) (hg : w.heap.size < g1 ∧ g1 < g2) {p : Addr} (hp : g2 < p.block) (x : Value) : Bs w g1 g2 mc cp nm A v0 v1 v2 u0 u1 u2 (W.setCell p x) :=
 ⟨Sc.box2_setOther h.b0 (p := p) (by omega) _, h.b1.setOther (p := p) (by omega) _, h.b2.setOther (p := p) (by omega) _, h.b.setCell (p := p) (by omega) _⟩
end
theorem Bs.start (w : World) (mc cp : Nat) (nm : ByteArray) (A : Option Addr) (v0 v1 v2 : Value) : ∃ w1 w2 w3, w.alloc (.cells #[.string nm, .slice A mc cp] 24) = w1 ∧ w1.alloc (.cells #[v0, v1, v2] 32) = w2 ∧ w2.alloc (.cells #[.slice none 0 0, .int .i64 0, .slice none 0 0] 32) = w3 ∧
  Hid (w.heap.size < w1.heap.size ∧ w1.heap.size < w2.heap.size) ∧ Bs w w1.heap.size w2.heap.size mc cp nm A v0 v1 v2 (.slice none 0 0) (.int .i64 0) (.slice none 0 0) w3 := by
 refine ⟨_, _, _, rfl, rfl, rfl, Lib.hid ⟨by simp, by simp⟩, ?_⟩
 have hb1 := (Below.refl w.heap.size w).alloc (Nat.le_refl _) (.cells #[.string nm, .slice A mc cp] 24)
 have hb2 := hb1.alloc hb1.size (.cells #[v0, v1, v2] 32)
 exact ⟨((Box2.new w (.string nm) (.slice A mc cp) 24).alloc _).alloc _, (Sc.Box3.new _ v0 v1 v2 32).alloc _, Sc.Box3.new _ _ _ _ 32, hb2.alloc hb2.size _⟩
section
variable {nm : ByteArray} {cs : List C} {A : Option Addr} {mc cp : Nat} {w : World} {X : Nat → Prop} {t : TV} {r : R}
set_option maxRecDepth 20000 in
set_option maxHeartbeats 3200000 in
theorem new_any {l : List (List Int)} (A2 : Option Addr) (n cp2 : Nat) (ht : Tab w) (hx0 : X 1) (hX : ∀ b, w.heap.size ≤ b → X b) (hS : HasSch w A mc cp nm cs) (hl : HasSp w X A2 l) (hn : l.length = n) (hc : n ≤ cp2) (hs : IsSplit l cs.length) :
  Calls Tryd.prog 10 #[.agg #[.string nm, .slice A mc cp], .slice A2 n cp2] w (TilePost cs X (newR l cs.length) w) := by
 have _ := hc
 have hP := fun (t : TV) (W : World) (h1 : HasT cs W X t (newR l cs.length)) (h2 : Below w.heap.size w W) => (show TilePost cs X (newR l cs.length) w (.returned t.v) W from ⟨t, rfl, h1, h2⟩)
 generalize TilePost cs X (newR l cs.length) w = post at hP ⊢
 have HP := Lib.hid hP
 clear hP
 have hcs8 : cs.length ≤ 8 := hs.n8
 have hTi : Tile cs ⟨l, fun _ => false, emptyM cs.length⟩ := newR_tile (nm := nm) hs hS.r
 have hz1' : w.heap.size < (w.alloc (.cells #[.string nm, .slice A mc cp] 24)).heap.size := by simp
 have hb1 := (Below.refl w.heap.size w).alloc (Nat.le_refl _) (.cells #[.string nm, .slice A mc cp] 24)
 have hx0' := Box2.new w (.string nm) (.slice A mc cp) 24
 generalize hw1 : w.alloc (.cells #[.string nm, .slice A mc cp] 24) = w1 at hb1 hx0' hz1'
 have hB := hb1.alloc hb1.size (.cells #[.slice none 0 0, .int .i64 0, .slice none 0 0] 32)
 have hx1 := Sc.Box3.new w1 (.slice none 0 0) (.int .i64 0) (.slice none 0 0) 32
 have hx0'' := hx0'.alloc (.cells #[.slice none 0 0, .int .i64 0, .slice none 0 0] 32)
 generalize hw2 : w1.alloc (.cells #[.slice none 0 0, .int .i64 0, .slice none 0 0] 32) = w2 at hB hx0'' hx1
 have hl0 : ((liveN (fun _ => false) : Nat) : Int) = 0 := by decide
 have hcl := fun (W : World) (A3 : Option Addr) (lo : Nat) (hb : Below w.heap.size w W) (hlt : w1.heap.size < W.heap.size) (hVV : HasVV W lo A3 (emptyM cs.length)) => laid_any (w := W) (X := fun b => X b ∧ b ≠ w1.heap.size) (f := fun _ => false) A2 A3 n cp2 8 lo (ht.below hb (Nat.le_refl _)) ⟨hx0, by have := ht.2; omega⟩ (fun b hb' => ⟨hX b (by have := hb.size; omega), by omega⟩) (hS.below hb (Nat.le_refl _)) (hl.ll.below hb (Nat.le_refl _)) hn hVV hTi
 rw [hl0] at hcl
 have hce := fun W : World => emptyRows_any nm A mc cp W (by have := hS.n; omega)
 rw [hS.n] at hcl
 have HZ := Lib.hid (And.intro hz1' hS.n)
 clear hS hl hn hc hs hTi hcs8 hz1' hb1 hx0' hl0 ht hX hx0
 have hx0 := hx0''
 clear hx0''
 go_enter Tryd.func10, Tryd.ntmps10
 go_wp2
 clear hw1 hw2
 have hcl := fun (W : World) (A3 : Option Addr) (lo : Nat) (hb : Below w.heap.size w W) (hx : Sc.Box3 W w1.heap.size (.slice none 0 0) (.int .i64 0) (.slice none 0 0)) (hVV : HasVV W lo A3 (emptyM mc)) => hcl W A3 lo hb hx.lt hVV
 refine Lex.region_last (ops := nwraw) (ops1 := nwops) (calls := nwcalls) 5 _ nword (fun W => W.cell? ⟨w.heap.size, 0, none⟩ = some (.string nm) ∧ W.cell? ⟨w.heap.size, 1, none⟩ = some (.slice A mc cp)) (by kernel_rfl) nweq nwlast rfl rfl (by kernel_rfl) (by kernel_rfl) (by kernel_rfl) (by kernel_rfl) nwsel (by kernel_rfl) (by kernel_rfl) nwlex (⟨hx0.c0, hx0.c1⟩) ?_
 unfold nword
 have hx0 := hx0.drew
 have hx1 := hx1.drew
 have hB := hB.drew
 generalize w2.drew = wd at hx0 hx1 hB ⊢
 refine Lex.step_take (.agg #[.string nm, .slice A mc cp]) nw0 rfl (Lex.want_none rfl) (by intro Wx hSw; (try dsimp only at hSw); go_simp; (try (first | (with_reducible rfl) | assumption | rfl))) ?_
 simp only [Act.put, List.setIfInBounds_toArray, List.set_cons_zero, List.set_cons_succ]
 refine Lex.step_take (.slice A2 n cp2) nw1 rfl (Lex.want_none rfl) (by intro Wx hSw; (try dsimp only at hSw); go_simp; (try (first | (with_reducible rfl) | assumption | rfl))) ?_
 simp only [Act.put, List.setIfInBounds_toArray, List.set_cons_zero, List.set_cons_succ]
 refine Lex.step_take (.agg #[.string nm, .slice A mc cp]) nw2 rfl (Lex.want_none rfl) (by intro Wx hSw; (try dsimp only at hSw); go_simp; (try (first | (with_reducible rfl) | assumption | rfl))) ?_
 simp only [Act.put, List.setIfInBounds_toArray, List.set_cons_zero, List.set_cons_succ]
 refine Lex.step_call nw3 rfl (Lex.want_none rfl) (fun K hK => ?_)
 go_simp
 refine (hce _).mono ?_
 rintro e y1 ⟨os, Rb, rfl, hos, hRw, hy1⟩
 have hx0 := hx0.below hy1 hx0.lt
 have hx1 := hx1.below hy1 hx1.lt
 have hB := hB.trans (hy1.mono hB.size)
 have hVV := hRw.vv hRw.len
 rw [hos] at hVV
 clear hce hy1 hRw hos
 refine hK.out _ _ _ (fun _ h => h) ⟨hx0.c0, hx0.c1⟩ ?_
 clear hK K
 try simp only [Act.put, List.setIfInBounds_toArray, List.set_cons_zero, List.set_cons_succ]
 refine Lex.step_call nw4 rfl (Lex.want_none rfl) (fun K hK => ?_)
 go_simp
 refine (hcl _ _ _ hB hx1 hVV).mono ?_
 rintro e y2 ⟨⟨tA, tn, tc, tm, tB, td⟩, rfl, hT, hy2⟩
 have hn := hT.n
 have hx0 := hx0.below hy2 hx0.lt
 have hx1 := hx1.below hy2 hx1.lt
 have hB := hB.trans (hy2.mono hB.size)
 clear hcl hVV hy2
 unfold TV.v
 simp only
 refine hK.out _ _ _ (fun _ h => h) ⟨hx0.c0, hx0.c1⟩ ?_
 clear hK K
 try simp only [Act.put, List.setIfInBounds_toArray, List.set_cons_zero, List.set_cons_succ]
 refine Lex.step_take (.bool true) nw5 rfl (Lex.want_none rfl) (by intro Wx hSw; (try dsimp only at hSw); go_simp; (try (first | (with_reducible rfl) | assumption | rfl))) ?_
 simp only [Act.put, List.setIfInBounds_toArray, List.set_cons_zero, List.set_cons_succ]
 have q0 := hx1.c0
 have q1 := hx1.c1
 have q2 := hx1.c2
 have qf := hx1.f
 refine Lex.last_op nwlast rfl (fun K hK => ?_)
 go_simp
 refine hK.out _ _ ?_
 clear hK K
 have HR := Lib.hid (((hx1.set0 (.slice tA tn tc)).set1 (.int .i64 tm)).set2 (.slice tB tn td))
 have HTT := Lib.hid (And.intro (done_tile (u0 := .slice tA tn tc) (u1 := .int .i64 tm) (u2 := .slice tB tn td) hT) (put3_below hB (Nat.le_of_lt HZ.out.1) (.slice tA tn tc) (.int .i64 tm) (.slice tB tn td)))
 clear hT hx0 hx1 hB q0 q1 q2 qf
 go_wp2
 refine bodyPost_ret (results_tile1 rfl _ _ w1.heap.size _ _ _ rfl HR.out.c0 HR.out.c1 HR.out.c2) rfl ?_
 rw [HZ.out.2] at HP
 exact HP.out ⟨tA, tn, tc, tm, tB, td⟩ _ HTT.out.1 HTT.out.2

set_option maxRecDepth 20000 in
set_option maxHeartbeats 3200000 in
theorem row_any (s : Int) (hS : HasSch w A mc cp nm cs) (hT : HasT cs w X t r) (h0 : -9223372036854775808 ≤ s) (h1 : s ≤ 9223372036854775807) :
  Calls Tryd.prog 20 #[.agg #[.string nm, .slice A mc cp], t.v, .int .i64 s] w (RowPost (rowR r s) w) := by
 have hP := fun (v : List V) (A : Option Addr) (n c : Nat) (W : World) (h : rowR r s = some v) (hn : v.length = n) (hv : HasV W 0 A v) (hb : Below w.heap.size w W) => (show RowPost (rowR r s) w (.returned (.tuple #[.slice A n c, .bool true])) W from ⟨A, n, c, by rw [h]; rfl, by rw [h]; exact hn, by rw [h]; exact hv, hb⟩)
 have hN := fun (W : World) (h : rowR r s = none) (hb : Below w.heap.size w W) => (show RowPost (rowR r s) w (.returned (.tuple #[.slice none 0 0, .bool false])) W from ⟨none, 0, 0, by rw [h]; rfl, by rw [h]; rfl, by rw [h]; exact Li.HasL.nil _ _ _, hb⟩)
 generalize RowPost (rowR r s) w = post at hP hN ⊢
 have HP := Lib.hid hP
 have HN := Lib.hid hN
 clear hP hN
 obtain ⟨l, f, M⟩ := r
 obtain ⟨At, n, c0, m, Bt, d⟩ := t
 unfold TV.v
 simp only
 have hb1 := (Below.refl w.heap.size w).alloc (Nat.le_refl _) (.cells #[.string nm, .slice A mc cp] 24)
 have hx0 := Box2.new w (.string nm) (.slice A mc cp) 24
 generalize hw1 : w.alloc (.cells #[.string nm, .slice A mc cp] 24) = w1 at hb1 hx0
 have hB := hb1.alloc hb1.size (.cells #[.slice At n c0, .int .i64 m, .slice Bt n d] 32)
 have hx1 := Sc.Box3.new w1 (.slice At n c0) (.int .i64 m) (.slice Bt n d) 32
 have hx0 := hx0.alloc (.cells #[.slice At n c0, .int .i64 m, .slice Bt n d] 32)
 generalize hw2 : w1.alloc (.cells #[.slice At n c0, .int .i64 m, .slice Bt n d] 32) = w2 at hB hx0 hx1
 have hcT := fun (W : World) (h : Below w.heap.size w W) => taken_any (w := W) s (hT.below h (Nat.le_refl _)) h0 h1
 have hcR := fun (W : World) (h : Below w.heap.size w W) => readRows_any (w := W) (hS.below h (Nat.le_refl _)) (hT.below h (Nat.le_refl _))
 unfold TV.v at hcT hcR
 simp only at hcT hcR
 have HM := Lib.hid (And.intro (show M.length = 8 from hT.ok.m.len) (show ∀ y ∈ M, y.length = cs.length from fun y hy => (hT.ok.m.row y hy).trans (allK_len cs)))
 clear hT hS h0 h1 hb1
 have c0' := hx1.c0
 have c1' := hx1.c1
 have c2' := hx1.c2
 cases htk : takenB ⟨l, f, M⟩ s with
 | false =>
  rw [htk] at hcT
  have HC : Hid (rowR ⟨l, f, M⟩ s = none) := Lib.hid (by unfold rowR; rw [htk]; rfl)
  clear htk hcR
  go_enter Tryd.func20, Tryd.ntmps20
  go_wp2_with fail
  clear hw1 hw2
  refine (hcT _ hB).mono ?_
  rintro e w3 ⟨rfl, hy⟩
  have HB := Lib.hid (HN.out w3 HC.out (hB.trans (hy.mono hB.size)))
  clear hcT hy hB hx0 hx1 c0' c1' c2'
  go_wp2
  exact HB.out
 | true =>
  rw [htk] at hcT
  obtain ⟨s0, s8, hsf⟩ := taken_in htk
  obtain ⟨j, rfl⟩ : ∃ j : Nat, s = (j : Int) := ⟨s.toNat, by omega⟩
  have hj8 : j < 8 := by omega
  have HC : Hid (rowR ⟨l, f, M⟩ (j : Int) = M[j]?) := Lib.hid (by unfold rowR; rw [if_pos htk, Int.toNat_natCast])
  clear htk s0 s8 hsf
  go_enter Tryd.func20, Tryd.ntmps20
  go_wp2_with fail
  clear hw1 hw2
  refine (hcT _ hB).mono ?_
  rintro e w3 ⟨rfl, hy⟩
  have hB := hB.trans (hy.mono hB.size)
  have hx0 := hx0.below hy hx0.lt
  have hx1 := hx1.below hy hx1.lt
  clear hcT hy c0' c1' c2'
  have a0 := hx0.c0
  have a1 := hx0.c1
  have c0' := hx1.c0
  have c1' := hx1.c1
  have c2' := hx1.c2
  go_wp2_with fail
  refine (hcR _ hB).mono ?_
  rintro e w4 ⟨os, Rb, rfl, hos, hRw, hy⟩
  have hB := hB.trans (hy.mono hB.size)
  clear hcR hy a0 a1 c0' c1' c2' hx0 hx1
  have hx : os[j]? = some (os[j]'(by have := hRw.len; omega)) := List.getElem?_eq_getElem _
  generalize (os[j]'(by have := hRw.len; omega)) = x at hx
  have e0 := hRw.row.cellAt j (by omega)
  rw [List.getElem?_map, hx] at e0
  have e1 : w4.cell? ⟨Rb, j, none⟩ = some (.slice (some ⟨x.b, 0, none⟩) x.l.length x.cp) := e0
  have hgr := hRw.free.has cellsV_len (x := x.gr) (List.mem_map_of_mem (List.mem_of_getElem? hx))
  have HQ := Lib.hid (HP.out x.l (some ⟨x.b, 0, none⟩) x.l.length x.cp w4 (by rw [HC.out, ← hos, List.getElem?_map, hx]; rfl) rfl (hgr.1.lower (Nat.zero_le _)) hB)
  have j1 : (j : Int) < 8 := by omega
  have j0 : (0 : Int) ≤ (j : Int) := by omega
  clear hx e0 hgr hRw hos hB
  go_wp2
  exact HQ.out

set_option maxRecDepth 20000 in
set_option maxHeartbeats 3200000 in
theorem lay_any {l : List (List Int)} (A2 : Option Addr) (n2 cp2 : Nat) (hX : ∀ b, w.heap.size ≤ b → X b) (hS : HasSch w A mc cp nm cs) (hT : HasT cs w X t r) (hl : HasSp w X A2 l) (hn : l.length = n2) (hc : n2 ≤ cp2) (h9 : n2 ≤ 200000) (hg : ∀ g ∈ l, g.length ≤ 17592186044416) :
  Calls Tryd.prog 31 #[.agg #[.string nm, .slice A mc cp], t.v, .slice A2 n2 cp2] w (TilePostB cs X (layR cs r l) w) := by
 have hP := fun (t : TV) (W : World) (x : R × Bool) (e : layR cs r l = x) (h1 : HasT cs W X t x.1) (h2 : Below w.heap.size w W) => (show TilePostB cs X (layR cs r l) w (.returned (.tuple #[t.v, .bool x.2])) W from ⟨t, by rw [e], by rw [e]; exact h1, h2⟩)
 generalize TilePostB cs X (layR cs r l) w = post at hP ⊢
 have HP := Lib.hid hP
 have _ := hc
 clear hP
 have hlay : (rightSp l (cs.length : Int) = true → layR cs r l = (⟨l, r.f, r.M⟩, true)) ∧ (rightSp l (cs.length : Int) = false → layR cs r l = (r, false)) := by
  unfold layR
  refine ⟨fun h => by rw [if_pos h], fun h => by rw [if_neg (by rw [h]; decide)]⟩
 have HLA := Lib.hid hlay
 clear hlay
 obtain ⟨l0, f, M⟩ := r
 obtain ⟨At, n, c0, m, Bt, d⟩ := t
 have hm : m = liveN f := hT.m
 unfold TV.v
 simp only
 have hcs8 : cs.length ≤ 8 := hT.ok.s.n8
 obtain ⟨w1, w2, w3, hw1, hw2, hw3, HG, hb⟩ := Bs.start w mc cp nm A (.slice At n c0) (.int .i64 m) (.slice Bt n d)
 have hgg := HG.out
 have hT' : HasT cs w (fun b => X b ∧ b ≠ w2.heap.size) ⟨At, n, c0, m, Bt, d⟩ ⟨l0, f, M⟩ := hT.old (fun b hb => by omega)
 have hcR := fun (W : World) (h : Below w.heap.size w W) => readRows_any (w := W) (hS.below h (Nat.le_refl _)) (hT.below h (Nat.le_refl _))
 unfold TV.v at hcR
 simp only at hcR
 have hcX := fun (W : World) (hb : Below w.heap.size w W) => right_any A2 cp2 l (mc : Int) 0 W (hl.ll.below hb (Nat.le_refl _)) (by omega) hg (by omega) (by have := hS.n; omega)
 rw [hn] at hcX
 have hcl := fun (W : World) (A3 : Option Addr) (lo : Nat) (hTi : Tile cs ⟨l, f, M⟩) (hb : Below w.heap.size w W) (hlt : w2.heap.size < W.heap.size) (hVV : HasVV W lo A3 M) => laid_any (w := W) (X := fun b => X b ∧ b ≠ w2.heap.size) (f := f) A2 A3 n2 cp2 8 lo (hT'.tab.below hb (Nat.le_refl _)) hT'.x0 (fun b hb' => ⟨hX b (by have := hb.size; omega), by omega⟩) (hS.below hb (Nat.le_refl _)) (hl.ll.below hb (Nat.le_refl _)) hn hVV hTi
 rw [← hm] at hcl
 have HT := Lib.hid (And.intro hT' (And.intro hT.ok hS.n))
 clear hT hT' hS hl hX hm hcs8 hg
 have a0 := hb.b0.c0
 have a1 := hb.b0.c1
 have c0' := hb.b1.c0
 have c1' := hb.b1.c1
 have c2' := hb.b1.c2
 have HGG := Lib.hid hgg
 have HB0 := Lib.hid hb
 clear hb hgg
 go_enter Tryd.func31, Tryd.ntmps31
 go_wp2_with fail
 clear hw1 hw2 hw3 a0 a1 c0' c1' c2'
 have hb := HB0.out
 clear HB0
 refine (hcR _ hb.b).mono ?_
 rintro e w4 ⟨os, Rb, rfl, hos, hRw, hy⟩
 have hb := hb.below hy
 have hVV := hRw.vv hRw.len
 rw [hos] at hVV
 clear hcR hy hRw hos
 have a0 := hb.b0.c0
 have a1 := hb.b0.c1
 cases hrt : rightSp l (mc : Int) with
 | false =>
  have HLX := Lib.hid (HLA.out.2 (by rw [HT.out.2.2]; exact hrt))
  rw [hrt] at hcX
  clear hrt hcl
  go_wp2_with fail
  refine (hcX _ hb.b).mono ?_
  rintro e w5 ⟨rfl, hy⟩
  have hb := hb.below hy
  clear hcX hy a0 a1 hVV
  have c0' := hb.b1.c0
  have c1' := hb.b1.c1
  have c2' := hb.b1.c2
  have q0 := hb.b2.c0
  have q1 := hb.b2.c1
  have q2 := hb.b2.c2
  have qf := hb.b2.f
  have hbs := Lib.hid (hb.put (.slice At n c0) (.int .i64 m) (.slice Bt n d) HGG.out)
  have HTT := Lib.hid (And.intro (done_tile (u0 := .slice At n c0) (u1 := .int .i64 m) (u2 := .slice Bt n d) (HT.out.1.below hb.b (Nat.le_refl _))) (hb.done HGG.out (x0 := .slice At n c0) (x1 := .int .i64 m) (x2 := .slice Bt n d)))
  clear hb
  go_wp2
  refine bodyPost_ret (p_res2 rfl _ _ w2.heap.size _ _ _ rfl hbs.out.b2.c0 hbs.out.b2.c1 hbs.out.b2.c2) rfl ?_
  exact HP.out ⟨At, n, c0, m, Bt, d⟩ _ (⟨l0, f, M⟩, false) HLX.out HTT.out.1 HTT.out.2
 | true =>
  have HLX := Lib.hid (HLA.out.1 (by rw [HT.out.2.2]; exact hrt))
  have hTi : Tile cs ⟨l, f, M⟩ := ⟨right_split (by rw [HT.out.2.2]; exact hrt), HT.out.2.1.m, HT.out.2.1.z⟩
  have hcl := fun (W : World) (A3 : Option Addr) (lo : Nat) (hb : Below w.heap.size w W) (hlt : w2.heap.size < W.heap.size) (hVV : HasVV W lo A3 M) => hcl W A3 lo hTi hb hlt hVV
  rw [hrt] at hcX
  clear hrt hTi
  go_wp2_with fail
  refine (hcX _ hb.b).mono ?_
  rintro e w5 ⟨rfl, hy⟩
  have hb := hb.below hy
  have hVV := hVV.below hy (Nat.le_refl _)
  clear hcX hy a0 a1
  have a0 := hb.b0.c0
  have a1 := hb.b0.c1
  have c1' := hb.b1.c1
  go_wp2_with fail
  refine (hcl _ _ _ hb.b hb.b2.lt hVV).mono ?_
  rintro e w6 ⟨⟨tA, tn, tc, tm, tB, td⟩, rfl, hT2, hy⟩
  have hb := hb.below hy
  clear hcl hy a0 a1 c1' hVV
  unfold TV.v
  simp only
  have q0 := hb.b2.c0
  have q1 := hb.b2.c1
  have q2 := hb.b2.c2
  have qf := hb.b2.f
  have hbs := Lib.hid (hb.put (.slice tA tn tc) (.int .i64 tm) (.slice tB tn td) HGG.out)
  have HTT := Lib.hid (And.intro (done_tile (u0 := .slice tA tn tc) (u1 := .int .i64 tm) (u2 := .slice tB tn td) hT2) (hb.done HGG.out (x0 := .slice tA tn tc) (x1 := .int .i64 tm) (x2 := .slice tB tn td)))
  clear hb hT2
  go_wp2
  refine bodyPost_ret (p_res2 rfl _ _ w2.heap.size _ _ _ rfl hbs.out.b2.c0 hbs.out.b2.c1 hbs.out.b2.c2) rfl ?_
  exact HP.out ⟨tA, tn, tc, tm, tB, td⟩ _ (⟨l, f, M⟩, true) HLX.out HTT.out.1 HTT.out.2
end
end Go.Proofs.YtpnnkhpokangfaaDoor.Ti

/- The program's Drop, Add and Set of a tile: walked. -/
namespace Go.Proofs.YtpnnkhpokangfaaDoor.Ti
open Go.RowKit Pac Va Sc Mi Sp Ro Lex

/-- One of the eight rows is another one. -/
theorem Rw.setRow {W : World} {B Rb j n cp2 lo : Nat} {os : List (Li.OG V)} {A2 : Option Addr} {row : List V} (h : Rw W B Rb os) (hv : HasV W lo A2 row) (hn : row.length = n) (hc : n ≤ cp2) (hne : ∀ b o s, A2 = some ⟨b, o, s⟩ → b ≠ Rb) :
  HasVV (W.setCell ⟨Rb, j, none⟩ (.slice A2 n cp2)) 0 (some ⟨Rb, 0, none⟩) ((os.map Li.OG.l).set j row) := by
 subst hn
 have hbar : Bar Rb W (W.setCell ⟨Rb, j, none⟩ (.slice A2 row.length cp2)) := (Bar.refl Rb W).setCell j _
 have hst := (h.row.stored j (.slice A2 row.length cp2)).1
 have he : (os.map Li.OG.v).set j (.slice A2 row.length cp2) = Li.cellsL Li.cellsG ((os.map Li.OG.gr).set j (⟨A2, cp2, row⟩ : Li.Gr V)) := by
  rw [Li.cellsG_map, List.map_set, List.map_map]
  rfl
 rw [he] at hst
 obtain ⟨A', c', e', _, hl⟩ := Li.list_of_own Li.cellsG_len hst (by rw [List.length_set, List.length_map]; exact h.len)
 injection e' with e1 _ e3
 subst e1 e3
 refine ⟨_, ?_, hl.lower (Nat.zero_le _), fun x hx => ?_⟩
 ·rw [List.map_set, List.map_map]
  rfl
 ·rcases List.mem_or_eq_of_mem_set hx with hx | rfl
  ·obtain ⟨z, hz, rfl⟩ := List.mem_map.1 hx
   have hh := h.free.has cellsV_len (List.mem_map_of_mem (f := Li.OG.gr) hz)
   refine ⟨lbar (X := fun b => b ≠ Rb) (hh.1.lower (Nat.zero_le _)) (fun _ b o s e => ?_) hbar (fun hb => hb rfl), hh.2⟩
   have e : some (⟨z.b, 0, none⟩ : Addr) = some ⟨b, o, s⟩ := e
   injection e with e
   injection e with e1 _ _
   rw [← e1]
   intro e2
   exact Li.own_kind (h.free.own z hz) h.row (by decide) rfl (by rw [e2]; rfl)
  ·exact ⟨lbar (X := fun b => b ≠ Rb) (hv.lower (Nat.zero_le _)) (fun _ b o s e => hne b o s e) hbar (fun hb => hb rfl), hc⟩
section
variable {nm : ByteArray} {cs : List C} {A : Option Addr} {mc cp : Nat} {w : World} {X : Nat → Prop} {t : TV} {r : R}
set_option maxRecDepth 20000 in
set_option maxHeartbeats 3200000 in
theorem drop_any (s : Int) (hX : ∀ b, w.heap.size ≤ b → X b) (hS : HasSch w A mc cp nm cs) (hT : HasT cs w X t r) (h0 : -9223372036854775808 ≤ s) (h1 : s ≤ 9223372036854775807) :
  Calls Tryd.prog 37 #[.agg #[.string nm, .slice A mc cp], t.v, .int .i64 s] w (TilePost1 cs X (dropR cs r s) w) := by
 have hP := fun (t : TV) (W : World) (x : R × Int) (e : dropR cs r s = x) (h1 : HasT cs W X t x.1) (h2 : Below w.heap.size w W) => (show TilePost1 cs X (dropR cs r s) w (.returned (.tuple #[t.v, .int .i64 x.2])) W from ⟨t, by rw [e], by rw [e]; exact h1, h2⟩)
 have hTi0 := drop_tile (s := s) hS.r hT.ok
 generalize TilePost1 cs X (dropR cs r s) w = post at hP ⊢
 have HP := Lib.hid hP
 clear hP
 obtain ⟨l0, f, M⟩ := r
 obtain ⟨At, n, c0, m, Bt, d⟩ := t
 have hm : m = liveN f := hT.m
 unfold TV.v
 simp only
 have hcs8 : cs.length ≤ 8 := hT.ok.s.n8
 obtain ⟨w1, w2, w3, hw1, hw2, hw3, HG, hb⟩ := Bs.start w mc cp nm A (.slice At n c0) (.int .i64 m) (.slice Bt n d)
 have hgg := HG.out
 have hT' : HasT cs w (fun b => X b ∧ b ≠ w2.heap.size) ⟨At, n, c0, m, Bt, d⟩ ⟨l0, f, M⟩ := hT.old (fun b hb => by omega)
 have hcT := fun (W : World) (h : Below w.heap.size w W) => taken_any (w := W) s (hT.below h (Nat.le_refl _)) h0 h1
 have hcR := fun (W : World) (h : Below w.heap.size w W) => readRows_any (w := W) (hS.below h (Nat.le_refl _)) (hT.below h (Nat.le_refl _))
 unfold TV.v at hcR hcT
 simp only at hcR hcT
 have HT := Lib.hid (And.intro hT' (And.intro hT.ok hS.n))
 have a0 := hb.b0.c0
 have a1 := hb.b0.c1
 have c0' := hb.b1.c0
 have c1' := hb.b1.c1
 have c2' := hb.b1.c2
 have HGG := Lib.hid hgg
 have HB0 := Lib.hid hb
 cases htk : takenB ⟨l0, f, M⟩ s with
 | false =>
  have HLX : Hid (dropR cs ⟨l0, f, M⟩ s = (⟨l0, f, M⟩, 3)) := Lib.hid (by unfold dropR; rw [if_neg (by rw [htk]; decide)])
  rw [htk] at hcT
  clear htk hT hT' hS hX hm hcs8 h0 h1 hb hgg hTi0 hcR
  go_enter Tryd.func37, Tryd.ntmps37
  go_wp2_with fail
  clear hw1 hw2 hw3 a0 a1 c0' c1' c2'
  have hb := HB0.out
  clear HB0
  refine (hcT _ hb.b).mono ?_
  rintro e w4 ⟨rfl, hy⟩
  have hb := hb.below hy
  clear hcT hy
  have c0' := hb.b1.c0
  have c1' := hb.b1.c1
  have c2' := hb.b1.c2
  have q0 := hb.b2.c0
  have q1 := hb.b2.c1
  have q2 := hb.b2.c2
  have qf := hb.b2.f
  have hbs := Lib.hid (hb.put (.slice At n c0) (.int .i64 m) (.slice Bt n d) HGG.out)
  have HTT := Lib.hid (And.intro (done_tile (u0 := .slice At n c0) (u1 := .int .i64 m) (u2 := .slice Bt n d) (HT.out.1.below hb.b (Nat.le_refl _))) (hb.done HGG.out (x0 := .slice At n c0) (x1 := .int .i64 m) (x2 := .slice Bt n d)))
  clear hb
  go_wp2
  refine bodyPost_ret (p_res2 rfl _ _ w2.heap.size _ _ _ rfl hbs.out.b2.c0 hbs.out.b2.c1 hbs.out.b2.c2) rfl ?_
  exact HP.out ⟨At, n, c0, m, Bt, d⟩ _ (⟨l0, f, M⟩, 3) HLX.out HTT.out.1 HTT.out.2
 | true =>
  obtain ⟨s0, s8, hsf⟩ := taken_in htk
  obtain ⟨j, rfl⟩ : ∃ j : Nat, s = (j : Int) := ⟨s.toNat, by omega⟩
  have hj8 : j < 8 := by omega
  rw [Int.toNat_natCast] at hsf
  have hlx : dropR cs ⟨l0, f, M⟩ (j : Int) = (⟨l0, (fun i => if i = j then false else f i), M.set j (List.replicate cs.length vZ)⟩, 0) := by unfold dropR; rw [if_pos htk, Int.toNat_natCast]
  rw [hlx] at hTi0
  have HLX := Lib.hid hlx
  have hcl := fun (W : World) (lo Rb : Nat) (hb : Below w.heap.size w W) (hlt : w2.heap.size < W.heap.size) (hVV : HasVV W lo (some ⟨Rb, 0, none⟩) (M.set j (List.replicate cs.length vZ))) => laid_any (w := W) (X := fun b => X b ∧ b ≠ w2.heap.size) (f := fun i => if i = j then false else f i) At (some ⟨Rb, 0, none⟩) n c0 8 lo (hT'.tab.below hb (Nat.le_refl _)) hT'.x0 (fun b hb' => ⟨hX b (by have := hb.size; omega), by omega⟩) (hS.below hb (Nat.le_refl _)) (hT'.sp.ll.below hb (Nat.le_refl _)) hT'.n hVV hTi0
  have e7 := live_drop f hj8 hsf
  rw [← hm] at e7
  obtain ⟨m2, hm2⟩ : ∃ m2, liveN (fun i => if i = j then false else f i) = m2 := ⟨_, rfl⟩
  rw [hm2] at e7 hcl
  have hcb := fun W : World => bit_any hj8 W
  generalize 2 ^ j = zb at e7 hcb
  have hce := fun W : World => emptyRow_any nm A mc cp W (by have := hS.n; omega)
  have hnc := hS.n
  rw [hnc] at hcl
  rw [htk] at hcT
  clear htk hT hT' hS hX hm hcs8 h0 h1 hb hgg hTi0 s0 s8 hsf hlx hm2
  go_enter Tryd.func37, Tryd.ntmps37
  go_wp2_with fail
  clear hw1 hw2 hw3 a0 a1 c0' c1' c2'
  have hb := HB0.out
  clear HB0
  refine (hcT _ hb.b).mono ?_
  rintro e w4 ⟨rfl, hy⟩
  have hb := hb.below hy
  clear hcT hy
  have a0 := hb.b0.c0
  have a1 := hb.b0.c1
  have c0' := hb.b1.c0
  have c1' := hb.b1.c1
  have c2' := hb.b1.c2
  go_wp2_with fail
  refine (hcR _ hb.b).mono ?_
  rintro e w5 ⟨os, Rb, rfl, hos, hRw, hy⟩
  have hgR : w2.heap.size < Rb := Nat.lt_of_lt_of_le hb.b2.lt hRw.lt.1
  have hb := hb.below hy
  clear hcR hy a0 a1 c0' c1' c2'
  have a0 := hb.b0.c0
  have a1 := hb.b0.c1
  go_wp2_with fail
  refine (hce _).mono ?_
  rintro e w6 ⟨rfl, hown, hy⟩
  have hRb5 := hRw.lt.2
  have hb := hb.below hy
  have hRw := hRw.below hy (Nat.le_refl _)
  clear hce hy a0 a1
  have hx : os[j]? = some (os[j]'(by have := hRw.len; omega)) := List.getElem?_eq_getElem _
  generalize (os[j]'(by have := hRw.len; omega)) = x at hx
  have e0 := hRw.row.cellAt j (by omega)
  rw [List.getElem?_map, hx] at e0
  have e1 : w6.cell? ⟨Rb, j, none⟩ = some (.slice (some ⟨x.b, 0, none⟩) x.l.length x.cp) := e0
  have ef := hRw.row.frozenAt j
  obtain ⟨A', c', e', hc', hl'⟩ := Li.list_of_own cellsV_len hown (by rw [List.length_replicate])
  injection e' with e2 _ e3
  subst e2 e3
  have hVV := hRw.setRow (j := j) hl' (by rw [List.length_replicate]) hc' (fun b o s e => by
   injection e with e
   injection e with e2 _ _
   omega)
  rw [hos] at hVV
  have hb := hb.set HGG.out (p := ⟨Rb, j, none⟩) hgR (.slice (some ⟨w5.heap.size + 1, 0, none⟩) mc mc)
  have j1 : (j : Int) < 8 := by omega
  have j0 : (0 : Int) ≤ (j : Int) := by omega
  have HV := Lib.hid (And.intro hVV hb)
  clear hx e0 hRw hos hb hown hl' hVV hc' hgR hRb5
  go_wp2
  obtain ⟨hVV, hb⟩ := HV.out
  clear HV e1 ef
  generalize w6.setCell ⟨Rb, j, none⟩ (.slice (some ⟨w5.heap.size + 1, 0, none⟩) mc mc) = y0 at hVV hb ⊢
  have hcl := fun (W : World) (lo : Nat) (hb : Below w.heap.size w W) (hlt : w2.heap.size < W.heap.size) (hVV : HasVV W lo (some ⟨Rb, 0, none⟩) (M.set j (List.replicate mc vZ))) => hcl W lo Rb hb hlt hVV
  have hgg := HGG.out
  refine Lex.region_lex (ops := drops) (calls := drcalls) drord (fun W => W.cell? ⟨w.heap.size, 0, none⟩ = some (.string nm) ∧ W.cell? ⟨w.heap.size, 1, none⟩ = some (.slice A mc cp) ∧ W.cell? ⟨w1.heap.size, 0, none⟩ = some (.slice At n c0) ∧ W.cell? ⟨w1.heap.size, 1, none⟩ = some (.int .i64 (m : Int))) (by kernel_rfl) (by kernel_rfl) drsel (by kernel_rfl) (by kernel_rfl) drlex (⟨hb.b0.c0, hb.b0.c1, hb.b1.c0, hb.b1.c1⟩) ?_
  unfold drord
  have hb := hb.below (Below.refl y0.heap.size y0).drew
  have hVV := hVV.below (Below.refl y0.heap.size y0).drew (Nat.le_refl _)
  generalize y0.drew = wd at hb hVV ⊢
  refine Lex.step_take (.agg #[.string nm, .slice A mc cp]) dr0 rfl (Lex.want_none rfl) (by intro Wx hSw; (try dsimp only at hSw); go_simp; (try (first | (with_reducible rfl) | assumption | rfl))) ?_
  simp only [Act.put, List.setIfInBounds_toArray, List.set_cons_zero, List.set_cons_succ]
  refine Lex.step_take (.pointer (some ⟨w1.heap.size, 0, none⟩)) dr1 rfl (Lex.want_none rfl) (by intro Wx hSw; (try dsimp only at hSw); go_simp; (try (first | (with_reducible rfl) | assumption | rfl))) ?_
  simp only [Act.put, List.setIfInBounds_toArray, List.set_cons_zero, List.set_cons_succ]
  refine Lex.step_take (.slice At n c0) dr2 rfl (Lex.want_none rfl) (by intro Wx hSw; (try dsimp only at hSw); go_simp; (try (first | (with_reducible rfl) | assumption | rfl))) ?_
  simp only [Act.put, List.setIfInBounds_toArray, List.set_cons_zero, List.set_cons_succ]
  refine Lex.step_take (.pointer (some ⟨w1.heap.size, 1, none⟩)) dr3 rfl (Lex.want_none rfl) (by intro Wx hSw; (try dsimp only at hSw); go_simp; (try (first | (with_reducible rfl) | assumption | rfl))) ?_
  simp only [Act.put, List.setIfInBounds_toArray, List.set_cons_zero, List.set_cons_succ]
  refine Lex.step_take (.int .i64 (m : Int)) dr4 rfl (Lex.want_none rfl) (by intro Wx hSw; (try dsimp only at hSw); go_simp; (try (first | (with_reducible rfl) | assumption | rfl))) ?_
  simp only [Act.put, List.setIfInBounds_toArray, List.set_cons_zero, List.set_cons_succ]
  refine Lex.step_take (.int .i64 (j : Int)) dr5 rfl (Lex.want_none rfl) (by intro Wx hSw; (try dsimp only at hSw); go_simp; (try (first | (with_reducible rfl) | assumption | rfl))) ?_
  simp only [Act.put, List.setIfInBounds_toArray, List.set_cons_zero, List.set_cons_succ]
  refine Lex.step_take (.slice (some ⟨Rb, 0, none⟩) 8 8) dr8 rfl (Lex.want_none rfl) (by intro Wx hSw; (try dsimp only at hSw); go_simp; (try (first | (with_reducible rfl) | assumption | rfl))) ?_
  simp only [Act.put, List.setIfInBounds_toArray, List.set_cons_zero, List.set_cons_succ]
  refine Lex.step_call dr6 rfl (Lex.want_none rfl) (fun K hK => ?_)
  go_simp
  refine (hcb _).mono ?_
  rintro e y1 ⟨rfl, rfl⟩
  clear hcb
  refine hK.out _ _ _ (fun _ h => h) ⟨hb.b0.c0, hb.b0.c1, hb.b1.c0, hb.b1.c1⟩ ?_
  clear hK K
  try simp only [Act.put, List.setIfInBounds_toArray, List.set_cons_zero, List.set_cons_succ]
  refine Lex.step_take (.int .i64 (m2 : Int)) dr7 rfl (Lex.want_none rfl) (by intro Wx hSw; (try dsimp only at hSw); go_simp; (try (first | (with_reducible rfl) | assumption | rfl))) ?_
  simp only [Act.put, List.setIfInBounds_toArray, List.set_cons_zero, List.set_cons_succ]
  refine Lex.step_call dr9 rfl (Lex.want_none rfl) (fun K hK => ?_)
  go_simp
  refine (hcl _ _ hb.b hb.b2.lt hVV).mono ?_
  rintro e y2 ⟨⟨tA, tn, tc, tm, tB, td⟩, rfl, hT2, hy2⟩
  have hb := hb.below hy2
  clear hcl hVV hy2
  unfold TV.v
  simp only
  refine hK.out _ _ _ (fun _ h => h) ⟨hb.b0.c0, hb.b0.c1, hb.b1.c0, hb.b1.c1⟩ ?_
  clear hK K
  try simp only [Act.put, List.setIfInBounds_toArray, List.set_cons_zero, List.set_cons_succ]
  refine Lex.step_call dr10 rfl (Lex.want_none rfl) (fun K hK => ?_)
  have q0 := hb.b2.c0
  have q1 := hb.b2.c1
  have q2 := hb.b2.c2
  have qf := hb.b2.f
  have HB := Lib.hid (And.intro hb hT2)
  clear hb hT2
  go_simp
  obtain ⟨hb, hT2⟩ := HB.out
  clear HB q0 q1 q2 qf
  have hbs := hb.put (.slice tA tn tc) (.int .i64 tm) (.slice tB tn td) hgg
  have HTT := Lib.hid (And.intro (done_tile (u0 := .slice tA tn tc) (u1 := .int .i64 tm) (u2 := .slice tB tn td) hT2) (And.intro (hb.done hgg (x0 := .slice tA tn tc) (x1 := .int .i64 tm) (x2 := .slice tB tn td)) hbs))
  clear hb hT2
  have HBS := Lib.hid hbs
  refine hK.out _ _ _ (fun _ h => h) ⟨hbs.b0.c0, hbs.b0.c1, hbs.b1.c0, hbs.b1.c1⟩ ?_
  clear hbs
  clear hK K
  try simp only [Act.put, List.setIfInBounds_toArray, List.set_cons_zero, List.set_cons_succ]
  refine Lex.step_take (.int .i64 0) dr11 rfl (Lex.want_none rfl) (by intro Wx hSw; (try dsimp only at hSw); go_simp; (try (first | (with_reducible rfl) | assumption | rfl))) ?_
  simp only [Act.put, List.setIfInBounds_toArray, List.set_cons_zero, List.set_cons_succ]
  obtain ⟨hT2, hbb, hbs⟩ := HTT.out
  refine NoPanic.normal ?_
  clear HTT HBS hgg
  have HTT := Lib.hid (And.intro hT2 (And.intro hbb hbs))
  clear hT2 hbb hbs
  go_wp2
  refine bodyPost_ret (p_res2 rfl _ _ w2.heap.size _ _ _ rfl HTT.out.2.2.b2.c0 HTT.out.2.2.b2.c1 HTT.out.2.2.b2.c2) rfl ?_
  rw [HT.out.2.2] at HLX
  exact HP.out ⟨tA, tn, tc, tm, tB, td⟩ _ _ HLX.out HTT.out.1 HTT.out.2.1


set_option maxRecDepth 20000 in
set_option maxHeartbeats 3200000 in
theorem add_any {row : List V} (A2 : Option Addr) (n2 cp2 lo2 : Nat) (hX : ∀ b, w.heap.size ≤ b → X b) (hS : HasSch w A mc cp nm cs) (hT : HasT cs w X t r) (hv : Ro.HasV w lo2 A2 row) (hn : row.length = n2) (hc2 : n2 ≤ cp2) (h9 : n2 ≤ 9223372036854775807) (hok : ∀ v ∈ row, v.Ok) :
  Calls Tryd.prog 33 #[.agg #[.string nm, .slice A mc cp], t.v, .slice A2 n2 cp2] w (TilePost2 cs X (addR cs r row) w) := by
 have hP := fun (t : TV) (W : World) (x : R × Int × Int) (e : addR cs r row = x) (h1 : HasT cs W X t x.1) (h2 : Below w.heap.size w W) => (show TilePost2 cs X (addR cs r row) w (.returned (.tuple #[t.v, .int .i64 x.2.1, .int .i64 x.2.2])) W from ⟨t, by rw [e], by rw [e]; exact h1, h2⟩)
 have hTi0 := add_tile (row := row) hS.r hT.ok hok
 generalize TilePost2 cs X (addR cs r row) w = post at hP ⊢
 have HP := Lib.hid hP
 clear hP
 obtain ⟨l0, f, M⟩ := r
 obtain ⟨At, n, c0, m, Bt, d⟩ := t
 have hm : m = liveN f := hT.m
 unfold TV.v
 simp only
 have hcs8 : cs.length ≤ 8 := hT.ok.s.n8
 obtain ⟨w1, w2, w3, hw1, hw2, hw3, HG, hb⟩ := Bs.start w mc cp nm A (.slice At n c0) (.int .i64 m) (.slice Bt n d)
 have hgg := HG.out
 have hT' : HasT cs w (fun b => X b ∧ b ≠ w2.heap.size) ⟨At, n, c0, m, Bt, d⟩ ⟨l0, f, M⟩ := hT.old (fun b hb => by omega)
 have hcC := fun (W : World) (h : Below w.heap.size w W) => check_any A A2 cp cp2 nm cs row 0 lo2 W (hS.below h (Nat.le_refl _)).c (hv.below h (Nat.le_refl _)) (by omega) (by omega)
 rw [hS.n, hn] at hcC
 have hcF := fun (W : World) (h : Below w.heap.size w W) => free_any (w := W) (hT.below h (Nat.le_refl _))
 have hcR := fun (W : World) (h : Below w.heap.size w W) => readRows_any (w := W) (hS.below h (Nat.le_refl _)) (hT.below h (Nat.le_refl _))
 unfold TV.v at hcR hcF
 simp only at hcR hcF
 have HT := Lib.hid (And.intro hT' (And.intro hT.ok hS.n))
 have a0 := hb.b0.c0
 have a1 := hb.b0.c1
 have HGG := Lib.hid hgg
 have HB0 := Lib.hid hb
 obtain ⟨er, her⟩ : ∃ er, Ro.checkE cs row = er := ⟨_, rfl⟩
 rw [her] at hcC
 by_cases h0 : er = 0
 ·subst h0
  cases hfr : freeO f with
  | none =>
   have hfi : freeI f = -1 := by unfold freeI; rw [hfr]
   rw [hfi] at hcF
   have HLX : Hid (addR cs ⟨l0, f, M⟩ row = (⟨l0, f, M⟩, 0, 9)) := Lib.hid (by unfold addR; rw [if_neg (by rw [her]; decide)]; simp only; rw [hfr])
   clear hfi hfr her hT hT' hS hX hm hcs8 hb hgg hTi0 hcR hv hn hok
   go_enter Tryd.func33, Tryd.ntmps33
   go_wp2_with fail
   clear hw1 hw2 hw3 a0 a1
   have hb := HB0.out
   clear HB0
   refine (hcC _ hb.b).mono ?_
   rintro e w4 ⟨rfl, hy⟩
   have hb := hb.below hy
   clear hcC hy
   have c0' := hb.b1.c0
   have c1' := hb.b1.c1
   have c2' := hb.b1.c2
   go_wp2_with fail
   refine (hcF _ hb.b).mono ?_
   rintro e w5 ⟨rfl, hy⟩
   have hb := hb.below hy
   clear hcF hy c0' c1' c2'
   have c0' := hb.b1.c0
   have c1' := hb.b1.c1
   have c2' := hb.b1.c2
   have q0 := hb.b2.c0
   have q1 := hb.b2.c1
   have q2 := hb.b2.c2
   have qf := hb.b2.f
   have hbs := Lib.hid (hb.put (.slice At n c0) (.int .i64 m) (.slice Bt n d) HGG.out)
   have HTT := Lib.hid (And.intro (done_tile (u0 := .slice At n c0) (u1 := .int .i64 m) (u2 := .slice Bt n d) (HT.out.1.below hb.b (Nat.le_refl _))) (hb.done HGG.out (x0 := .slice At n c0) (x1 := .int .i64 m) (x2 := .slice Bt n d)))
   clear hb
   go_wp2
   refine bodyPost_ret (p_res3 rfl _ _ w2.heap.size _ _ _ rfl hbs.out.b2.c0 hbs.out.b2.c1 hbs.out.b2.c2) rfl ?_
   exact HP.out ⟨At, n, c0, m, Bt, d⟩ _ (⟨l0, f, M⟩, 0, 9) HLX.out HTT.out.1 HTT.out.2
  | some j =>
   obtain ⟨hj8, hsf, _⟩ := free_some hfr
   have hfi : freeI f = (j : Int) := by unfold freeI; rw [hfr]
   rw [hfi] at hcF
   have hlx : addR cs ⟨l0, f, M⟩ row = (⟨l0, (fun i => if i = j then true else f i), M.set j row⟩, (j : Int), 0) := by unfold addR; rw [if_neg (by rw [her]; decide)]; simp only; rw [hfr]
   rw [hlx] at hTi0
   have HLX := Lib.hid hlx
   have hcl := fun (W : World) (lo Rb : Nat) (hb : Below w.heap.size w W) (hlt : w2.heap.size < W.heap.size) (hVV : HasVV W lo (some ⟨Rb, 0, none⟩) (M.set j row)) => laid_any (w := W) (X := fun b => X b ∧ b ≠ w2.heap.size) (f := fun i => if i = j then true else f i) At (some ⟨Rb, 0, none⟩) n c0 8 lo (hT'.tab.below hb (Nat.le_refl _)) hT'.x0 (fun b hb' => ⟨hX b (by have := hb.size; omega), by omega⟩) (hS.below hb (Nat.le_refl _)) (hT'.sp.ll.below hb (Nat.le_refl _)) hT'.n hVV hTi0
   have e7 := live_or f hj8 hsf
   rw [← hm] at e7
   obtain ⟨m2, hm2⟩ : ∃ m2, liveN (fun i => if i = j then true else f i) = m2 := ⟨_, rfl⟩
   rw [hm2] at e7 hcl
   have hcb := fun W : World => bit_any hj8 W
   generalize 2 ^ j = zb at e7 hcb
   have HHV := Lib.hid (And.intro hv hn)
   have hrne : row ≠ [] := fun e => by
    have h1 := her
    rw [Ro.check_ok] at h1
    have h1 := h1.1
    have h2 : 1 ≤ cs.length := hT.ok.s.n1
    rw [e] at h1
    simp at h1
    omega
   have HRN := Lib.hid hrne
   clear hfi hfr hrne her hT hT' hS hX hm hcs8 hb hgg hTi0 hsf hlx hm2 hok hv hn
   have k0 : ¬ (j : Int) < 0 := by omega
   go_enter Tryd.func33, Tryd.ntmps33
   go_wp2_with fail
   clear hw1 hw2 hw3 a0 a1
   have hb := HB0.out
   clear HB0
   refine (hcC _ hb.b).mono ?_
   rintro e w4 ⟨rfl, hy⟩
   have hb := hb.below hy
   clear hcC hy
   have c0' := hb.b1.c0
   have c1' := hb.b1.c1
   have c2' := hb.b1.c2
   go_wp2_with fail
   refine (hcF _ hb.b).mono ?_
   rintro e w4b ⟨rfl, hy⟩
   have hb := hb.below hy
   clear hcF hy c0' c1' c2'
   have a0 := hb.b0.c0
   have a1 := hb.b0.c1
   have c0' := hb.b1.c0
   have c1' := hb.b1.c1
   have c2' := hb.b1.c2
   go_wp2_with fail
   refine (hcR _ hb.b).mono ?_
   rintro e w5 ⟨os, Rb, rfl, hos, hRw, hy⟩
   have hgR : w2.heap.size < Rb := Nat.lt_of_lt_of_le hb.b2.lt hRw.lt.1
   have hRl := hRw.lt.1
   have hbz := hb.b.size
   have hb := hb.below hy
   clear hcR hy a0 a1 c0' c1' c2'
   have hx : os[j]? = some (os[j]'(by have := hRw.len; omega)) := List.getElem?_eq_getElem _
   generalize (os[j]'(by have := hRw.len; omega)) = x at hx
   have e0 := hRw.row.cellAt j (by omega)
   rw [List.getElem?_map, hx] at e0
   have e1 : w5.cell? ⟨Rb, j, none⟩ = some (.slice (some ⟨x.b, 0, none⟩) x.l.length x.cp) := e0
   have ef := hRw.row.frozenAt j
   have hVV := hRw.setRow (j := j) ((HHV.out.1).below hb.b (Nat.le_refl _)) HHV.out.2 hc2 (fun b o s e => by
    obtain ⟨b', o', eA, _, hlt', _⟩ := HHV.out.1 HRN.out
    rw [eA] at e
    injection e with e
    injection e with e2 _ _
    omega)
   rw [hos] at hVV
   have hb := hb.set HGG.out (p := ⟨Rb, j, none⟩) hgR (.slice A2 n2 cp2)
   have j1 : (j : Int) < 8 := by omega
   have j0 : (0 : Int) ≤ (j : Int) := by omega
   have HV := Lib.hid (And.intro hVV hb)
   clear hx e0 hRw hos hb hVV hgR hRl hbz
   go_wp2
   obtain ⟨hVV, hb⟩ := HV.out
   clear HV e1 ef
   generalize w5.setCell ⟨Rb, j, none⟩ (.slice A2 n2 cp2) = y0 at hVV hb ⊢
   have hcl := fun (W : World) (lo : Nat) (hb : Below w.heap.size w W) (hlt : w2.heap.size < W.heap.size) (hVV : HasVV W lo (some ⟨Rb, 0, none⟩) (M.set j row)) => hcl W lo Rb hb hlt hVV
   have hgg := HGG.out
   refine Lex.region_lex (ops := adops) (calls := adcalls) adord (fun W => W.cell? ⟨w.heap.size, 0, none⟩ = some (.string nm) ∧ W.cell? ⟨w.heap.size, 1, none⟩ = some (.slice A mc cp) ∧ W.cell? ⟨w1.heap.size, 0, none⟩ = some (.slice At n c0) ∧ W.cell? ⟨w1.heap.size, 1, none⟩ = some (.int .i64 (m : Int))) (by kernel_rfl) (by kernel_rfl) adsel (by kernel_rfl) (by kernel_rfl) adlex (⟨hb.b0.c0, hb.b0.c1, hb.b1.c0, hb.b1.c1⟩) ?_
   unfold adord
   have hb := hb.below (Below.refl y0.heap.size y0).drew
   have hVV := hVV.below (Below.refl y0.heap.size y0).drew (Nat.le_refl _)
   generalize y0.drew = wd at hb hVV ⊢
   refine Lex.step_take (.agg #[.string nm, .slice A mc cp]) ad0 rfl (Lex.want_none rfl) (by intro Wx hSw; (try dsimp only at hSw); go_simp; (try (first | (with_reducible rfl) | assumption | rfl))) ?_
   simp only [Act.put, List.setIfInBounds_toArray, List.set_cons_zero, List.set_cons_succ]
   refine Lex.step_take (.pointer (some ⟨w1.heap.size, 0, none⟩)) ad1 rfl (Lex.want_none rfl) (by intro Wx hSw; (try dsimp only at hSw); go_simp; (try (first | (with_reducible rfl) | assumption | rfl))) ?_
   simp only [Act.put, List.setIfInBounds_toArray, List.set_cons_zero, List.set_cons_succ]
   refine Lex.step_take (.slice At n c0) ad2 rfl (Lex.want_none rfl) (by intro Wx hSw; (try dsimp only at hSw); go_simp; (try (first | (with_reducible rfl) | assumption | rfl))) ?_
   simp only [Act.put, List.setIfInBounds_toArray, List.set_cons_zero, List.set_cons_succ]
   refine Lex.step_take (.pointer (some ⟨w1.heap.size, 1, none⟩)) ad3 rfl (Lex.want_none rfl) (by intro Wx hSw; (try dsimp only at hSw); go_simp; (try (first | (with_reducible rfl) | assumption | rfl))) ?_
   simp only [Act.put, List.setIfInBounds_toArray, List.set_cons_zero, List.set_cons_succ]
   refine Lex.step_take (.int .i64 (m : Int)) ad4 rfl (Lex.want_none rfl) (by intro Wx hSw; (try dsimp only at hSw); go_simp; (try (first | (with_reducible rfl) | assumption | rfl))) ?_
   simp only [Act.put, List.setIfInBounds_toArray, List.set_cons_zero, List.set_cons_succ]
   refine Lex.step_take (.int .i64 (j : Int)) ad5 rfl (Lex.want_none rfl) (by intro Wx hSw; (try dsimp only at hSw); go_simp; (try (first | (with_reducible rfl) | assumption | rfl))) ?_
   simp only [Act.put, List.setIfInBounds_toArray, List.set_cons_zero, List.set_cons_succ]
   refine Lex.step_take (.slice (some ⟨Rb, 0, none⟩) 8 8) ad8 rfl (Lex.want_none rfl) (by intro Wx hSw; (try dsimp only at hSw); go_simp; (try (first | (with_reducible rfl) | assumption | rfl))) ?_
   simp only [Act.put, List.setIfInBounds_toArray, List.set_cons_zero, List.set_cons_succ]
   refine Lex.step_take (.int .i64 (j : Int)) ad10 rfl (Lex.want_none rfl) (by intro Wx hSw; (try dsimp only at hSw); go_simp; (try (first | (with_reducible rfl) | assumption | rfl))) ?_
   simp only [Act.put, List.setIfInBounds_toArray, List.set_cons_zero, List.set_cons_succ]
   refine Lex.step_call ad6 rfl (Lex.want_none rfl) (fun K hK => ?_)
   go_simp
   refine (hcb _).mono ?_
   rintro e y1 ⟨rfl, rfl⟩
   clear hcb
   refine hK.out _ _ _ (fun _ h => h) ⟨hb.b0.c0, hb.b0.c1, hb.b1.c0, hb.b1.c1⟩ ?_
   clear hK K
   try simp only [Act.put, List.setIfInBounds_toArray, List.set_cons_zero, List.set_cons_succ]
   refine Lex.step_take (.int .i64 (m2 : Int)) ad7 rfl (Lex.want_none rfl) (by intro Wx hSw; (try dsimp only at hSw); go_simp; (try (first | (with_reducible rfl) | assumption | rfl))) ?_
   simp only [Act.put, List.setIfInBounds_toArray, List.set_cons_zero, List.set_cons_succ]
   refine Lex.step_call ad9 rfl (Lex.want_none rfl) (fun K hK => ?_)
   go_simp
   refine (hcl _ _ hb.b hb.b2.lt hVV).mono ?_
   rintro e y2 ⟨⟨tA, tn, tc, tm, tB, td⟩, rfl, hT2, hy2⟩
   have hb := hb.below hy2
   clear hcl hVV hy2
   unfold TV.v
   simp only
   refine hK.out _ _ _ (fun _ h => h) ⟨hb.b0.c0, hb.b0.c1, hb.b1.c0, hb.b1.c1⟩ ?_
   clear hK K
   try simp only [Act.put, List.setIfInBounds_toArray, List.set_cons_zero, List.set_cons_succ]
   refine Lex.step_call ad11 rfl (Lex.want_none rfl) (fun K hK => ?_)
   have q0 := hb.b2.c0
   have q1 := hb.b2.c1
   have q2 := hb.b2.c2
   have qf := hb.b2.f
   have HB := Lib.hid (And.intro hb hT2)
   clear hb hT2
   go_simp
   obtain ⟨hb, hT2⟩ := HB.out
   clear HB q0 q1 q2 qf
   have hbs := hb.put (.slice tA tn tc) (.int .i64 tm) (.slice tB tn td) hgg
   have HTT := Lib.hid (And.intro (done_tile (u0 := .slice tA tn tc) (u1 := .int .i64 tm) (u2 := .slice tB tn td) hT2) (And.intro (hb.done hgg (x0 := .slice tA tn tc) (x1 := .int .i64 tm) (x2 := .slice tB tn td)) hbs))
   clear hb hT2
   have HBS := Lib.hid hbs
   refine hK.out _ _ _ (fun _ h => h) ⟨hbs.b0.c0, hbs.b0.c1, hbs.b1.c0, hbs.b1.c1⟩ ?_
   clear hbs
   clear hK K
   try simp only [Act.put, List.setIfInBounds_toArray, List.set_cons_zero, List.set_cons_succ]
   refine Lex.step_take (.int .i64 (j : Int)) ad12 rfl (Lex.want_none rfl) (by intro Wx hSw; (try dsimp only at hSw); go_simp; (try (first | (with_reducible rfl) | assumption | rfl))) ?_
   simp only [Act.put, List.setIfInBounds_toArray, List.set_cons_zero, List.set_cons_succ]
   refine Lex.step_take (.int .i64 0) ad13 rfl (Lex.want_none rfl) (by intro Wx hSw; (try dsimp only at hSw); go_simp; (try (first | (with_reducible rfl) | assumption | rfl))) ?_
   simp only [Act.put, List.setIfInBounds_toArray, List.set_cons_zero, List.set_cons_succ]
   obtain ⟨hT2, hbb, hbs⟩ := HTT.out
   refine NoPanic.normal ?_
   clear HTT HBS hgg
   have HTT := Lib.hid (And.intro hT2 (And.intro hbb hbs))
   clear hT2 hbb hbs
   go_wp2
   refine bodyPost_ret (p_res3 rfl _ _ w2.heap.size _ _ _ rfl HTT.out.2.2.b2.c0 HTT.out.2.2.b2.c1 HTT.out.2.2.b2.c2) rfl ?_
   exact HP.out ⟨tA, tn, tc, tm, tB, td⟩ _ _ HLX.out HTT.out.1 HTT.out.2.1
 ·have HLX : Hid (addR cs ⟨l0, f, M⟩ row = (⟨l0, f, M⟩, 0, er)) := Lib.hid (by unfold addR; rw [if_pos (by rw [her]; exact h0), her])
  have h0' : (er != 0) = true := bne_iff_ne.2 h0
  clear her hT hT' hS hX hm hcs8 hb hgg hTi0 hcR hcF hv hn hok
  go_enter Tryd.func33, Tryd.ntmps33
  go_wp2_with fail
  clear hw1 hw2 hw3 a0 a1
  have hb := HB0.out
  clear HB0
  refine (hcC _ hb.b).mono ?_
  rintro e w4 ⟨rfl, hy⟩
  have hb := hb.below hy
  clear hcC hy
  have c0' := hb.b1.c0
  have c1' := hb.b1.c1
  have c2' := hb.b1.c2
  have q0 := hb.b2.c0
  have q1 := hb.b2.c1
  have q2 := hb.b2.c2
  have qf := hb.b2.f
  have hbs := Lib.hid (hb.put (.slice At n c0) (.int .i64 m) (.slice Bt n d) HGG.out)
  have HTT := Lib.hid (And.intro (done_tile (u0 := .slice At n c0) (u1 := .int .i64 m) (u2 := .slice Bt n d) (HT.out.1.below hb.b (Nat.le_refl _))) (hb.done HGG.out (x0 := .slice At n c0) (x1 := .int .i64 m) (x2 := .slice Bt n d)))
  clear hb
  go_wp2
  refine bodyPost_ret (p_res3 rfl _ _ w2.heap.size _ _ _ rfl hbs.out.b2.c0 hbs.out.b2.c1 hbs.out.b2.c2) rfl ?_
  exact HP.out ⟨At, n, c0, m, Bt, d⟩ _ (⟨l0, f, M⟩, 0, er) HLX.out HTT.out.1 HTT.out.2

set_option maxRecDepth 20000 in
set_option maxHeartbeats 6400000 in
theorem set_any (s c : Int) (v : V) (hX : ∀ b, w.heap.size ≤ b → X b) (hS : HasSch w A mc cp nm cs) (hT : HasT cs w X t r) (h0 : -9223372036854775808 ≤ s) (h1 : s ≤ 9223372036854775807) (h2 : -9223372036854775808 ≤ c) (h3 : c ≤ 9223372036854775807) (hv : v.Ok) :
  Calls Tryd.prog 36 #[.agg #[.string nm, .slice A mc cp], t.v, .int .i64 s, .int .i64 c, v.v] w (TilePost1 cs X (setR cs r s c v) w) := by
 have _ := h2
 have _ := h3
 have hP := fun (t : TV) (W : World) (x : R × Int) (e : setR cs r s c v = x) (h1 : HasT cs W X t x.1) (h2 : Below w.heap.size w W) => (show TilePost1 cs X (setR cs r s c v) w (.returned (.tuple #[t.v, .int .i64 x.2])) W from ⟨t, by rw [e], by rw [e]; exact h1, h2⟩)
 have hTi0 := set_tile (s := s) (c := c) hS.r hT.ok hv
 generalize TilePost1 cs X (setR cs r s c v) w = post at hP ⊢
 have HP := Lib.hid hP
 clear hP
 obtain ⟨l0, f, M⟩ := r
 obtain ⟨At, n, c0, m, Bt, d⟩ := t
 obtain ⟨vk, vn, vs⟩ := v
 have hm : m = liveN f := hT.m
 unfold TV.v
 simp only
 have hcs8 : cs.length ≤ 8 := hT.ok.s.n8
 have hz1' : w.heap.size < (w.alloc (.cells #[.string nm, .slice A mc cp] 24)).heap.size := by simp
 have hb1 := (Below.refl w.heap.size w).alloc (Nat.le_refl _) (.cells #[.string nm, .slice A mc cp] 24)
 have hx0 := Box2.new w (.string nm) (.slice A mc cp) 24
 generalize hw1 : w.alloc (.cells #[.string nm, .slice A mc cp] 24) = w1 at hb1 hx0 hz1'
 have hb2 := hb1.alloc hb1.size (.cells #[.slice At n c0, .int .i64 m, .slice Bt n d] 32)
 have hx1 := Sc.Box3.new w1 (.slice At n c0) (.int .i64 m) (.slice Bt n d) 32
 have hx0 := hx0.alloc (.cells #[.slice At n c0, .int .i64 m, .slice Bt n d] 32)
 generalize hw2 : w1.alloc (.cells #[.slice At n c0, .int .i64 m, .slice Bt n d] 32) = w2 at hb2 hx0 hx1
 have hz2' := hx1.lt
 have hb3 := hb2.alloc hb2.size (.cells #[.int .i64 vk, .int .i64 vn, .string vs] 37)
 have hv2 := Sc.Box3.new w2 (.int .i64 vk) (.int .i64 vn) (.string vs) 37
 have hx0 := hx0.alloc (.cells #[.int .i64 vk, .int .i64 vn, .string vs] 37)
 have hx1 := hx1.alloc (.cells #[.int .i64 vk, .int .i64 vn, .string vs] 37)
 generalize hw3 : w2.alloc (.cells #[.int .i64 vk, .int .i64 vn, .string vs] 37) = w3 at hb3 hx0 hx1 hv2
 have hz3' := hv2.lt
 have hb4 := hb3.alloc hb3.size (.cells #[.slice none 0 0, .int .i64 0, .slice none 0 0] 32)
 have hx2 := Sc.Box3.new w3 (.slice none 0 0) (.int .i64 0) (.slice none 0 0) 32
 have hx0 := hx0.alloc (.cells #[.slice none 0 0, .int .i64 0, .slice none 0 0] 32)
 have hx1 := hx1.alloc (.cells #[.slice none 0 0, .int .i64 0, .slice none 0 0] 32)
 have hv2 := hv2.alloc (.cells #[.slice none 0 0, .int .i64 0, .slice none 0 0] 32)
 generalize hw4 : w3.alloc (.cells #[.slice none 0 0, .int .i64 0, .slice none 0 0] 32) = w4 at hb4 hx0 hx1 hv2 hx2
 have hb : Bs w w1.heap.size w3.heap.size mc cp nm A (.slice At n c0) (.int .i64 m) (.slice Bt n d) (.slice none 0 0) (.int .i64 0) (.slice none 0 0) w4 := ⟨hx0, hx1, hx2, hb4⟩
 have hgg : w.heap.size < w1.heap.size ∧ w1.heap.size < w3.heap.size := ⟨hz1', by omega⟩
 have hT' : HasT cs w (fun b => X b ∧ b ≠ w3.heap.size) ⟨At, n, c0, m, Bt, d⟩ ⟨l0, f, M⟩ := hT.old (fun b hb => by omega)
 have hcT := fun (W : World) (h : Below w.heap.size w W) => taken_any (w := W) s (hT.below h (Nat.le_refl _)) h0 h1
 have hcR := fun (W : World) (h : Below w.heap.size w W) => readRows_any (w := W) (hS.below h (Nat.le_refl _)) (hT.below h (Nat.le_refl _))
 unfold TV.v at hcR hcT
 simp only at hcR hcT
 have HT := Lib.hid (And.intro hT' (And.intro hT.ok hS.n))
 have a0 := hb.b0.c0
 have a1 := hb.b0.c1
 have c0' := hb.b1.c0
 have c1' := hb.b1.c1
 have c2' := hb.b1.c2
 have HGG := Lib.hid hgg
 have HB0 := Lib.hid (And.intro hb hv2)
 have hnc := hS.n
 clear hx0 hx1 hx2 hb1 hb2 hb3 hb4 hz2'
 cases htk : takenB ⟨l0, f, M⟩ s with
 | false =>
  have HLX : Hid (setR cs ⟨l0, f, M⟩ s c ⟨vk, vn, vs⟩ = (⟨l0, f, M⟩, 3)) := Lib.hid (by unfold setR; rw [if_neg (fun h => by rw [htk] at h; cases h.1)])
  rw [htk] at hcT
  clear htk hT hT' hS hX hm hcs8 h0 h1 hb hgg hTi0 hcR hv hv2 hz1' hz3'
  go_enter Tryd.func36, Tryd.ntmps36
  go_wp2_with fail
  clear hw1 hw2 hw3 hw4 a0 a1 c0' c1' c2'
  have hb := HB0.out.1
  clear HB0
  refine (hcT _ hb.b).mono ?_
  rintro e w5 ⟨rfl, hy⟩
  have hb := hb.below hy
  clear hcT hy
  have c0' := hb.b1.c0
  have c1' := hb.b1.c1
  have c2' := hb.b1.c2
  have q0 := hb.b2.c0
  have q1 := hb.b2.c1
  have q2 := hb.b2.c2
  have qf := hb.b2.f
  have hbs := Lib.hid (hb.put (.slice At n c0) (.int .i64 m) (.slice Bt n d) HGG.out)
  have HTT := Lib.hid (And.intro (done_tile (u0 := .slice At n c0) (u1 := .int .i64 m) (u2 := .slice Bt n d) (HT.out.1.below hb.b (Nat.le_refl _))) (hb.done HGG.out (x0 := .slice At n c0) (x1 := .int .i64 m) (x2 := .slice Bt n d)))
  clear hb
  go_wp2
  refine bodyPost_ret (p_res2 rfl _ _ w3.heap.size _ _ _ rfl hbs.out.b2.c0 hbs.out.b2.c1 hbs.out.b2.c2) rfl ?_
  exact HP.out ⟨At, n, c0, m, Bt, d⟩ _ (⟨l0, f, M⟩, 3) HLX.out HTT.out.1 HTT.out.2
 | true =>
  rw [htk] at hcT
  by_cases hc0 : c < 0
  ·have HLX : Hid (setR cs ⟨l0, f, M⟩ s c ⟨vk, vn, vs⟩ = (⟨l0, f, M⟩, 3)) := Lib.hid (by unfold setR; rw [if_neg (fun h => by have := h.2.1; omega)])
   clear htk hT hT' hS hX hm hcs8 h0 h1 hb hgg hTi0 hcR hv hv2 hz1' hz3'
   go_enter Tryd.func36, Tryd.ntmps36
   go_wp2_with fail
   clear hw1 hw2 hw3 hw4 a0 a1 c0' c1' c2'
   have hb := HB0.out.1
   clear HB0
   refine (hcT _ hb.b).mono ?_
   rintro e w5 ⟨rfl, hy⟩
   have hb := hb.below hy
   clear hcT hy
   have c0' := hb.b1.c0
   have c1' := hb.b1.c1
   have c2' := hb.b1.c2
   have q0 := hb.b2.c0
   have q1 := hb.b2.c1
   have q2 := hb.b2.c2
   have qf := hb.b2.f
   have hbs := Lib.hid (hb.put (.slice At n c0) (.int .i64 m) (.slice Bt n d) HGG.out)
   have HTT := Lib.hid (And.intro (done_tile (u0 := .slice At n c0) (u1 := .int .i64 m) (u2 := .slice Bt n d) (HT.out.1.below hb.b (Nat.le_refl _))) (hb.done HGG.out (x0 := .slice At n c0) (x1 := .int .i64 m) (x2 := .slice Bt n d)))
   clear hb
   go_wp2
   refine bodyPost_ret (p_res2 rfl _ _ w3.heap.size _ _ _ rfl hbs.out.b2.c0 hbs.out.b2.c1 hbs.out.b2.c2) rfl ?_
   exact HP.out ⟨At, n, c0, m, Bt, d⟩ _ (⟨l0, f, M⟩, 3) HLX.out HTT.out.1 HTT.out.2
  by_cases hc1 : (mc : Int) ≤ c
  ·have HLX : Hid (setR cs ⟨l0, f, M⟩ s c ⟨vk, vn, vs⟩ = (⟨l0, f, M⟩, 3)) := Lib.hid (by unfold setR; rw [if_neg (fun h => by have := h.2.2; omega)])
   clear htk hT hT' hS hX hm hcs8 h0 h1 hb hgg hTi0 hcR hv hv2 hz1' hz3'
   go_enter Tryd.func36, Tryd.ntmps36
   go_wp2_with fail
   clear hw1 hw2 hw3 hw4 a0 a1 c0' c1' c2'
   have hb := HB0.out.1
   clear HB0
   refine (hcT _ hb.b).mono ?_
   rintro e w5 ⟨rfl, hy⟩
   have hb := hb.below hy
   clear hcT hy
   have a1 := hb.b0.c1
   have c0' := hb.b1.c0
   have c1' := hb.b1.c1
   have c2' := hb.b1.c2
   have q0 := hb.b2.c0
   have q1 := hb.b2.c1
   have q2 := hb.b2.c2
   have qf := hb.b2.f
   have hbs := Lib.hid (hb.put (.slice At n c0) (.int .i64 m) (.slice Bt n d) HGG.out)
   have HTT := Lib.hid (And.intro (done_tile (u0 := .slice At n c0) (u1 := .int .i64 m) (u2 := .slice Bt n d) (HT.out.1.below hb.b (Nat.le_refl _))) (hb.done HGG.out (x0 := .slice At n c0) (x1 := .int .i64 m) (x2 := .slice Bt n d)))
   clear hb
   go_wp2
   refine bodyPost_ret (p_res2 rfl _ _ w3.heap.size _ _ _ rfl hbs.out.b2.c0 hbs.out.b2.c1 hbs.out.b2.c2) rfl ?_
   exact HP.out ⟨At, n, c0, m, Bt, d⟩ _ (⟨l0, f, M⟩, 3) HLX.out HTT.out.1 HTT.out.2
  obtain ⟨s0, s8, _⟩ := taken_in htk
  obtain ⟨j, rfl⟩ : ∃ j : Nat, s = (j : Int) := ⟨s.toNat, by omega⟩
  obtain ⟨cn, rfl⟩ : ∃ cn : Nat, c = (cn : Int) := ⟨c.toNat, by omega⟩
  have hj8 : j < 8 := by omega
  have hcn : cn < mc := by omega
  obtain ⟨x, hx⟩ : ∃ x, cs[cn]? = some x := ⟨_, List.getElem?_eq_getElem (by omega)⟩
  obtain ⟨ca, co, eA, _, _, hcc⟩ := hS.c (fun e => by rw [e] at hx; simp at hx)
  obtain ⟨g0', g1', g2'⟩ := hcc cn x hx
  have hcf := fun W : World => Ro.fits_any x ⟨vk, vn, vs⟩ W
  obtain ⟨er, her⟩ : ∃ er, Ro.fitsE x ⟨vk, vn, vs⟩ = er := ⟨_, rfl⟩
  rw [her] at hcf
  have hset : setR cs ⟨l0, f, M⟩ (j : Int) (cn : Int) ⟨vk, vn, vs⟩ = if er = 0 then (⟨l0, f, setM M j cn ⟨vk, vn, vs⟩⟩, 0) else (⟨l0, f, M⟩, er) := by
   unfold setR
   rw [if_pos ⟨htk, by omega, by omega⟩]
   simp only [Int.toNat_natCast]
   rw [hx]
   simp only
   rw [her]
  subst eA
  obtain ⟨xn, xk, xz⟩ := x
  unfold C.v at hcf
  simp only at hcf g0' g1' g2'
  have F0 := Lib.hid (And.intro g0' (And.intro g1' g2'))
  have HX := Lib.hid (fun (W : World) (lo Rb : Nat) (he : er = 0) (hb : Below w.heap.size w W) (hlt : w3.heap.size < W.heap.size) (hVV : HasVV W lo (some ⟨Rb, 0, none⟩) (setM M j cn ⟨vk, vn, vs⟩)) => laid_any (w := W) (X := fun b => X b ∧ b ≠ w3.heap.size) (f := f) At (some ⟨Rb, 0, none⟩) n c0 8 lo (hT'.tab.below hb (Nat.le_refl _)) hT'.x0 (fun b hb' => ⟨hX b (by have := hb.size; omega), by omega⟩) (hS.below hb (Nat.le_refl _)) (hT'.sp.ll.below hb (Nat.le_refl _)) hT'.n hVV (by
   rw [hset, if_pos he] at hTi0
   exact hTi0))
  rw [← hm] at HX
  have HSET := Lib.hid hset
  have HM := Lib.hid (And.intro (show M.length = 8 from hT.ok.m.len) (show ∀ y ∈ M, y.length = mc from fun y hy => (hT.ok.m.row y hy).trans ((allK_len cs).trans hnc)))
  have hz3 := Lib.hid hz3'
  clear htk hT hT' hS hX hm hcs8 h0 h1 hb hgg hTi0 hv hv2 hz1' hz3' hx hcc g0' g1' g2' s0 s8 hset her
  have k1 : (cn : Int) < (mc : Int) := by omega
  have k0 : (0 : Int) ≤ (cn : Int) := by omega
  go_enter Tryd.func36, Tryd.ntmps36
  go_wp2_with fail
  clear hw1 hw2 hw3 hw4 a0 a1 c0' c1' c2'
  have hb := HB0.out.1
  have hv := HB0.out.2
  clear HB0
  refine (hcT _ hb.b).mono ?_
  rintro e w5 ⟨rfl, hy⟩
  have hb := hb.below hy
  have hv := hv.below hy hv.lt
  clear hcT hy
  have a1 := hb.b0.c1
  go_wp2
  clear a1
  generalize w5 = y0 at hb hv ⊢
  refine Lex.region_lex (ops := seops) (calls := secalls) seord (fun W => W.cell? ⟨w.heap.size, 1, none⟩ = some (.slice (some ⟨ca, co, none⟩) mc cp) ∧ W.cell? ⟨ca, co + cn * 3, none⟩ = some (.string xn) ∧ W.cell? ⟨ca, co + cn * 3 + 1, none⟩ = some (.int .i64 xk) ∧ W.cell? ⟨ca, co + cn * 3 + 2, none⟩ = some (.bool xz) ∧ W.cell? ⟨w2.heap.size, 0, none⟩ = some (.int .i64 vk) ∧ W.cell? ⟨w2.heap.size, 1, none⟩ = some (.int .i64 vn) ∧ W.cell? ⟨w2.heap.size, 2, none⟩ = some (.string vs)) (by kernel_rfl) (by kernel_rfl) sesel (by kernel_rfl) (by kernel_rfl) selex (⟨hb.b0.c1, Ro.cell_below hb.b F0.out.1, Ro.cell_below hb.b F0.out.2.1, Ro.cell_below hb.b F0.out.2.2, hv.c0, hv.c1, hv.c2⟩) ?_
  unfold seord
  have hb := hb.below (Below.refl y0.heap.size y0).drew
  have hv := hv.below (Below.refl y0.heap.size y0).drew hv.lt
  generalize y0.drew = wd at hb hv ⊢
  refine Lex.step_take (.pointer (some ⟨w.heap.size, 1, none⟩)) se0 rfl (Lex.want_none rfl) (by intro Wx hSw; (try dsimp only at hSw); go_simp; (try (first | (with_reducible rfl) | assumption | rfl))) ?_
  simp only [Act.put, List.setIfInBounds_toArray, List.set_cons_zero, List.set_cons_succ]
  refine Lex.step_take (.slice (some ⟨ca, co, none⟩) mc cp) se1 rfl (Lex.want_none rfl) (by intro Wx hSw; (try dsimp only at hSw); go_simp; (try (first | (with_reducible rfl) | assumption | rfl))) ?_
  simp only [Act.put, List.setIfInBounds_toArray, List.set_cons_zero, List.set_cons_succ]
  refine Lex.step_take (.int .i64 (cn : Int)) se2 rfl (Lex.want_none rfl) (by intro Wx hSw; (try dsimp only at hSw); go_simp; (try (first | (with_reducible rfl) | assumption | rfl))) ?_
  simp only [Act.put, List.setIfInBounds_toArray, List.set_cons_zero, List.set_cons_succ]
  refine Lex.step_take (.pointer (some ⟨ca, co + cn * 3, none⟩)) se3 rfl (Lex.want_none rfl) (by intro Wx hSw; (try dsimp only at hSw); go_simp; (try (first | (with_reducible rfl) | assumption | rfl))) ?_
  simp only [Act.put, List.setIfInBounds_toArray, List.set_cons_zero, List.set_cons_succ]
  refine Lex.step_take (.agg #[.string xn, .int .i64 xk, .bool xz]) se4 rfl (Lex.want_none rfl) (by intro Wx hSw; (try dsimp only at hSw); go_simp; (try (first | (with_reducible rfl) | assumption | rfl))) ?_
  simp only [Act.put, List.setIfInBounds_toArray, List.set_cons_zero, List.set_cons_succ]
  refine Lex.step_take (.agg #[.int .i64 vk, .int .i64 vn, .string vs]) se5 rfl (Lex.want_none rfl) (by intro Wx hSw; (try dsimp only at hSw); go_simp; (try (first | (with_reducible rfl) | assumption | rfl))) ?_
  simp only [Act.put, List.setIfInBounds_toArray, List.set_cons_zero, List.set_cons_succ]
  refine Lex.step_call se6 rfl (Lex.want_none rfl) (fun K hK => ?_)
  go_simp
  refine (hcf _).mono ?_
  rintro e y1 ⟨rfl, hy1⟩
  have hb := hb.below hy1
  have hv := hv.below hy1 hv.lt
  clear hcf hy1
  refine hK.out _ _ _ (fun _ h => h) ⟨hb.b0.c1, Ro.cell_below hb.b F0.out.1, Ro.cell_below hb.b F0.out.2.1, Ro.cell_below hb.b F0.out.2.2, hv.c0, hv.c1, hv.c2⟩ ?_
  clear hK K
  try simp only [Act.put, List.setIfInBounds_toArray, List.set_cons_zero, List.set_cons_succ]
  refine Lex.step_take (.int .i64 er) se7 rfl (Lex.want_none rfl) (by intro Wx hSw; (try dsimp only at hSw); go_simp; (try (first | (with_reducible rfl) | assumption | rfl))) ?_
  simp only [Act.put, List.setIfInBounds_toArray, List.set_cons_zero, List.set_cons_succ]
  refine NoPanic.normal ?_
  by_cases he : er = 0
  ·subst he
   have HLX : Hid (setR cs ⟨l0, f, M⟩ (j : Int) (cn : Int) ⟨vk, vn, vs⟩ = (⟨l0, f, setM M j cn ⟨vk, vn, vs⟩⟩, 0)) := Lib.hid (by rw [HSET.out, if_pos rfl])
   have a0 := hb.b0.c0
   have a1 := hb.b0.c1
   have c0' := hb.b1.c0
   have c1' := hb.b1.c1
   have c2' := hb.b1.c2
   go_wp2_with fail
   refine (hcR _ hb.b).mono ?_
   rintro e w6 ⟨os, Rb, rfl, hos, hRw, hy⟩
   have hgR : w3.heap.size < y1.heap.size := hb.b2.lt
   have hb := hb.below hy
   have hv := hv.below hy hv.lt
   clear hcR hy a0 a1 c0' c1' c2'
   have hxo : os[j]? = some (os[j]'(by have := hRw.len; omega)) := List.getElem?_eq_getElem _
   generalize (os[j]'(by have := hRw.len; omega)) = x at hxo
   obtain ⟨xb, xc, xl⟩ := x
   have hMj : M[j]? = some xl := by rw [← hos, List.getElem?_map, hxo]; rfl
   have hxl : xl.length = mc := HM.out.2 xl (List.mem_of_getElem? hMj)
   have e0 := hRw.row.cellAt j (by omega)
   rw [List.getElem?_map, hxo] at e0
   have e1 : w6.cell? ⟨Rb, j, none⟩ = some (.slice (some ⟨xb, 0, none⟩) xl.length xc) := e0
   rw [hxl] at e1
   have hold : xl[cn]? = some (xl[cn]'(by omega)) := List.getElem?_eq_getElem _
   generalize (xl[cn]'(by omega)) = ov at hold
   have hxw := hRw.free.own _ (List.mem_of_getElem? hxo)
   have hxb := (hRw.free.lt (List.mem_of_getElem? hxo)).1
   have hlen : (Li.cellsL cellsV xl).length = xl.length * 3 := Li.cellsL_len cellsV_len xl
   have ev : ∀ i < 3, ∀ u, (cellsV ov)[i]? = some u → w6.cell? ⟨xb, cn * 3 + i, none⟩ = some u := fun i hi u hu => by
    rw [hxw.cellAt (cn * 3 + i) (by show cn * 3 + i < xl.length * 3; omega)]
    exact Li.cellsL_at cellsV_len xl cn ov hold i u hu
   have x0 := ev 0 (by decide) _ rfl
   have x1 := ev 1 (by decide) _ rfl
   have x2 := ev 2 (by decide) _ rfl
   have xf : ∀ i, w6.frozen? ⟨xb, i, none⟩ = false := fun i => hxw.frozenAt i
   rw [Nat.add_zero] at x0
   have hRw2 : Rw (Mi.putV w6 xb cn ⟨vk, vn, vs⟩) y1.heap.size Rb (os.set j ⟨xb, xc, xl.set cn ⟨vk, vn, vs⟩⟩) := ⟨Mi.putV_row (x := ⟨xb, xc, xl⟩) hRw.free hxo hRw.row, Mi.putV_free (x := ⟨xb, xc, xl⟩) hRw.free hxo (by show cn < xl.length; omega)⟩
   have hVV := hRw2.vv hRw2.len
   have hsm : (os.set j ⟨xb, xc, xl.set cn ⟨vk, vn, vs⟩⟩).map Li.OG.l = setM M j cn ⟨vk, vn, vs⟩ := by
    rw [List.map_set, hos]
    unfold setM
    rw [hMj]
    rfl
   rw [hsm] at hVV
   have hxb : w3.heap.size < xb := Nat.lt_of_lt_of_le hgR hxb
   have hb2 : Bs w w1.heap.size w3.heap.size mc cp nm (some ⟨ca, co, none⟩) (.slice At n c0) (.int .i64 m) (.slice Bt n d) (.slice none 0 0) (.int .i64 0) (.slice none 0 0) (Mi.putV w6 xb cn ⟨vk, vn, vs⟩) := ((hb.set HGG.out (p := ⟨xb, cn * 3, none⟩) hxb _).set HGG.out (p := ⟨xb, cn * 3 + 1, none⟩) hxb _).set HGG.out (p := ⟨xb, cn * 3 + 2, none⟩) hxb _
   have HV := Lib.hid (And.intro hVV hb2)
   have v0 := hv.c0
   have v1 := hv.c1
   have v2 := hv.c2
   have j1 : (j : Int) < 8 := by omega
   have j0 : (0 : Int) ≤ (j : Int) := by omega
   clear hxo hMj hxl e0 hold hxw hxb hlen ev hRw2 hVV hsm hb2 hb hv hos hRw hgR
   go_wp2_with fail
   go_region
   obtain ⟨hVV, hb⟩ := HV.out
   clear HV x0 x1 x2 xf e1 v0 v1 v2
   unfold Mi.putV at hVV hb
   simp only at hVV hb
   have hVV := hVV.below (Below.refl _ _).drew (Nat.le_refl _)
   have hb := hb.below (Below.refl _ _).drew
   generalize (((w6.setCell ⟨xb, cn * 3, none⟩ (.int .i64 vk)).setCell ⟨xb, cn * 3 + 1, none⟩ (.int .i64 vn)).setCell ⟨xb, cn * 3 + 2, none⟩ (.string vs)).drew = y5 at hVV hb ⊢
   have a0 := hb.b0.c0
   have a1 := hb.b0.c1
   have c0' := hb.b1.c0
   have c1' := hb.b1.c1
   have hcl := fun (W : World) (lo Rb : Nat) => HX.out W lo Rb (by trivial)
   go_wp2_with fail
   refine (hcl _ _ _ hb.b hb.b2.lt hVV).mono ?_
   rintro e w7 ⟨⟨tA, tn, tc, tm, tB, td⟩, rfl, hT2, hy⟩
   have hb := hb.below hy
   clear hcl hy a0 a1 c0' c1' hVV
   unfold TV.v
   simp only
   have q0 := hb.b2.c0
   have q1 := hb.b2.c1
   have q2 := hb.b2.c2
   have qf := hb.b2.f
   have hbs := Lib.hid (hb.put (.slice tA tn tc) (.int .i64 tm) (.slice tB tn td) HGG.out)
   have HTT := Lib.hid (And.intro (done_tile (u0 := .slice tA tn tc) (u1 := .int .i64 tm) (u2 := .slice tB tn td) hT2) (hb.done HGG.out (x0 := .slice tA tn tc) (x1 := .int .i64 tm) (x2 := .slice tB tn td)))
   clear hb hT2
   go_wp2
   refine bodyPost_ret (p_res2 rfl _ _ w3.heap.size _ _ _ rfl hbs.out.b2.c0 hbs.out.b2.c1 hbs.out.b2.c2) rfl ?_
   exact HP.out ⟨tA, tn, tc, tm, tB, td⟩ _ (⟨l0, f, setM M j cn ⟨vk, vn, vs⟩⟩, 0) HLX.out HTT.out.1 HTT.out.2
  ·have HLX : Hid (setR cs ⟨l0, f, M⟩ (j : Int) (cn : Int) ⟨vk, vn, vs⟩ = (⟨l0, f, M⟩, er)) := Lib.hid (by rw [HSET.out, if_neg he])
   have he' : (er != 0) = true := bne_iff_ne.2 he
   clear hcR hv
   have c0' := hb.b1.c0
   have c1' := hb.b1.c1
   have c2' := hb.b1.c2
   have q0 := hb.b2.c0
   have q1 := hb.b2.c1
   have q2 := hb.b2.c2
   have qf := hb.b2.f
   have hbs := Lib.hid (hb.put (.slice At n c0) (.int .i64 m) (.slice Bt n d) HGG.out)
   have HTT := Lib.hid (And.intro (done_tile (u0 := .slice At n c0) (u1 := .int .i64 m) (u2 := .slice Bt n d) (HT.out.1.below hb.b (Nat.le_refl _))) (hb.done HGG.out (x0 := .slice At n c0) (x1 := .int .i64 m) (x2 := .slice Bt n d)))
   clear hb
   go_wp2
   refine bodyPost_ret (p_res2 rfl _ _ w3.heap.size _ _ _ rfl hbs.out.b2.c0 hbs.out.b2.c1 hbs.out.b2.c2) rfl ?_
   exact HP.out ⟨At, n, c0, m, Bt, d⟩ _ (⟨l0, f, M⟩, er) HLX.out HTT.out.1 HTT.out.2

end
end Go.Proofs.YtpnnkhpokangfaaDoor.Ti
