/- Tiles, the document's calls: which places are taken, which is free. -/
import Derived.Test.YtpnnkhpokangfaaDoorTiD
import Derived.Test.YtpnnkhpokangfaaDoorMgB
import Derived.Laws.BitsAllLaws
namespace Go.Proofs.YtpnnkhpokangfaaDoor.Ti
open Go.RowKit Pac Va Sc Mi Sp

/-- A tile in memory, whatever stands in places that aren't taken. -/
structure HasU (cs : List C) (w : World) (X : Nat → Prop) (t : TV) (r : R) : Prop where
 sp : HasSp w X t.A r.l
 mi : HasS w t.B (minis cs r)
 on : On X t.B (minis cs r)
 n : r.l.length = t.n
 c : t.n ≤ t.c
 d : t.n ≤ t.d
 m : t.m = liveN r.f
 s : IsSplit r.l cs.length
 rm : RightM (allK cs) r.M
section
variable {cs : List C} {w w' : World} {X Y : Nat → Prop} {t : TV} {r : R} {B g : Nat}
theorem HasT.u (h : HasT cs w X t r) : HasU cs w X t r := ⟨h.sp, h.mi, h.on, h.n, h.c, h.d, h.m, h.ok.s, h.ok.m⟩
theorem HasU.full (h : HasU cs w X t r) (ht : Tab w) (hx0 : X 1) (z : ∀ (i : Nat) (x : List V), i < 8 → r.f i = false → r.M[i]? = some x → x = List.replicate cs.length vZ) : HasT cs w X t r := ⟨h.sp, h.mi, h.on, h.n, h.c, h.d, h.m, ⟨h.s, h.rm, z⟩, ht, hx0⟩
theorem HasU.below (h : HasU cs w X t r) (hb : Below B w w') (hB : w.heap.size ≤ B) : HasU cs w' X t r :=
 ⟨h.sp.below hb hB, h.mi.below hb hB, h.on, h.n, h.c, h.d, h.m, h.s, h.rm⟩
theorem HasU.bar (h : HasU cs w X t r) (hb : Bar g w w') (hg : ¬ X g) : HasU cs w' X t r :=
 ⟨h.sp.bar hb hg, lbar h.mi h.on hb hg, h.on, h.n, h.c, h.d, h.m, h.s, h.rm⟩
theorem HasU.mono (h : HasU cs w X t r) (hX : ∀ b, X b → Y b) : HasU cs w Y t r :=
 ⟨h.sp.mono hX, h.mi, h.on.mono hX, h.n, h.c, h.d, h.m, h.s, h.rm⟩
theorem HasU.few (h : HasU cs w X t r) : t.n ≤ 8 := by
 have h1 := h.s.few
 have h2 := h.s.n8
 rw [← h.n]
 omega
theorem HasU.lt (h : HasU cs w X t r) : t.m < 256 := by rw [h.m]; exact live_lt _
end
theorem and_one (n : Int) : bits .and .i64 n 1 = n % 2 := by
 have h1 : (BitVec.ofInt 64 1).toNat = 2 ^ 1 - 1 := by decide
 have key : (BitVec.ofInt 64 n &&& BitVec.ofInt 64 1).toNat = (n % ((2 ^ 64 : Nat) : Int)).toNat % 2 ^ 1 := by
  rw [BitVec.toNat_and, BitVec.toNat_ofInt, h1, Nat.and_two_pow_sub_one_eq_mod]
 show IntKind.i64.wrap ((BitVec.ofInt 64 n &&& BitVec.ofInt 64 1).toNat : Nat) = n % 2
 rw [key, IntKind.wrap_i64]
 omega
theorem live_read (f : Nat → Bool) {i : Nat} (hi : i < 8) : (bits .and .i64 ((liveN f : Int) / 2 ^ i) 1 == 1) = f i := by
 have hl := live_lt f
 have e : ((liveN f : Int) / 2 ^ i) = ((liveN f / 2 ^ i : Nat) : Int) := by push_cast; rfl
 have h2 := live_bit f hi
 rw [e, and_one]
 generalize liveN f / 2 ^ i = x at h2 ⊢
 cases hf : f i <;> rw [hf] at h2
 ·exact beq_eq_false_iff_ne.2 (by simp at h2; omega)
 ·exact beq_iff_eq.2 (by simp at h2; omega)

set_option maxRecDepth 20000 in
set_option maxHeartbeats 1600000 in
theorem refTaken_any {cs : List C} {w : World} {X : Nat → Prop} {t : TV} {r : R} (s : Int) (hT : HasU cs w X t r) (h0 : -9223372036854775808 ≤ s) (h1 : s ≤ 9223372036854775807) :
  Calls Tryd.prog 26 #[t.v, .int .i64 s] w fun e w' => e = .returned (.bool (takenB r s)) ∧ Below w.heap.size w w' := by
 have hm := hT.m
 have hm256 := hT.lt
 obtain ⟨A, n, c, m, B, d⟩ := t
 simp only at hm hm256
 have hnew := (Below.refl w.heap.size w).alloc (Nat.le_refl _) (.cells #[.slice A n c, .int .i64 m, .slice B n d] 32)
 have hx0 := Sc.Box3.new w (.slice A n c) (.int .i64 m) (.slice B n d) 32
 have c1 := hx0.c1
 unfold TV.v
 simp only
 by_cases q0 : s < 0
 ·have hR : takenB r s = false := by unfold takenB; rw [decide_eq_false (by omega)]; rfl
  rw [hR]
  clear hT hx0 c1 hm
  go_enter Tryd.func26, Tryd.ntmps26
  go_wp2
  go_ret
  exact ⟨rfl, hnew⟩
 by_cases q8 : 8 ≤ s
 ·have hR : takenB r s = false := by unfold takenB; rw [decide_eq_false (show ¬ s < 8 by omega)]; simp
  rw [hR]
  clear hT hx0 c1 hm
  go_enter Tryd.func26, Tryd.ntmps26
  go_wp2
  go_ret
  exact ⟨rfl, hnew⟩
 obtain ⟨i, rfl⟩ : ∃ i : Nat, s = (i : Int) := ⟨s.toNat, by omega⟩
 have hi : i < 8 := by omega
 have hR : takenB r (i : Int) = r.f i := by
  unfold takenB
  rw [decide_eq_true (by omega), decide_eq_true (by omega), Int.toNat_natCast]
  rfl
 have hb := live_read r.f hi
 rw [hR, ← hm] at *
 generalize r.f i = x at hb ⊢
 have i1 : (i : Int) < 8 := by omega
 have i0 : (0 : Int) ≤ (i : Int) := by omega
 clear hT hx0 hR hm q0 q8
 go_enter Tryd.func26, Tryd.ntmps26
 go_wp2
 go_ret
 exact ⟨rfl, hnew⟩

set_option maxRecDepth 20000 in
set_option maxHeartbeats 1600000 in
theorem refFree_any {cs : List C} {w : World} {X : Nat → Prop} {t : TV} {r : R} (hT : HasU cs w X t r) : Calls Tryd.prog 24 #[t.v] w fun e w' => e = .returned (.int .i64 (freeI r.f)) ∧ Below w.heap.size w w' := by
 have hR : ∀ i : Nat, i < 8 → (∀ j < i, r.f j = true) → r.f i = false → freeI r.f = (i : Int) := fun i hi h1 h2 => by
  unfold freeI
  rw [free_at hi h2 h1]
 have hR8 : (∀ j < 8, r.f j = true) → freeI r.f = -1 := fun h => by
  unfold freeI
  rw [free_all h]
 have HR := Lib.hid (And.intro hR hR8)
 clear hR hR8
 generalize freeI r.f = ans at HR ⊢
 have hnew := (Below.refl w.heap.size w).alloc (Nat.le_refl _) (.cells #[.slice t.A t.n t.c, .int .i64 t.m, .slice t.B t.n t.d] 32)
 have hx0 := Sc.Box3.new w (.slice t.A t.n t.c) (.int .i64 t.m) (.slice t.B t.n t.d) 32
 have hT := hT.below hnew (Nat.le_refl _)
 have hcT := fun (W : World) (h : HasU cs W X t r) (i : Int) h0 h1 => refTaken_any (w := W) (t := t) i h h0 h1
 obtain ⟨A, n, c, m, B, d⟩ := t
 unfold TV.v at hcT ⊢
 simp only at hnew hx0 hcT ⊢
 have HT := Lib.hid hT
 clear hT
 go_enter Tryd.func24, Tryd.ntmps24
 go_wp2
 generalize w.alloc (.cells #[.slice A n c, .int .i64 m, .slice B n d] 32) = w1 at HT hnew hx0 ⊢
 go_loopw [3] (fun i wr => ∃ q : Nat, q ≤ 8 ∧ i = .int .i64 q ∧ Hid (∀ j < q, r.f j = true) ∧ Below w1.heap.size w1 wr) (fun i _ => 8 - (intOf i).toNat)
 case atStart => exact ⟨0, Nat.zero_le _, rfl, Lib.hid (fun j hj => absurd hj (Nat.not_lt_zero j)), Below.refl _ _⟩
 case round =>
  obtain ⟨q, hq, rfl, hH, hB⟩ := hrel
  by_cases hlt : q < 8
  ·have i1 : (q : Int) < 8 := by omega
   have hx := hx0.below hB hx0.lt
   have c0 := hx.c0
   have c1 := hx.c1
   have c2 := hx.c2
   have hc := hcT wr (HT.out.below hB (Nat.le_refl _)) (q : Int) (by omega) (by omega)
   have hR : takenB r (q : Int) = r.f q := by
    unfold takenB
    rw [decide_eq_true (by omega), decide_eq_true (by omega), Int.toNat_natCast]
    rfl
   rw [hR] at hc
   cases hf : r.f q with
   | true =>
    rw [hf] at hc
    have HE : Hid (∀ j < q + 1, r.f j = true) := Lib.hid (fun j hj => by
     by_cases hjq : j < q
     ·exact hH.out j hjq
     ·obtain rfl : j = q := by omega
      exact hf)
    clear hR hf
    go_wp2_with fail
    refine hc.mono ?_
    rintro e w2 ⟨rfl, hw2⟩
    have hB := hB.trans (hw2.mono hB.size)
    clear hc hw2 c0 c1 c2
    go_wp2
    go_roundw
    case rel => exact ⟨q + 1, by omega, by go_num, HE, hB⟩
    case measure => simp [intOf]; omega
   | false =>
    rw [hf] at hc
    have HQ : Hid (ans = (q : Int)) := Lib.hid (HR.out.1 q hlt hH.out hf)
    clear hR hf
    go_wp2_with fail
    refine hc.mono ?_
    rintro e w2 ⟨rfl, hw2⟩
    have hB := hB.trans (hw2.mono hB.size)
    clear hc hw2 c0 c1 c2
    go_wp2
    go_ret
    exact ⟨by rw [HQ.out]; rfl, hnew.trans (hB.mono hnew.size)⟩
  ·obtain rfl : q = 8 := by omega
   have HQ : Hid (ans = -1) := Lib.hid (HR.out.2 hH.out)
   go_wp2
   go_ret
   exact ⟨by rw [HQ.out]; rfl, hnew.trans (hB.mono hnew.size)⟩
end Go.Proofs.YtpnnkhpokangfaaDoor.Ti
