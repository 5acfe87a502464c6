/- Whether two tiles are the same: the document's, walked. -/
import Derived.Test.YtpnnkhpokangfaaDoorTiD
namespace Go.Proofs.YtpnnkhpokangfaaDoor.Ti
open Go.RowKit Pac Va Sc Mi Sp Lex

theorem same_split (A1 A2 : Option Addr) (c1 c2 n : Nat) (l : List (List Int)) (w : World) (h1 : HasLL w 0 A1 l) (h2 : HasLL w 0 A2 l) (hn : l.length = n) (h9 : n ≤ 9223372036854775807) (hg : ∀ g ∈ l, g.length ≤ 9223372036854775807) :
  Calls Tryd.prog 32 #[.slice A1 n c1, .slice A2 n c2] w fun e w' => e = .returned (.bool true) ∧ Below w.heap.size w w' := by
 have h := Sp.refSame_any A1 A2 c1 c2 l l 0 0 w h1 h2 (by omega) (by omega) hg hg
 rw [hn, decide_eq_true rfl] at h
 exact h
theorem HasS.at {w : World} {A : Option Addr} {l : List ByteArray} (h : HasS w A l) {q : Nat} {s : ByteArray} (hq : l[q]? = some s) : ∃ b o, A = some ⟨b, o, none⟩ ∧ b < w.heap.size ∧ w.cell? ⟨b, o + q, none⟩ = some (.string s) := by
 obtain ⟨b, o, hA, _, hlt, hc⟩ := h (fun e => by rw [e] at hq; simp at hq)
 refine ⟨b, o, hA, hlt, ?_⟩
 have := hc q s hq 0 _ rfl
 rw [Nat.mul_one, Nat.add_zero] at this
 exact this
theorem split_g9 {l : List (List Int)} {n : Nat} (h : IsSplit l n) : ∀ g ∈ l, g.length ≤ 9223372036854775807 := fun g hg => by
 have h1 := in_len hg
 have h2 := h.len
 have h3 := h.n8
 omega

set_option maxRecDepth 20000 in
set_option maxHeartbeats 3200000 in
theorem refSame_any {cs ds : List C} {w : World} {X Y : Nat → Prop} {t u : TV} {r q : R} (hT : HasT cs w X t r) (hU : HasT ds w Y u q) (hl : r.l = q.l) (hf : liveN r.f = liveN q.f) (hM : minis cs r = minis ds q) :
  Calls Tryd.prog 12 #[t.v, u.v] w fun e w' => e = .returned (.bool true) ∧ Below w.heap.size w w' := by
 have hn8 := hT.few
 have h1 := hT.n
 have h2 := hU.n
 have h3 := hT.m
 have h4 := hU.m
 have hsp := hT.ok.s
 have hL1 := hT.sp.ll
 have hL2 := hU.sp.ll
 have hS1 := hT.mi
 have hS2 := hU.mi
 rw [← hM] at hS2
 rw [← hl] at hL2 h2
 rw [← hf] at h4
 clear hT hU hM hl hf
 obtain ⟨A, n, c, m, B, d⟩ := t
 obtain ⟨A', n', c', m', B', d'⟩ := u
 simp only at hn8 h1 h2 h3 h4 hL1 hL2 hS1 hS2
 obtain rfl : n = n' := by rw [← h1, ← h2]
 obtain rfl : m = m' := by rw [h3, h4]
 have hlen : (minis cs r).length = n := by unfold minis; rw [List.length_map, h1]
 generalize minis cs r = mi at hS1 hS2 hlen
 have hg9 := split_g9 hsp
 have hm9 : m < 256 := by rw [h3]; exact live_lt _
 clear h2 h3 h4 hsp
 have hn1 := (Below.refl w.heap.size w).alloc (Nat.le_refl _) (.cells #[.slice A n c, .int .i64 m, .slice B n d] 32)
 have hn2 := hn1.alloc hn1.size (.cells #[.slice A' n c', .int .i64 m, .slice B' n d'] 32)
 have hb1 := (Sc.Box3.new w (.slice A n c) (.int .i64 m) (.slice B n d) 32).alloc (.cells #[.slice A' n c', .int .i64 m, .slice B' n d'] 32)
 have hb2 := Sc.Box3.new (w.alloc (.cells #[.slice A n c, .int .i64 m, .slice B n d] 32)) (.slice A' n c') (.int .i64 m) (.slice B' n d') 32
 rw [show (w.alloc (.cells #[.slice A n c, .int .i64 m, .slice B n d] 32)).heap.size = w.heap.size + 1 by simp] at hb2
 have HL1 := Lib.hid (hL1.below hn2 (Nat.le_refl _))
 have HL2 := Lib.hid (hL2.below hn2 (Nat.le_refl _))
 have HS1 := Lib.hid (hS1.below hn2 (Nat.le_refl _))
 have HS2 := Lib.hid (hS2.below hn2 (Nat.le_refl _))
 have HN := Lib.hid (And.intro h1 (And.intro hg9 hlen))
 clear hL1 hL2 hS1 hS2 hn1 h1 hg9 hlen
 show Calls Tryd.prog 12 #[.agg #[.slice A n c, .int .i64 m, .slice B n d], .agg #[.slice A' n c', .int .i64 m, .slice B' n d']] w _
 go_enter Tryd.func12, Tryd.ntmps12
 generalize hw2 : (w.alloc (.cells #[.slice A n c, .int .i64 m, .slice B n d] 32)).alloc (.cells #[.slice A' n c', .int .i64 m, .slice B' n d'] 32) = w2 at hb1 hb2 HL1 HL2 HS1 HS2 hn2
 generalize hg1 : w.heap.size = g1 at hb1 hb2 ⊢
 have k0 := hb1.c0
 have k1 := hb1.c1
 have k2 := hb1.c2
 have j0 := hb2.c0
 have j1 := hb2.c1
 have j2 := hb2.c2
 go_wp2_with fail
 clear hw2
 refine (same_split A A' c c' n r.l w2 HL1.out HL2.out HN.out.1 (by omega) HN.out.2.1).mono ?_
 rintro e w3 ⟨rfl, hy⟩
 have hb1 := hb1.below hy hb1.lt
 have hb2 := hb2.below hy hb2.lt
 have HS1 := Lib.hid (HS1.out.below hy (Nat.le_refl _))
 have HS2 := Lib.hid (HS2.out.below hy (Nat.le_refl _))
 have hB := hn2.trans (hy.mono hn2.size)
 clear k0 k1 k2 j0 j1 j2 HL1 HL2 hy hn2
 have k1 := hb1.c1
 have k2 := hb1.c2
 have j1 := hb2.c1
 have j2 := hb2.c2
 go_wp2
 clear k1 k2 j1 j2
 go_loopw [5] (fun i wr => ∃ q : Nat, q ≤ n ∧ i = .int .i64 q ∧ Below w3.heap.size w3 wr) (fun i _ => n - (intOf i).toNat)
 case atStart => exact ⟨0, Nat.zero_le _, rfl, Below.refl _ _⟩
 case round =>
  obtain ⟨q, hq, rfl, hy⟩ := hrel
  have k2 := (hb1.below hy hb1.lt).c2
  have j2 := (hb2.below hy hb2.lt).c2
  by_cases hlt : q < n
  ·have hs : mi[q]? = some (mi[q]'(by rw [HN.out.2.2]; exact hlt)) := List.getElem?_eq_getElem _
   generalize (mi[q]'(by rw [HN.out.2.2]; exact hlt)) = s at hs
   obtain ⟨b1, o1, rfl, _, s1⟩ := HasS.at (HS1.out.below hy (Nat.le_refl _)) hs
   obtain ⟨b2, o2, rfl, _, s2⟩ := HasS.at (HS2.out.below hy (Nat.le_refl _)) hs
   have i1 : (q : Int) < (n : Int) := by omega
   have i0 : (0 : Int) ≤ (q : Int) := by omega
   clear hs
   go_wp2
   go_quiet (fail)
   have hy := hy.trans (below_drewN (Below.refl w3.heap.size wr) nq)
   clear s1 s2 k2 j2
   go_wp2
   go_roundw
   case rel => exact ⟨q + 1, by omega, by go_num, hy⟩
   case measure => simp [intOf]; omega
  ·obtain rfl : q = n := by omega
   have hB := hB.trans (hy.mono hB.size)
   go_wp2
   go_ret
   exact ⟨rfl, by subst hg1; exact hB⟩
end Go.Proofs.YtpnnkhpokangfaaDoor.Ti
