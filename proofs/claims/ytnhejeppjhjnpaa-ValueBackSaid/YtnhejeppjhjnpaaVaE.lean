/- The value that bytes begin with, plainly; the document's, walked. -/
import Derived.Test.YtnhejeppjhjnpaaVaC
namespace Go.Proofs.Ytnhejeppjhjnpaa.Va
open Go.RowKit Pac

theorem bar_alloc {g : Nat} {a w : World} (h : Bar g a w) (o : Obj) : Bar g a (w.alloc o) :=
  h.trans (Bar.of_below g ((Below.refl w.heap.size w).alloc (Nat.le_refl _) o) (Nat.le_refl _))
theorem bar_set {g : Nat} {a w : World} (h : Bar g a w) {p : Addr} (hp : a.heap.size ≤ p.block) (u : Value) : Bar g a (w.setCell p u) :=
  ⟨h.os, h.tape, h.output, by simpa using h.size, fun k hk hne => (Below.heap_setCell w p u k (by omega)).trans (h.block k hk hne)⟩
/-- A variable of three cells. -/
structure Box3 (w : World) (g : Nat) (v0 v1 v2 : Value) : Prop where
  c0 : w.cell? ⟨g, 0, none⟩ = some v0
  c1 : w.cell? ⟨g, 1, none⟩ = some v1
  c2 : w.cell? ⟨g, 2, none⟩ = some v2
  f : ∀ i, w.frozen? ⟨g, i, none⟩ = false
theorem Box3.lt {w : World} {g : Nat} {v0 v1 v2 : Value} (h : Box3 w g v0 v1 v2) : g < w.heap.size := World.block_lt_of_cell? w _ h.c0
theorem Box3.bar {g g' : Nat} {w w' : World} {v0 v1 v2 : Value} (h : Box3 w g v0 v1 v2) (hb : Bar g' w w') (hne : g ≠ g') : Box3 w' g v0 v1 v2 :=
  ⟨(hb.cell h.lt hne).trans h.c0, (hb.cell h.lt hne).trans h.c1, (hb.cell h.lt hne).trans h.c2, fun i => (hb.frozen h.lt hne).trans (h.f i)⟩
theorem Box3.below {g B : Nat} {w w' : World} {v0 v1 v2 : Value} (h : Box3 w g v0 v1 v2) (hb : Below B w w') (hB : g < B) : Box3 w' g v0 v1 v2 :=
  ⟨(hb.cell (p := ⟨g, 0, none⟩) hB).trans h.c0, (hb.cell (p := ⟨g, 1, none⟩) hB).trans h.c1, (hb.cell (p := ⟨g, 2, none⟩) hB).trans h.c2, fun i => (hb.frozen (p := ⟨g, i, none⟩) hB).trans (h.f i)⟩
theorem Box3.new (w : World) (v0 v1 v2 : Value) (t : TypeId) : Box3 (w.alloc (.cells #[v0, v1, v2] t)) w.heap.size v0 v1 v2 := by
  constructor <;> simp [go_sem]
theorem Box3.alloc {g : Nat} {w : World} {v0 v1 v2 : Value} (h : Box3 w g v0 v1 v2) (o : Obj) : Box3 (w.alloc o) g v0 v1 v2 :=
  h.below ((Below.refl (g + 1) w).alloc h.lt o) (by omega)

/-- What is read: the value, what is left, whether it went wrong. -/
def seen (k : Nat) (s : ByteArray) : V × ByteArray × Bool :=
  if k = 1 ∨ k = 2 then (⟨k, numR s false, ⟨#[]⟩⟩, numS s false, numBad s false) else if k = 3 then (⟨3, 0, txtR s false 60⟩, txtS s false 60, txtBad s false 60) else (⟨k, 0, ⟨#[]⟩⟩, s, false)
def judged (x : V × ByteArray × Bool) : V × ByteArray × Bool := if (x.2.2 || !rightV x.1) = true then (⟨0, 0, ⟨#[]⟩⟩, x.2.1, true) else x
def readV (s : ByteArray) (bad : Bool) : V × ByteArray × Bool :=
  if bad = true then (⟨0, 0, ⟨#[]⟩⟩, s, true) else if h : 0 < s.size then judged (seen s[0].toNat (s.extract 1 s.size)) else (⟨0, 0, ⟨#[]⟩⟩, s, true)

theorem not_empty {s : ByteArray} (h : 0 < s.size) : s.toList.isEmpty = false := by
  rw [ByteArray.toList_eq, List.isEmpty_eq_false_iff]
  intro e
  have : s.data.toList.length = s.size := Array.length_toList
  rw [e] at this
  simp at this
  omega
theorem is_empty {s : ByteArray} (h : ¬ 0 < s.size) : s.toList.isEmpty = true := by
  rw [ByteArray.toList_eq, List.isEmpty_iff]
  have : s.data.toList.length = s.size := Array.length_toList
  exact List.length_eq_zero_iff.1 (by omega)

theorem ready {w : World} {g : Nat} {s : ByteArray} (s1 : ByteArray) (k : Int) (t : TypeId) (hb : IsBox w g s false) :
    IsBox (((w.setCell ⟨g, 0, none⟩ (.string s1)).alloc (.cells #[.int .i64 0, .int .i64 0, .string ⟨#[]⟩] t)).alloc (.cells #[.int .i64 k, .int .i64 0, .string ⟨#[]⟩] t)) g s1 false ∧
    Box3 (((w.setCell ⟨g, 0, none⟩ (.string s1)).alloc (.cells #[.int .i64 0, .int .i64 0, .string ⟨#[]⟩] t)).alloc (.cells #[.int .i64 k, .int .i64 0, .string ⟨#[]⟩] t)) w.heap.size (.int .i64 0) (.int .i64 0) (.string ⟨#[]⟩) ∧
    Box3 (((w.setCell ⟨g, 0, none⟩ (.string s1)).alloc (.cells #[.int .i64 0, .int .i64 0, .string ⟨#[]⟩] t)).alloc (.cells #[.int .i64 k, .int .i64 0, .string ⟨#[]⟩] t)) (w.heap.size + 1) (.int .i64 k) (.int .i64 0) (.string ⟨#[]⟩) ∧
    Bar g w (((w.setCell ⟨g, 0, none⟩ (.string s1)).alloc (.cells #[.int .i64 0, .int .i64 0, .string ⟨#[]⟩] t)).alloc (.cells #[.int .i64 k, .int .i64 0, .string ⟨#[]⟩] t)) := by
  have hb1 := hb.set0 (.string s1)
  have hB1 := (Bar.refl g w).setCell 0 (.string s1)
  have e1 : (w.setCell ⟨g, 0, none⟩ (.string s1)).heap.size = w.heap.size := by simp
  have e2 : ((w.setCell ⟨g, 0, none⟩ (.string s1)).alloc (.cells #[.int .i64 0, .int .i64 0, .string ⟨#[]⟩] t)).heap.size = w.heap.size + 1 := by simp
  have h1 := (Box3.new (w.setCell ⟨g, 0, none⟩ (.string s1)) (.int .i64 0) (.int .i64 0) (.string ⟨#[]⟩) t).alloc (.cells #[.int .i64 k, .int .i64 0, .string ⟨#[]⟩] t)
  have h2 := Box3.new ((w.setCell ⟨g, 0, none⟩ (.string s1)).alloc (.cells #[.int .i64 0, .int .i64 0, .string ⟨#[]⟩] t)) (.int .i64 k) (.int .i64 0) (.string ⟨#[]⟩) t
  rw [e1] at h1
  rw [e2] at h2
  exact ⟨(hb1.alloc _).alloc _, h1, h2, bar_alloc (bar_alloc hB1 _) _⟩
theorem Box3.setOther {w : World} {g : Nat} {v0 v1 v2 : Value} (h : Box3 w g v0 v1 v2) {p : Addr} (hp : p.block ≠ g) (u : Value) : Box3 (w.setCell p u) g v0 v1 v2 := by
  have o : ∀ i, (w.setCell p u).cell? ⟨g, i, none⟩ = w.cell? ⟨g, i, none⟩ := fun i => World.cell?_setCell_other w _ _ u (fun e => hp (by rw [e]))
  exact ⟨(o 0).trans h.c0, (o 1).trans h.c1, (o 2).trans h.c2, fun i => by simp [h.f]⟩
theorem Box3.set0 {w : World} {g : Nat} {v0 v1 v2 : Value} (h : Box3 w g v0 v1 v2) (u : Value) : Box3 (w.setCell ⟨g, 0, none⟩ u) g u v1 v2 :=
  ⟨World.cell?_setCell_same _ _ _ h.c0, (World.cell?_setCell_other w _ _ u (fun e => by injection e with e1 e2; exact absurd e2 (by decide))).trans h.c1, (World.cell?_setCell_other w _ _ u (fun e => by injection e with e1 e2; exact absurd e2 (by decide))).trans h.c2, fun i => by simp [h.f]⟩
theorem Box3.set1 {w : World} {g : Nat} {v0 v1 v2 : Value} (h : Box3 w g v0 v1 v2) (u : Value) : Box3 (w.setCell ⟨g, 1, none⟩ u) g v0 u v2 :=
  ⟨(World.cell?_setCell_other w _ _ u (fun e => by injection e with e1 e2; exact absurd e2 (by decide))).trans h.c0, World.cell?_setCell_same _ _ _ h.c1, (World.cell?_setCell_other w _ _ u (fun e => by injection e with e1 e2; exact absurd e2 (by decide))).trans h.c2, fun i => by simp [h.f]⟩
theorem Box3.set2 {w : World} {g : Nat} {v0 v1 v2 : Value} (h : Box3 w g v0 v1 v2) (u : Value) : Box3 (w.setCell ⟨g, 2, none⟩ u) g v0 v1 u :=
  ⟨(World.cell?_setCell_other w _ _ u (fun e => by injection e with e1 e2; exact absurd e2 (by decide))).trans h.c0, (World.cell?_setCell_other w _ _ u (fun e => by injection e with e1 e2; exact absurd e2 (by decide))).trans h.c1, World.cell?_setCell_same _ _ _ h.c2, fun i => by simp [h.f]⟩
theorem box2_setOther {w : World} {g : Nat} {v0 v1 : Value} (h : Box2 w g v0 v1) {p : Addr} (hp : p.block ≠ g) (u : Value) : Box2 (w.setCell p u) g v0 v1 := by
  have o : ∀ i, (w.setCell p u).cell? ⟨g, i, none⟩ = w.cell? ⟨g, i, none⟩ := fun i => World.cell?_setCell_other w _ _ u (fun e => hp (by rw [e]))
  exact ⟨(o 0).trans h.c0, (o 1).trans h.c1, fun i => by simp [h.f]⟩

theorem results_three {fn : Func} {p : Tmp} (h : fn.results = #[.cell p 23]) (tmps : Array Value) (w : World) (g : Nat) (v0 v1 v2 : Value)
    (hp : tmps.getD p undef = .pointer (some ⟨g, 0, none⟩)) (c0 : w.cell? ⟨g, 0, none⟩ = some v0) (c1 : w.cell? ⟨g, 1, none⟩ = some v1) (c2 : w.cell? ⟨g, 2, none⟩ = some v2) :
    (results fn tmps).run Try.prog w = .ok (.agg #[v0, v1, v2]) w := by
  have hp' : tmps[p]?.getD undef = .pointer (some ⟨g, 0, none⟩) := by simpa using hp
  clear hp
  simp only [results, h]
  go_simp

set_option maxRecDepth 20000 in
set_option maxHeartbeats 6400000 in
theorem refRead_any (g : Nat) (s : ByteArray) (bad : Bool) (w : World) (hb : IsBox w g s bad) (hs : s.size ≤ 9223372036854775807) :
    Calls Try.prog 16 #[.pointer (some ⟨g, 0, none⟩)] w fun e w' => e = .returned (readV s bad).1.v ∧ IsBox w' g (readV s bad).2.1 (readV s bad).2.2 ∧ Bar g w w' := by
  have c0 := hb.c0
  have c1 := hb.c1
  have f := hb.f
  have hlt := hb.lt
  cases bad with
  | true =>
    have hR : readV s true = (⟨0, 0, ⟨#[]⟩⟩, s, true) := rfl
    rw [hR]
    go_enter Try.func16, Try.ntmps16
    go_wp2
    refine bodyPost_ret (results_three rfl _ _ w.heap.size (.int .i64 0) (.int .i64 0) (.string ⟨#[]⟩) rfl (by simp [go_sem]) (by simp [go_sem]) (by simp [go_sem])) rfl ?_
    exact ⟨rfl, ((hb.set1 _).alloc _).alloc _, bar_alloc (bar_alloc ((Bar.refl g w).setCell 1 _) _) _⟩
  | false =>
    by_cases h0 : 0 < s.size
    · have hR : readV s false = judged (seen s[0].toNat (s.extract 1 s.size)) := by unfold readV; rw [dif_pos h0]; rfl
      rw [hR]
      clear hR
      have hne := not_empty h0
      obtain ⟨c, hc⟩ : ∃ c : Nat, s[0].toNat = c := ⟨_, rfl⟩
      have hc8 : c < 256 := by rw [← hc]; exact s[0].toNat_lt
      have e1 : wrap64 (s[0].toNat : Int) = (c : Int) := by rw [hc]; unfold wrap64; omega
      rw [hc]
      clear hc
      generalize hs1 : s.extract 1 s.size = s1
      have hz1 : s1.size ≤ 9223372036854775807 := by rw [← hs1, ByteArray.size_extract]; omega
      have i1 : (1 : Int) ≤ (s.size : Int) := by omega
      have HS1 := Lib.hid hs1
      clear hs1
      have gr : g ≠ w.heap.size := by omega
      have gv : g ≠ w.heap.size + 1 := by omega
      have rv : w.heap.size ≠ w.heap.size + 1 := by omega
      have lv : w.heap.size ≤ w.heap.size + 1 := by omega
      have HG := Lib.hid (And.intro gr (And.intro gv (And.intro rv lv)))
      clear gr gv rv lv
      by_cases q1 : c = 1 ∨ c = 2
      · rcases q1 with rfl | rfl
        · have e1 : wrap64 (s[0].toNat : Int) = 1 := e1
          show Calls Try.prog 16 #[.pointer (some ⟨g, 0, none⟩)] w fun e w' => e = .returned (judged (seen 1 s1)).1.v ∧ IsBox w' g (judged (seen 1 s1)).2.1 (judged (seen 1 s1)).2.2 ∧ Bar g w w'
          have hc1 := fun (W : World) (h : IsBox W g s1 false) => refBoxNum_any g s1 false W h hz1
          have hS : seen 1 s1 = (⟨1, numR s1 false, ⟨#[]⟩⟩, numS s1 false, numBad s1 false) := by rfl
          rw [hS]
          clear hS
          generalize numR s1 false = n at hc1 ⊢
          generalize numS s1 false = s2 at hc1 ⊢
          generalize numBad s1 false = d at hc1 ⊢
          have hJ1 : d = true → judged (⟨1, n, ⟨#[]⟩⟩, s2, d) = (⟨0, 0, ⟨#[]⟩⟩, s2, true) := fun h => by unfold judged; rw [if_pos (by simp [h])]
          have hJ2 : rightV ⟨1, n, ⟨#[]⟩⟩ = false → judged (⟨1, n, ⟨#[]⟩⟩, s2, d) = (⟨0, 0, ⟨#[]⟩⟩, s2, true) := fun h => by unfold judged; rw [if_pos (by simp [h])]
          have hJ3 : d = false → rightV ⟨1, n, ⟨#[]⟩⟩ = true → judged (⟨1, n, ⟨#[]⟩⟩, s2, d) = (⟨1, n, ⟨#[]⟩⟩, s2, d) := fun h h' => by unfold judged; rw [if_neg (by simp [h, h'])]
          have hr := fun W : World => refRight_any ⟨1, n, ⟨#[]⟩⟩ W
          generalize rightV ⟨1, n, ⟨#[]⟩⟩ = rr at hr hJ2 hJ3
          generalize judged (⟨1, n, ⟨#[]⟩⟩, s2, d) = J at hJ1 hJ2 hJ3 ⊢
          have HJ1 := Lib.hid hJ1
          have HJ2 := Lib.hid hJ2
          have HJ3 := Lib.hid hJ3
          clear hJ1 hJ2 hJ3
          obtain ⟨hb3, hr3, hv3, hB3⟩ := ready s1 1 23 hb
          go_enter Try.func16, Try.ntmps16
          go_wp2_with fail
          rw [HS1.out]
          generalize (((w.setCell ⟨g, 0, none⟩ (.string s1)).alloc (.cells #[.int .i64 0, .int .i64 0, .string ⟨#[]⟩] 23)).alloc (.cells #[.int .i64 1, .int .i64 0, .string ⟨#[]⟩] 23)) = w3 at hb3 hr3 hv3 hB3 ⊢
          obtain ⟨gr, gv, rv, lv⟩ := HG.out
          have lr := Nat.le_refl w.heap.size
          generalize hgv : w.heap.size + 1 = bv at hv3 gv rv lv ⊢
          clear hgv
          refine (hc1 _ hb3).mono ?_
          rintro e w4 ⟨rfl, hb4, hB4⟩
          have hr4 := hr3.bar hB4 (Ne.symm gr)
          have hv4 := hv3.bar hB4 (Ne.symm gv)
          have hB4 := hB3.trans hB4
          clear hc1 hb3 hr3 hv3 hB3
          have hv5 := hv4.set1 (.int .i64 n)
          have hr5 := hr4.setOther (p := ⟨bv, 1, none⟩) (Ne.symm rv) (.int .i64 n)
          have hb5 := box2_setOther hb4 (p := ⟨bv, 1, none⟩) (Ne.symm gv) (.int .i64 n)
          have hB5 := bar_set hB4 (p := ⟨bv, 1, none⟩) lv (.int .i64 n)
          have v0 := hv4.c0
          have v1 := hv4.c1
          have v2 := hv4.c2
          have vf := hv4.f
          have b0 := hb4.c0
          have b1 := hb4.c1
          have bf := hb4.f
          have r0 := hr4.c0
          have r1 := hr4.c1
          have r2 := hr4.c2
          have rf := hr4.f
          clear hb4 hr4 hv4 hB4
          cases d
          · go_wp2_with fail
            refine (hr _).mono ?_
            rintro e w6 ⟨rfl, hw6⟩
            have hb6 := hb5.below hw6 hb5.lt
            have hr6 := hr5.below hw6 hr5.lt
            have hv6 := hv5.below hw6 hv5.lt
            have hB6 := hB5.trans (Bar.of_below g hw6 (Nat.le_refl _))
            clear hb5 hr5 hv5 hB5 hw6
            clear v0 v1 v2 vf b0 b1 bf r0 r1 r2 rf
            have v0 := hv6.c0
            have v1 := hv6.c1
            have v2 := hv6.c2
            have vf := hv6.f
            have b0 := hb6.c0
            have b1 := hb6.c1
            have bf := hb6.f
            have r0 := hr6.c0
            have r1 := hr6.c1
            have r2 := hr6.c2
            have rf := hr6.f
            cases rr
            · go_wp2
              have hrZ := (((hr6.setOther (p := ⟨g, 1, none⟩) gr (.bool true)).set0 (.int .i64 0)).set1 (.int .i64 0)).set2 (.string ⟨#[]⟩)
              have hbZ := box2_setOther (box2_setOther (box2_setOther (hb6.set1 (.bool true)) (p := ⟨w.heap.size, 0, none⟩) (Ne.symm gr) (.int .i64 0)) (p := ⟨w.heap.size, 1, none⟩) (Ne.symm gr) (.int .i64 0)) (p := ⟨w.heap.size, 2, none⟩) (Ne.symm gr) (.string ⟨#[]⟩)
              have hBZ := bar_set (bar_set (bar_set (hB6.setCell 1 (.bool true)) (p := ⟨w.heap.size, 0, none⟩) lr (.int .i64 0)) (p := ⟨w.heap.size, 1, none⟩) lr (.int .i64 0)) (p := ⟨w.heap.size, 2, none⟩) lr (.string ⟨#[]⟩)
              refine bodyPost_ret (results_three rfl _ _ w.heap.size (.int .i64 0) (.int .i64 0) (.string ⟨#[]⟩) rfl hrZ.c0 hrZ.c1 hrZ.c2) rfl ?_
              rw [HJ2.out (by simp)]
              exact ⟨rfl, hbZ, hBZ⟩
            · go_wp2
              have hrZ := ((hr6.set0 (.int .i64 1)).set1 (.int .i64 n)).set2 (.string ⟨#[]⟩)
              have hbZ := box2_setOther (box2_setOther (box2_setOther hb6 (p := ⟨w.heap.size, 0, none⟩) (Ne.symm gr) (.int .i64 1)) (p := ⟨w.heap.size, 1, none⟩) (Ne.symm gr) (.int .i64 n)) (p := ⟨w.heap.size, 2, none⟩) (Ne.symm gr) (.string ⟨#[]⟩)
              have hBZ := bar_set (bar_set (bar_set hB6 (p := ⟨w.heap.size, 0, none⟩) lr (.int .i64 1)) (p := ⟨w.heap.size, 1, none⟩) lr (.int .i64 n)) (p := ⟨w.heap.size, 2, none⟩) lr (.string ⟨#[]⟩)
              refine bodyPost_ret (results_three rfl _ _ w.heap.size (.int .i64 1) (.int .i64 n) (.string ⟨#[]⟩) rfl hrZ.c0 hrZ.c1 hrZ.c2) rfl ?_
              rw [HJ3.out (by simp) (by simp)]
              exact ⟨rfl, hbZ, hBZ⟩
          · go_wp2
            have hrZ := (((hr5.setOther (p := ⟨g, 1, none⟩) gr (.bool true)).set0 (.int .i64 0)).set1 (.int .i64 0)).set2 (.string ⟨#[]⟩)
            have hbZ := box2_setOther (box2_setOther (box2_setOther (hb5.set1 (.bool true)) (p := ⟨w.heap.size, 0, none⟩) (Ne.symm gr) (.int .i64 0)) (p := ⟨w.heap.size, 1, none⟩) (Ne.symm gr) (.int .i64 0)) (p := ⟨w.heap.size, 2, none⟩) (Ne.symm gr) (.string ⟨#[]⟩)
            have hBZ := bar_set (bar_set (bar_set (hB5.setCell 1 (.bool true)) (p := ⟨w.heap.size, 0, none⟩) lr (.int .i64 0)) (p := ⟨w.heap.size, 1, none⟩) lr (.int .i64 0)) (p := ⟨w.heap.size, 2, none⟩) lr (.string ⟨#[]⟩)
            refine bodyPost_ret (results_three rfl _ _ w.heap.size (.int .i64 0) (.int .i64 0) (.string ⟨#[]⟩) rfl hrZ.c0 hrZ.c1 hrZ.c2) rfl ?_
            rw [HJ1.out (by simp)]
            exact ⟨rfl, hbZ, hBZ⟩
        · have e1 : wrap64 (s[0].toNat : Int) = 2 := e1
          show Calls Try.prog 16 #[.pointer (some ⟨g, 0, none⟩)] w fun e w' => e = .returned (judged (seen 2 s1)).1.v ∧ IsBox w' g (judged (seen 2 s1)).2.1 (judged (seen 2 s1)).2.2 ∧ Bar g w w'
          have hc1 := fun (W : World) (h : IsBox W g s1 false) => refBoxNum_any g s1 false W h hz1
          have hS : seen 2 s1 = (⟨2, numR s1 false, ⟨#[]⟩⟩, numS s1 false, numBad s1 false) := by rfl
          rw [hS]
          clear hS
          generalize numR s1 false = n at hc1 ⊢
          generalize numS s1 false = s2 at hc1 ⊢
          generalize numBad s1 false = d at hc1 ⊢
          have hJ1 : d = true → judged (⟨2, n, ⟨#[]⟩⟩, s2, d) = (⟨0, 0, ⟨#[]⟩⟩, s2, true) := fun h => by unfold judged; rw [if_pos (by simp [h])]
          have hJ2 : rightV ⟨2, n, ⟨#[]⟩⟩ = false → judged (⟨2, n, ⟨#[]⟩⟩, s2, d) = (⟨0, 0, ⟨#[]⟩⟩, s2, true) := fun h => by unfold judged; rw [if_pos (by simp [h])]
          have hJ3 : d = false → rightV ⟨2, n, ⟨#[]⟩⟩ = true → judged (⟨2, n, ⟨#[]⟩⟩, s2, d) = (⟨2, n, ⟨#[]⟩⟩, s2, d) := fun h h' => by unfold judged; rw [if_neg (by simp [h, h'])]
          have hr := fun W : World => refRight_any ⟨2, n, ⟨#[]⟩⟩ W
          generalize rightV ⟨2, n, ⟨#[]⟩⟩ = rr at hr hJ2 hJ3
          generalize judged (⟨2, n, ⟨#[]⟩⟩, s2, d) = J at hJ1 hJ2 hJ3 ⊢
          have HJ1 := Lib.hid hJ1
          have HJ2 := Lib.hid hJ2
          have HJ3 := Lib.hid hJ3
          clear hJ1 hJ2 hJ3
          obtain ⟨hb3, hr3, hv3, hB3⟩ := ready s1 2 23 hb
          go_enter Try.func16, Try.ntmps16
          go_wp2_with fail
          rw [HS1.out]
          generalize (((w.setCell ⟨g, 0, none⟩ (.string s1)).alloc (.cells #[.int .i64 0, .int .i64 0, .string ⟨#[]⟩] 23)).alloc (.cells #[.int .i64 2, .int .i64 0, .string ⟨#[]⟩] 23)) = w3 at hb3 hr3 hv3 hB3 ⊢
          obtain ⟨gr, gv, rv, lv⟩ := HG.out
          have lr := Nat.le_refl w.heap.size
          generalize hgv : w.heap.size + 1 = bv at hv3 gv rv lv ⊢
          clear hgv
          refine (hc1 _ hb3).mono ?_
          rintro e w4 ⟨rfl, hb4, hB4⟩
          have hr4 := hr3.bar hB4 (Ne.symm gr)
          have hv4 := hv3.bar hB4 (Ne.symm gv)
          have hB4 := hB3.trans hB4
          clear hc1 hb3 hr3 hv3 hB3
          have hv5 := hv4.set1 (.int .i64 n)
          have hr5 := hr4.setOther (p := ⟨bv, 1, none⟩) (Ne.symm rv) (.int .i64 n)
          have hb5 := box2_setOther hb4 (p := ⟨bv, 1, none⟩) (Ne.symm gv) (.int .i64 n)
          have hB5 := bar_set hB4 (p := ⟨bv, 1, none⟩) lv (.int .i64 n)
          have v0 := hv4.c0
          have v1 := hv4.c1
          have v2 := hv4.c2
          have vf := hv4.f
          have b0 := hb4.c0
          have b1 := hb4.c1
          have bf := hb4.f
          have r0 := hr4.c0
          have r1 := hr4.c1
          have r2 := hr4.c2
          have rf := hr4.f
          clear hb4 hr4 hv4 hB4
          cases d
          · go_wp2_with fail
            refine (hr _).mono ?_
            rintro e w6 ⟨rfl, hw6⟩
            have hb6 := hb5.below hw6 hb5.lt
            have hr6 := hr5.below hw6 hr5.lt
            have hv6 := hv5.below hw6 hv5.lt
            have hB6 := hB5.trans (Bar.of_below g hw6 (Nat.le_refl _))
            clear hb5 hr5 hv5 hB5 hw6
            clear v0 v1 v2 vf b0 b1 bf r0 r1 r2 rf
            have v0 := hv6.c0
            have v1 := hv6.c1
            have v2 := hv6.c2
            have vf := hv6.f
            have b0 := hb6.c0
            have b1 := hb6.c1
            have bf := hb6.f
            have r0 := hr6.c0
            have r1 := hr6.c1
            have r2 := hr6.c2
            have rf := hr6.f
            cases rr
            · go_wp2
              have hrZ := (((hr6.setOther (p := ⟨g, 1, none⟩) gr (.bool true)).set0 (.int .i64 0)).set1 (.int .i64 0)).set2 (.string ⟨#[]⟩)
              have hbZ := box2_setOther (box2_setOther (box2_setOther (hb6.set1 (.bool true)) (p := ⟨w.heap.size, 0, none⟩) (Ne.symm gr) (.int .i64 0)) (p := ⟨w.heap.size, 1, none⟩) (Ne.symm gr) (.int .i64 0)) (p := ⟨w.heap.size, 2, none⟩) (Ne.symm gr) (.string ⟨#[]⟩)
              have hBZ := bar_set (bar_set (bar_set (hB6.setCell 1 (.bool true)) (p := ⟨w.heap.size, 0, none⟩) lr (.int .i64 0)) (p := ⟨w.heap.size, 1, none⟩) lr (.int .i64 0)) (p := ⟨w.heap.size, 2, none⟩) lr (.string ⟨#[]⟩)
              refine bodyPost_ret (results_three rfl _ _ w.heap.size (.int .i64 0) (.int .i64 0) (.string ⟨#[]⟩) rfl hrZ.c0 hrZ.c1 hrZ.c2) rfl ?_
              rw [HJ2.out (by simp)]
              exact ⟨rfl, hbZ, hBZ⟩
            · go_wp2
              have hrZ := ((hr6.set0 (.int .i64 2)).set1 (.int .i64 n)).set2 (.string ⟨#[]⟩)
              have hbZ := box2_setOther (box2_setOther (box2_setOther hb6 (p := ⟨w.heap.size, 0, none⟩) (Ne.symm gr) (.int .i64 2)) (p := ⟨w.heap.size, 1, none⟩) (Ne.symm gr) (.int .i64 n)) (p := ⟨w.heap.size, 2, none⟩) (Ne.symm gr) (.string ⟨#[]⟩)
              have hBZ := bar_set (bar_set (bar_set hB6 (p := ⟨w.heap.size, 0, none⟩) lr (.int .i64 2)) (p := ⟨w.heap.size, 1, none⟩) lr (.int .i64 n)) (p := ⟨w.heap.size, 2, none⟩) lr (.string ⟨#[]⟩)
              refine bodyPost_ret (results_three rfl _ _ w.heap.size (.int .i64 2) (.int .i64 n) (.string ⟨#[]⟩) rfl hrZ.c0 hrZ.c1 hrZ.c2) rfl ?_
              rw [HJ3.out (by simp) (by simp)]
              exact ⟨rfl, hbZ, hBZ⟩
          · go_wp2
            have hrZ := (((hr5.setOther (p := ⟨g, 1, none⟩) gr (.bool true)).set0 (.int .i64 0)).set1 (.int .i64 0)).set2 (.string ⟨#[]⟩)
            have hbZ := box2_setOther (box2_setOther (box2_setOther (hb5.set1 (.bool true)) (p := ⟨w.heap.size, 0, none⟩) (Ne.symm gr) (.int .i64 0)) (p := ⟨w.heap.size, 1, none⟩) (Ne.symm gr) (.int .i64 0)) (p := ⟨w.heap.size, 2, none⟩) (Ne.symm gr) (.string ⟨#[]⟩)
            have hBZ := bar_set (bar_set (bar_set (hB5.setCell 1 (.bool true)) (p := ⟨w.heap.size, 0, none⟩) lr (.int .i64 0)) (p := ⟨w.heap.size, 1, none⟩) lr (.int .i64 0)) (p := ⟨w.heap.size, 2, none⟩) lr (.string ⟨#[]⟩)
            refine bodyPost_ret (results_three rfl _ _ w.heap.size (.int .i64 0) (.int .i64 0) (.string ⟨#[]⟩) rfl hrZ.c0 hrZ.c1 hrZ.c2) rfl ?_
            rw [HJ1.out (by simp)]
            exact ⟨rfl, hbZ, hBZ⟩
      · by_cases q2 : c = 3
        · subst q2
          have e1 : wrap64 (s[0].toNat : Int) = 3 := e1
          show Calls Try.prog 16 #[.pointer (some ⟨g, 0, none⟩)] w fun e w' => e = .returned (judged (seen 3 s1)).1.v ∧ IsBox w' g (judged (seen 3 s1)).2.1 (judged (seen 3 s1)).2.2 ∧ Bar g w w'
          have hc1 := fun (W : World) (h : IsBox W g s1 false) => refBoxText_any g s1 false 60 W h hz1
          have hS : seen 3 s1 = (⟨3, 0, txtR s1 false 60⟩, txtS s1 false 60, txtBad s1 false 60) := by rfl
          rw [hS]
          clear hS
          generalize txtR s1 false 60 = n at hc1 ⊢
          generalize txtS s1 false 60 = s2 at hc1 ⊢
          generalize txtBad s1 false 60 = d at hc1 ⊢
          have hJ1 : d = true → judged (⟨3, 0, n⟩, s2, d) = (⟨0, 0, ⟨#[]⟩⟩, s2, true) := fun h => by unfold judged; rw [if_pos (by simp [h])]
          have hJ2 : rightV ⟨3, 0, n⟩ = false → judged (⟨3, 0, n⟩, s2, d) = (⟨0, 0, ⟨#[]⟩⟩, s2, true) := fun h => by unfold judged; rw [if_pos (by simp [h])]
          have hJ3 : d = false → rightV ⟨3, 0, n⟩ = true → judged (⟨3, 0, n⟩, s2, d) = (⟨3, 0, n⟩, s2, d) := fun h h' => by unfold judged; rw [if_neg (by simp [h, h'])]
          have hr := fun W : World => refRight_any ⟨3, 0, n⟩ W
          generalize rightV ⟨3, 0, n⟩ = rr at hr hJ2 hJ3
          generalize judged (⟨3, 0, n⟩, s2, d) = J at hJ1 hJ2 hJ3 ⊢
          have HJ1 := Lib.hid hJ1
          have HJ2 := Lib.hid hJ2
          have HJ3 := Lib.hid hJ3
          clear hJ1 hJ2 hJ3
          obtain ⟨hb3, hr3, hv3, hB3⟩ := ready s1 3 23 hb
          go_enter Try.func16, Try.ntmps16
          go_wp2_with fail
          rw [HS1.out]
          generalize (((w.setCell ⟨g, 0, none⟩ (.string s1)).alloc (.cells #[.int .i64 0, .int .i64 0, .string ⟨#[]⟩] 23)).alloc (.cells #[.int .i64 3, .int .i64 0, .string ⟨#[]⟩] 23)) = w3 at hb3 hr3 hv3 hB3 ⊢
          obtain ⟨gr, gv, rv, lv⟩ := HG.out
          have lr := Nat.le_refl w.heap.size
          generalize hgv : w.heap.size + 1 = bv at hv3 gv rv lv ⊢
          clear hgv
          refine (hc1 _ hb3).mono ?_
          rintro e w4 ⟨rfl, hb4, hB4⟩
          have hr4 := hr3.bar hB4 (Ne.symm gr)
          have hv4 := hv3.bar hB4 (Ne.symm gv)
          have hB4 := hB3.trans hB4
          clear hc1 hb3 hr3 hv3 hB3
          have hv5 := hv4.set2 (.string n)
          have hr5 := hr4.setOther (p := ⟨bv, 2, none⟩) (Ne.symm rv) (.string n)
          have hb5 := box2_setOther hb4 (p := ⟨bv, 2, none⟩) (Ne.symm gv) (.string n)
          have hB5 := bar_set hB4 (p := ⟨bv, 2, none⟩) lv (.string n)
          have v0 := hv4.c0
          have v1 := hv4.c1
          have v2 := hv4.c2
          have vf := hv4.f
          have b0 := hb4.c0
          have b1 := hb4.c1
          have bf := hb4.f
          have r0 := hr4.c0
          have r1 := hr4.c1
          have r2 := hr4.c2
          have rf := hr4.f
          clear hb4 hr4 hv4 hB4
          cases d
          · go_wp2_with fail
            refine (hr _).mono ?_
            rintro e w6 ⟨rfl, hw6⟩
            have hb6 := hb5.below hw6 hb5.lt
            have hr6 := hr5.below hw6 hr5.lt
            have hv6 := hv5.below hw6 hv5.lt
            have hB6 := hB5.trans (Bar.of_below g hw6 (Nat.le_refl _))
            clear hb5 hr5 hv5 hB5 hw6
            clear v0 v1 v2 vf b0 b1 bf r0 r1 r2 rf
            have v0 := hv6.c0
            have v1 := hv6.c1
            have v2 := hv6.c2
            have vf := hv6.f
            have b0 := hb6.c0
            have b1 := hb6.c1
            have bf := hb6.f
            have r0 := hr6.c0
            have r1 := hr6.c1
            have r2 := hr6.c2
            have rf := hr6.f
            cases rr
            · go_wp2
              have hrZ := (((hr6.setOther (p := ⟨g, 1, none⟩) gr (.bool true)).set0 (.int .i64 0)).set1 (.int .i64 0)).set2 (.string ⟨#[]⟩)
              have hbZ := box2_setOther (box2_setOther (box2_setOther (hb6.set1 (.bool true)) (p := ⟨w.heap.size, 0, none⟩) (Ne.symm gr) (.int .i64 0)) (p := ⟨w.heap.size, 1, none⟩) (Ne.symm gr) (.int .i64 0)) (p := ⟨w.heap.size, 2, none⟩) (Ne.symm gr) (.string ⟨#[]⟩)
              have hBZ := bar_set (bar_set (bar_set (hB6.setCell 1 (.bool true)) (p := ⟨w.heap.size, 0, none⟩) lr (.int .i64 0)) (p := ⟨w.heap.size, 1, none⟩) lr (.int .i64 0)) (p := ⟨w.heap.size, 2, none⟩) lr (.string ⟨#[]⟩)
              refine bodyPost_ret (results_three rfl _ _ w.heap.size (.int .i64 0) (.int .i64 0) (.string ⟨#[]⟩) rfl hrZ.c0 hrZ.c1 hrZ.c2) rfl ?_
              rw [HJ2.out (by simp)]
              exact ⟨rfl, hbZ, hBZ⟩
            · go_wp2
              have hrZ := ((hr6.set0 (.int .i64 3)).set1 (.int .i64 0)).set2 (.string n)
              have hbZ := box2_setOther (box2_setOther (box2_setOther hb6 (p := ⟨w.heap.size, 0, none⟩) (Ne.symm gr) (.int .i64 3)) (p := ⟨w.heap.size, 1, none⟩) (Ne.symm gr) (.int .i64 0)) (p := ⟨w.heap.size, 2, none⟩) (Ne.symm gr) (.string n)
              have hBZ := bar_set (bar_set (bar_set hB6 (p := ⟨w.heap.size, 0, none⟩) lr (.int .i64 3)) (p := ⟨w.heap.size, 1, none⟩) lr (.int .i64 0)) (p := ⟨w.heap.size, 2, none⟩) lr (.string n)
              refine bodyPost_ret (results_three rfl _ _ w.heap.size (.int .i64 3) (.int .i64 0) (.string n) rfl hrZ.c0 hrZ.c1 hrZ.c2) rfl ?_
              rw [HJ3.out (by simp) (by simp)]
              exact ⟨rfl, hbZ, hBZ⟩
          · go_wp2
            have hrZ := (((hr5.setOther (p := ⟨g, 1, none⟩) gr (.bool true)).set0 (.int .i64 0)).set1 (.int .i64 0)).set2 (.string ⟨#[]⟩)
            have hbZ := box2_setOther (box2_setOther (box2_setOther (hb5.set1 (.bool true)) (p := ⟨w.heap.size, 0, none⟩) (Ne.symm gr) (.int .i64 0)) (p := ⟨w.heap.size, 1, none⟩) (Ne.symm gr) (.int .i64 0)) (p := ⟨w.heap.size, 2, none⟩) (Ne.symm gr) (.string ⟨#[]⟩)
            have hBZ := bar_set (bar_set (bar_set (hB5.setCell 1 (.bool true)) (p := ⟨w.heap.size, 0, none⟩) lr (.int .i64 0)) (p := ⟨w.heap.size, 1, none⟩) lr (.int .i64 0)) (p := ⟨w.heap.size, 2, none⟩) lr (.string ⟨#[]⟩)
            refine bodyPost_ret (results_three rfl _ _ w.heap.size (.int .i64 0) (.int .i64 0) (.string ⟨#[]⟩) rfl hrZ.c0 hrZ.c1 hrZ.c2) rfl ?_
            rw [HJ1.out (by simp)]
            exact ⟨rfl, hbZ, hBZ⟩
        · have p1 : ((c : Int) == 1) = false := beq_eq_false_iff_ne.2 (by omega)
          have p2 : ((c : Int) == 2) = false := beq_eq_false_iff_ne.2 (by omega)
          have p3 : ((c : Int) == 3) = false := beq_eq_false_iff_ne.2 (by omega)
          have hS : seen c s1 = (⟨c, 0, ⟨#[]⟩⟩, s1, false) := by unfold seen; rw [if_neg q1, if_neg q2]
          rw [hS]
          clear hS
          have hJ1 : false = true → judged (⟨c, 0, ⟨#[]⟩⟩, s1, false) = (⟨0, 0, ⟨#[]⟩⟩, s1, true) := fun h => by unfold judged; rw [if_pos (by simp [h])]
          have hJ2 : rightV ⟨c, 0, ⟨#[]⟩⟩ = false → judged (⟨c, 0, ⟨#[]⟩⟩, s1, false) = (⟨0, 0, ⟨#[]⟩⟩, s1, true) := fun h => by unfold judged; rw [if_pos (by simp [h])]
          have hJ3 : false = false → rightV ⟨c, 0, ⟨#[]⟩⟩ = true → judged (⟨c, 0, ⟨#[]⟩⟩, s1, false) = (⟨c, 0, ⟨#[]⟩⟩, s1, false) := fun h h' => by unfold judged; rw [if_neg (by simp [h, h'])]
          have hr := fun W : World => refRight_any ⟨c, 0, ⟨#[]⟩⟩ W
          generalize rightV ⟨c, 0, ⟨#[]⟩⟩ = rr at hr hJ2 hJ3
          generalize judged (⟨c, 0, ⟨#[]⟩⟩, s1, false) = J at hJ1 hJ2 hJ3 ⊢
          have HJ1 := Lib.hid hJ1
          have HJ2 := Lib.hid hJ2
          have HJ3 := Lib.hid hJ3
          clear hJ1 hJ2 hJ3
          obtain ⟨hb3, hr3, hv3, hB3⟩ := ready s1 c 23 hb
          go_enter Try.func16, Try.ntmps16
          go_wp2_with fail
          rw [HS1.out]
          generalize (((w.setCell ⟨g, 0, none⟩ (.string s1)).alloc (.cells #[.int .i64 0, .int .i64 0, .string ⟨#[]⟩] 23)).alloc (.cells #[.int .i64 c, .int .i64 0, .string ⟨#[]⟩] 23)) = w3 at hb3 hr3 hv3 hB3 ⊢
          obtain ⟨gr, gv, rv, lv⟩ := HG.out
          have lr := Nat.le_refl w.heap.size
          generalize hgv : w.heap.size + 1 = bv at hv3 gv rv lv ⊢
          clear hgv
          have hv5 := hv3
          have hr5 := hr3
          have hb5 := hb3
          have hB5 := hB3
          clear hb3 hr3 hv3 hB3
          refine (hr _).mono ?_
          rintro e w6 ⟨rfl, hw6⟩
          have hb6 := hb5.below hw6 hb5.lt
          have hr6 := hr5.below hw6 hr5.lt
          have hv6 := hv5.below hw6 hv5.lt
          have hB6 := hB5.trans (Bar.of_below g hw6 (Nat.le_refl _))
          clear hb5 hr5 hv5 hB5 hw6
          have v0 := hv6.c0
          have v1 := hv6.c1
          have v2 := hv6.c2
          have vf := hv6.f
          have b0 := hb6.c0
          have b1 := hb6.c1
          have bf := hb6.f
          have r0 := hr6.c0
          have r1 := hr6.c1
          have r2 := hr6.c2
          have rf := hr6.f
          cases rr
          · go_wp2
            have hrZ := (((hr6.setOther (p := ⟨g, 1, none⟩) gr (.bool true)).set0 (.int .i64 0)).set1 (.int .i64 0)).set2 (.string ⟨#[]⟩)
            have hbZ := box2_setOther (box2_setOther (box2_setOther (hb6.set1 (.bool true)) (p := ⟨w.heap.size, 0, none⟩) (Ne.symm gr) (.int .i64 0)) (p := ⟨w.heap.size, 1, none⟩) (Ne.symm gr) (.int .i64 0)) (p := ⟨w.heap.size, 2, none⟩) (Ne.symm gr) (.string ⟨#[]⟩)
            have hBZ := bar_set (bar_set (bar_set (hB6.setCell 1 (.bool true)) (p := ⟨w.heap.size, 0, none⟩) lr (.int .i64 0)) (p := ⟨w.heap.size, 1, none⟩) lr (.int .i64 0)) (p := ⟨w.heap.size, 2, none⟩) lr (.string ⟨#[]⟩)
            refine bodyPost_ret (results_three rfl _ _ w.heap.size (.int .i64 0) (.int .i64 0) (.string ⟨#[]⟩) rfl hrZ.c0 hrZ.c1 hrZ.c2) rfl ?_
            rw [HJ2.out (by simp)]
            exact ⟨rfl, hbZ, hBZ⟩
          · go_wp2
            have hrZ := ((hr6.set0 (.int .i64 c)).set1 (.int .i64 0)).set2 (.string ⟨#[]⟩)
            have hbZ := box2_setOther (box2_setOther (box2_setOther hb6 (p := ⟨w.heap.size, 0, none⟩) (Ne.symm gr) (.int .i64 c)) (p := ⟨w.heap.size, 1, none⟩) (Ne.symm gr) (.int .i64 0)) (p := ⟨w.heap.size, 2, none⟩) (Ne.symm gr) (.string ⟨#[]⟩)
            have hBZ := bar_set (bar_set (bar_set hB6 (p := ⟨w.heap.size, 0, none⟩) lr (.int .i64 c)) (p := ⟨w.heap.size, 1, none⟩) lr (.int .i64 0)) (p := ⟨w.heap.size, 2, none⟩) lr (.string ⟨#[]⟩)
            refine bodyPost_ret (results_three rfl _ _ w.heap.size (.int .i64 c) (.int .i64 0) (.string ⟨#[]⟩) rfl hrZ.c0 hrZ.c1 hrZ.c2) rfl ?_
            rw [HJ3.out (by simp) (by simp)]
            exact ⟨rfl, hbZ, hBZ⟩
    · have hR : readV s false = (⟨0, 0, ⟨#[]⟩⟩, s, true) := by unfold readV; rw [dif_neg h0]; rfl
      rw [hR]
      have hne := is_empty h0
      go_enter Try.func16, Try.ntmps16
      go_wp2
      refine bodyPost_ret (results_three rfl _ _ w.heap.size (.int .i64 0) (.int .i64 0) (.string ⟨#[]⟩) rfl (by simp [go_sem]) (by simp [go_sem]) (by simp [go_sem])) rfl ?_
      exact ⟨rfl, ((hb.set1 _).alloc _).alloc _, bar_alloc (bar_alloc ((Bar.refl g w).setCell 1 _) _) _⟩
end Go.Proofs.Ytnhejeppjhjnpaa.Va
