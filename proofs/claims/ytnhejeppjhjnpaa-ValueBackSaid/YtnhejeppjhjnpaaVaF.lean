/- The document's examples of values, closed, and walked. -/
import Derived.Test.YtnhejeppjhjnpaaVaG
import Derived.Test.YtnhejeppjhjnpaaPacI
namespace Go.Proofs.Ytnhejeppjhjnpaa.Va
open Go.RowKit Pac

theorem triple {x : V × ByteArray × Bool} {k n : Int} {s t : ByteArray} {b : Bool} (h1 : x.1.k = k) (h2 : x.1.n = n) (h3 : x.1.s = s) (h4 : x.2.1 = t) (h5 : x.2.2 = b) : x = (⟨k, n, s⟩, t, b) := by
  obtain ⟨⟨a, c, d⟩, e, f⟩ := x
  simp only at h1 h2 h3 h4 h5
  subst h1 h2 h3 h4 h5
  rfl
theorem rd1 : readV ⟨#[1, 9, 3, 4, 97, 98, 0]⟩ false = (⟨1, -5, ⟨#[]⟩⟩, ⟨#[3, 4, 97, 98, 0]⟩, false) := triple (by decide +kernel) (by decide +kernel) (bytesEq (by decide +kernel)) (bytesEq (by decide +kernel)) (by decide +kernel)
theorem rd2 : readV ⟨#[3, 4, 97, 98, 0]⟩ false = (⟨3, 0, ⟨#[97, 98]⟩⟩, ⟨#[0]⟩, false) := triple (by decide +kernel) (by decide +kernel) (bytesEq (by decide +kernel)) (bytesEq (by decide +kernel)) (by decide +kernel)
theorem rd3 : readV ⟨#[0]⟩ false = (⟨0, 0, ⟨#[]⟩⟩, ⟨#[]⟩, false) := triple (by decide +kernel) (by decide +kernel) (bytesEq (by decide +kernel)) (bytesEq (by decide +kernel)) (by decide +kernel)
theorem pr1 : printV ⟨1, -5, ⟨#[]⟩⟩ = ⟨#[1, 9]⟩ := bytesEq (by decide +kernel)
theorem pr2 : printV ⟨3, 0, ⟨#[97, 98]⟩⟩ = ⟨#[3, 4, 97, 98]⟩ := bytesEq (by decide +kernel)
theorem pr3 : printV ⟨0, 0, ⟨#[]⟩⟩ = ⟨#[0]⟩ := bytesEq (by decide +kernel)
theorem rg1 : rightV ⟨1, -5, ⟨#[]⟩⟩ = true := by unfold rightV; rw [ByteArray.toList_eq]; rfl
theorem rg2 : rightV ⟨3, 0, ⟨#[97, 98]⟩⟩ = true := rfl
theorem rg3 : rightV ⟨0, 0, ⟨#[]⟩⟩ = true := by unfold rightV; rw [ByteArray.toList_eq]; rfl
theorem rg4 : rightV ⟨2, 2, ⟨#[]⟩⟩ = false := rfl
theorem rg5 : rightV ⟨0, 1, ⟨#[]⟩⟩ = false := rfl
theorem cm1 : cmpV ⟨0, 0, ⟨#[]⟩⟩ ⟨1, -5, ⟨#[]⟩⟩ = -1 := rfl
theorem cm2 : cmpV ⟨1, -5, ⟨#[]⟩⟩ ⟨1, -6, ⟨#[]⟩⟩ = 1 := rfl
theorem cm3 : cmpV ⟨3, 0, ⟨#[97, 98]⟩⟩ ⟨3, 0, ⟨#[97, 98]⟩⟩ = 0 := by
  unfold cmpV
  simp

theorem kRight (a : V) (b : Bool) (h : rightV a = b) (w : World) : Calls Try.prog 9 #[a.v] w fun e w' => e = .returned (.bool b) ∧ Below w.heap.size w w' := by
  rw [← h]
  exact right_any a w
theorem kCmp (a c : V) (r : Int) (h : cmpV a c = r) (w : World) : Calls Try.prog 11 #[a.v, c.v] w fun e w' => e = .returned (.int .i64 r) ∧ Below w.heap.size w w' := by
  rw [← h]
  exact cmp_any a c w
theorem kPrint (a : V) (s : ByteArray) (ho : a.Ok) (hr : rightV a = true) (h : printV a = s) (w : World) : Calls Try.prog 13 #[a.v] w fun e w' => e = .returned (.string s) ∧ Below w.heap.size w w' := by
  rw [← h]
  exact print_any a w ho hr
theorem kRead (g : Nat) (s : ByteArray) (a : V) (t : ByteArray) (h : readV s false = (a, t, false)) (hs : s.size ≤ 9223372036854775807) (v : Value) (hv : a.v = v) (w : World) (hb : IsBox w g s false) :
    Calls Try.prog 15 #[.pointer (some ⟨g, 0, none⟩)] w fun e w' => e = .returned v ∧ IsBox w' g t false ∧ Bar g w w' := by
  have := read_any g s false w hb hs
  rw [h] at this
  subst hv
  exact this
theorem hcat : (⟨#[1, 9]⟩ ++ ⟨#[3, 4, 97, 98]⟩ ++ ⟨#[0]⟩ : ByteArray) = ⟨#[1, 9, 3, 4, 97, 98, 0]⟩ := bytesEq (by decide +kernel)
theorem ok1 : V.Ok ⟨1, -5, ⟨#[]⟩⟩ := ⟨by decide, by decide, by decide, by decide⟩
theorem ok2 : V.Ok ⟨3, 0, ⟨#[97, 98]⟩⟩ := ⟨by decide, by decide, by decide, by decide⟩
theorem ok3 : V.Ok ⟨0, 0, ⟨#[]⟩⟩ := ⟨by decide, by decide, by decide, by decide⟩

/-- What the last condition looks at. -/
structure Env (W : World) (b1 b2 b3 b4 b5 b6 : Nat) : Prop where
  e1 : Box3 W b1 (.int .i64 1) (.int .i64 (-5)) (.string ⟨#[]⟩)
  e2 : Box3 W b2 (.int .i64 3) (.int .i64 0) (.string ⟨#[97, 98]⟩)
  e3 : IsBox W b3 ⟨#[]⟩ false
  e4 : Box3 W b4 (.int .i64 1) (.int .i64 (-5)) (.string ⟨#[]⟩)
  e5 : Box3 W b5 (.int .i64 3) (.int .i64 0) (.string ⟨#[97, 98]⟩)
  e6 : Box3 W b6 (.int .i64 0) (.int .i64 0) (.string ⟨#[]⟩)
theorem Env.below {W W' : World} {b1 b2 b3 b4 b5 b6 : Nat} (h : Env W b1 b2 b3 b4 b5 b6) (hb : Below W.heap.size W W') : Env W' b1 b2 b3 b4 b5 b6 :=
  ⟨h.e1.below hb h.e1.lt, h.e2.below hb h.e2.lt, h.e3.below hb h.e3.lt, h.e4.below hb h.e4.lt, h.e5.below hb h.e5.lt, h.e6.below hb h.e6.lt⟩

set_option maxRecDepth 20000 in
set_option maxHeartbeats 3200000 in
theorem awake_any (w : World) : Calls Try.prog 8 #[] w fun e w' => e = .returned (.bool true) ∧ Below w.heap.size w w' := by
  have hn := (Box3.new w (.int .i64 1) (.int .i64 (-5)) (.string ⟨#[]⟩) 23).alloc (.cells #[.int .i64 3, .int .i64 0, .string ⟨#[97, 98]⟩] 23)
  have hs := Box3.new (w.alloc (.cells #[.int .i64 1, .int .i64 (-5), .string ⟨#[]⟩] 23)) (.int .i64 3) (.int .i64 0) (.string ⟨#[97, 98]⟩) 23
  rw [show (w.alloc (.cells #[.int .i64 1, .int .i64 (-5), .string ⟨#[]⟩] 23)).heap.size = w.heap.size + 1 by simp] at hs
  have hB := ((Below.refl w.heap.size w).alloc (Nat.le_refl _) (.cells #[.int .i64 1, .int .i64 (-5), .string ⟨#[]⟩] 23)).alloc (by simp) (.cells #[.int .i64 3, .int .i64 0, .string ⟨#[97, 98]⟩] 23)
  go_enter Try.func8, Try.ntmps8
  go_wp2_with fail
  generalize ((w.alloc (.cells #[.int .i64 1, .int .i64 (-5), .string ⟨#[]⟩] 23)).alloc (.cells #[.int .i64 3, .int .i64 0, .string ⟨#[97, 98]⟩] 23)) = w2 at hn hs hB ⊢
  have HL := Lib.hid (Nat.le_refl w.heap.size)
  generalize hb2 : w.heap.size + 1 = b2 at hs ⊢
  clear hb2
  generalize hb1 : w.heap.size = b1 at hn ⊢
  clear hb1
  have hn2 := hn.below ((Below.refl w2.heap.size w2).drew) hn.lt
  have hs2 := hs.below ((Below.refl w2.heap.size w2).drew) hs.lt
  have hB2 := hB.drew
  clear hn hs hB
  have CD := Lib.hid (And.intro hn2.c0 (And.intro hn2.c1 (And.intro hn2.c2 (And.intro hs2.c0 (And.intro hs2.c1 hs2.c2)))))
  have hp1 : ∀ W : World, Calls Try.prog 13 #[.agg #[.int .i64 1, .int .i64 (-5), .string ⟨#[]⟩]] W fun e w' => e = .returned (.string ⟨#[1, 9]⟩) ∧ Below W.heap.size W w' := fun W => kPrint ⟨1, -5, ⟨#[]⟩⟩ _ ok1 rg1 pr1 W
  have hp2 : ∀ W : World, Calls Try.prog 13 #[.agg #[.int .i64 3, .int .i64 0, .string ⟨#[97, 98]⟩]] W fun e w' => e = .returned (.string ⟨#[3, 4, 97, 98]⟩) ∧ Below W.heap.size W w' := fun W => kPrint ⟨3, 0, ⟨#[97, 98]⟩⟩ _ ok2 rg2 pr2 W
  have hp3 : ∀ W : World, Calls Try.prog 13 #[.agg #[.int .i64 0, .int .i64 0, .string ⟨#[]⟩]] W fun e w' => e = .returned (.string ⟨#[0]⟩) ∧ Below W.heap.size W w' := fun W => kPrint ⟨0, 0, ⟨#[]⟩⟩ _ ok3 rg3 pr3 W
  go_region_held3 (fun w' => w'.cell? ⟨b1, 0, none⟩ = some (.int .i64 1) ∧ w'.cell? ⟨b1, 1, none⟩ = some (.int .i64 (-5)) ∧ w'.cell? ⟨b1, 2, none⟩ = some (.string ⟨#[]⟩) ∧ w'.cell? ⟨b2, 0, none⟩ = some (.int .i64 3) ∧ w'.cell? ⟨b2, 1, none⟩ = some (.int .i64 0) ∧ w'.cell? ⟨b2, 2, none⟩ = some (.string ⟨#[97, 98]⟩)) (first | (with_reducible exact hk5) | (with_reducible exact hk4) | (with_reducible exact hk3) | (with_reducible exact CD.out) | (exact And.intro (hn5.alloc _).c0 (And.intro (hn5.alloc _).c1 (And.intro (hn5.alloc _).c2 (And.intro (hs5.alloc _).c0 (And.intro (hs5.alloc _).c1 (hs5.alloc _).c2)))))) (first | (go_at_call 13; with_reducible refine (hp1 _).mono ?_; rintro e w3 ⟨rfl, hw3⟩; have hn3 := hn2.below hw3 hn2.lt; have hs3 := hs2.below hw3 hs2.lt; have hk3 := And.intro hn3.c0 (And.intro hn3.c1 (And.intro hn3.c2 (And.intro hs3.c0 (And.intro hs3.c1 hs3.c2))))) | (go_at_call 13; with_reducible refine (hp2 _).mono ?_; rintro e w4 ⟨rfl, hw4⟩; have hn4 := hn3.below hw4 hn3.lt; have hs4 := hs3.below hw4 hs3.lt; have hk4 := And.intro hn4.c0 (And.intro hn4.c1 (And.intro hn4.c2 (And.intro hs4.c0 (And.intro hs4.c1 hs4.c2))))) | (go_at_call 13; with_reducible refine (hp3 _).mono ?_; rintro e w5 ⟨rfl, hw5⟩; have hn5 := hn4.below hw5 hn4.lt; have hs5 := hs4.below hw5 hs4.lt; have hk5 := And.intro hn5.c0 (And.intro hn5.c1 (And.intro hn5.c2 (And.intro hs5.c0 (And.intro hs5.c1 hs5.c2))))))
  have hB3 := hB2.trans (hw3.mono hB2.size)
  have hB4 := hB3.trans (hw4.mono hB3.size)
  have hB5 := hB4.trans (hw5.mono hB4.size)
  clear hn2 hs2 hB2 hn3 hs3 hB3 hn4 hs4 hB4 hk3 hk4 hk5 CD hw3 hw4 hw5 hp1 hp2 hp3
  rw [hcat]
  have hb6 := Box2.new w5 (.string ⟨#[1, 9, 3, 4, 97, 98, 0]⟩) (.bool false) 31
  have hn6 := hn5.alloc (.cells #[.string ⟨#[1, 9, 3, 4, 97, 98, 0]⟩, .bool false] 31)
  have hs6 := hs5.alloc (.cells #[.string ⟨#[1, 9, 3, 4, 97, 98, 0]⟩, .bool false] 31)
  have hB6 := hB5.alloc hB5.size (.cells #[.string ⟨#[1, 9, 3, 4, 97, 98, 0]⟩, .bool false] 31)
  have hl3 := hB5.size
  have n1 := Nat.ne_of_lt hn5.lt
  have n2 := Nat.ne_of_lt hs5.lt
  generalize (w5.alloc (.cells #[.string ⟨#[1, 9, 3, 4, 97, 98, 0]⟩, .bool false] 31)) = w6 at hb6 hn6 hs6 hB6 ⊢
  clear hn5 hs5 hB5
  generalize w5.heap.size = b3 at hb6 hl3 n1 n2 ⊢
  go_wp2_with fail
  refine (kRead b3 _ _ _ rd1 (by decide) (.agg #[.int .i64 1, .int .i64 (-5), .string ⟨#[]⟩]) rfl _ hb6).mono ?_
  rintro e w7 ⟨rfl, hb7, hw7⟩
  have hn7 := hn6.bar hw7 n1
  have hs7 := hs6.bar hw7 n2
  have hB7 := hB6.trans (hw7.below hl3 hB6.size)
  clear hn6 hs6 hB6 hb6 hw7
  go_wp2_with fail
  refine (kRead b3 _ _ _ rd2 (by decide) (.agg #[.int .i64 3, .int .i64 0, .string ⟨#[97, 98]⟩]) rfl _ hb7).mono ?_
  rintro e w8 ⟨rfl, hb8, hw8⟩
  have hn8 := hn7.bar hw8 n1
  have hs8 := hs7.bar hw8 n2
  have hB8 := hB7.trans (hw8.below hl3 hB7.size)
  clear hn7 hs7 hB7 hb7 hw8
  go_wp2_with fail
  refine (kRead b3 _ _ _ rd3 (by decide) (.agg #[.int .i64 0, .int .i64 0, .string ⟨#[]⟩]) rfl _ hb8).mono ?_
  rintro e w9 ⟨rfl, hb9, hw9⟩
  have hn9 := hn8.bar hw9 n1
  have hs9 := hs8.bar hw9 n2
  have hB9 := hB8.trans (hw9.below hl3 hB8.size)
  clear hn8 hs8 hB8 hb8 hw9
  have h4 := ((Box3.new w9 (.int .i64 1) (.int .i64 (-5)) (.string ⟨#[]⟩) 23).alloc (.cells #[.int .i64 3, .int .i64 0, .string ⟨#[97, 98]⟩] 23)).alloc (.cells #[.int .i64 0, .int .i64 0, .string ⟨#[]⟩] 23)
  have h5 := (Box3.new (w9.alloc (.cells #[.int .i64 1, .int .i64 (-5), .string ⟨#[]⟩] 23)) (.int .i64 3) (.int .i64 0) (.string ⟨#[97, 98]⟩) 23).alloc (.cells #[.int .i64 0, .int .i64 0, .string ⟨#[]⟩] 23)
  have h6 := Box3.new ((w9.alloc (.cells #[.int .i64 1, .int .i64 (-5), .string ⟨#[]⟩] 23)).alloc (.cells #[.int .i64 3, .int .i64 0, .string ⟨#[97, 98]⟩] 23)) (.int .i64 0) (.int .i64 0) (.string ⟨#[]⟩) 23
  rw [show (w9.alloc (.cells #[.int .i64 1, .int .i64 (-5), .string ⟨#[]⟩] 23)).heap.size = w9.heap.size + 1 by simp] at h5
  rw [show ((w9.alloc (.cells #[.int .i64 1, .int .i64 (-5), .string ⟨#[]⟩] 23)).alloc (.cells #[.int .i64 3, .int .i64 0, .string ⟨#[97, 98]⟩] 23)).heap.size = w9.heap.size + 1 + 1 by simp] at h6
  have hE : Env (((w9.alloc (.cells #[.int .i64 1, .int .i64 (-5), .string ⟨#[]⟩] 23)).alloc (.cells #[.int .i64 3, .int .i64 0, .string ⟨#[97, 98]⟩] 23)).alloc (.cells #[.int .i64 0, .int .i64 0, .string ⟨#[]⟩] 23)) b1 b2 b3 w9.heap.size (w9.heap.size + 1) (w9.heap.size + 1 + 1) := ⟨((hn9.alloc _).alloc _).alloc _, ((hs9.alloc _).alloc _).alloc _, ((hb9.alloc _).alloc _).alloc _, h4, h5, h6⟩
  have hBE := ((hB9.alloc hB9.size (.cells #[.int .i64 1, .int .i64 (-5), .string ⟨#[]⟩] 23)).alloc (by have := hB9.size; simp; omega) (.cells #[.int .i64 3, .int .i64 0, .string ⟨#[97, 98]⟩] 23)).alloc (by have := hB9.size; simp; omega) (.cells #[.int .i64 0, .int .i64 0, .string ⟨#[]⟩] 23)
  clear h4 h5 h6 hn9 hs9 hb9 hB9 hl3 n1 n2
  have e1_0 := hE.e1.c0
  have e1_1 := hE.e1.c1
  have e1_2 := hE.e1.c2
  have e2_0 := hE.e2.c0
  have e2_1 := hE.e2.c1
  have e2_2 := hE.e2.c2
  have e4_0 := hE.e4.c0
  have e4_1 := hE.e4.c1
  have e4_2 := hE.e4.c2
  have e5_0 := hE.e5.c0
  have e5_1 := hE.e5.c1
  have e5_2 := hE.e5.c2
  have e6_0 := hE.e6.c0
  have e6_1 := hE.e6.c1
  have e6_2 := hE.e6.c2
  have e3_0 := hE.e3.c0
  have e3_1 := hE.e3.c1
  go_wp2_with fail
  clear e1_0 e1_1 e1_2 e2_0 e2_1 e2_2 e4_0 e4_1 e4_2 e5_0 e5_1 e5_2 e6_0 e6_1 e6_2 e3_0 e3_1
  generalize (((w9.alloc (.cells #[.int .i64 1, .int .i64 (-5), .string ⟨#[]⟩] 23)).alloc (.cells #[.int .i64 3, .int .i64 0, .string ⟨#[97, 98]⟩] 23)).alloc (.cells #[.int .i64 0, .int .i64 0, .string ⟨#[]⟩] 23)) = x0 at hE hBE ⊢
  refine (kRight ⟨1, -5, ⟨#[]⟩⟩ true rg1 _).mono ?_
  rintro e x1 ⟨rfl, hx1⟩
  have hBE := hBE.trans (hx1.mono hBE.size)
  have hE := hE.below hx1
  clear hx1
  have e1_0 := hE.e1.c0
  have e1_1 := hE.e1.c1
  have e1_2 := hE.e1.c2
  have e2_0 := hE.e2.c0
  have e2_1 := hE.e2.c1
  have e2_2 := hE.e2.c2
  have e4_0 := hE.e4.c0
  have e4_1 := hE.e4.c1
  have e4_2 := hE.e4.c2
  have e5_0 := hE.e5.c0
  have e5_1 := hE.e5.c1
  have e5_2 := hE.e5.c2
  have e6_0 := hE.e6.c0
  have e6_1 := hE.e6.c1
  have e6_2 := hE.e6.c2
  have e3_0 := hE.e3.c0
  have e3_1 := hE.e3.c1
  go_wp2_with fail
  clear e1_0 e1_1 e1_2 e2_0 e2_1 e2_2 e4_0 e4_1 e4_2 e5_0 e5_1 e5_2 e6_0 e6_1 e6_2 e3_0 e3_1
  refine (kRight ⟨3, 0, ⟨#[97, 98]⟩⟩ true rg2 _).mono ?_
  rintro e x2 ⟨rfl, hx2⟩
  have hBE := hBE.trans (hx2.mono hBE.size)
  have hE := hE.below hx2
  clear hx2
  have e1_0 := hE.e1.c0
  have e1_1 := hE.e1.c1
  have e1_2 := hE.e1.c2
  have e2_0 := hE.e2.c0
  have e2_1 := hE.e2.c1
  have e2_2 := hE.e2.c2
  have e4_0 := hE.e4.c0
  have e4_1 := hE.e4.c1
  have e4_2 := hE.e4.c2
  have e5_0 := hE.e5.c0
  have e5_1 := hE.e5.c1
  have e5_2 := hE.e5.c2
  have e6_0 := hE.e6.c0
  have e6_1 := hE.e6.c1
  have e6_2 := hE.e6.c2
  have e3_0 := hE.e3.c0
  have e3_1 := hE.e3.c1
  go_wp2_with fail
  clear e1_0 e1_1 e1_2 e2_0 e2_1 e2_2 e4_0 e4_1 e4_2 e5_0 e5_1 e5_2 e6_0 e6_1 e6_2 e3_0 e3_1
  refine (kRight ⟨0, 0, ⟨#[]⟩⟩ true rg3 _).mono ?_
  rintro e x3 ⟨rfl, hx3⟩
  have hBE := hBE.trans (hx3.mono hBE.size)
  have hE := hE.below hx3
  clear hx3
  have e1_0 := hE.e1.c0
  have e1_1 := hE.e1.c1
  have e1_2 := hE.e1.c2
  have e2_0 := hE.e2.c0
  have e2_1 := hE.e2.c1
  have e2_2 := hE.e2.c2
  have e4_0 := hE.e4.c0
  have e4_1 := hE.e4.c1
  have e4_2 := hE.e4.c2
  have e5_0 := hE.e5.c0
  have e5_1 := hE.e5.c1
  have e5_2 := hE.e5.c2
  have e6_0 := hE.e6.c0
  have e6_1 := hE.e6.c1
  have e6_2 := hE.e6.c2
  have e3_0 := hE.e3.c0
  have e3_1 := hE.e3.c1
  go_wp2_with fail
  clear e1_0 e1_1 e1_2 e2_0 e2_1 e2_2 e4_0 e4_1 e4_2 e5_0 e5_1 e5_2 e6_0 e6_1 e6_2 e3_0 e3_1
  refine (kRight ⟨2, 2, ⟨#[]⟩⟩ false rg4 _).mono ?_
  rintro e x4 ⟨rfl, hx4⟩
  have hBE := hBE.trans (hx4.mono hBE.size)
  have hE := hE.below hx4
  clear hx4
  have e1_0 := hE.e1.c0
  have e1_1 := hE.e1.c1
  have e1_2 := hE.e1.c2
  have e2_0 := hE.e2.c0
  have e2_1 := hE.e2.c1
  have e2_2 := hE.e2.c2
  have e4_0 := hE.e4.c0
  have e4_1 := hE.e4.c1
  have e4_2 := hE.e4.c2
  have e5_0 := hE.e5.c0
  have e5_1 := hE.e5.c1
  have e5_2 := hE.e5.c2
  have e6_0 := hE.e6.c0
  have e6_1 := hE.e6.c1
  have e6_2 := hE.e6.c2
  have e3_0 := hE.e3.c0
  have e3_1 := hE.e3.c1
  go_wp2_with fail
  clear e1_0 e1_1 e1_2 e2_0 e2_1 e2_2 e4_0 e4_1 e4_2 e5_0 e5_1 e5_2 e6_0 e6_1 e6_2 e3_0 e3_1
  refine (kRight ⟨0, 1, ⟨#[]⟩⟩ false rg5 _).mono ?_
  rintro e x5 ⟨rfl, hx5⟩
  have hBE := hBE.trans (hx5.mono hBE.size)
  have hE := hE.below hx5
  clear hx5
  have e1_0 := hE.e1.c0
  have e1_1 := hE.e1.c1
  have e1_2 := hE.e1.c2
  have e2_0 := hE.e2.c0
  have e2_1 := hE.e2.c1
  have e2_2 := hE.e2.c2
  have e4_0 := hE.e4.c0
  have e4_1 := hE.e4.c1
  have e4_2 := hE.e4.c2
  have e5_0 := hE.e5.c0
  have e5_1 := hE.e5.c1
  have e5_2 := hE.e5.c2
  have e6_0 := hE.e6.c0
  have e6_1 := hE.e6.c1
  have e6_2 := hE.e6.c2
  have e3_0 := hE.e3.c0
  have e3_1 := hE.e3.c1
  go_wp2_with fail
  clear e1_0 e1_1 e1_2 e2_0 e2_1 e2_2 e4_0 e4_1 e4_2 e5_0 e5_1 e5_2 e6_0 e6_1 e6_2 e3_0 e3_1
  refine (kCmp ⟨0, 0, ⟨#[]⟩⟩ ⟨1, -5, ⟨#[]⟩⟩ _ cm1 _).mono ?_
  rintro e x6 ⟨rfl, hx6⟩
  have hBE := hBE.trans (hx6.mono hBE.size)
  have hE := hE.below hx6
  clear hx6
  have e1_0 := hE.e1.c0
  have e1_1 := hE.e1.c1
  have e1_2 := hE.e1.c2
  have e2_0 := hE.e2.c0
  have e2_1 := hE.e2.c1
  have e2_2 := hE.e2.c2
  have e4_0 := hE.e4.c0
  have e4_1 := hE.e4.c1
  have e4_2 := hE.e4.c2
  have e5_0 := hE.e5.c0
  have e5_1 := hE.e5.c1
  have e5_2 := hE.e5.c2
  have e6_0 := hE.e6.c0
  have e6_1 := hE.e6.c1
  have e6_2 := hE.e6.c2
  have e3_0 := hE.e3.c0
  have e3_1 := hE.e3.c1
  go_wp2_with fail
  clear e1_0 e1_1 e1_2 e2_0 e2_1 e2_2 e4_0 e4_1 e4_2 e5_0 e5_1 e5_2 e6_0 e6_1 e6_2 e3_0 e3_1
  refine (kCmp ⟨1, -5, ⟨#[]⟩⟩ ⟨1, -6, ⟨#[]⟩⟩ _ cm2 _).mono ?_
  rintro e x7 ⟨rfl, hx7⟩
  have hBE := hBE.trans (hx7.mono hBE.size)
  have hE := hE.below hx7
  clear hx7
  have e1_0 := hE.e1.c0
  have e1_1 := hE.e1.c1
  have e1_2 := hE.e1.c2
  have e2_0 := hE.e2.c0
  have e2_1 := hE.e2.c1
  have e2_2 := hE.e2.c2
  have e4_0 := hE.e4.c0
  have e4_1 := hE.e4.c1
  have e4_2 := hE.e4.c2
  have e5_0 := hE.e5.c0
  have e5_1 := hE.e5.c1
  have e5_2 := hE.e5.c2
  have e6_0 := hE.e6.c0
  have e6_1 := hE.e6.c1
  have e6_2 := hE.e6.c2
  have e3_0 := hE.e3.c0
  have e3_1 := hE.e3.c1
  go_wp2_with fail
  clear e1_0 e1_1 e1_2 e2_0 e2_1 e2_2 e4_0 e4_1 e4_2 e5_0 e5_1 e5_2 e6_0 e6_1 e6_2 e3_0 e3_1
  refine (kCmp ⟨3, 0, ⟨#[97, 98]⟩⟩ ⟨3, 0, ⟨#[97, 98]⟩⟩ _ cm3 _).mono ?_
  rintro e x8 ⟨rfl, hx8⟩
  have hBE := hBE.trans (hx8.mono hBE.size)
  have hE := hE.below hx8
  clear hx8
  have e1_0 := hE.e1.c0
  have e1_1 := hE.e1.c1
  have e1_2 := hE.e1.c2
  have e2_0 := hE.e2.c0
  have e2_1 := hE.e2.c1
  have e2_2 := hE.e2.c2
  have e4_0 := hE.e4.c0
  have e4_1 := hE.e4.c1
  have e4_2 := hE.e4.c2
  have e5_0 := hE.e5.c0
  have e5_1 := hE.e5.c1
  have e5_2 := hE.e5.c2
  have e6_0 := hE.e6.c0
  have e6_1 := hE.e6.c1
  have e6_2 := hE.e6.c2
  have e3_0 := hE.e3.c0
  have e3_1 := hE.e3.c1
  go_wp2_with fail
  clear e1_0 e1_1 e1_2 e2_0 e2_1 e2_2 e4_0 e4_1 e4_2 e5_0 e5_1 e5_2 e6_0 e6_1 e6_2 e3_0 e3_1
  refine (kPrint ⟨1, -5, ⟨#[]⟩⟩ _ ok1 rg1 pr1 _).mono ?_
  rintro e x9 ⟨rfl, hx9⟩
  have hBE := hBE.trans (hx9.mono hBE.size)
  have hE := hE.below hx9
  clear hx9
  have e1_0 := hE.e1.c0
  have e1_1 := hE.e1.c1
  have e1_2 := hE.e1.c2
  have e2_0 := hE.e2.c0
  have e2_1 := hE.e2.c1
  have e2_2 := hE.e2.c2
  have e4_0 := hE.e4.c0
  have e4_1 := hE.e4.c1
  have e4_2 := hE.e4.c2
  have e5_0 := hE.e5.c0
  have e5_1 := hE.e5.c1
  have e5_2 := hE.e5.c2
  have e6_0 := hE.e6.c0
  have e6_1 := hE.e6.c1
  have e6_2 := hE.e6.c2
  have e3_0 := hE.e3.c0
  have e3_1 := hE.e3.c1
  go_wp2_with fail
  clear e1_0 e1_1 e1_2 e2_0 e2_1 e2_2 e4_0 e4_1 e4_2 e5_0 e5_1 e5_2 e6_0 e6_1 e6_2 e3_0 e3_1
  refine (kPrint ⟨3, 0, ⟨#[97, 98]⟩⟩ _ ok2 rg2 pr2 _).mono ?_
  rintro e x10 ⟨rfl, hx10⟩
  have hBE := hBE.trans (hx10.mono hBE.size)
  have hE := hE.below hx10
  clear hx10
  have e1_0 := hE.e1.c0
  have e1_1 := hE.e1.c1
  have e1_2 := hE.e1.c2
  have e2_0 := hE.e2.c0
  have e2_1 := hE.e2.c1
  have e2_2 := hE.e2.c2
  have e4_0 := hE.e4.c0
  have e4_1 := hE.e4.c1
  have e4_2 := hE.e4.c2
  have e5_0 := hE.e5.c0
  have e5_1 := hE.e5.c1
  have e5_2 := hE.e5.c2
  have e6_0 := hE.e6.c0
  have e6_1 := hE.e6.c1
  have e6_2 := hE.e6.c2
  have e3_0 := hE.e3.c0
  have e3_1 := hE.e3.c1
  go_wp2_with fail
  have hd := boxDone_any _ _ _ _ hE.e3
  rw [show doneB ⟨#[]⟩ false = true by unfold doneB; rw [ByteArray.toList_eq]; rfl] at hd
  refine hd.mono ?_
  rintro e x11 ⟨rfl, rfl⟩
  go_wp2
  go_ret
  exact ⟨rfl, hBE⟩
end Go.Proofs.Ytnhejeppjhjnpaa.Va
