/- MiniPrints: whatever cells, walked. -/
import Derived.Test.YtabgbhilbnchnaaMiL
namespace Go.Proofs.Ytabgbhilbnchnaa.Mi
open Go.RowKit Pac Va Sc Ro Lex

/-- What a law of groups carries. -/
structure Inp (w : World) (gx lo1 lo2 lo3 : Nat) (nm : ByteArray) (A1 A2 A3 : Option Addr) (mc cp : Nat) (cs : List C) (g : List Int) (cells : List (List V)) (W : World) : Prop where
  c : HasCols W lo1 A1 cs
  i : HasI W lo2 A2 g
  v : HasVV W lo3 A3 cells
  x : Box2 W gx (.string nm) (.slice A1 mc cp)
  b : Below w.heap.size w W
section
variable {w W W' : World} {gx lo1 lo2 lo3 mc cp m : Nat} {nm : ByteArray} {A1 A2 A3 : Option Addr} {cs : List C} {g : List Int} {cells : List (List V)}
theorem Inp.below (h : Inp w gx lo1 lo2 lo3 nm A1 A2 A3 mc cp cs g cells W) (hb : Below W.heap.size W W') : Inp w gx lo1 lo2 lo3 nm A1 A2 A3 mc cp cs g cells W' :=
  ⟨h.c.below hb (Nat.le_refl _), h.i.below hb (Nat.le_refl _), h.v.below hb (Nat.le_refl _), h.x.below hb h.x.lt, h.b.trans (hb.mono h.b.size)⟩
theorem Inp.new (h1 : HasCols w lo1 A1 cs) (h2 : HasI w lo2 A2 g) (h3 : HasVV w lo3 A3 cells) : Inp w w.heap.size lo1 lo2 lo3 nm A1 A2 A3 mc cp cs g cells (w.alloc (.cells #[.string nm, .slice A1 mc cp] 24)) :=
  have hn := (Below.refl w.heap.size w).alloc (Nat.le_refl _) (.cells #[.string nm, .slice A1 mc cp] 24)
  ⟨h1.below hn (Nat.le_refl _), h2.below hn (Nat.le_refl _), h3.below hn (Nat.le_refl _), Box2.new _ _ _ _, hn⟩
/-- The bounds that an input has of itself. -/
structure Bnd (nm : ByteArray) (mc cp : Nat) (cs : List C) (g : List Int) (cells : List (List V)) : Prop where
  lc : cs.length = mc
  cc : mc ≤ cp
  nn : nm.size ≤ 9223372036854775807
  c9 : mc ≤ 9223372036854775807
  ok : ∀ (j : Nat) (c : C), cs[j]? = some c → c.Ok
  g9 : g.length ≤ 9223372036854775807
  v9 : cells.length ≤ 9223372036854775807
  r9 : ∀ r ∈ cells, r.length ≤ 9223372036854775807
  vok : ∀ r ∈ cells, ∀ v ∈ r, v.Ok
theorem right_of {rr : Bool} {mr : Nat} (hB : Bnd nm mc cp cs g cells) (hr : rightG nm cs g cells = rr) (hm : g.length = m) (hmr : cells.length = mr) (cp2 cp3 : Nat) (hI : Inp w gx lo1 lo2 lo3 nm A1 A2 A3 mc cp cs g cells W) :
    Calls Try.prog 7 #[.agg #[.string nm, .slice A1 mc cp], .slice A2 m cp2, .slice A3 mr cp3] W fun e w' => e = .returned (.bool rr) ∧ Below W.heap.size W w' := by
  have hmc := hB.lc
  subst hr hm hmr hmc
  exact right_any nm A1 A2 A3 cp cp2 cp3 cs g cells lo1 lo2 lo3 W hI.c hI.i hI.v hB.cc hB.nn hB.c9 hB.ok hB.g9 hB.v9 hB.r9
theorem print_of {u : ByteArray} {x : List (List V)} {A5 : Option Addr} {lo5 : Nat} (hmc : cs.length = mc) (hm : g.length = m) (hG : Grp nm cs g) (hr : RightM (kindsL cs g) x) (hu : printM (kindsL cs g) x = u) (cp2 cp3 : Nat) (h1 : HasCols W lo1 A1 cs) (h2 : HasI W lo2 A2 g) (h3 : HasVV W lo5 A5 x) :
    Calls Try.prog 9 #[.agg #[.string nm, .slice A1 mc cp], .slice A2 m cp2, .slice A5 8 cp3] W fun e w' => e = .returned (.string u) ∧ Below W.heap.size W w' := by
  subst hmc hm hu
  exact print_any nm A1 A2 A5 cp cp2 cp3 cs g x lo1 lo2 lo5 W h1 h2 h3 hG hr
theorem refPrint_of {u : ByteArray} {x : List (List V)} {A5 : Option Addr} {lo5 : Nat} (hmc : cs.length = mc) (hm : g.length = m) (hG : Grp nm cs g) (hr : RightM (kindsL cs g) x) (hu : printM (kindsL cs g) x = u) (cp2 cp3 : Nat) (h1 : HasCols W lo1 A1 cs) (h2 : HasI W lo2 A2 g) (h3 : HasVV W lo5 A5 x) :
    Calls Try.prog 10 #[.agg #[.string nm, .slice A1 mc cp], .slice A2 m cp2, .slice A5 8 cp3] W fun e w' => e = .returned (.string u) ∧ Below W.heap.size W w' := by
  subst hmc hm hu
  exact refPrint_any nm A1 A2 A5 cp cp2 cp3 cs g x lo1 lo2 lo5 W h1 h2 h3 (by have := hG.len; omega) hG.at' hG.g1 hG.g8 hr
def RdPost (ot : Bool) (o : Option (List (List V))) (mr : Nat) (w : World) (e : Ending) (w' : World) : Prop :=
  ∃ (v : Value), e = .returned (.tuple #[v, .bool ot]) ∧ (∀ cells, o = some cells → ∃ A cp, v = .slice A mr cp ∧ HasVV w' w.heap.size A cells) ∧ Below w.heap.size w w'
theorem read_of {s : ByteArray} {o : Option (List (List V))} {b : Bool} (hmc : cs.length = mc) (hm : g.length = m) (hG : Grp nm cs g) (ho : readM (kindsL cs g) s = o) (hb : o.isSome = b) (h8 : ∀ x, o = some x → x.length = 8) (hs : s.size ≤ 1000000) (cp2 : Nat) (h1 : HasCols W lo1 A1 cs) (h2 : HasI W lo2 A2 g) :
    Calls Try.prog 14 #[.agg #[.string nm, .slice A1 mc cp], .slice A2 m cp2, .string s] W (RdPost b o 8 W) := by
  subst hmc hm ho hb
  refine (read_any nm A1 A2 cp cp2 cs g s lo1 lo2 W h1 h2 hG hs).mono ?_
  rintro e w' ⟨v, b, rfl, rfl, hv, hB⟩
  refine ⟨v, rfl, fun x hx => ?_, hB⟩
  obtain ⟨A, cp, rfl, h⟩ := hv x hx
  rw [h8 x hx]
  exact ⟨A, cp, rfl, h⟩
def EmPost (m : Nat) (w : World) (e : Ending) (w' : World) : Prop := ∃ A cp, e = .returned (.slice A 8 cp) ∧ HasVV w' w.heap.size A (emptyM m) ∧ Below w.heap.size w w'
theorem emptyP_of (hm : g.length = m) (h8 : m ≤ 8) (cp2 : Nat) (h2 : HasI W lo2 A2 g) : Calls Try.prog 12 #[.slice A2 m cp2] W (EmPost m W) := by
  subst hm
  refine (empty_any A2 cp2 g lo2 W h2 h8).mono ?_
  rintro e w' ⟨A, cp, hs, rfl, _, h1, h2, h3, _, h4⟩
  exact ⟨A, cp, rfl, ⟨hs, h1, h2, h3⟩, h4⟩
theorem refEmpty_of (h8 : m ≤ 8) (cp2 : Nat) : Calls Try.prog 13 #[.slice A2 m cp2] W (EmPost m W) := by
  refine (refEmpty_any A2 cp2 m W (by omega)).mono ?_
  rintro e w' ⟨A, cp, rfl, _, h3, h4⟩
  exact ⟨A, cp, rfl, h3, h4⟩
theorem same_of {x : List (List V)} (hx : x.length = 8) (hr : ∀ r ∈ x, r.length ≤ 8) (A5 A6 : Option Addr) (p5 p6 lo5 lo6 : Nat) (h5 : HasVV W lo5 A5 x) (h6 : HasVV W lo6 A6 x) :
    Calls Try.prog 11 #[.slice A5 8 p5, .slice A6 8 p6] W fun e w' => e = .returned (.bool true) ∧ Below W.heap.size W w' := by
  have h := refSame_any A5 A6 p5 p6 x x lo5 lo6 W h5 h6 (by omega) (by omega) (fun r h => by have := hr r h; omega) (fun r h => by have := hr r h; omega)
  rw [hx] at h
  refine h.mono ?_
  rintro e w' ⟨r, rfl, hr, hb⟩
  have : r = true := hr.2 rfl
  subst this
  exact ⟨rfl, hb⟩
end

set_option maxRecDepth 20000 in
set_option maxHeartbeats 8000000 in
theorem prints_any (A1 A2 A3 : Option Addr) (cp cp2 cp3 mc m mr : Nat) (nm : ByteArray) (cs : List C) (g : List Int) (cells : List (List V)) (lo1 lo2 lo3 : Nat) (w : World) (h1 : HasCols w lo1 A1 cs) (h2 : HasI w lo2 A2 g) (h3 : HasVV w lo3 A3 cells) (hBD : Bnd nm mc cp cs g cells) (hm : g.length = m) (hmr : cells.length = mr) :
    Calls Try.prog 3 #[.agg #[.string nm, .slice A1 mc cp], .slice A2 m cp2, .slice A3 mr cp3] w fun e w' => e = .returned (.bool true) ∧ Below w.heap.size w w' := by
  have hI := Inp.new (nm := nm) (mc := mc) (cp := cp) h1 h2 h3
  clear h1 h2 h3
  obtain ⟨rr, hrr⟩ : ∃ rr, rightG nm cs g cells = rr := ⟨_, rfl⟩
  have HBD := Lib.hid (And.intro hBD (And.intro hm (And.intro hmr hrr)))
  clear hBD hm hmr hrr
  go_enter Try.func3, Try.ntmps3
  generalize hw1 : w.alloc (.cells #[.string nm, .slice A1 mc cp] 24) = w1 at hI
  have c0 := hI.x.c0
  have c1 := hI.x.c1
  go_wp2_with fail
  clear hw1 c0 c1
  refine (right_of HBD.out.1 HBD.out.2.2.2 HBD.out.2.1 HBD.out.2.2.1 cp2 cp3 hI).mono ?_
  rintro e w2 ⟨rfl, hy⟩
  have hI := hI.below hy
  clear hy
  cases rr
  · go_wp2_with fail
    refine (awake_any _).mono ?_
    rintro e y9 ⟨rfl, hy⟩
    have hI := hI.below hy
    have hB := hI.b
    clear hy hI
    go_wp2
    go_ret
    exact ⟨rfl, hB⟩
  · obtain ⟨hBD, hm, hmr, hrr⟩ := HBD.out
    have hg := rightG_out hrr
    have hG := hg.grp
    have hM := hg.m hBD.vok
    obtain rfl : mr = 8 := by rw [← hmr, hg.len]
    have hm8 : m ≤ 8 := by rw [← hm]; exact hG.g8
    obtain ⟨u, hu⟩ : ∃ u, printM (kindsL cs g) cells = u := ⟨_, rfl⟩
    have hcP := fun (W : World) (h : Inp w w.heap.size lo1 lo2 lo3 nm A1 A2 A3 mc cp cs g cells W) => print_of (cp := cp) hBD.lc hm hG hM hu cp2 cp3 h.c h.i h.v
    have hcQ := fun (W : World) (h : Inp w w.heap.size lo1 lo2 lo3 nm A1 A2 A3 mc cp cs g cells W) => refPrint_of (cp := cp) hBD.lc hm hG hM hu cp2 cp3 h.c h.i h.v
    have hcE := fun (W : World) (h : Inp w w.heap.size lo1 lo2 lo3 nm A1 A2 A3 mc cp cs g cells W) => emptyP_of hm hm8 cp2 h.i
    have hcF := fun (W : World) (_ : Inp w w.heap.size lo1 lo2 lo3 nm A1 A2 A3 mc cp cs g cells W) => refEmpty_of (W := W) (A2 := A2) hm8 cp2
    have hcS := fun (W : World) (A5 A6 : Option Addr) (p5 p6 lo5 lo6 : Nat) (h5 : HasVV W lo5 A5 (emptyM m)) (h6 : HasVV W lo6 A6 (emptyM m)) => same_of (by unfold emptyM; simp) (fun r hr => by unfold emptyM at hr; rw [List.eq_of_mem_replicate hr, List.length_replicate]; exact hm8) A5 A6 p5 p6 lo5 lo6 h5 h6
    unfold EmPost at hcE hcF
    clear hBD hm hmr hrr hg hG hM hu HBD
    generalize hgx : w.heap.size = gx at hI hcP hcQ hcE hcF ⊢
    go_wp2_with fail
    have hI := hI.below ((Below.refl _ _).drew)
    refine Lex.region_lex (ops := mcops) (calls := mccalls) mcord (fun W => W.cell? ⟨gx, 0, none⟩ = some (.string nm) ∧ W.cell? ⟨gx, 1, none⟩ = some (.slice A1 mc cp)) (by kernel_rfl) (by kernel_rfl) mcsel (by kernel_rfl) (by kernel_rfl) mclex (⟨hI.x.c0, hI.x.c1⟩) ?_
    unfold mcord
    refine Lex.step_call mc0 rfl (Lex.want_none rfl) (fun K hK => ?_)
    go_simp
    refine (awake_any _).mono ?_
    rintro e y0 ⟨rfl, hy0⟩
    have hI := hI.below hy0
    clear hy0
    refine hK.out _ _ _ (fun _ h => h) ⟨hI.x.c0, hI.x.c1⟩ ?_
    clear hK K
    try simp only [Act.put, List.setIfInBounds_toArray, List.set_cons_zero, List.set_cons_succ]
    refine Lex.step_take (.bool true) mc1 rfl (Lex.want_none rfl) (by intro Wx hSw; (try dsimp only at hSw); go_simp; (try (first | (with_reducible rfl) | assumption | rfl))) ?_
    simp only [Act.put, List.setIfInBounds_toArray, List.set_cons_zero, List.set_cons_succ]
    refine Lex.step_take (.agg #[.string nm, .slice A1 mc cp]) mc2 rfl (Lex.want_some rfl mc1 rfl (b' := true) rfl rfl) (by intro Wx hSw; (try dsimp only at hSw); go_simp; (try (first | (with_reducible rfl) | assumption | rfl))) ?_
    simp only [Act.put, List.setIfInBounds_toArray, List.set_cons_zero, List.set_cons_succ]
    refine Lex.step_take (.slice A2 m cp2) mc3 rfl (Lex.want_some rfl mc1 rfl (b' := true) rfl rfl) (by intro Wx hSw; (try dsimp only at hSw); go_simp; (try (first | (with_reducible rfl) | assumption | rfl))) ?_
    simp only [Act.put, List.setIfInBounds_toArray, List.set_cons_zero, List.set_cons_succ]
    refine Lex.step_take (.slice A3 8 cp3) mc4 rfl (Lex.want_some rfl mc1 rfl (b' := true) rfl rfl) (by intro Wx hSw; (try dsimp only at hSw); go_simp; (try (first | (with_reducible rfl) | assumption | rfl))) ?_
    simp only [Act.put, List.setIfInBounds_toArray, List.set_cons_zero, List.set_cons_succ]
    refine Lex.step_take (.agg #[.string nm, .slice A1 mc cp]) mc6 rfl (Lex.want_some rfl mc1 rfl (b' := true) rfl rfl) (by intro Wx hSw; (try dsimp only at hSw); go_simp; (try (first | (with_reducible rfl) | assumption | rfl))) ?_
    simp only [Act.put, List.setIfInBounds_toArray, List.set_cons_zero, List.set_cons_succ]
    refine Lex.step_take (.slice A2 m cp2) mc7 rfl (Lex.want_some rfl mc1 rfl (b' := true) rfl rfl) (by intro Wx hSw; (try dsimp only at hSw); go_simp; (try (first | (with_reducible rfl) | assumption | rfl))) ?_
    simp only [Act.put, List.setIfInBounds_toArray, List.set_cons_zero, List.set_cons_succ]
    refine Lex.step_take (.slice A3 8 cp3) mc8 rfl (Lex.want_some rfl mc1 rfl (b' := true) rfl rfl) (by intro Wx hSw; (try dsimp only at hSw); go_simp; (try (first | (with_reducible rfl) | assumption | rfl))) ?_
    simp only [Act.put, List.setIfInBounds_toArray, List.set_cons_zero, List.set_cons_succ]
    refine Lex.step_call mc5 rfl (Lex.want_some rfl mc1 rfl (b' := true) rfl rfl) (fun K hK => ?_)
    go_simp
    refine (hcP _ hI).mono ?_
    rintro e y1 ⟨rfl, hy1⟩
    have hI := hI.below hy1
    clear hy1
    refine hK.out _ _ _ (fun _ h => h) ⟨hI.x.c0, hI.x.c1⟩ ?_
    clear hK K
    try simp only [Act.put, List.setIfInBounds_toArray, List.set_cons_zero, List.set_cons_succ]
    refine Lex.step_call mc9 rfl (Lex.want_some rfl mc1 rfl (b' := true) rfl rfl) (fun K hK => ?_)
    go_simp
    refine (hcQ _ hI).mono ?_
    rintro e y2 ⟨rfl, hy2⟩
    have hI := hI.below hy2
    clear hy2
    refine hK.out _ _ _ (fun _ h => h) ⟨hI.x.c0, hI.x.c1⟩ ?_
    clear hK K
    try simp only [Act.put, List.setIfInBounds_toArray, List.set_cons_zero, List.set_cons_succ]
    refine Lex.step_take (.bool true) mc10 rfl (Lex.want_some rfl mc1 rfl (b' := true) rfl rfl) (by intro Wx hSw; (try dsimp only at hSw); go_simp; (try (first | (with_reducible rfl) | assumption | rfl))) ?_
    simp only [Act.put, List.setIfInBounds_toArray, List.set_cons_zero, List.set_cons_succ]
    refine Lex.step_take (.bool true) mc11 rfl (Lex.want_none rfl) (by intro Wx hSw; (try dsimp only at hSw); go_simp; (try (first | (with_reducible rfl) | assumption | rfl))) ?_
    simp only [Act.put, List.setIfInBounds_toArray, List.set_cons_zero, List.set_cons_succ]
    refine Lex.step_take (.bool true) mc12 rfl (Lex.want_none rfl) (by intro Wx hSw; (try dsimp only at hSw); go_simp; (try (first | (with_reducible rfl) | assumption | rfl))) ?_
    simp only [Act.put, List.setIfInBounds_toArray, List.set_cons_zero, List.set_cons_succ]
    refine Lex.step_take (.slice A2 m cp2) mc13 rfl (Lex.want_some rfl mc12 rfl (b' := true) rfl rfl) (by intro Wx hSw; (try dsimp only at hSw); go_simp; (try (first | (with_reducible rfl) | assumption | rfl))) ?_
    simp only [Act.put, List.setIfInBounds_toArray, List.set_cons_zero, List.set_cons_succ]
    refine Lex.step_take (.slice A2 m cp2) mc15 rfl (Lex.want_some rfl mc12 rfl (b' := true) rfl rfl) (by intro Wx hSw; (try dsimp only at hSw); go_simp; (try (first | (with_reducible rfl) | assumption | rfl))) ?_
    simp only [Act.put, List.setIfInBounds_toArray, List.set_cons_zero, List.set_cons_succ]
    refine Lex.step_call mc14 rfl (Lex.want_some rfl mc12 rfl (b' := true) rfl rfl) (fun K hK => ?_)
    go_simp
    refine (hcE _ hI).mono ?_
    rintro e y3 ⟨AE, ce, rfl, hE, hy3⟩
    have hI := hI.below hy3
    clear hy3
    refine hK.out _ _ _ (fun _ h => h) ⟨hI.x.c0, hI.x.c1⟩ ?_
    clear hK K
    try simp only [Act.put, List.setIfInBounds_toArray, List.set_cons_zero, List.set_cons_succ]
    refine Lex.step_call mc16 rfl (Lex.want_some rfl mc12 rfl (b' := true) rfl rfl) (fun K hK => ?_)
    go_simp
    refine (hcF _ hI).mono ?_
    rintro e y4 ⟨AF, cf, rfl, hF, hy4⟩
    have hI := hI.below hy4
    have hE := hE.below hy4 (Nat.le_refl _)
    clear hy4
    refine hK.out _ _ _ (fun _ h => h) ⟨hI.x.c0, hI.x.c1⟩ ?_
    clear hK K
    try simp only [Act.put, List.setIfInBounds_toArray, List.set_cons_zero, List.set_cons_succ]
    refine Lex.step_call mc17 rfl (Lex.want_some rfl mc12 rfl (b' := true) rfl rfl) (fun K hK => ?_)
    go_simp
    refine (hcS _ AE AF ce cf _ _ hE hF).mono ?_
    rintro e y5 ⟨rfl, hy5⟩
    have hI := hI.below hy5
    clear hE hF
    clear hy5
    refine hK.out _ _ _ (fun _ h => h) ⟨hI.x.c0, hI.x.c1⟩ ?_
    clear hK K
    try simp only [Act.put, List.setIfInBounds_toArray, List.set_cons_zero, List.set_cons_succ]
    refine Lex.step_take (.bool true) mc18 rfl (Lex.want_none rfl) (by intro Wx hSw; (try dsimp only at hSw); go_simp; (try (first | (with_reducible rfl) | assumption | rfl))) ?_
    simp only [Act.put, List.setIfInBounds_toArray, List.set_cons_zero, List.set_cons_succ]
    refine Lex.step_take (.bool true) mc19 rfl (Lex.want_none rfl) (by intro Wx hSw; (try dsimp only at hSw); go_simp; (try (first | (with_reducible rfl) | assumption | rfl))) ?_
    simp only [Act.put, List.setIfInBounds_toArray, List.set_cons_zero, List.set_cons_succ]
    refine NoPanic.normal ?_
    have hB := hI.b
    clear hI
    subst hgx
    go_wp2
    go_ret
    exact ⟨rfl, hB⟩
end Go.Proofs.Ytabgbhilbnchnaa.Mi
