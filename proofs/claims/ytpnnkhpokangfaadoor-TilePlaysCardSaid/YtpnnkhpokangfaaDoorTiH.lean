/- Tiles, the document's calls: a cell. -/
import Derived.Test.YtpnnkhpokangfaaDoorTiG
import Derived.Test.YtpnnkhpokangfaaDoorMgY
namespace Go.Proofs.YtpnnkhpokangfaaDoor.Ti
open Go.RowKit Pac Va Sc Mi Sp Ro Lex

theorem atG_get {c : Int} : ∀ {l : List (List Int)} {i k : Nat}, atG c l = some (i, k) → ∃ g, l[i]? = some g ∧ g[k]? = some c
 | [], i, k, h => by simp [atG] at h
 | g :: l, i, k, h => by
  unfold atG at h
  cases h1 : at1 c g with
  | some k' =>
   rw [h1] at h
   injection h with h
   injection h with e1 e2
   subst e1 e2
   exact ⟨g, rfl, at1_get h1⟩
  | none =>
   rw [h1] at h
   obtain ⟨⟨i', k'⟩, h2, e⟩ := Option.map_eq_some_iff.1 h
   injection e with e1 e2
   subst e1 e2
   obtain ⟨g', h3, h4⟩ := atG_get (l := l) h2
   exact ⟨g', h3, h4⟩
theorem col_none {l : List (List Int)} {n : Nat} {c : Int} (h : IsSplit l n) (hn : atG c l = none) : ¬ (0 ≤ c ∧ c < (n : Int)) := fun ⟨h0, h1⟩ => by
 obtain ⟨g, hg, hc⟩ := List.mem_flatten.1 (h.all h0 h1)
 exact atG_none.1 hn g hg hc
theorem HasS.at' {w : World} {B : Option Addr} {l : List ByteArray} (h : HasS w B l) {q : Nat} {s : ByteArray} (hq : l[q]? = some s) : ∃ b o, B = some ⟨b, o, none⟩ ∧ b < w.heap.size ∧ w.cell? ⟨b, o + q, none⟩ = some (.string s) := by
 obtain ⟨b, o, hA, hlo, hlt, hc⟩ := h (fun e => by rw [e] at hq; simp at hq)
 refine ⟨b, o, hA, hlt, ?_⟩
 have := hc q s hq 0 _ rfl
 rw [Nat.mul_one, Nat.add_zero] at this
 exact this
theorem results_val2 {fn : Func} {p q : Tmp} (h : fn.results = #[.cell p 37, .tmp q]) (tmps : Array Value) (w : World) (g : Nat) (v0 v1 v2 : Value)
  (hp : tmps.getD p undef = .pointer (some ⟨g, 0, none⟩)) (c0 : w.cell? ⟨g, 0, none⟩ = some v0) (c1 : w.cell? ⟨g, 1, none⟩ = some v1) (c2 : w.cell? ⟨g, 2, none⟩ = some v2) :
  (results fn tmps).run Tryd.prog w = .ok (.tuple #[.agg #[v0, v1, v2], tmps.getD q undef]) w := by
 have hp' : tmps[p]?.getD undef = .pointer (some ⟨g, 0, none⟩) := by simpa using hp
 clear hp
 simp only [results, h]
 go_simp
theorem grp_len {l : List (List Int)} {n : Nat} (h : IsSplit l n) {g : List Int} (hg : g ∈ l) : g.length ≤ 8 := by
 have := in_len hg
 have := h.len
 have := h.n8
 omega
theorem grp_in {nm : ByteArray} {cs : List C} {l : List (List Int)} {g : List Int} (hr : rightS nm cs = true) (h : IsSplit l cs.length) (hg : g ∈ l) : Grp nm cs g :=
 ⟨hr, List.length_pos_iff.2 (h.ne g hg), grp_len h hg, fun c hc => h.rng c (List.mem_flatten.2 ⟨g, hg, hc⟩), h.n8⟩

set_option maxRecDepth 20000 in
set_option maxHeartbeats 3200000 in
theorem refCell_any {nm : ByteArray} {cs : List C} {A : Option Addr} {mc cp : Nat} {w : World} {X : Nat → Prop} {t : TV} {r : R} (s c : Int) (hS : HasSch w A mc cp nm cs) (hT : HasU cs w X t r) (h0 : -9223372036854775808 ≤ s) (h1 : s ≤ 9223372036854775807) (h2 : -9223372036854775808 ≤ c) (h3 : c ≤ 9223372036854775807) :
  Calls Tryd.prog 19 #[.agg #[.string nm, .slice A mc cp], t.v, .int .i64 s, .int .i64 c] w (CellPost (cellR cs r s c) w) := by
 have hb1 := (Below.refl w.heap.size w).alloc (Nat.le_refl _) (.cells #[.string nm, .slice A mc cp] 24)
 have hx0 := Box2.new w (.string nm) (.slice A mc cp) 24
 have hb2 := hb1.alloc hb1.size (.cells #[.slice t.A t.n t.c, .int .i64 t.m, .slice t.B t.n t.d] 32)
 have hx1 := Sc.Box3.new (w.alloc (.cells #[.string nm, .slice A mc cp] 24)) (.slice t.A t.n t.c) (.int .i64 t.m) (.slice t.B t.n t.d) 32
 have hb3 := hb2.alloc hb2.size (.cells #[.int .i64 0, .int .i64 0, .string ⟨#[]⟩] 37)
 have hx2 := Sc.Box3.new ((w.alloc (.cells #[.string nm, .slice A mc cp] 24)).alloc (.cells #[.slice t.A t.n t.c, .int .i64 t.m, .slice t.B t.n t.d] 32)) (.int .i64 0) (.int .i64 0) (.string ⟨#[]⟩) 37
 have hx0 := (hx0.alloc (.cells #[.slice t.A t.n t.c, .int .i64 t.m, .slice t.B t.n t.d] 32)).alloc (.cells #[.int .i64 0, .int .i64 0, .string ⟨#[]⟩] 37)
 have hx1 := hx1.alloc (.cells #[.int .i64 0, .int .i64 0, .string ⟨#[]⟩] 37)
 rw [show (w.alloc (.cells #[.string nm, .slice A mc cp] 24)).heap.size = w.heap.size + 1 by simp] at hx1
 rw [show ((w.alloc (.cells #[.string nm, .slice A mc cp] 24)).alloc (.cells #[.slice t.A t.n t.c, .int .i64 t.m, .slice t.B t.n t.d] 32)).heap.size = w.heap.size + 1 + 1 by simp] at hx2
 have hS0 := hS.below hb3 (Nat.le_refl _)
 have hT0 := hT.below hb3 (Nat.le_refl _)
 have hP : ∀ (v : V) (W : World), cellR cs r s c = some v → Below w.heap.size w W → CellPost (cellR cs r s c) w (.returned (.tuple #[.agg #[.int .i64 v.k, .int .i64 v.n, .string v.s], .bool true])) W := fun v W h hB => by rw [h]; exact ⟨rfl, hB⟩
 have hN : ∀ (W : World), cellR cs r s c = none → Below w.heap.size w W → CellPost (cellR cs r s c) w (.returned (.tuple #[.agg #[.int .i64 0, .int .i64 0, .string ⟨#[]⟩], .bool false])) W := fun W h hB => by rw [h]; exact ⟨rfl, hB⟩
 have HP := Lib.hid hP
 have HN := Lib.hid hN
 clear hP hN hb1 hb2
 generalize CellPost (cellR cs r s c) w = post at HP HN ⊢
 have hlen8 : r.l.length ≤ 8 := by have := hT.s.few; have := hT.s.n8; omega
 have hcF := refFind_any t.A t.c r.l c 0 _ hT0.sp.ll (by omega) (fun g hg => by have := grp_len hT.s hg; omega)
 rw [hT.n] at hcF
 have hcT := fun (W : World) (h : HasU cs W X t r) => refTaken_any (w := W) (t := t) s h h0 h1
 obtain ⟨tA, n, c0, m, tB, d0⟩ := t
 unfold TV.v at hcT ⊢
 simp only at hcF hcT hx0 hx1 hx2 hb3 hS0 hT0 ⊢
 have HT := Lib.hid hT0
 have HS := Lib.hid hS0
 clear hT hS hT0 hS0
 go_enter Tryd.func19, Tryd.ntmps19
 go_wp2_with fail
 generalize ((w.alloc (.cells #[.string nm, .slice A mc cp] 24)).alloc (.cells #[.slice tA n c0, .int .i64 m, .slice tB n d0] 32)).alloc (.cells #[.int .i64 0, .int .i64 0, .string ⟨#[]⟩] 37) = w3 at hcF hx0 hx1 hx2 hb3 HT HS ⊢
 refine hcF.mono ?_
 rintro e w4 ⟨i, k, bb, rfl, hF1, hF0, hw4⟩
 have hx0 := hx0.below hw4 hx0.lt
 have hx1 := hx1.below hw4 hx1.lt
 have hx2 := hx2.below hw4 hx2.lt
 have hB3 := hb3.trans (hw4.mono hb3.size)
 have HT := Lib.hid (HT.out.below hw4 (Nat.le_refl _))
 have HS := Lib.hid (HS.out.below hw4 (Nat.le_refl _))
 clear hcF hw4 hb3
 cases bb with
 | false =>
  have hc0 := (hF0 rfl).1
  have HC : Hid (cellR cs r s c = none) := Lib.hid (by
   unfold cellR
   rw [if_neg (fun h => col_none HT.out.s hc0 ⟨h.2.1, h.2.2⟩)])
  have HR := Lib.hid (((hx2.set0 (.int .i64 0)).set1 (.int .i64 0)).set2 (.string ⟨#[]⟩))
  have HB := Lib.hid (((hB3.setCell (p := ⟨w.heap.size + 1 + 1, 0, none⟩) (by show w.heap.size ≤ w.heap.size + 1 + 1; omega) (.int .i64 0)).setCell (p := ⟨w.heap.size + 1 + 1, 1, none⟩) (by show w.heap.size ≤ w.heap.size + 1 + 1; omega) (.int .i64 0)).setCell (p := ⟨w.heap.size + 1 + 1, 2, none⟩) (by show w.heap.size ≤ w.heap.size + 1 + 1; omega) (.string ⟨#[]⟩))
  have x0 := hx2.c0
  have x1 := hx2.c1
  have x2 := hx2.c2
  have xf := hx2.f
  clear hF1 hF0 hc0 hx0 hx1 hx2
  go_wp2
  refine bodyPost_ret (results_val2 rfl _ _ (w.heap.size + 1 + 1) _ _ _ rfl HR.out.c0 HR.out.c1 HR.out.c2) rfl ?_
  exact HN.out _ HC.out HB.out
 | true =>
  have hat := hF1 rfl
  obtain ⟨gg, hgi, hgk⟩ := atG_get hat
  clear hF1 hF0 hat
  have hgm := List.mem_of_getElem? hgi
  have hcr := HT.out.s.rng c (List.mem_flatten.2 ⟨gg, hgm, List.mem_of_getElem? hgk⟩)
  have hil : i < n := by
   have := (List.getElem?_eq_some_iff.1 hgi).1
   have := HT.out.n
   simp only at this
   omega
  have x10 := hx1.c0
  have x11 := hx1.c1
  have x12 := hx1.c2
  have hc := hcT w4 HT.out
  cases htk : takenB r s with
  | false =>
   rw [htk] at hc
   have HC : Hid (cellR cs r s c = none) := Lib.hid (by
    unfold cellR
    rw [if_neg (fun h => by rw [htk] at h; cases h.1)])
   clear htk
   go_wp2_with fail
   refine hc.mono ?_
   rintro e w5 ⟨rfl, hw5⟩
   have hx2 := hx2.below hw5 hx2.lt
   have hB3 := hB3.trans (hw5.mono hB3.size)
   have HR := Lib.hid (((hx2.set0 (.int .i64 0)).set1 (.int .i64 0)).set2 (.string ⟨#[]⟩))
   have HB := Lib.hid (((hB3.setCell (p := ⟨w.heap.size + 1 + 1, 0, none⟩) (by show w.heap.size ≤ w.heap.size + 1 + 1; omega) (.int .i64 0)).setCell (p := ⟨w.heap.size + 1 + 1, 1, none⟩) (by show w.heap.size ≤ w.heap.size + 1 + 1; omega) (.int .i64 0)).setCell (p := ⟨w.heap.size + 1 + 1, 2, none⟩) (by show w.heap.size ≤ w.heap.size + 1 + 1; omega) (.string ⟨#[]⟩))
   have x0 := hx2.c0
   have x1 := hx2.c1
   have x2 := hx2.c2
   have xf := hx2.f
   clear hc hw5 hx0 hx1 hx2 x10 x11 x12
   go_wp2
   refine bodyPost_ret (results_val2 rfl _ _ (w.heap.size + 1 + 1) _ _ _ rfl HR.out.c0 HR.out.c1 HR.out.c2) rfl ?_
   exact HN.out _ HC.out HB.out
  | true =>
   rw [htk] at hc
   obtain ⟨s0, s8, hsf⟩ := taken_in htk
   obtain ⟨j, rfl⟩ : ∃ j : Nat, s = (j : Int) := ⟨s.toNat, by omega⟩
   have hj8 : j < 8 := by omega
   obtain ⟨xr, hxr⟩ : ∃ xr, r.M[j]? = some xr := ⟨_, List.getElem?_eq_getElem (by rw [HT.out.rm.len]; exact hj8)⟩
   have hxl : xr.length = cs.length := by rw [HT.out.rm.row xr (List.mem_of_getElem? hxr), allK_len]
   have hcv : xr[c.toNat]? = some (cellAt xr c) := by
    obtain ⟨cn, rfl⟩ : ∃ cn : Nat, c = (cn : Int) := ⟨c.toNat, by omega⟩
    rw [Int.toNat_natCast]
    have hl : cn < xr.length := by omega
    rw [List.getElem?_eq_getElem hl]
    rw [cellAt_of (List.getElem?_eq_getElem hl)]
   have HC : Hid (cellR cs r (j : Int) c = some (cellAt xr c)) := Lib.hid (by
    unfold cellR
    rw [if_pos ⟨htk, hcr.1, hcr.2⟩, Int.toNat_natCast, hxr, Option.getD_some, hcv]
    rfl)
   clear htk hsf s0 s8 hcv hxl
   go_wp2_with fail
   refine hc.mono ?_
   rintro e wx ⟨rfl, hw5⟩
   have hx0 := hx0.below hw5 hx0.lt
   have hx1 := hx1.below hw5 hx1.lt
   have hx2 := hx2.below hw5 hx2.lt
   have hB3 := hB3.trans (hw5.mono hB3.size)
   have HT := Lib.hid (HT.out.below hw5 (Nat.le_refl _))
   have hS3 := HS.out.below hw5 (Nat.le_refl _)
   clear hc hw5 x10 x11 x12 HS
   obtain ⟨ba, oa, A2, cp2, hAe, _, _, f5, hI3, hcp2⟩ := HT.out.sp.ll.at hgi
   have hAe : tA = some ⟨ba, oa, none⟩ := hAe
   subst hAe
   have hI3 : Ro.HasI wx 0 A2 gg := hI3
   have hmi : (minis cs r)[i]? = some (printM (kindsL cs gg) (gcells gg r.M)) := by unfold minis; rw [List.getElem?_map, hgi]; rfl
   obtain ⟨bm, om, hBe, _, f6⟩ := HT.out.mi.at' hmi
   have hBe : tB = some ⟨bm, om, none⟩ := hBe
   subst hBe
   have hG := grp_in hS3.r HT.out.s hgm
   have hRM := gcells_right HT.out.rm hG.at'
   have hkl8 : (kindsL cs gg).length ≤ 8 := by rw [kinds_len]; exact hG.g8
   have hsz := (printM_le hRM hkl8).2
   have HRD : Hid (readM (kindsL cs gg) (printM (kindsL cs gg) (gcells gg r.M)) = some (gcells gg r.M)) := Lib.hid (read_print hRM)
   have hcR := fun (W : World) (h4 : HasSch W A mc cp nm cs) (h5 : Ro.HasI W 0 A2 gg) => refRead_any nm A A2 cp cp2 cs gg (printM (kindsL cs gg) (gcells gg r.M)) 0 0 W h4.c h5 (by have := hG.len; omega) hG.at' hG.g1 hG.g8 (kinds_ok hG) (by omega)
   generalize printM (kindsL cs gg) (gcells gg r.M) = tx at hcR HRD f6
   rw [hS3.n] at hcR
   obtain ⟨p, hp⟩ : ∃ p, gg.length = p := ⟨_, rfl⟩
   rw [hp] at hcR f5 hcp2
   have f1 := hx0.c0
   have f2 := hx0.c1
   have f3 := hx1.c0
   have f4 := hx1.c2
   have i1 : (i : Int) < (n : Int) := by omega
   have i0 : (0 : Int) ≤ (i : Int) := by omega
   clear hG hRM hkl8 hsz hmi hgm hx0 hx1
   go_wp2
   refine Lex.region_lex (ops := uaops) (calls := uacalls) uaord (fun W => W.cell? ⟨w.heap.size, 0, none⟩ = some (.string nm) ∧ W.cell? ⟨w.heap.size, 1, none⟩ = some (.slice A mc cp) ∧ W.cell? ⟨w.heap.size + 1, 0, none⟩ = some (.slice (some ⟨ba, oa, none⟩) n c0) ∧ W.cell? ⟨w.heap.size + 1, 2, none⟩ = some (.slice (some ⟨bm, om, none⟩) n d0) ∧ W.cell? ⟨ba, oa + i, none⟩ = some (.slice A2 p cp2) ∧ W.cell? ⟨bm, om + i, none⟩ = some (.string tx)) (by kernel_rfl) (by kernel_rfl) uasel (by kernel_rfl) (by kernel_rfl) ualex (⟨f1, f2, f3, f4, f5, f6⟩) ?_
   unfold uaord
   have f1 : wx.drew.cell? ⟨w.heap.size, 0, none⟩ = some (.string nm) := f1
   have f2 : wx.drew.cell? ⟨w.heap.size, 1, none⟩ = some (.slice A mc cp) := f2
   have f3 : wx.drew.cell? ⟨w.heap.size + 1, 0, none⟩ = some (.slice (some ⟨ba, oa, none⟩) n c0) := f3
   have f4 : wx.drew.cell? ⟨w.heap.size + 1, 2, none⟩ = some (.slice (some ⟨bm, om, none⟩) n d0) := f4
   have f5 : wx.drew.cell? ⟨ba, oa + i, none⟩ = some (.slice A2 p cp2) := f5
   have f6 : wx.drew.cell? ⟨bm, om + i, none⟩ = some (.string tx) := f6
   have hS4 : HasSch wx.drew A mc cp nm cs := hS3.below ((Below.refl wx.heap.size wx).drew) (Nat.le_refl _)
   have hI4 : Ro.HasI wx.drew 0 A2 gg := hI3.below ((Below.refl wx.heap.size wx).drew) (Nat.le_refl _)
   have hB3 := hB3.drew
   have hx2 := hx2.drew
   generalize wx.drew = wz at *
   refine Lex.step_take (.agg #[.string nm, .slice A mc cp]) ua0 rfl (Lex.want_none rfl) (by intro Wx hSw; (try dsimp only at hSw); go_simp; (try (first | (with_reducible rfl) | assumption | rfl))) ?_
   simp only [Act.put, List.setIfInBounds_toArray, List.set_cons_zero, List.set_cons_succ]
   refine Lex.step_take (.pointer (some ⟨w.heap.size + 1, 0, none⟩)) ua1 rfl (Lex.want_none rfl) (by intro Wx hSw; (try dsimp only at hSw); go_simp; (try (first | (with_reducible rfl) | assumption | rfl))) ?_
   simp only [Act.put, List.setIfInBounds_toArray, List.set_cons_zero, List.set_cons_succ]
   refine Lex.step_take (.slice (some ⟨ba, oa, none⟩) n c0) ua2 rfl (Lex.want_none rfl) (by intro Wx hSw; (try dsimp only at hSw); go_simp; (try (first | (with_reducible rfl) | assumption | rfl))) ?_
   simp only [Act.put, List.setIfInBounds_toArray, List.set_cons_zero, List.set_cons_succ]
   refine Lex.step_take (.int .i64 (i : Int)) ua3 rfl (Lex.want_none rfl) (by intro Wx hSw; (try dsimp only at hSw); go_simp; (try (first | (with_reducible rfl) | assumption | rfl))) ?_
   simp only [Act.put, List.setIfInBounds_toArray, List.set_cons_zero, List.set_cons_succ]
   refine Lex.step_take (.pointer (some ⟨ba, oa + i, none⟩)) ua4 rfl (Lex.want_none rfl) (by intro Wx hSw; (try dsimp only at hSw); go_simp; (try (first | (with_reducible rfl) | assumption | rfl))) ?_
   simp only [Act.put, List.setIfInBounds_toArray, List.set_cons_zero, List.set_cons_succ]
   refine Lex.step_take (.slice A2 p cp2) ua5 rfl (Lex.want_none rfl) (by intro Wx hSw; (try dsimp only at hSw); go_simp; (try (first | (with_reducible rfl) | assumption | rfl))) ?_
   simp only [Act.put, List.setIfInBounds_toArray, List.set_cons_zero, List.set_cons_succ]
   refine Lex.step_take (.pointer (some ⟨w.heap.size + 1, 2, none⟩)) ua6 rfl (Lex.want_none rfl) (by intro Wx hSw; (try dsimp only at hSw); go_simp; (try (first | (with_reducible rfl) | assumption | rfl))) ?_
   simp only [Act.put, List.setIfInBounds_toArray, List.set_cons_zero, List.set_cons_succ]
   refine Lex.step_take (.slice (some ⟨bm, om, none⟩) n d0) ua7 rfl (Lex.want_none rfl) (by intro Wx hSw; (try dsimp only at hSw); go_simp; (try (first | (with_reducible rfl) | assumption | rfl))) ?_
   simp only [Act.put, List.setIfInBounds_toArray, List.set_cons_zero, List.set_cons_succ]
   refine Lex.step_take (.int .i64 (i : Int)) ua8 rfl (Lex.want_none rfl) (by intro Wx hSw; (try dsimp only at hSw); go_simp; (try (first | (with_reducible rfl) | assumption | rfl))) ?_
   simp only [Act.put, List.setIfInBounds_toArray, List.set_cons_zero, List.set_cons_succ]
   refine Lex.step_take (.pointer (some ⟨bm, om + i, none⟩)) ua9 rfl (Lex.want_none rfl) (by intro Wx hSw; (try dsimp only at hSw); go_simp; (try (first | (with_reducible rfl) | assumption | rfl))) ?_
   simp only [Act.put, List.setIfInBounds_toArray, List.set_cons_zero, List.set_cons_succ]
   refine Lex.step_take (.string tx) ua10 rfl (Lex.want_none rfl) (by intro Wx hSw; (try dsimp only at hSw); go_simp; (try (first | (with_reducible rfl) | assumption | rfl))) ?_
   simp only [Act.put, List.setIfInBounds_toArray, List.set_cons_zero, List.set_cons_succ]
   refine Lex.step_call ua11 rfl (Lex.want_none rfl) (fun K hK => ?_)
   go_simp
   refine (hcR _ hS4 hI4).mono ?_
   rintro e y4 ⟨v3, bb, rfl, hbb, hcells, hw4⟩
   rw [HRD.out] at hbb hcells
   obtain rfl : bb = true := hbb
   obtain ⟨A3, cp3, hs3, rfl, hcp3, _, hl3, hT3, hV3, bt, ot, rfl, hF3⟩ := hcells _ rfl
   have hB4 := hB3.trans (hw4.mono hB3.size)
   have f1 := cell_below hw4 f1
   have f2 := cell_below hw4 f2
   have f3 := cell_below hw4 f3
   have f4 := cell_below hw4 f4
   have f5 := cell_below hw4 f5
   have f6 := cell_below hw4 f6
   have hx2 := hx2.below hw4 hx2.lt
   clear hw4 hcells
   refine hK.out _ _ _ (fun _ h => h) ⟨f1, f2, f3, f4, f5, f6⟩ ?_
   clear hK K
   try simp only [Act.put, List.setIfInBounds_toArray, List.set_cons_zero, List.set_cons_succ]
   refine Lex.step_take (.tuple #[.slice (some ⟨bt, ot, none⟩) 8 cp3, .bool true]) ua12 rfl (Lex.want_none rfl) (by intro Wx hSw; (try dsimp only at hSw); go_simp; (try (first | (with_reducible rfl) | assumption | rfl))) ?_
   simp only [Act.put, List.setIfInBounds_toArray, List.set_cons_zero, List.set_cons_succ]
   refine Lex.step_take (.slice (some ⟨bt, ot, none⟩) 8 cp3) ua13 rfl (Lex.want_none rfl) (by intro Wx hSw; (try dsimp only at hSw); go_simp; (try (first | (with_reducible rfl) | assumption | rfl))) ?_
   simp only [Act.put, List.setIfInBounds_toArray, List.set_cons_zero, List.set_cons_succ]
   refine Lex.step_take (.bool true) ua14 rfl (Lex.want_none rfl) (by intro Wx hSw; (try dsimp only at hSw); go_simp; (try (first | (with_reducible rfl) | assumption | rfl))) ?_
   simp only [Act.put, List.setIfInBounds_toArray, List.set_cons_zero, List.set_cons_succ]
   refine Lex.step_take (.slice (some ⟨bt, ot, none⟩) 8 cp3) ua15 rfl (Lex.want_none rfl) (by intro Wx hSw; (try dsimp only at hSw); go_simp; (try (first | (with_reducible rfl) | assumption | rfl))) ?_
   simp only [Act.put, List.setIfInBounds_toArray, List.set_cons_zero, List.set_cons_succ]
   refine Lex.step_take (.bool true) ua16 rfl (Lex.want_none rfl) (by intro Wx hSw; (try dsimp only at hSw); go_simp; (try (first | (with_reducible rfl) | assumption | rfl))) ?_
   simp only [Act.put, List.setIfInBounds_toArray, List.set_cons_zero, List.set_cons_succ]
   have hj3 : (gcells gg r.M)[j]? = some (gg.map (cellAt xr)) := gcells_at hxr
   obtain ⟨x3, hx3, hxe⟩ : ∃ x3, hs3[j]? = some x3 ∧ x3.l = gg.map (cellAt xr) := by
    rw [← hl3, List.getElem?_map] at hj3
    exact Option.map_eq_some_iff.1 hj3
   obtain ⟨b5, o5, hA5, _⟩ := hF3 j x3 hx3
   obtain ⟨b', o', eA, _, _, hce⟩ := hT3 (fun e => by rw [e] at hx3; simp at hx3)
   injection eA with eA
   injection eA with eA eO
   subst eA eO
   have g1 := hce j x3 hx3 0 _ rfl
   rw [Nat.mul_one, Nat.add_zero, hA5, hxe, List.length_map, hp] at g1
   have hv3 := (hV3 x3 (List.mem_of_getElem? hx3)).1
   rw [hA5, hxe] at hv3
   have hk3 : (gg.map (cellAt xr))[k]? = some (cellAt xr c) := by rw [List.getElem?_map, hgk]; rfl
   obtain ⟨b6, o6, e6, _, _, v1, v2, v3⟩ := hv3.at hk3
   injection e6 with e6
   injection e6 with e6 e6o
   subst e6 e6o
   have hkp : k < p := by
    have := (List.getElem?_eq_some_iff.1 hgk).1
    omega
   have q1 : (j : Int) < 8 := by omega
   have q0 : (0 : Int) ≤ (j : Int) := by omega
   have q2 : (k : Int) < (p : Int) := by omega
   have q3 : (0 : Int) ≤ (k : Int) := by omega
   clear hk3
   generalize cellAt xr c = cv at v1 v2 v3 HC
   obtain ⟨vk, vn, vs⟩ := cv
   have HR := Lib.hid (((hx2.set0 (.int .i64 vk)).set1 (.int .i64 vn)).set2 (.string vs))
   have HB := Lib.hid (((hB4.setCell (p := ⟨w.heap.size + 1 + 1, 0, none⟩) (by show w.heap.size ≤ w.heap.size + 1 + 1; omega) (.int .i64 vk)).setCell (p := ⟨w.heap.size + 1 + 1, 1, none⟩) (by show w.heap.size ≤ w.heap.size + 1 + 1; omega) (.int .i64 vn)).setCell (p := ⟨w.heap.size + 1 + 1, 2, none⟩) (by show w.heap.size ≤ w.heap.size + 1 + 1; omega) (.string vs))
   have x0 := hx2.c0
   have x1 := hx2.c1
   have x2 := hx2.c2
   have xf := hx2.f
   clear hx2 hB3 hB4 f1 f2 f3 f4 f5 f6 hl3 hT3 hV3 hF3 hx3 hxe hce hv3 hj3
   refine NoPanic.normal ?_
   go_wp2
   refine bodyPost_ret (results_val2 rfl _ _ (w.heap.size + 1 + 1) _ _ _ rfl HR.out.c0 HR.out.c1 HR.out.c2) rfl ?_
   exact HP.out _ _ HC.out HB.out
end Go.Proofs.YtpnnkhpokangfaaDoor.Ti
