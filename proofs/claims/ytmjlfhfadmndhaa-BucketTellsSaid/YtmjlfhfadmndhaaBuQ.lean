/- BucketPlays, walked. -/
import Derived.Test.YtmjlfhfadmndhaaBuP
import Derived.Test.YtmjlfhfadmndhaaXuc
namespace Go.Proofs.Ytmjlfhfadmndhaa.Bu
open Go.RowKit Pac Ls Lex

/-- A slice of bytes. -/
def cellsU (b : Nat) : List Value := [.int .u8 b]
theorem cellsU_len (b : Nat) : (cellsU b).length = 1 := rfl
abbrev HasU (w : World) (lo : Nat) (A : Option Addr) (l : List Nat) : Prop := Li.HasL cellsU 1 w lo A l
theorem HasU.at {w : World} {lo : Nat} {A : Option Addr} {l : List Nat} (h : HasU w lo A l) {q : Nat} {e : Nat} (hq : l[q]? = some e) :
    ∃ b o, A = some ⟨b, o, none⟩ ∧ lo ≤ b ∧ b < w.heap.size ∧ w.cell? ⟨b, o + q, none⟩ = some (.int .u8 e) := by
  obtain ⟨b, o, hA, hlo, hlt, hc⟩ := h (fun e => by rw [e] at hq; simp at hq)
  have h1 := hc q e hq 0 _ rfl
  rw [Nat.mul_one, Nat.add_zero] at h1
  exact ⟨b, o, hA, hlo, hlt, h1⟩
section
variable {A G : Option Addr} {n cp m cg : Nat} {l : List E} {gs : List Nat} {w : World}
set_option maxRecDepth 20000 in
set_option maxHeartbeats 12800000 in
theorem plays_any (hl : HasE w 0 A l) (hn : l.length = n) (hc : n ≤ cp) (hl9 : n ≤ 9223372036854775807) (hg : HasU w 0 G gs) (hm : gs.length = m) (hm9 : m ≤ 9223372036854775807) (hu : ∀ u ∈ gs, u ≤ 255) :
    Calls Try.prog 3 #[.slice A n cp, .slice G m cg] w fun e w' => e = .returned (.bool true) ∧ Below w.heap.size w w' := by
  have hcs := small_any (cp := cp) 0 hl hn hl9
  have HL := Lib.hid (And.intro hn (And.intro hm hu))
  have HW := Lib.hid (And.intro hl hg)
  clear hl hn hg hm hu
  go_enter Try.func3, Try.ntmps3
  go_wp2_with fail
  refine hcs.mono ?_
  rintro e w1 ⟨b, rfl, hb0, hb⟩
  clear hcs
  cases b
  · clear hb0
    go_wp2_with fail
    refine (awake_any _).mono ?_
    rintro e wz ⟨rfl, hz⟩
    go_wp2
    go_ret
    exact ⟨rfl, hb.trans (hz.mono hb.size)⟩
  have hsm := hb0.1 rfl
  have hn60 : n ≤ 60 := by have := hsm.len; rw [HL.out.1] at this; exact this
  clear hb0 hsm
  go_wp2
  go_loopw [5, 6, 7] (fun xv yv i wr => ∃ (q nx cx cy : Nat) (Ax Ay : Option Addr) (S : List E), q ≤ n ∧ i = .int .i64 q ∧ xv = .slice Ax nx cx ∧ yv = .slice Ay nx cy ∧ nx ≤ cx ∧ nx ≤ cy ∧ nx ≤ q ∧ HasE wr 0 Ax S ∧ HasE wr 0 Ay S ∧ Hid (S.length = nx ∧ Rises S) ∧ Below w.heap.size w wr) (fun _ _ i _ => n - (intOf i).toNat)
  case atStart => exact ⟨0, 0, 0, 0, none, none, [], Nat.zero_le _, rfl, rfl, rfl, Nat.le_refl _, Nat.le_refl _, Nat.le_refl _, hasE_nil _ _ _, hasE_nil _ _ _, Lib.hid ⟨rfl, rises_nil⟩, hb⟩
  case round =>
    clear hb
    obtain ⟨q, nx, cx, cy, Ax, Ay, S, hq, rfl, rfl, rfl, hcx, hcy, hnx, hX, hY, hS, hB⟩ := hrel
    by_cases hlt : q < n
    · have hgt := List.getElem?_eq_getElem (l := l) (i := q) (by rw [HL.out.1]; exact hlt)
      generalize (l[q]'(by rw [HL.out.1]; exact hlt)) = x at hgt
      have hgz := List.getElem?_eq_getElem (l := l) (i := 0) (by rw [HL.out.1]; omega)
      generalize (l[0]'(by rw [HL.out.1]; omega)) = x0 at hgz
      obtain ⟨b, o, rfl, _, hlb, d0, d1, d2⟩ := HasE.at (HW.out.1.below hB (Nat.le_refl _)) hgt
      have HX := Lib.hid hS.out.1
      have HR := Lib.hid hS.out.2
      have hn1 : nx ≤ 100000 := by omega
      obtain ⟨ek, et, es⟩ := x
      obtain ⟨K0, t0, s0⟩ := x0
      simp only at d0 d1 d2
      have HK : Hid (∀ W : World, Below w.heap.size w W → W.cell? ⟨b, o, none⟩ = some (.string K0)) := Lib.hid (fun W hW => by
        obtain ⟨b', o', hA', _, _, f0, _, _⟩ := HasE.at (HW.out.1.below hW (Nat.le_refl _)) hgz
        injection hA' with hA'
        injection hA' with a1 a2
        subst a1 a2
        rw [Nat.zero_mul, Nat.add_zero] at f0
        exact f0)
      have i1 : (q : Int) < (n : Int) := by omega
      have i0 : (0 : Int) ≤ (q : Int) := by omega
      have iz : (0 : Int) < (n : Int) := by omega
      clear hgt hgz hS
      go_wp2_with fail
      have hdr := (Below.refl wr.heap.size wr).drew
      refine Lex.region_lex (ops := bqops) (calls := bqcalls) bqord (fun W => W.cell? ⟨b, o + q * 3, none⟩ = some (.string ek) ∧ W.cell? ⟨b, o + q * 3 + 1, none⟩ = some (.int .i64 et) ∧ W.cell? ⟨b, o + q * 3 + 2, none⟩ = some (.int .i64 es)) (by kernel_rfl) (by kernel_rfl) bqsel (by kernel_rfl) (by kernel_rfl) bqlex (⟨cell_below hdr d0, cell_below hdr d1, cell_below hdr d2⟩) ?_
      unfold bqord
      have d0 := cell_below hdr d0
      have d1 := cell_below hdr d1
      have d2 := cell_below hdr d2
      have hX := hX.below hdr (Nat.le_refl _)
      have hY := hY.below hdr (Nat.le_refl _)
      have hB := hB.trans (hdr.mono hB.size)
      clear hdr
      refine Lex.step_take (.slice Ax nx cx) bq0 rfl (Lex.want_none rfl) (by intro Wx hSw; (try dsimp only at hSw); go_simp; (try (first | (with_reducible rfl) | assumption | rfl))) ?_
      simp only [Act.put, List.setIfInBounds_toArray, List.set_cons_zero, List.set_cons_succ]
      refine Lex.step_take (.slice (some ⟨b, o, none⟩) n cp) bq1 rfl (Lex.want_none rfl) (by intro Wx hSw; (try dsimp only at hSw); go_simp; (try (first | (with_reducible rfl) | assumption | rfl))) ?_
      simp only [Act.put, List.setIfInBounds_toArray, List.set_cons_zero, List.set_cons_succ]
      refine Lex.step_take (.int .i64 (q : Int)) bq2 rfl (Lex.want_none rfl) (by intro Wx hSw; (try dsimp only at hSw); go_simp; (try (first | (with_reducible rfl) | assumption | rfl))) ?_
      simp only [Act.put, List.setIfInBounds_toArray, List.set_cons_zero, List.set_cons_succ]
      refine Lex.step_take (.pointer (some ⟨b, o + q * 3, none⟩)) bq3 rfl (Lex.want_none rfl) (by intro Wx hSw; (try dsimp only at hSw); go_simp; (try (first | (with_reducible rfl) | assumption | rfl))) ?_
      simp only [Act.put, List.setIfInBounds_toArray, List.set_cons_zero, List.set_cons_succ]
      refine Lex.step_take (.agg #[.string ek, .int .i64 et, .int .i64 es]) bq4 rfl (Lex.want_none rfl) (by intro Wx hSw; (try dsimp only at hSw); go_simp; (try (first | (with_reducible rfl) | assumption | rfl))) ?_
      simp only [Act.put, List.setIfInBounds_toArray, List.set_cons_zero, List.set_cons_succ]
      refine Lex.step_take (.slice Ay nx cy) bq6 rfl (Lex.want_none rfl) (by intro Wx hSw; (try dsimp only at hSw); go_simp; (try (first | (with_reducible rfl) | assumption | rfl))) ?_
      simp only [Act.put, List.setIfInBounds_toArray, List.set_cons_zero, List.set_cons_succ]
      refine Lex.step_take (.slice (some ⟨b, o, none⟩) n cp) bq7 rfl (Lex.want_none rfl) (by intro Wx hSw; (try dsimp only at hSw); go_simp; (try (first | (with_reducible rfl) | assumption | rfl))) ?_
      simp only [Act.put, List.setIfInBounds_toArray, List.set_cons_zero, List.set_cons_succ]
      refine Lex.step_take (.int .i64 (q : Int)) bq8 rfl (Lex.want_none rfl) (by intro Wx hSw; (try dsimp only at hSw); go_simp; (try (first | (with_reducible rfl) | assumption | rfl))) ?_
      simp only [Act.put, List.setIfInBounds_toArray, List.set_cons_zero, List.set_cons_succ]
      refine Lex.step_take (.pointer (some ⟨b, o + q * 3, none⟩)) bq9 rfl (Lex.want_none rfl) (by intro Wx hSw; (try dsimp only at hSw); go_simp; (try (first | (with_reducible rfl) | assumption | rfl))) ?_
      simp only [Act.put, List.setIfInBounds_toArray, List.set_cons_zero, List.set_cons_succ]
      refine Lex.step_take (.agg #[.string ek, .int .i64 et, .int .i64 es]) bq10 rfl (Lex.want_none rfl) (by intro Wx hSw; (try dsimp only at hSw); go_simp; (try (first | (with_reducible rfl) | assumption | rfl))) ?_
      simp only [Act.put, List.setIfInBounds_toArray, List.set_cons_zero, List.set_cons_succ]
      refine Lex.step_call bq5 rfl (Lex.want_none rfl) (fun K hK => ?_)
      go_simp
      refine (put_any ⟨ek, et, es⟩ 0 hX HX.out hcx hn1 HR.out).mono ?_
      rintro e y1 ⟨A1, n1, k1, rfl, hnA1, hcA1, hLA1, hy⟩
      have hY := hY.below hy (Nat.le_refl _)
      have hB := hB.trans (hy.mono hB.size)
      have d0 := cell_below hy d0
      have d1 := cell_below hy d1
      have d2 := cell_below hy d2
      clear hy
      refine hK.out _ _ _ (fun _ h => h) ⟨d0, d1, d2⟩ ?_
      clear hK K
      try simp only [Act.put, List.setIfInBounds_toArray, List.set_cons_zero, List.set_cons_succ]
      refine Lex.step_call bq11 rfl (Lex.want_none rfl) (fun K hK => ?_)
      go_simp
      refine ((refPut_any (cp := cy) ⟨ek, et, es⟩ 0 hY HX.out hn1 HR.out).mono (fun e w' h => PutPost.weak e w' h)).mono ?_
      rintro e y2 ⟨A2, n2, k2, rfl, hnA2, hcA2, hLA2, hy⟩
      have hLA1 := hLA1.below hy (Nat.le_refl _)
      have hB := hB.trans (hy.mono hB.size)
      have d0 := cell_below hy d0
      have d1 := cell_below hy d1
      have d2 := cell_below hy d2
      clear hy
      refine hK.out _ _ _ (fun _ h => h) ⟨d0, d1, d2⟩ ?_
      clear hK K
      try simp only [Act.put, List.setIfInBounds_toArray, List.set_cons_zero, List.set_cons_succ]
      refine Lex.step_take (.slice A1 n1 k1) bq12 rfl (Lex.want_none rfl) (by intro Wx hSw; (try dsimp only at hSw); go_simp; (try (first | (with_reducible rfl) | assumption | rfl))) ?_
      simp only [Act.put, List.setIfInBounds_toArray, List.set_cons_zero, List.set_cons_succ]
      refine Lex.step_take (.slice A2 n2 k2) bq13 rfl (Lex.want_none rfl) (by intro Wx hSw; (try dsimp only at hSw); go_simp; (try (first | (with_reducible rfl) | assumption | rfl))) ?_
      simp only [Act.put, List.setIfInBounds_toArray, List.set_cons_zero, List.set_cons_succ]
      refine NoPanic.normal ?_
      clear d0 d1 d2 hX hY
      obtain ⟨S1, hS1⟩ : ∃ S1, putL S ⟨ek, et, es⟩ = S1 := ⟨_, rfl⟩
      have hr1 : Rises S1 := by rw [← hS1]; exact rises_put HR.out
      have hlen := (len_put S ⟨ek, et, es⟩).2
      rw [hS1] at hnA1 hnA2 hLA1 hLA2 hlen
      obtain rfl : n1 = n2 := hnA1.symm.trans hnA2
      rw [hnA1, HX.out] at hlen
      have HS1 := Lib.hid (And.intro hnA1 hr1)
      clear hS1 hr1 hnA1 hnA2
      have hle : n1 ≤ q + 1 := by omega
      have hL1 := hLA1
      have hL2 := hLA2
      have hc1 := hcA1
      have hc2 := hcA2
      clear hLA1 hLA2 hcA1 hcA2 hlen
      by_cases hqm : q < m
      · have hgu := List.getElem?_eq_getElem (l := gs) (i := q) (by rw [HL.out.2.1]; exact hqm)
        generalize (gs[q]'(by rw [HL.out.2.1]; exact hqm)) = u at hgu
        have hu9 := HL.out.2.2 _ (List.mem_of_getElem? hgu)
        have HG := Lib.hid hgu
        obtain ⟨bu, ou, rfl, _, hlbu, f9⟩ := HasU.at (HW.out.2.below hB (Nat.le_refl _)) hgu
        have m1 : (q : Int) < (m : Int) := by omega
        have z1 : (u : Int) % 3 = ((u % 3 : Nat) : Int) := by push_cast; rfl
        have z2 : (u : Int).tmod 3 = ((u % 3 : Nat) : Int) := by rw [Int.tmod_eq_emod_of_nonneg (by omega)]; exact z1
        have z3 : u % 3 < 3 := Nat.mod_lt _ (by omega)
        obtain ⟨r, hr⟩ : ∃ r, u % 3 = r := ⟨_, rfl⟩
        rw [hr] at z1 z2 z3
        have z4 : IntKind.u8.wrap (r : Int) = (r : Int) := by rw [IntKind.wrap_u8]; omega
        clear hgu hr
        by_cases hr0 : r = 0
        · subst hr0
          obtain ⟨k, hk⟩ : ∃ k, u % n = k := ⟨_, rfl⟩
          have hkn : k < n := by rw [← hk]; exact Nat.mod_lt _ (by omega)
          have hgk := List.getElem?_eq_getElem (l := l) (i := k) (by rw [HL.out.1]; exact hkn)
          generalize (l[k]'(by rw [HL.out.1]; exact hkn)) = y at hgk
          obtain ⟨b', o', hA', _, _, f0, _, _⟩ := HasE.at (HW.out.1.below hB (Nat.le_refl _)) hgk
          injection hA' with hA'
          injection hA' with a1 a2
          subst a1 a2
          obtain ⟨fk, ft, fs⟩ := y
          simp only at f0
          have v0 : IntKind.i64.wrap (u : Int) = (u : Int) := IntWalk.i64_in _ (by omega)
          have v2 : (u : Int) % (n : Int) = (k : Int) := by rw [← hk]; push_cast; rfl
          have v3 : (u : Int).tmod (n : Int) = (k : Int) := by rw [Int.tmod_eq_emod_of_nonneg (by omega)]; exact v2
          have v4 : ¬ (n : Int) = 0 := by omega
          have v5 : IntKind.i64.wrap (k : Int) = (k : Int) := IntWalk.i64_in _ (by omega)
          have k1' : (k : Int) < (n : Int) := by omega
          have k0' : (0 : Int) ≤ (k : Int) := by omega
          clear hk hgk
          go_wp2_with fail
          clear z1 z2 z4 v0 v2 v3 v4 v5 f0 f9
          refine (drop_any fk 0 hL1 HS1.out.1 hc1 (by omega) HS1.out.2).mono ?_
          rintro e w5 ⟨A3, n3, k3, rfl, hn3, hc3, hL3, hy⟩
          have hL2 := hL2.below hy (Nat.le_refl _)
          have hB := hB.trans (hy.mono hB.size)
          clear hy
          go_wp2_with fail
          refine ((refDrop_any (cp := k2) fk 0 hL2 HS1.out.1 (by omega)).mono (fun e w' h => PutPost.weak e w' h)).mono ?_
          rintro e w6 ⟨A4, n4, k4, rfl, hn4, hc4, hL4, hy⟩
          have hL3 := hL3.below hy (Nat.le_refl _)
          have hB := hB.trans (hy.mono hB.size)
          obtain rfl : n3 = n4 := hn3.symm.trans hn4
          have hr3 := rises_drop HS1.out.2 fk.data.toList
          have hle3 : n3 ≤ n1 := by rw [← hn3, ← HS1.out.1]; exact List.length_filter_le _ _
          clear hy hL1 hL2 hc1 hc2
          generalize dropL S1 fk.data.toList = S3 at hn3 hn4 hL3 hL4 hr3
          have HS3 := Lib.hid (And.intro hn3 hr3)
          have hle : n3 ≤ q + 1 := by omega
          clear hn3 hn4 hr3 hle3
          have d9 := HK.out _ hB
          go_wp2_with fail
          refine (find_any K0 0 hL3 HS3.out.1 hc3 (by omega) HS3.out.2).mono ?_
          rintro e wa hf
          obtain ⟨p1, q1, b1, rfl, HV1, hv⟩ := find_vals hf
          clear hf d9
          have hnw := hv.trans ((Below.refl wa.heap.size wa).alloc (Nat.le_refl _) (.cells #[.int .i64 p1, .int .i64 q1] 28) |>.mono hv.size)
          have y1 := Box2.new wa (.int .i64 p1) (.int .i64 q1) 28
          have hL3 := hL3.below hnw (Nat.le_refl _)
          have hL4 := hL4.below hnw (Nat.le_refl _)
          have hB := hB.trans (hnw.mono hB.size)
          have d9 := HK.out _ hB
          clear hv hnw
          go_wp2_with fail
          obtain ⟨h1, hh1⟩ : ∃ h, wa.heap.size = h := ⟨_, rfl⟩
          rw [hh1] at y1 ⊢
          generalize wa.alloc (.cells #[.int .i64 p1, .int .i64 q1] 28) = wa' at y1 hL3 hL4 hB d9 ⊢
          clear hh1 d9
          refine (refFind_any (cp := k4) K0 hL4 HS3.out.1 (by omega)).mono ?_
          rintro e wb hf
          obtain ⟨p2, q2, b2, rfl, HV2, hv⟩ := find_vals hf
          clear hf
          obtain ⟨e1, e2⟩ := HV1.out
          obtain ⟨e3, e4⟩ := HV2.out
          injection e1.symm.trans e3 with e5 e6
          have e7 := e2.symm.trans e4
          subst e5 e6 e7
          clear e1 e2 e3 e4 HV1 HV2
          have hnw := hv.trans ((Below.refl wb.heap.size wb).alloc (Nat.le_refl _) (.cells #[.int .i64 p1, .int .i64 q1] 28) |>.mono hv.size)
          have y2 := Box2.new wb (.int .i64 p1) (.int .i64 q1) 28
          have y1 := y1.below hnw y1.lt
          have hL3 := hL3.below hnw (Nat.le_refl _)
          have hL4 := hL4.below hnw (Nat.le_refl _)
          have hB := hB.trans (hnw.mono hB.size)
          clear hv hnw
          go_wp2_with fail
          obtain ⟨h2, hh2⟩ : ∃ h, wb.heap.size = h := ⟨_, rfl⟩
          rw [hh2] at y2 ⊢
          generalize wb.alloc (.cells #[.int .i64 p1, .int .i64 q1] 28) = wb' at y1 y2 hL3 hL4 hB ⊢
          clear hh2
          have hcS := refSame_any A3 A4 k3 k4 S3 S3 0 0 wb' hL3 hL4 (by rw [HS3.out.1]; omega) (by rw [HS3.out.1]; omega)
          rw [HS3.out.1] at hcS
          refine hcS.mono ?_
          rintro e wc ⟨r, rfl, hr, h9⟩
          obtain rfl : r = true := hr.2 rfl
          have hL3 := hL3.below h9 (Nat.le_refl _)
          have hL4 := hL4.below h9 (Nat.le_refl _)
          have y1 := y1.below h9 y1.lt
          have y2 := y2.below h9 y2.lt
          have hB := hB.trans (h9.mono hB.size)
          have c10 := y1.c0
          have c11 := y1.c1
          have c20 := y2.c0
          have c21 := y2.c1
          clear h9 hr hcS y1 y2
          cases b1
          all_goals
            go_wp2
            clear c10 c11 c20 c21
            go_roundw
            case rel => exact ⟨q + 1, n3, k3, k4, A3, A4, S3, by omega, by go_num, rfl, rfl, hc3, hc4, hle, hL3, hL4, HS3, hB⟩
            case measure => simp [intOf]; omega
        · have z5 : ((r : Int) == 0) = false := beq_eq_false_iff_ne.2 (by omega)
          have d9 := HK.out _ hB
          go_wp2_with fail
          refine (find_any K0 0 hL1 HS1.out.1 hc1 (by omega) HS1.out.2).mono ?_
          rintro e wa hf
          obtain ⟨p1, q1, b1, rfl, HV1, hv⟩ := find_vals hf
          clear hf d9
          have hnw := hv.trans ((Below.refl wa.heap.size wa).alloc (Nat.le_refl _) (.cells #[.int .i64 p1, .int .i64 q1] 28) |>.mono hv.size)
          have y1 := Box2.new wa (.int .i64 p1) (.int .i64 q1) 28
          have hL1 := hL1.below hnw (Nat.le_refl _)
          have hL2 := hL2.below hnw (Nat.le_refl _)
          have hB := hB.trans (hnw.mono hB.size)
          have d9 := HK.out _ hB
          clear hv hnw
          go_wp2_with fail
          obtain ⟨h1, hh1⟩ : ∃ h, wa.heap.size = h := ⟨_, rfl⟩
          rw [hh1] at y1 ⊢
          generalize wa.alloc (.cells #[.int .i64 p1, .int .i64 q1] 28) = wa' at y1 hL1 hL2 hB d9 ⊢
          clear hh1 d9
          refine (refFind_any (cp := k2) K0 hL2 HS1.out.1 (by omega)).mono ?_
          rintro e wb hf
          obtain ⟨p2, q2, b2, rfl, HV2, hv⟩ := find_vals hf
          clear hf
          obtain ⟨e1, e2⟩ := HV1.out
          obtain ⟨e3, e4⟩ := HV2.out
          injection e1.symm.trans e3 with e5 e6
          have e7 := e2.symm.trans e4
          subst e5 e6 e7
          clear e1 e2 e3 e4 HV1 HV2
          have hnw := hv.trans ((Below.refl wb.heap.size wb).alloc (Nat.le_refl _) (.cells #[.int .i64 p1, .int .i64 q1] 28) |>.mono hv.size)
          have y2 := Box2.new wb (.int .i64 p1) (.int .i64 q1) 28
          have y1 := y1.below hnw y1.lt
          have hL1 := hL1.below hnw (Nat.le_refl _)
          have hL2 := hL2.below hnw (Nat.le_refl _)
          have hB := hB.trans (hnw.mono hB.size)
          clear hv hnw
          go_wp2_with fail
          obtain ⟨h2, hh2⟩ : ∃ h, wb.heap.size = h := ⟨_, rfl⟩
          rw [hh2] at y2 ⊢
          generalize wb.alloc (.cells #[.int .i64 p1, .int .i64 q1] 28) = wb' at y1 y2 hL1 hL2 hB ⊢
          clear hh2
          have hcS := refSame_any A1 A2 k1 k2 S1 S1 0 0 wb' hL1 hL2 (by rw [HS1.out.1]; omega) (by rw [HS1.out.1]; omega)
          rw [HS1.out.1] at hcS
          refine hcS.mono ?_
          rintro e wc ⟨r, rfl, hr, h9⟩
          obtain rfl : r = true := hr.2 rfl
          have hL1 := hL1.below h9 (Nat.le_refl _)
          have hL2 := hL2.below h9 (Nat.le_refl _)
          have y1 := y1.below h9 y1.lt
          have y2 := y2.below h9 y2.lt
          have hB := hB.trans (h9.mono hB.size)
          have c10 := y1.c0
          have c11 := y1.c1
          have c20 := y2.c0
          have c21 := y2.c1
          clear h9 hr hcS y1 y2
          cases b1
          all_goals
            go_wp2
            clear c10 c11 c20 c21
            go_roundw
            case rel => exact ⟨q + 1, n1, k1, k2, A1, A2, S1, by omega, by go_num, rfl, rfl, hc1, hc2, hle, hL1, hL2, HS1, hB⟩
            case measure => simp [intOf]; omega
      · have m1 : ¬ (q : Int) < (m : Int) := by omega
        have d9 := HK.out _ hB
        go_wp2_with fail
        refine (find_any K0 0 hL1 HS1.out.1 hc1 (by omega) HS1.out.2).mono ?_
        rintro e wa hf
        obtain ⟨p1, q1, b1, rfl, HV1, hv⟩ := find_vals hf
        clear hf d9
        have hnw := hv.trans ((Below.refl wa.heap.size wa).alloc (Nat.le_refl _) (.cells #[.int .i64 p1, .int .i64 q1] 28) |>.mono hv.size)
        have y1 := Box2.new wa (.int .i64 p1) (.int .i64 q1) 28
        have hL1 := hL1.below hnw (Nat.le_refl _)
        have hL2 := hL2.below hnw (Nat.le_refl _)
        have hB := hB.trans (hnw.mono hB.size)
        have d9 := HK.out _ hB
        clear hv hnw
        go_wp2_with fail
        obtain ⟨h1, hh1⟩ : ∃ h, wa.heap.size = h := ⟨_, rfl⟩
        rw [hh1] at y1 ⊢
        generalize wa.alloc (.cells #[.int .i64 p1, .int .i64 q1] 28) = wa' at y1 hL1 hL2 hB d9 ⊢
        clear hh1 d9
        refine (refFind_any (cp := k2) K0 hL2 HS1.out.1 (by omega)).mono ?_
        rintro e wb hf
        obtain ⟨p2, q2, b2, rfl, HV2, hv⟩ := find_vals hf
        clear hf
        obtain ⟨e1, e2⟩ := HV1.out
        obtain ⟨e3, e4⟩ := HV2.out
        injection e1.symm.trans e3 with e5 e6
        have e7 := e2.symm.trans e4
        subst e5 e6 e7
        clear e1 e2 e3 e4 HV1 HV2
        have hnw := hv.trans ((Below.refl wb.heap.size wb).alloc (Nat.le_refl _) (.cells #[.int .i64 p1, .int .i64 q1] 28) |>.mono hv.size)
        have y2 := Box2.new wb (.int .i64 p1) (.int .i64 q1) 28
        have y1 := y1.below hnw y1.lt
        have hL1 := hL1.below hnw (Nat.le_refl _)
        have hL2 := hL2.below hnw (Nat.le_refl _)
        have hB := hB.trans (hnw.mono hB.size)
        clear hv hnw
        go_wp2_with fail
        obtain ⟨h2, hh2⟩ : ∃ h, wb.heap.size = h := ⟨_, rfl⟩
        rw [hh2] at y2 ⊢
        generalize wb.alloc (.cells #[.int .i64 p1, .int .i64 q1] 28) = wb' at y1 y2 hL1 hL2 hB ⊢
        clear hh2
        have hcS := refSame_any A1 A2 k1 k2 S1 S1 0 0 wb' hL1 hL2 (by rw [HS1.out.1]; omega) (by rw [HS1.out.1]; omega)
        rw [HS1.out.1] at hcS
        refine hcS.mono ?_
        rintro e wc ⟨r, rfl, hr, h9⟩
        obtain rfl : r = true := hr.2 rfl
        have hL1 := hL1.below h9 (Nat.le_refl _)
        have hL2 := hL2.below h9 (Nat.le_refl _)
        have y1 := y1.below h9 y1.lt
        have y2 := y2.below h9 y2.lt
        have hB := hB.trans (h9.mono hB.size)
        have c10 := y1.c0
        have c11 := y1.c1
        have c20 := y2.c0
        have c21 := y2.c1
        clear h9 hr hcS y1 y2
        cases b1
        all_goals
          go_wp2
          clear c10 c11 c20 c21
          go_roundw
          case rel => exact ⟨q + 1, n1, k1, k2, A1, A2, S1, by omega, by go_num, rfl, rfl, hc1, hc2, hle, hL1, hL2, HS1, hB⟩
          case measure => simp [intOf]; omega
    · obtain rfl : n = q := by omega
      clear hX hY hS
      have hb := hB
      go_wp2_with fail
      refine (awake_any _).mono ?_
      rintro e wz ⟨rfl, hz⟩
      go_wp2
      go_ret
      exact ⟨rfl, hb.trans (hz.mono hb.size)⟩
end
end Go.Proofs.Ytmjlfhfadmndhaa.Bu
