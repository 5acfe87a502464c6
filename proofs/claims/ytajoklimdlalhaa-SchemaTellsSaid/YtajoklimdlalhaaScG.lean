/- A schema's bytes: the document's, walked. -/
import Derived.Test.YtajoklimdlalhaaScF
import Derived.Test.YtajoklimdlalhaaXrc
namespace Go.Proofs.Ytajoklimdlalhaa.Sc
open Go.RowKit Pac Lex

theorem catL_two (x y : ByteArray) : catL [x, y] = x ++ y := by
  apply bytesEq
  rw [catL_list, app_list]
  simp
theorem preSize (x y : ByteArray) (l : List C) (q : Nat) (hx : x.size ≤ 30) (hy : y.size ≤ 10) (h : ∀ (j : Nat) (c : C), l[j]? = some c → c.n.size ≤ 20) (hq : q ≤ l.length) (h8 : l.length ≤ 8) : (catL (x :: y :: (l.take q).map printC)).size ≤ 360 := by
  have h1 : catL (x :: y :: (l.take q).map printC) = x ++ (y ++ catC (l.take q)) := by simp only [catL, catC_map]
  have h2 := catC_size (l.take q) (fun j c hc => by
    rw [List.getElem?_take] at hc
    split at hc
    · exact h j c hc
    · cases hc)
  rw [List.length_take] at h2
  rw [h1, ByteArray.size_append, ByteArray.size_append]
  omega

set_option maxRecDepth 20000 in
set_option maxHeartbeats 2000000 in
theorem refPrint_any (A : Option Addr) (cp : Nat) (nm : ByteArray) (l : List C) (lo : Nat) (w : World) (h : HasCols w lo A l) (hr : rightS nm l = true) :
    Calls Try.prog 12 #[.agg #[.string nm, .slice A l.length cp]] w fun e w' => e = .returned (.string (printS nm l)) ∧ Below w.heap.size w w' := by
  obtain ⟨hw, h1, h8, hall⟩ := right_parts hr
  have hs := word_size hw
  have hzp := printS_size hr
  have hc1 := fun W : World => refText_any nm W (by omega)
  have hc2 := fun W : World => refNum_any (l.length : Int) W (by omega) (by omega)
  have hP : printS nm l = catL (txtB nm :: encB (zig (l.length : Int)) :: l.map printC) := by
    simp only [catL, catC_map]
    rfl
  have hzx := txtB_size nm
  have hzy := (encB_size (zig (l.length : Int))).2
  have hpre := fun q (hq : q ≤ l.length) => preSize (txtB nm) (encB (zig (l.length : Int))) l q (by omega) hzy (fun j c hc => (word_size (hall j c hc).1).2) hq h8
  obtain ⟨m, hm⟩ : ∃ m, l.length = m := ⟨_, rfl⟩
  rw [hm] at hc2 hP h1 h8 hzy hpre ⊢
  generalize printS nm l = u at hP hzp ⊢
  generalize txtB nm = x at hc1 hP hzx hpre
  generalize encB (zig (m : Int)) = y at hc2 hP hzy hpre
  have hxy : x.size + y.size ≤ 9223372036854775807 := by omega
  have HA := Lib.hid h
  have HM := Lib.hid hm
  have HP := Lib.hid hP
  have HL := Lib.hid hall
  have HE := Lib.hid hpre
  have hB := (Below.refl w.heap.size w).alloc (Nat.le_refl _) (.cells #[.string nm, .slice A m cp] 24)
  have hx := Box2.new w (.string nm) (.slice A m cp) 24
  clear h hm hP hall hw hr hpre
  go_enter Try.func12, Try.ntmps12
  go_wp2_with fail
  generalize w.alloc (.cells #[.string nm, .slice A m cp] 24) = w3 at hx hB ⊢
  generalize hvw : w.heap.size = g at hx ⊢
  refine Lex.region_lex (ops := xqops) (calls := xqcalls) xqord (fun W => W.cell? ⟨g, 0, none⟩ = some (.string nm) ∧ W.cell? ⟨g, 1, none⟩ = some (.slice A m cp)) (by kernel_rfl) (by kernel_rfl) xqsel (by kernel_rfl) (by kernel_rfl) xqlex (⟨hx.drew.c0, hx.drew.c1⟩) ?_
  unfold xqord
  have hx := hx.drew
  have hB := hB.drew
  refine Lex.step_take (.pointer (some ⟨g, 0, none⟩)) xq0 rfl (Lex.want_none rfl) (by intro Wx hSw; (try dsimp only at hSw); go_simp; (try (first | (with_reducible rfl) | assumption | rfl))) ?_
  simp only [Act.put, List.setIfInBounds_toArray, List.set_cons_zero, List.set_cons_succ]
  refine Lex.step_take (.string nm) xq1 rfl (Lex.want_none rfl) (by intro Wx hSw; (try dsimp only at hSw); go_simp; (try (first | (with_reducible rfl) | assumption | rfl))) ?_
  simp only [Act.put, List.setIfInBounds_toArray, List.set_cons_zero, List.set_cons_succ]
  refine Lex.step_take (.pointer (some ⟨g, 1, none⟩)) xq3 rfl (Lex.want_none rfl) (by intro Wx hSw; (try dsimp only at hSw); go_simp; (try (first | (with_reducible rfl) | assumption | rfl))) ?_
  simp only [Act.put, List.setIfInBounds_toArray, List.set_cons_zero, List.set_cons_succ]
  refine Lex.step_take (.slice A m cp) xq4 rfl (Lex.want_none rfl) (by intro Wx hSw; (try dsimp only at hSw); go_simp; (try (first | (with_reducible rfl) | assumption | rfl))) ?_
  simp only [Act.put, List.setIfInBounds_toArray, List.set_cons_zero, List.set_cons_succ]
  refine Lex.step_take (.int .i64 m) xq5 rfl (Lex.want_none rfl) (by intro Wx hSw; (try dsimp only at hSw); go_simp; (try (first | (with_reducible rfl) | assumption | rfl))) ?_
  simp only [Act.put, List.setIfInBounds_toArray, List.set_cons_zero, List.set_cons_succ]
  refine Lex.step_call xq2 rfl (Lex.want_none rfl) (fun K hK => ?_)
  go_simp
  refine (hc1 _).mono ?_
  rintro e y1 ⟨rfl, hy1⟩
  have hx := hx.below hy1 hx.lt
  have hB := hB.trans (hy1.mono hB.size)
  clear hy1
  refine hK.out _ _ _ (fun _ h => h) ⟨hx.c0, hx.c1⟩ ?_
  clear hK K
  try simp only [Act.put, List.setIfInBounds_toArray, List.set_cons_zero, List.set_cons_succ]
  refine Lex.step_call xq6 rfl (Lex.want_none rfl) (fun K hK => ?_)
  go_simp
  refine (hc2 _).mono ?_
  rintro e y2 ⟨rfl, hy2⟩
  have hx := hx.below hy2 hx.lt
  have hB := hB.trans (hy2.mono hB.size)
  clear hy2
  refine hK.out _ _ _ (fun _ h => h) ⟨hx.c0, hx.c1⟩ ?_
  clear hK K
  try simp only [Act.put, List.setIfInBounds_toArray, List.set_cons_zero, List.set_cons_succ]
  refine Lex.step_take (.string (x ++ y)) xq7 rfl (Lex.want_none rfl) (by intro Wx hSw; (try dsimp only at hSw); go_simp; (try (first | (with_reducible rfl) | assumption | rfl))) ?_
  simp only [Act.put, List.setIfInBounds_toArray, List.set_cons_zero, List.set_cons_succ]
  refine Lex.step_take (.string (x ++ y)) xq8 rfl (Lex.want_none rfl) (by intro Wx hSw; (try dsimp only at hSw); go_simp; (try (first | (with_reducible rfl) | assumption | rfl))) ?_
  simp only [Act.put, List.setIfInBounds_toArray, List.set_cons_zero, List.set_cons_succ]
  refine NoPanic.normal ?_
  subst hvw
  have h00 : Box2 y2 w.heap.size (.string nm) (.slice A m cp) := hx
  clear hx
  have hXY : x ++ y = catL (x :: y :: (l.take 0).map printC) := (catL_two x y).symm
  generalize x ++ y = xy at hXY ⊢
  have HXY := Lib.hid hXY
  clear hXY
  go_wp2
  go_loopw [3, 4] (fun ov i wr => ∃ (q : Nat) (out : ByteArray), q ≤ m ∧ i = .int .i64 q ∧ ov = .string out ∧ Hid (out = catL (x :: y :: (l.take q).map printC)) ∧ Below w.heap.size w wr ∧ Box2 wr w.heap.size (.string nm) (.slice A m cp)) (fun _ i _ => m - (intOf i).toNat)
  case atStart => exact ⟨0, _, Nat.zero_le _, rfl, rfl, HXY, hB, h00⟩
  case round =>
    obtain ⟨q, out, hq, rfl, rfl, hH, hBr, hx⟩ := hrel
    have hzo : out.size ≤ 360 := by rw [hH.out]; exact HE.out q hq
    have g1 := hx.c1
    by_cases hlt : q < m
    · have hg : l[q]? = some (l[q]'(by rw [HM.out]; exact hlt)) := List.getElem?_eq_getElem _
      obtain ⟨b, o, rfl, hlo, hlb, hc⟩ := (HA.out.below hBr (Nat.le_refl _)) (fun e => by have := HM.out; rw [e] at this; simp at this; omega)
      obtain ⟨d0, d1, d2⟩ := hc q _ hg
      obtain ⟨a1, a2, a3⟩ := HL.out q _ hg
      have HG := Lib.hid hg
      generalize (l[q]'(by rw [HM.out]; exact hlt)) = c at HG d0 d1 d2 a1 a2 a3
      have hns := word_size a1
      have hcn := (colNum_back c a2 a3).2.2
      have hcallT := fun W : World => refText_any c.n W (by omega)
      have hcallN := fun W : World => refNum_any (colNum c) W (by omega) (by omega)
      have hzt := txtB_size c.n
      have hzn := (encB_size (zig (colNum c))).2
      have HT : Hid ((out ++ txtB c.n) ++ encB (zig (colNum c)) = catL (x :: y :: (l.take (q + 1)).map printC)) := Lib.hid (by
        rw [List.take_add_one, HG.out, hH.out]
        have e : (x :: y :: ((l.take q) ++ (some c).toList).map printC) = (x :: y :: (l.take q).map printC) ++ [printC c] := by simp
        rw [e, catL_snoc, app_assoc]
        rfl)
      have hkn : (c.z = true ∧ 2 * c.k + 1 = colNum c) ∨ (c.z = false ∧ 2 * c.k = colNum c) := by
        unfold colNum
        cases c.z
        · exact Or.inr ⟨rfl, rfl⟩
        · exact Or.inl ⟨rfl, rfl⟩
      obtain ⟨n, k, zz⟩ := c
      simp only at d0 d1 d2 a1 a2 a3 hns hcallT hzt HT hkn
      generalize colNum ⟨n, k, zz⟩ = r at hcallN hzn HT hkn hcn
      generalize txtB n = tx at hcallT hzt HT
      generalize encB (zig r) = ty at hcallN hzn HT
      have hlbw : b < wr.heap.size := hlb
      clear hc hg a1 HG HE HP
      rcases hkn with ⟨rfl, hr2⟩ | ⟨rfl, hr2⟩
      all_goals
        subst hr2
        go_wp2_with fail
        refine (hcallT _).mono ?_
        rintro e y5 ⟨rfl, hy5⟩
        have hBr3 := hBr.trans (hy5.mono hBr.size)
        have hx3 := hx.below hy5 hx.lt
        have hss : (out ++ tx).size = out.size + tx.size := ByteArray.size_append
        go_wp2_with fail
        refine (hcallN _).mono ?_
        rintro e y6 ⟨rfl, hy6⟩
        have hBr4 := hBr3.trans (hy6.mono hBr3.size)
        have hx4 := hx3.below hy6 hx3.lt
        clear hy5 hy6 hBr hBr3 hx hx3 d0 d1 d2
        go_wp2
        go_roundw
        case rel =>
          exact ⟨q + 1, _, by omega, by go_num, rfl, HT, hBr4, hx4⟩
        case measure => simp [intOf]; omega
    · obtain rfl : q = m := by omega
      have HU : Hid (u = out) := Lib.hid (by rw [HP.out, hH.out, ← HM.out, List.take_length])
      go_wp2
      go_ret
      exact ⟨by rw [HU.out]; rfl, hBr⟩
end Go.Proofs.Ytajoklimdlalhaa.Sc
