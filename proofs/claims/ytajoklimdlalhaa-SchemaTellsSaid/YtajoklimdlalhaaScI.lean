/- A column is read: the program's, walked. -/
import Derived.Test.YtajoklimdlalhaaScB
namespace Go.Proofs.Ytajoklimdlalhaa.Sc
open Go.RowKit Pac

theorem bar_step {g B : Nat} {a w w' : World} (h : Bar g a w) (hb : Below B w w') (hB : a.heap.size ≤ B) : Bar g a w' :=
  ⟨hb.os.trans h.os, hb.tape.trans h.tape, hb.output.trans h.output, Nat.le_trans h.size hb.size, fun k hk hne => (hb.block k (Nat.lt_of_lt_of_le hk hB)).trans (h.block k hk hne)⟩

/-- One column is read, of a box that may be bad. -/
def readCd (s : ByteArray) (d : Bool) : C × ByteArray × Bool :=
  (⟨txtR s d 20, (btwR (txtS s d 20) (txtBad s d 20) 0 7).tdiv 2, (btwR (txtS s d 20) (txtBad s d 20) 0 7).tmod 2 == 1⟩, numS (txtS s d 20) (txtBad s d 20), btwBad (txtS s d 20) (txtBad s d 20) 0 7)
theorem readCd_good (s : ByteArray) : readCd s false = readC s := rfl
theorem txtBad_bad (s : ByteArray) (m : Int) : txtBad s true m = true := by
  unfold txtBad btwBad numBad
  simp
theorem txtS_bad (s : ByteArray) (m : Int) : txtS s true m = s := by
  unfold txtS
  rw [txtBad_bad, if_pos rfl]
  unfold numS
  rw [if_pos rfl]
theorem readCd_bad (s : ByteArray) : (readCd s true).2 = (s, true) := by
  unfold readCd
  simp only [txtBad_bad, txtS_bad]
  unfold btwBad numBad numS
  simp
theorem btwR_le (s : ByteArray) (d : Bool) (hi : Int) (h : 0 ≤ hi) : btwR s d 0 hi ≤ hi := by
  unfold btwR
  split
  · exact h
  · rename_i hb
    unfold btwBad at hb
    simp at hb
    omega
theorem btwR_high (s : ByteArray) (d : Bool) (lo hi : Int) (h : 0 ≤ hi) : btwR s d lo hi ≤ hi := by
  unfold btwR
  split
  · exact h
  · rename_i hb
    unfold btwBad at hb
    simp at hb
    omega
theorem txtR_le (s : ByteArray) (d : Bool) (m : Int) : (txtR s d m).size ≤ s.size := by
  unfold txtR
  split
  · exact Nat.zero_le _
  · rw [ByteArray.size_extract]
    have := numS_size s d
    omega
theorem readCd_size (s : ByteArray) (d : Bool) : (readCd s d).2.1.size ≤ s.size := by
  show (numS (txtS s d 20) (txtBad s d 20)).size ≤ s.size
  exact Nat.le_trans (numS_size _ _) (txtS_size s d 20)
theorem readCd_ok (s : ByteArray) (d : Bool) (hs : s.size ≤ 9223372036854775807) : (readCd s d).1.Ok := by
  have h0 := btwR_pos (txtS s d 20) (txtBad s d 20) 0 7 (Int.le_refl _)
  have h1 := btwR_le (txtS s d 20) (txtBad s d 20) 7 (by omega)
  have hz := txtR_le s d 20
  have e : (readCd s d).1.k = (btwR (txtS s d 20) (txtBad s d 20) 0 7).tdiv 2 := rfl
  refine ⟨?_, ?_, ?_⟩
  · rw [e, Int.tdiv_eq_ediv_of_nonneg h0]; omega
  · rw [e, Int.tdiv_eq_ediv_of_nonneg h0]; omega
  · exact Nat.le_trans hz hs

set_option maxRecDepth 20000 in
set_option maxHeartbeats 2000000 in
theorem col_any (g : Nat) (s : ByteArray) (d : Bool) (w : World) (hb : IsBox w g s d) (hs : s.size ≤ 9223372036854775807) :
    Calls Try.prog 38 #[.agg #[.pointer (some ⟨g, 0, none⟩)]] w fun e w' => e = .returned (readCd s d).1.v ∧ IsBox w' g (readCd s d).2.1 (readCd s d).2.2 ∧ Bar g w w' := by
  have hlt := hb.lt
  have hbA := (hb.alloc (.cells #[.pointer (some ⟨g, 0, none⟩)] 51)).alloc (.cells #[.string ⟨#[]⟩, .int .i64 0, .bool false] 41)
  have hrA := Box3.new (w.alloc (.cells #[.pointer (some ⟨g, 0, none⟩)] 51)) (.string ⟨#[]⟩) (.int .i64 0) (.bool false) 41
  rw [show (w.alloc (.cells #[.pointer (some ⟨g, 0, none⟩)] 51)).heap.size = w.heap.size + 1 by simp] at hrA
  have hBA := bar_alloc (bar_alloc (Bar.refl g w) (.cells #[.pointer (some ⟨g, 0, none⟩)] 51)) (.cells #[.string ⟨#[]⟩, .int .i64 0, .bool false] 41)
  have hcA : ((w.alloc (.cells #[.pointer (some ⟨g, 0, none⟩)] 51)).alloc (.cells #[.string ⟨#[]⟩, .int .i64 0, .bool false] 41)).cell? ⟨w.heap.size, 0, none⟩ = some (.pointer (some ⟨g, 0, none⟩)) := by simp [go_sem]
  have hc1 := fun (W : World) (h : IsBox W g s d) => boxText_any g s d 20 W h hs
  have hz1 := txtS_size s d 20
  have hc2 := fun (W : World) (h : IsBox W g (txtS s d 20) (txtBad s d 20)) => boxBetween_any g (txtS s d 20) (txtBad s d 20) 0 7 W h (by omega)
  have h0 := btwR_pos (txtS s d 20) (txtBad s d 20) 0 7 (Int.le_refl _)
  have h1 := btwR_le (txtS s d 20) (txtBad s d 20) 7 (by omega)
  have hR : (readCd s d).1.v = .agg #[.string (txtR s d 20), .int .i64 ((btwR (txtS s d 20) (txtBad s d 20) 0 7).tdiv 2), .bool ((btwR (txtS s d 20) (txtBad s d 20) 0 7).tmod 2 == 1)] := rfl
  have hS : (readCd s d).2.1 = numS (txtS s d 20) (txtBad s d 20) := rfl
  have hD : (readCd s d).2.2 = btwBad (txtS s d 20) (txtBad s d 20) 0 7 := rfl
  rw [hR, hS, hD]
  clear hR hS hD
  generalize txtR s d 20 = n at hc1 ⊢
  generalize txtS s d 20 = s1 at hc1 hc2 h0 h1 hz1 ⊢
  generalize txtBad s d 20 = d1 at hc1 hc2 h0 h1 ⊢
  generalize btwR s1 d1 0 7 = k at hc2 h0 h1 ⊢
  generalize numS s1 d1 = s2 at hc2 ⊢
  generalize btwBad s1 d1 0 7 = d2 at hc2 ⊢
  obtain ⟨kk, rfl⟩ := Int.eq_ofNat_of_zero_le h0
  go_enter Try.func38, Try.ntmps38
  go_wp2_with fail
  refine (hc1 _ hbA).mono ?_
  rintro e w1 ⟨rfl, hb1, hB1⟩
  have hl1 : w.heap.size + 1 < w1.heap.size := Nat.lt_of_lt_of_le hrA.lt hB1.size
  have hr1 := hrA.bar hB1 (by omega)
  have hk1 := (hB1.cell (p := ⟨w.heap.size, 0, none⟩) (by simp; omega) (by show w.heap.size ≠ g; omega)).trans hcA
  have hBB := hBA.trans hB1
  clear hc1 hbA hrA hBA hcA hB1
  go_wp2_with fail
  refine (hc2 _ hb1).mono ?_
  rintro e w2 ⟨rfl, hb2, hB2⟩
  have hr2 := hr1.bar hB2 (by omega)
  have hBC := hBB.trans hB2
  clear hc2 hb1 hr1 hBB hB2 hk1
  have r0 := hr2.c0
  have r1 := hr2.c1
  have r2 := hr2.c2
  have rf := hr2.f
  go_wp2
  have e1 : ((kk : Int)).tdiv 2 = (kk : Int) / 2 := Int.tdiv_eq_ediv_of_nonneg h0
  have e2 : ((kk : Int)).tmod 2 = (kk : Int) % 2 := Int.tmod_eq_emod_of_nonneg h0
  have hrZ := ((hr2.set0 (.string n)).set1 (.int .i64 ((kk : Int) / 2))).set2 (.bool ((kk : Int) % 2 == 1))
  have hbZ := box2_setOther (box2_setOther (box2_setOther hb2 (p := ⟨w.heap.size + 1, 0, none⟩) (by show w.heap.size + 1 ≠ g; omega) (.string n)) (p := ⟨w.heap.size + 1, 1, none⟩) (by show w.heap.size + 1 ≠ g; omega) (.int .i64 ((kk : Int) / 2))) (p := ⟨w.heap.size + 1, 2, none⟩) (by show w.heap.size + 1 ≠ g; omega) (.bool ((kk : Int) % 2 == 1))
  have hBZ := bar_set (bar_set (bar_set hBC (p := ⟨w.heap.size + 1, 0, none⟩) (by simp) (.string n)) (p := ⟨w.heap.size + 1, 1, none⟩) (by simp) (.int .i64 ((kk : Int) / 2))) (p := ⟨w.heap.size + 1, 2, none⟩) (by simp) (.bool ((kk : Int) % 2 == 1))
  refine bodyPost_ret (results_col rfl _ _ (w.heap.size + 1) _ _ _ rfl hrZ.c0 hrZ.c1 hrZ.c2) rfl ?_
  rw [e1, e2]
  exact ⟨rfl, hbZ, hBZ⟩
end Go.Proofs.Ytajoklimdlalhaa.Sc
