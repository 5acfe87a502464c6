/- A new index; what is found of a key: the document's, walked. -/
import Derived.Test.YtocmkjccaajnnaaHaE
import Derived.OwnWalk
namespace Go.Proofs.Ytocmkjccaajnnaa.Ha
open Go.RowKit Pac Bu Ls Lex Go.Proofs.Ytocmkjccaajnnaa.Or

theorem made_one : (madeCells #[Value.slice none 0 0] 1).toList = Li.cellsL Li.cellsG [(⟨none, 0, []⟩ : Li.Gr E)] := toList_madeCells_one _ _
theorem new_post {w W : World} {sv : Value} {base : Nat} (hown : W.ownsRow base 42 1 sv 1 (Li.cellsL Li.cellsG [(⟨none, 0, []⟩ : Li.Gr E)])) (hbs : w.heap.size ≤ base) (hB : Below w.heap.size w W) : HashPost (fun _ => False) newH w (.returned (.agg #[.int .i64 0, .int .i64 0, sv])) W := by
  obtain ⟨A', c', rfl, hcc, hl⟩ := Li.list_of_own Li.cellsG_len hown (n := 1) rfl
  exact ⟨_, 1, _, rfl, rfl, hcc, ⟨_, rfl, hl.lower (Nat.zero_le _), fun x hx => by
    obtain rfl : x = ⟨none, 0, []⟩ := by simpa using hx
    exact ⟨fun h => absurd rfl h, Nat.le_refl _⟩, fun hn b o s e => Or.inr (Nat.le_trans hbs (adr_lt hl hn b o s e).1), fun x hx hn => by
    obtain rfl : x = ⟨none, 0, []⟩ := by simpa using hx
    exact absurd rfl hn⟩, hB⟩
section
variable {A : Option Addr} {n cp : Nat} {w : World}
set_option maxRecDepth 20000 in
set_option maxHeartbeats 1600000 in
theorem refNew_any (w : World) : Calls Try.prog 11 #[] w (HashPost (fun _ => False) newH w) := by
  obtain ⟨i0, hi, hz0, hz1, hz2⟩ := info_parts infoB
  obtain ⟨post, hpe⟩ : ∃ post, HashPost (fun _ => False) newH w = post := ⟨_, rfl⟩
  have HPE := Lib.hid hpe
  rw [hpe]
  clear hpe
  have hB := (Below.refl w.heap.size w).alloc (Nat.le_refl _) (.cells #[.int .i64 0, .int .i64 0, .slice none 0 0] 27)
  have hx := Box3.new w (.int .i64 0) (.int .i64 0) (.slice none 0 0) 27
  obtain ⟨g, hg⟩ : ∃ g, w.heap.size = g := ⟨_, rfl⟩
  have hz : (w.alloc (.cells #[.int .i64 0, .int .i64 0, .slice none 0 0] 27)).heap.size = g + 1 := by simp [hg]
  rw [hg] at hx
  generalize hw0 : w.alloc (.cells #[.int .i64 0, .int .i64 0, .slice none 0 0] 27) = wa at hB hx hz
  go_enter Try.func11, Try.ntmps11
  go_wp2_with (at_make; go_must (refine wpList_make_full _ rfl _ _ 25 rfl wa.heap.size 42 i0 (.slice none 0 0) 1 Try.underlying25 hi hz0 hz1 _ _ _ _ 1 rfl rfl rfl rfl (by rw [hz2]; omega) (by unfold maxLen; omega) (Nat.le_refl _) ?_))
  intro w1 hown1 hgrow1
  rw [made_one] at hown1
  have hb1 : Below wa.heap.size wa w1 := (Below.refl _ _).grown hgrow1 (by simp) (fun k hk => by cases hk)
  have hx := hx.below hb1 hx.lt
  have hB := hB.trans (hb1.mono hB.size)
  have hwa : w.heap.size ≤ wa.heap.size := by omega
  clear hgrow1 hb1 hw0
  have hgw : w.heap.size = g := hg
  clear hz hg
  have c0 := hx.c0
  have c1 := hx.c1
  have c2 := hx.c2
  have f0 := hx.f 0
  have f1 := hx.f 1
  have f2 := hx.f 2
  have hB9 := ((hB.setCell (p := ⟨g, 0, none⟩) (Nat.le_of_eq hgw) (.int .i64 0)).setCell (p := ⟨g, 1, none⟩) (Nat.le_of_eq hgw) (.int .i64 0)).setCell (p := ⟨g, 2, none⟩) (Nat.le_of_eq hgw) (.slice (some ⟨g + 1, 0, none⟩) 1 1)
  have hown9 := ownsRow_setCell_below (ownsRow_setCell_below (ownsRow_setCell_below hown1 (a := ⟨g, 0, none⟩) (Nat.lt_succ_self g) (.int .i64 0)) (a := ⟨g, 1, none⟩) (Nat.lt_succ_self g) (.int .i64 0)) (a := ⟨g, 2, none⟩) (Nat.lt_succ_self g) (.slice (some ⟨g + 1, 0, none⟩) 1 1)
  have HE := Lib.hid (new_post hown9 (by omega) hB9)
  rw [HPE.out] at HE
  have H9 := Lib.hid (((hx.set0 (.int .i64 0)).set1 (.int .i64 0)).set2 (.slice (some ⟨g + 1, 0, none⟩) 1 1))
  clear hx hB hB9 hown9 hown1
  go_wp2
  refine bodyPost_ret (results_hash rfl _ _ g _ _ _ rfl H9.out.c0 H9.out.c1 H9.out.c2) rfl ?_
  exact HE.out
end
end Go.Proofs.Ytocmkjccaajnnaa.Ha
