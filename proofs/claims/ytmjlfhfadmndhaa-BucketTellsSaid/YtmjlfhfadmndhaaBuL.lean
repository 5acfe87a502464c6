/- Buckets: the document's examples, walked. -/
import Derived.Test.YtmjlfhfadmndhaaBuK
import Derived.KernelRfl
namespace Go.Proofs.Ytmjlfhfadmndhaa.Bu
open Go.RowKit Pac Ls Lex

def ea : E := ⟨⟨#[97]⟩, 0, 0⟩
def eb : E := ⟨⟨#[98]⟩, 1, 2⟩
def eb3 : E := ⟨⟨#[98]⟩, 3, 0⟩
def eb0 : E := ⟨⟨#[98]⟩, 0, 0⟩
theorem put1 : putL [] eb = [eb] := rfl
theorem lt_ab : lt ea.k eb.k := by show Op.bytesLess _ _ = true; kernel_rfl
theorem lt_ab3 : lt ea.k eb3.k := lt_ab
theorem lt_ab0 : lt ea.k eb0.k := lt_ab
theorem put2 : putL [eb] ea = [ea, eb] := by
  show (if lt eb.k ea.k then _ else _) = _
  rw [if_neg (lt_asymm lt_ab), if_neg (fun h => lt_ne lt_ab h.symm)]
theorem put3 : putL [ea, eb] eb3 = [ea, eb3] := by
  show (if lt ea.k eb3.k then _ else _) = _
  rw [if_pos lt_ab3]
  show ea :: (if lt eb.k eb3.k then _ else if eb.k = eb3.k then _ else _) = _
  rw [if_neg (show ¬ lt eb.k eb3.k from lt_irrefl eb.k), if_pos (show eb.k = eb3.k from rfl)]
theorem find1 : findL [ea, eb] (⟨#[98]⟩ : ByteArray).data.toList = some eb := by
  show (if ea.k = eb.k then _ else if eb.k = eb.k then _ else _) = _
  rw [if_neg (lt_ne lt_ab), if_pos rfl]
theorem find2 : findL [ea, eb] (⟨#[99]⟩ : ByteArray).data.toList = none := by
  refine find_none.2 fun e he => ?_
  simp at he
  rcases he with rfl | rfl <;> decide
theorem drop1 : dropL [ea, eb3] (⟨#[97]⟩ : ByteArray).data.toList = [eb3] := by
  unfold dropL
  have h1 : (!decide (ea.k = (⟨#[97]⟩ : ByteArray).data.toList)) = false := by decide
  have h2 : (!decide (eb3.k = (⟨#[97]⟩ : ByteArray).data.toList)) = true := by decide
  rw [List.filter_cons, h1, List.filter_cons, h2]
  rfl
theorem ris1 : Rises [eb] := List.pairwise_singleton _ _
theorem ris2 : Rises [ea, eb] := by
  refine List.Pairwise.cons (fun x hx => ?_) ris1
  obtain rfl : x = eb := by simpa using hx
  exact lt_ab
theorem ris3 : Rises [ea, eb3] := by
  refine List.Pairwise.cons (fun x hx => ?_) (List.pairwise_singleton _ _)
  obtain rfl : x = eb3 := by simpa using hx
  exact lt_ab3
theorem isb2 : IsB [ea, eb] := by
  refine ⟨ris2, by decide, fun e he => ?_, fun e he => ?_, fun e he => ?_⟩
  all_goals
    simp at he
    rcases he with rfl | rfl <;> decide
theorem isb_not : ¬ IsB [eb0, ea] := fun h => by
  have h1 := List.rel_of_pairwise_cons h.ris (List.mem_singleton.2 rfl)
  exact lt_asymm lt_ab0 h1
theorem print2 : printB [ea, eb] = ⟨#[4, 2, 97, 0, 2, 98, 20]⟩ := by kernel_rfl
theorem parse2 : parseB ⟨#[4, 2, 97, 0, 2, 98, 20]⟩ = some [ea, eb] := by rw [← print2]; exact parse_print isb2
theorem parse_x : parseB ⟨#[120]⟩ = none := by
  have h : (seenB ⟨#[120]⟩).2.2 = true := by kernel_rfl
  unfold parseB
  rw [if_neg]
  rintro ⟨h1, _⟩
  rw [h] at h1
  cases h1
set_option maxRecDepth 20000 in
set_option maxHeartbeats 6400000 in
theorem awake_any (w : World) : Calls Try.prog 9 #[] w fun e w' => e = .returned (.bool true) ∧ Below w.heap.size w w' := by
  go_enter Try.func9, Try.ntmps9
  go_wp2_with fail
  refine (put_any eb 0 (hasE_nil w 0 none) rfl (Nat.le_refl 0) (by decide) rises_nil).mono ?_
  rintro e w1 ⟨A1, n1, c1, rfl, hn1, hc1, hl1, hb1⟩
  rw [put1] at hn1 hl1
  obtain rfl : 1 = n1 := hn1
  go_wp2_with fail
  refine (put_any ea 0 hl1 rfl hc1 (by decide) ris1).mono ?_
  rintro e w2 ⟨A, n2, c2, rfl, hn2, hc2, hl, hb2⟩
  rw [put2] at hn2 hl
  obtain rfl : 2 = n2 := hn2
  have hb := hb1.trans (hb2.mono hb1.size)
  clear hl1 hc1 hb1 hb2
  go_wp2_with fail
  refine (find_any ⟨#[98]⟩ 0 hl rfl hc2 (by decide) ris2).mono ?_
  rintro e w3 ⟨he, h3⟩
  rw [find1] at he
  have he : e = .returned (.tuple #[.agg #[.int .i64 1, .int .i64 2], .bool true]) := he
  subst he
  have hl := hl.below h3 (Nat.le_refl _)
  have hb := hb.trans (h3.mono hb.size)
  clear h3
  go_wp2_with fail
  have hx := Box2.new w3 (.int .i64 1) (.int .i64 2) 28
  have hnew := (Below.refl w3.heap.size w3).alloc (Nat.le_refl _) (.cells #[.int .i64 1, .int .i64 2] 28)
  obtain ⟨g, hg⟩ : ∃ g, w3.heap.size = g := ⟨_, rfl⟩
  have hl := hl.below hnew (Nat.le_refl _)
  have hb := hb.trans (hnew.mono hb.size)
  rw [hg] at hx ⊢
  generalize w3.alloc (.cells #[.int .i64 1, .int .i64 2] 28) = w4 at hx hl hb ⊢
  clear hnew hg
  refine (find_any ⟨#[99]⟩ 0 hl rfl hc2 (by decide) ris2).mono ?_
  rintro e w5 ⟨he, h5⟩
  rw [find2] at he
  have he : e = .returned (.tuple #[.agg #[.int .i64 0, .int .i64 0], .bool false]) := he
  subst he
  have hl := hl.below h5 (Nat.le_refl _)
  have hx := hx.below h5 hx.lt
  have hb := hb.trans (h5.mono hb.size)
  clear h5
  go_wp2_with fail
  have hnew := (Below.refl w5.heap.size w5).alloc (Nat.le_refl _) (.cells #[.int .i64 0, .int .i64 0] 28)
  obtain ⟨g2, hg2⟩ : ∃ g2, w5.heap.size = g2 := ⟨_, rfl⟩
  have hl := hl.below hnew (Nat.le_refl _)
  have hx := hx.below hnew hx.lt
  have hb := hb.trans (hnew.mono hb.size)
  rw [hg2]
  generalize w5.alloc (.cells #[.int .i64 0, .int .i64 0] 28) = w6 at hx hl hb ⊢
  clear hnew hg2
  refine (put_any eb3 0 hl rfl hc2 (by decide) ris2).mono ?_
  rintro e w7 ⟨A3, n3, c3, rfl, hn3, hc3, hm, h7⟩
  rw [put3] at hn3 hm
  obtain rfl : 2 = n3 := hn3
  have hl := hl.below h7 (Nat.le_refl _)
  have hx := hx.below h7 hx.lt
  have hb := hb.trans (h7.mono hb.size)
  clear h7
  go_wp2_with fail
  refine (print_any 0 hl rfl hc2 isb2).mono ?_
  rintro e w8 ⟨rfl, h8⟩
  rw [print2]
  have hl := hl.below h8 (Nat.le_refl _)
  have hm := hm.below h8 (Nat.le_refl _)
  have hx := hx.below h8 hx.lt
  have hb := hb.trans (h8.mono hb.size)
  clear h8
  go_wp2_with fail
  refine (parse_any ⟨#[4, 2, 97, 0, 2, 98, 20]⟩ (by decide)).mono ?_
  rintro e w9 ⟨A4, n4, c4, he, hn4, hc4, hp, h9⟩
  rw [parse2] at he hn4 hp
  have hp : HasE w9 0 A4 [ea, eb] := hp
  obtain rfl : 2 = n4 := hn4
  have he : e = .returned (.tuple #[.slice A4 2 c4, .bool true]) := he
  subst he
  have hl := hl.below h9 (Nat.le_refl _)
  have hm := hm.below h9 (Nat.le_refl _)
  have hx := hx.below h9 hx.lt
  have hb := hb.trans (h9.mono hb.size)
  clear h9
  go_wp2_with fail
  refine (parse_any ⟨#[120]⟩ (by decide)).mono ?_
  rintro e w10 ⟨A5, n5, c5, he, hn5, hc5, hp5, h10⟩
  rw [parse_x] at he hn5 hp5
  obtain rfl : 0 = n5 := hn5
  have he : e = .returned (.tuple #[.slice A5 0 c5, .bool false]) := he
  subst he
  have hl := hl.below h10 (Nat.le_refl _)
  have hm := hm.below h10 (Nat.le_refl _)
  have hp := hp.below h10 (Nat.le_refl _)
  have hx := hx.below h10 hx.lt
  have hb := hb.trans (h10.mono hb.size)
  clear h10 hp5
  obtain ⟨b1, o1, rfl, _, hl1, d0, _, _⟩ := HasE.at hl (q := 0) rfl
  obtain ⟨b3, o3, rfl, _, hl3, _, d3, _⟩ := HasE.at hm (q := 1) rfl
  have d0 : w10.cell? ⟨b1, o1, none⟩ = some (.string ⟨#[97]⟩) := by have h := d0; rw [Nat.zero_mul, Nat.add_zero] at h; exact h
  have d3 : w10.cell? ⟨b3, o3 + 3 + 1, none⟩ = some (.int .i64 3) := by have h := d3; rw [Nat.one_mul] at h; exact h
  have x0 := hx.c0
  have x1 := hx.c1
  go_wp2_with fail
  clear d0 d3 x0 x1 hx hl1 hl3
  refine (drop_any ⟨#[97]⟩ 0 hm rfl hc3 (by decide) ris3).mono ?_
  rintro e w11 ⟨A6, n6, c6, rfl, hn6, hc6, _, h11⟩
  rw [drop1] at hn6
  obtain rfl : 1 = n6 := hn6
  have hl := hl.below h11 (Nat.le_refl _)
  have hp := hp.below h11 (Nat.le_refl _)
  have hb := hb.trans (h11.mono hb.size)
  clear h11 hm
  go_wp2_with fail
  refine (refSame_any (some ⟨b1, o1, none⟩) A4 c2 c4 [ea, eb] [ea, eb] 0 0 w11 hl hp (by decide) (by decide)).mono ?_
  rintro e w12 ⟨r, rfl, hr, h12⟩
  obtain rfl : r = true := hr.2 rfl
  have hl := hl.below h12 (Nat.le_refl _)
  have hb := hb.trans (h12.mono hb.size)
  clear h12 hp hr
  go_wp2_with fail
  refine (right_any 0 hl rfl hc2 (by decide)).mono ?_
  rintro e w13 ⟨r, rfl, hr, h13⟩
  obtain rfl : r = true := hr.2 isb2
  have hl := hl.below h13 (Nat.le_refl _)
  have hb := hb.trans (h13.mono hb.size)
  clear h13 hr
  go_wp2_with fail
  have hnew := (Below.refl w13.heap.size w13).alloc (Nat.le_refl _) (.cells #[.string ⟨#[98]⟩, .int .i64 0, .int .i64 0, .string ⟨#[97]⟩, .int .i64 0, .int .i64 0] 30)
  have hq : HasE (w13.alloc (.cells #[.string ⟨#[98]⟩, .int .i64 0, .int .i64 0, .string ⟨#[97]⟩, .int .i64 0, .int .i64 0] 30)) w13.heap.size (some ⟨w13.heap.size, 0, none⟩) [eb0, ea] :=
    Li.list_of_block (l := [eb0, ea]) cellsE_len (heap_alloc_new w13 (.cells #[.string ⟨#[98]⟩, .int .i64 0, .int .i64 0, .string ⟨#[97]⟩, .int .i64 0, .int .i64 0] 30)) rfl
  have hl := hl.below hnew (Nat.le_refl _)
  have hb := hb.trans (hnew.mono hb.size)
  obtain ⟨g3, hg3⟩ : ∃ g3, w13.heap.size = g3 := ⟨_, rfl⟩
  rw [hg3] at hq ⊢
  generalize w13.alloc (.cells #[.string ⟨#[98]⟩, .int .i64 0, .int .i64 0, .string ⟨#[97]⟩, .int .i64 0, .int .i64 0] 30) = w14 at hl hq hb ⊢
  clear hnew hg3
  refine (right_any g3 hq rfl (Nat.le_refl 2) (by decide)).mono ?_
  rintro e w15 ⟨r, rfl, hr, h15⟩
  obtain rfl : r = false := by
    cases r
    · rfl
    · exact absurd (hr.1 rfl) isb_not
  have hl := hl.below h15 (Nat.le_refl _)
  have hb := hb.trans (h15.mono hb.size)
  clear h15 hr hq
  go_wp2_with fail
  refine (print_any 0 hl rfl hc2 isb2).mono ?_
  rintro e w16 ⟨rfl, h16⟩
  rw [print2]
  have hb := hb.trans (h16.mono hb.size)
  clear h16 hl
  go_wp2
  go_ret
  exact ⟨rfl, hb⟩
end Go.Proofs.Ytmjlfhfadmndhaa.Bu
