/- MiniBack: whatever cells, walked. -/
import Derived.Test.YtabgbhilbnchnaaMiM
namespace Go.Proofs.Ytabgbhilbnchnaa.Mi
open Go.RowKit Pac Va Sc Ro Lex

theorem cut_last {u : ByteArray} {z : Nat} (h : u.size = z + 1) : ∃ b : ByteArray, b ≠ ⟨#[]⟩ ∧ u.extract 0 z ++ b = u := by
  refine ⟨u.extract z (z + 1), fun e => ?_, ?_⟩
  · have := congrArg ByteArray.size e
    rw [ByteArray.size_extract] at this
    have h0 : (⟨#[]⟩ : ByteArray).size = 0 := rfl
    rw [h0] at this
    omega
  · rw [ByteArray.extract_append_extract, Nat.min_eq_left (Nat.zero_le _), Nat.max_eq_right (by omega), ← h]
    exact ByteArray.extract_zero_size

set_option maxRecDepth 20000 in
set_option maxHeartbeats 8000000 in
theorem back_any (A1 A2 A3 : Option Addr) (cp cp2 cp3 mc m mr : Nat) (nm : ByteArray) (cs : List C) (g : List Int) (cells : List (List V)) (lo1 lo2 lo3 : Nat) (w : World) (h1 : HasCols w lo1 A1 cs) (h2 : HasI w lo2 A2 g) (h3 : HasVV w lo3 A3 cells) (hBD : Bnd nm mc cp cs g cells) (hm : g.length = m) (hmr : cells.length = mr) :
    Calls Try.prog 4 #[.agg #[.string nm, .slice A1 mc cp], .slice A2 m cp2, .slice A3 mr cp3] w fun e w' => e = .returned (.bool true) ∧ Below w.heap.size w w' := by
  have hI := Inp.new (nm := nm) (mc := mc) (cp := cp) h1 h2 h3
  clear h1 h2 h3
  obtain ⟨rr, hrr⟩ : ∃ rr, rightG nm cs g cells = rr := ⟨_, rfl⟩
  have HBD := Lib.hid (And.intro hBD (And.intro hm (And.intro hmr hrr)))
  clear hBD hm hmr hrr
  go_enter Try.func4, Try.ntmps4
  generalize hw1 : w.alloc (.cells #[.string nm, .slice A1 mc cp] 24) = w1 at hI
  have c0 := hI.x.c0
  have c1 := hI.x.c1
  go_wp2_with fail
  clear hw1 c0 c1
  refine (right_of HBD.out.1 HBD.out.2.2.2 HBD.out.2.1 HBD.out.2.2.1 cp2 cp3 hI).mono ?_
  rintro e w2 ⟨rfl, hy⟩
  have hI := hI.below hy
  clear hy
  cases rr
  · go_wp2_with fail
    refine (awake_any _).mono ?_
    rintro e y9 ⟨rfl, hy⟩
    have hI := hI.below hy
    have hB := hI.b
    clear hy hI
    go_wp2
    go_ret
    exact ⟨rfl, hB⟩
  · obtain ⟨hBD, hm, hmr, hrr⟩ := HBD.out
    have hg := rightG_out hrr
    have hG := hg.grp
    have hM := hg.m hBD.vok
    obtain rfl : mr = 8 := by rw [← hmr, hg.len]
    have hm8 : m ≤ 8 := by rw [← hm]; exact hG.g8
    have hm1 : 1 ≤ m := by rw [← hm]; exact hG.g1
    obtain ⟨u, hu⟩ : ∃ u, printM (kindsL cs g) cells = u := ⟨_, rfl⟩
    have hul := printM_le hM (by rw [kinds_len, hm]; exact hm8)
    rw [hu, kinds_len, hm, if_neg (by omega)] at hul
    obtain ⟨z, hz⟩ : ∃ z, u.size = z + 1 := ⟨u.size - 1, by omega⟩
    have hrd : readM (kindsL cs g) u = some cells := by rw [← hu]; exact read_print hM
    have hmo : readM (kindsL cs g) (u ++ ⟨#[0]⟩) = none := by rw [← hu]; exact read_more hM (by decide)
    obtain ⟨lb, hlb, hle⟩ := cut_last hz
    have hls : readM (kindsL cs g) (u.extract 0 z) = none := read_less hM hlb (by rw [hle, hu])
    have hcP := fun (W : World) (h : Inp w w.heap.size lo1 lo2 lo3 nm A1 A2 A3 mc cp cs g cells W) => print_of (cp := cp) hBD.lc hm hG hM hu cp2 cp3 h.c h.i h.v
    have hcR := fun (W : World) (h : Inp w w.heap.size lo1 lo2 lo3 nm A1 A2 A3 mc cp cs g cells W) => read_of (cp := cp) (b := true) hBD.lc hm hG hrd rfl (fun x hx => by injection hx with hx; rw [← hx, hmr]) (by omega) cp2 h.c h.i
    have hcM := fun (W : World) (h : Inp w w.heap.size lo1 lo2 lo3 nm A1 A2 A3 mc cp cs g cells W) => read_of (cp := cp) (b := false) hBD.lc hm hG hmo rfl (fun x hx => by cases hx) (by rw [ByteArray.size_append]; show u.size + 1 ≤ _; omega) cp2 h.c h.i
    have hcL := fun (W : World) (h : Inp w w.heap.size lo1 lo2 lo3 nm A1 A2 A3 mc cp cs g cells W) => read_of (cp := cp) (b := false) hBD.lc hm hG hls rfl (fun x hx => by cases hx) (by rw [ByteArray.size_extract]; omega) cp2 h.c h.i
    have hcS := fun (W : World) (A5 A6 : Option Addr) (p5 p6 lo5 lo6 : Nat) (h5 : HasVV W lo5 A5 cells) (h6 : HasVV W lo6 A6 cells) => same_of (by rw [hmr]) (fun r hr => by rw [hg.row r hr, hm]; exact hm8) A5 A6 p5 p6 lo5 lo6 h5 h6
    unfold RdPost at hcR hcM hcL
    clear hBD hm hmr hrr hg hG hM hu HBD hrd hmo hls hlb hle hm1
    generalize hgx : w.heap.size = gx at hI hcP hcR hcM hcL ⊢
    have c0 := hI.x.c0
    have c1 := hI.x.c1
    go_wp2_with fail
    clear c0 c1
    refine (hcP _ hI).mono ?_
    rintro e w3 ⟨rfl, hy⟩
    have hI := hI.below hy
    clear hy hcP
    have c0 := hI.x.c0
    have c1 := hI.x.c1
    go_wp2_with fail
    clear c0 c1
    refine (hcR _ hI).mono ?_
    rintro e w4 ⟨v4, rfl, hX0, hy⟩
    have hI := hI.below hy
    obtain ⟨A5, c5, rfl, hX⟩ := hX0 _ rfl
    clear hy hcR hX0
    have c0 := hI.x.c0
    have c1 := hI.x.c1
    go_wp2_with fail
    clear c0 c1
    refine (hcM _ hI).mono ?_
    rintro e w5 ⟨v5, rfl, _, hy⟩
    have hI := hI.below hy
    have hX := hX.below hy (Nat.le_refl _)
    clear hy hcM
    go_wp2_with fail
    have hI := hI.below ((Below.refl _ _).drew)
    have hX := hX.below ((Below.refl _ _).drew) (Nat.le_refl _)
    have hwz : IntKind.i64.wrap (z : Int) = (z : Int) := by rw [IntKind.wrap_i64]; omega
    refine Lex.region_lex (ops := mdops) (calls := mdcalls) mdord (fun W => W.cell? ⟨gx, 0, none⟩ = some (.string nm) ∧ W.cell? ⟨gx, 1, none⟩ = some (.slice A1 mc cp)) (by kernel_rfl) (by kernel_rfl) mdsel (by kernel_rfl) (by kernel_rfl) mdlex (⟨hI.x.c0, hI.x.c1⟩) ?_
    unfold mdord
    refine Lex.step_take (.agg #[.string nm, .slice A1 mc cp]) md0 rfl (Lex.want_none rfl) (by intro Wx hSw; (try dsimp only at hSw); go_simp; (try (first | (with_reducible rfl) | assumption | (intro h0; omega) | rfl))) ?_
    simp only [Act.put, List.setIfInBounds_toArray, List.set_cons_zero, List.set_cons_succ]
    refine Lex.step_take (.slice A2 m cp2) md1 rfl (Lex.want_none rfl) (by intro Wx hSw; (try dsimp only at hSw); go_simp; (try (first | (with_reducible rfl) | assumption | (intro h0; omega) | rfl))) ?_
    simp only [Act.put, List.setIfInBounds_toArray, List.set_cons_zero, List.set_cons_succ]
    refine Lex.step_take (.string u) md2 rfl (Lex.want_none rfl) (by intro Wx hSw; (try dsimp only at hSw); go_simp; (try (first | (with_reducible rfl) | assumption | (intro h0; omega) | rfl))) ?_
    simp only [Act.put, List.setIfInBounds_toArray, List.set_cons_zero, List.set_cons_succ]
    refine Lex.step_take (.string u) md3 rfl (Lex.want_none rfl) (by intro Wx hSw; (try dsimp only at hSw); go_simp; (try (first | (with_reducible rfl) | assumption | (intro h0; omega) | rfl))) ?_
    simp only [Act.put, List.setIfInBounds_toArray, List.set_cons_zero, List.set_cons_succ]
    refine Lex.step_take (.int .i64 (z + 1 : Nat)) md4 rfl (Lex.want_none rfl) (by intro Wx hSw; (try dsimp only at hSw); go_simp; (try (first | (with_reducible rfl) | assumption | (intro h0; omega) | rfl))) ?_
    simp only [Act.put, List.setIfInBounds_toArray, List.set_cons_zero, List.set_cons_succ]
    refine Lex.step_take (.int .i64 (z : Nat)) md5 rfl (Lex.want_none rfl) (by intro Wx hSw; (try dsimp only at hSw); go_simp; (try (first | (with_reducible rfl) | assumption | (intro h0; omega) | rfl))) ?_
    simp only [Act.put, List.setIfInBounds_toArray, List.set_cons_zero, List.set_cons_succ]
    refine Lex.step_take (.int .i64 (z : Nat)) md6 rfl (Lex.want_none rfl) (by intro Wx hSw; (try dsimp only at hSw); go_simp; (try (first | (with_reducible rfl) | assumption | (intro h0; omega) | rfl))) ?_
    simp only [Act.put, List.setIfInBounds_toArray, List.set_cons_zero, List.set_cons_succ]
    refine Lex.step_take (.string (u.extract 0 z)) md7 rfl (Lex.want_none rfl) (by intro Wx hSw; (try dsimp only at hSw); go_simp; (try (first | (with_reducible rfl) | assumption | (intro h0; omega) | rfl))) ?_
    simp only [Act.put, List.setIfInBounds_toArray, List.set_cons_zero, List.set_cons_succ]
    refine Lex.step_call md8 rfl (Lex.want_none rfl) (fun K hK => ?_)
    go_simp
    refine (hcL _ hI).mono ?_
    rintro e y3 ⟨v, rfl, _, hy3⟩
    have hI := hI.below hy3
    have hX := hX.below hy3 (Nat.le_refl _)
    clear hy3
    refine hK.out _ _ _ (fun _ h => h) ⟨hI.x.c0, hI.x.c1⟩ ?_
    clear hK K
    try simp only [Act.put, List.setIfInBounds_toArray, List.set_cons_zero, List.set_cons_succ]
    refine Lex.step_take (.tuple #[v, .bool false]) md9 rfl (Lex.want_none rfl) (by intro Wx hSw; (try dsimp only at hSw); go_simp; (try (first | (with_reducible rfl) | assumption | (intro h0; omega) | rfl))) ?_
    simp only [Act.put, List.setIfInBounds_toArray, List.set_cons_zero, List.set_cons_succ]
    refine Lex.step_take (v) md10 rfl (Lex.want_none rfl) (by intro Wx hSw; (try dsimp only at hSw); go_simp; (try (first | (with_reducible rfl) | assumption | (intro h0; omega) | rfl))) ?_
    simp only [Act.put, List.setIfInBounds_toArray, List.set_cons_zero, List.set_cons_succ]
    refine Lex.step_take (.bool false) md11 rfl (Lex.want_none rfl) (by intro Wx hSw; (try dsimp only at hSw); go_simp; (try (first | (with_reducible rfl) | assumption | (intro h0; omega) | rfl))) ?_
    simp only [Act.put, List.setIfInBounds_toArray, List.set_cons_zero, List.set_cons_succ]
    refine Lex.step_take (v) md12 rfl (Lex.want_none rfl) (by intro Wx hSw; (try dsimp only at hSw); go_simp; (try (first | (with_reducible rfl) | assumption | (intro h0; omega) | rfl))) ?_
    simp only [Act.put, List.setIfInBounds_toArray, List.set_cons_zero, List.set_cons_succ]
    refine Lex.step_take (.bool false) md13 rfl (Lex.want_none rfl) (by intro Wx hSw; (try dsimp only at hSw); go_simp; (try (first | (with_reducible rfl) | assumption | (intro h0; omega) | rfl))) ?_
    simp only [Act.put, List.setIfInBounds_toArray, List.set_cons_zero, List.set_cons_succ]
    refine NoPanic.normal ?_
    go_wp2_with fail
    refine (awake_any _).mono ?_
    rintro e y9 ⟨rfl, hy⟩
    have hI := hI.below hy
    have hX := hX.below hy (Nat.le_refl _)
    clear hy
    go_wp2_with fail
    refine (hcS _ A5 A3 c5 cp3 _ _ hX hI.v).mono ?_
    rintro e y8 ⟨rfl, hy⟩
    have hI := hI.below hy
    have hB := hI.b
    clear hI hX hy
    subst hgx
    go_wp2
    go_ret
    exact ⟨rfl, hB⟩
end Go.Proofs.Ytabgbhilbnchnaa.Mi
