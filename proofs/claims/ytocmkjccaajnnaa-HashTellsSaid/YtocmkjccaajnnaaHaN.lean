/- Deeds in memory; whether they are small: the law's, walked. -/
import Derived.Test.YtocmkjccaajnnaaHaM
import Derived.Test.YtocmkjccaajnnaaMgY
namespace Go.Proofs.Ytocmkjccaajnnaa.Ha
open Go.RowKit Pac Bu Ls Lex Go.Proofs.Ytocmkjccaajnnaa.Or

/-- A deed: its kind, and an entry. -/
structure Ac where
  k : Int
  e : E
def cellsA (a : Ac) : List Value := [.int .i64 a.k, .string a.e.key, .int .i64 a.e.t, .int .i64 a.e.s]
theorem cellsA_len (a : Ac) : (cellsA a).length = 4 := rfl
/-- The slice at A holds these deeds. -/
abbrev HasA (w : World) (lo : Nat) (A : Option Addr) (l : List Ac) : Prop := Li.HasL cellsA 4 w lo A l
theorem HasA.at {w : World} {lo : Nat} {A : Option Addr} {l : List Ac} (h : HasA w lo A l) {q : Nat} {a : Ac} (hq : l[q]? = some a) :
    ∃ b o, A = some ⟨b, o, none⟩ ∧ lo ≤ b ∧ b < w.heap.size ∧ w.cell? ⟨b, o + q * 4, none⟩ = some (.int .i64 a.k) ∧ w.cell? ⟨b, o + q * 4 + 1, none⟩ = some (.string a.e.key) ∧ w.cell? ⟨b, o + q * 4 + 2, none⟩ = some (.int .i64 a.e.t) ∧ w.cell? ⟨b, o + q * 4 + 3, none⟩ = some (.int .i64 a.e.s) := by
  obtain ⟨b, o, hA, hlo, hlt, hc⟩ := h (fun e => by rw [e] at hq; simp at hq)
  exact ⟨b, o, hA, hlo, hlt, hc q a hq 0 _ rfl, hc q a hq 1 _ rfl, hc q a hq 2 _ rfl, hc q a hq 3 _ rfl⟩
theorem isB_one (e : E) : IsB [e] ↔ FineP e :=
  ⟨fun h => ⟨h.key e (by simp), h.t0 e (by simp), h.s0 e (by simp)⟩, fun h => ⟨List.pairwise_singleton _ _, by simp, fun x hx => by
    obtain rfl : x = e := by simpa using hx
    exact h.1, fun x hx => by
    obtain rfl : x = e := by simpa using hx
    exact h.2.1, fun x hx => by
    obtain rfl : x = e := by simpa using hx
    exact h.2.2⟩⟩
structure SmallA (l : List Ac) (m : Nat) : Prop where
  len : l.length ≤ m
  fine : ∀ a ∈ l, FineP a.e
theorem take_snocA {l : List Ac} {q : Nat} {x : Ac} (h : l[q]? = some x) : l.take (q + 1) = l.take q ++ [x] := by rw [List.take_add_one, h]; rfl
section
variable {A : Option Addr} {n cp : Nat} {l : List Ac} {w : World}
set_option maxRecDepth 20000 in
set_option maxHeartbeats 3200000 in
theorem small_any (lo m : Nat) (hl : HasA w lo A l) (hn : l.length = n) (h9 : n ≤ 9223372036854775807) (hm : m ≤ 1000) :
    Calls Try.prog 8 #[.slice A n cp, .int .i64 m] w (SameHPost (SmallA l m) w) := by
  have HL := Lib.hid (And.intro hl hn)
  clear hl hn
  go_enter Try.func8, Try.ntmps8
  go_wp2
  go_loopw [5] (fun i wr => ∃ q : Nat, q ≤ n ∧ i = .int .i64 q ∧ Hid (∀ a ∈ l.take q, FineP a.e) ∧ Below w.heap.size w wr) (fun i _ => n - (intOf i).toNat)
  case atStart => exact ⟨0, Nat.zero_le _, rfl, Lib.hid (fun x hx => by simp at hx), Below.refl _ w⟩
  case round =>
    obtain ⟨q, hq, rfl, hI, hB⟩ := hrel
    by_cases hlt : q < n
    · have hgt := List.getElem?_eq_getElem (l := l) (i := q) (by rw [HL.out.2]; exact hlt)
      generalize (l[q]'(by rw [HL.out.2]; exact hlt)) = x at hgt
      obtain ⟨b, o, rfl, _, hlb, d0, d1, d2, d3⟩ := HasA.at (HL.out.1.below hB (Nat.le_refl _)) hgt
      have HM := Lib.hid (List.mem_of_getElem? hgt)
      have HT := Lib.hid (take_snocA hgt)
      obtain ⟨ak, ek, et, es⟩ := x
      simp only at d0 d1 d2 d3
      have i1 : (q : Int) < (n : Int) := by omega
      have i0 : (0 : Int) ≤ (q : Int) := by omega
      have hdr := (Below.refl wr.heap.size wr).drew
      clear hgt d0
      by_cases kf : 61 < (ek.size : Int)
      · have HQ : Hid (¬ SmallA l m) := Lib.hid (fun h => by have := (h.fine _ HM.out).1; simp only at this; omega)
        go_wp2_with fail
        refine Lex.region_lex (ops := smops) (calls := smcalls) smord (fun W => W.cell? ⟨b, o + q * 4 + 1, none⟩ = some (.string ek) ∧ W.cell? ⟨b, o + q * 4 + 2, none⟩ = some (.int .i64 et) ∧ W.cell? ⟨b, o + q * 4 + 3, none⟩ = some (.int .i64 es)) (by kernel_rfl) (by kernel_rfl) smsel (by kernel_rfl) (by kernel_rfl) smlex (⟨cell_belowB hdr d1, cell_belowB hdr d2, cell_belowB hdr d3⟩) ?_
        unfold smord
        have d1 := cell_belowB hdr d1
        have d2 := cell_belowB hdr d2
        have d3 := cell_belowB hdr d3
        have hB := hB.trans (hdr.mono hB.size)
        clear hdr
        obtain ⟨wq, hwq⟩ : ∃ wq, wr.drew = wq := ⟨_, rfl⟩
        rw [hwq] at d1 d2 d3 hB ⊢
        clear hwq
        refine Lex.step_take (.slice (some ⟨b, o, none⟩) n cp) sm0 rfl (Lex.want_none rfl) (by intro Wx hSw; (try dsimp only at hSw); go_simp; (try (first | (with_reducible rfl) | assumption | rfl))) ?_
        simp only [Act.put, List.setIfInBounds_toArray, List.set_cons_zero, List.set_cons_succ]
        refine Lex.step_take (.int .i64 q) sm1 rfl (Lex.want_none rfl) (by intro Wx hSw; (try dsimp only at hSw); go_simp; (try (first | (with_reducible rfl) | assumption | rfl))) ?_
        simp only [Act.put, List.setIfInBounds_toArray, List.set_cons_zero, List.set_cons_succ]
        refine Lex.step_take (.pointer (some ⟨b, o + q * 4, none⟩)) sm2 rfl (Lex.want_none rfl) (by intro Wx hSw; (try dsimp only at hSw); go_simp; (try (first | (with_reducible rfl) | assumption | rfl))) ?_
        simp only [Act.put, List.setIfInBounds_toArray, List.set_cons_zero, List.set_cons_succ]
        refine Lex.step_take (.pointer (some ⟨b, o + q * 4 + 1, none⟩)) sm3 rfl (Lex.want_none rfl) (by intro Wx hSw; (try dsimp only at hSw); go_simp; (try (first | (with_reducible rfl) | assumption | rfl))) ?_
        simp only [Act.put, List.setIfInBounds_toArray, List.set_cons_zero, List.set_cons_succ]
        refine Lex.step_take (.string ek) sm4 rfl (Lex.want_none rfl) (by intro Wx hSw; (try dsimp only at hSw); go_simp; (try (first | (with_reducible rfl) | assumption | rfl))) ?_
        simp only [Act.put, List.setIfInBounds_toArray, List.set_cons_zero, List.set_cons_succ]
        refine Lex.step_take (.int .i64 (ek.size : Int)) sm5 rfl (Lex.want_none rfl) (by intro Wx hSw; (try dsimp only at hSw); go_simp; (try (first | (with_reducible rfl) | assumption | rfl))) ?_
        simp only [Act.put, List.setIfInBounds_toArray, List.set_cons_zero, List.set_cons_succ]
        refine Lex.step_take (.bool true) sm6 rfl (Lex.want_none rfl) (by intro Wx hSw; (try dsimp only at hSw); go_simp; (try (first | (with_reducible rfl) | assumption | rfl))) ?_
        simp only [Act.put, List.setIfInBounds_toArray, List.set_cons_zero, List.set_cons_succ]
        refine Lex.step_take (.bool true) sm7 rfl (Lex.want_none rfl) (by intro Wx hSw; (try dsimp only at hSw); go_simp; (try (first | (with_reducible rfl) | assumption | rfl))) ?_
        simp only [Act.put, List.setIfInBounds_toArray, List.set_cons_zero, List.set_cons_succ]
        refine Lex.step_skip sm8 (Lex.want_some rfl sm7 rfl (b' := true) rfl rfl) ?_
        simp only [Act.put, List.setIfInBounds_toArray, List.set_cons_zero, List.set_cons_succ]
        refine Lex.step_skip sm9 (Lex.want_some rfl sm7 rfl (b' := true) rfl rfl) ?_
        simp only [Act.put, List.setIfInBounds_toArray, List.set_cons_zero, List.set_cons_succ]
        refine Lex.step_skip sm10 (Lex.want_some rfl sm7 rfl (b' := true) rfl rfl) ?_
        simp only [Act.put, List.setIfInBounds_toArray, List.set_cons_zero, List.set_cons_succ]
        refine Lex.step_skip sm11 (Lex.want_some rfl sm7 rfl (b' := true) rfl rfl) ?_
        simp only [Act.put, List.setIfInBounds_toArray, List.set_cons_zero, List.set_cons_succ]
        refine Lex.step_skip sm12 (Lex.want_some rfl sm7 rfl (b' := true) rfl rfl) ?_
        simp only [Act.put, List.setIfInBounds_toArray, List.set_cons_zero, List.set_cons_succ]
        refine Lex.step_skip sm13 (Lex.want_some rfl sm7 rfl (b' := true) rfl rfl) ?_
        simp only [Act.put, List.setIfInBounds_toArray, List.set_cons_zero, List.set_cons_succ]
        refine Lex.step_skip sm14 (Lex.want_some rfl sm7 rfl (b' := true) rfl rfl) ?_
        simp only [Act.put, List.setIfInBounds_toArray, List.set_cons_zero, List.set_cons_succ]
        refine Lex.step_skip sm15 (Lex.want_some rfl sm7 rfl (b' := true) rfl rfl) ?_
        simp only [Act.put, List.setIfInBounds_toArray, List.set_cons_zero, List.set_cons_succ]
        refine Lex.step_skip sm16 (Lex.want_some rfl sm7 rfl (b' := true) rfl rfl) ?_
        simp only [Act.put, List.setIfInBounds_toArray, List.set_cons_zero, List.set_cons_succ]
        refine Lex.step_skip sm17 (Lex.want_some rfl sm7 rfl (b' := true) rfl rfl) ?_
        simp only [Act.put, List.setIfInBounds_toArray, List.set_cons_zero, List.set_cons_succ]
        refine Lex.step_skip sm18 (Lex.want_some rfl sm7 rfl (b' := true) rfl rfl) ?_
        simp only [Act.put, List.setIfInBounds_toArray, List.set_cons_zero, List.set_cons_succ]
        refine Lex.step_skip sm19 (Lex.want_some rfl sm7 rfl (b' := true) rfl rfl) ?_
        simp only [Act.put, List.setIfInBounds_toArray, List.set_cons_zero, List.set_cons_succ]
        refine Lex.step_skip sm20 (Lex.want_some rfl sm7 rfl (b' := true) rfl rfl) ?_
        simp only [Act.put, List.setIfInBounds_toArray, List.set_cons_zero, List.set_cons_succ]
        refine Lex.step_skip sm21 (Lex.want_some rfl sm7 rfl (b' := true) rfl rfl) ?_
        simp only [Act.put, List.setIfInBounds_toArray, List.set_cons_zero, List.set_cons_succ]
        refine Lex.step_take (.bool true) sm22 rfl (Lex.want_none rfl) (by intro Wx hSw; (try dsimp only at hSw); go_simp; (try (first | (with_reducible rfl) | assumption | rfl))) ?_
        simp only [Act.put, List.setIfInBounds_toArray, List.set_cons_zero, List.set_cons_succ]
        refine NoPanic.normal ?_
        clear d1 d2 d3
        go_wp2
        go_ret
        exact ⟨false, rfl, ⟨fun e => (by cases e), fun e => absurd e HQ.out⟩, hB⟩
      · go_wp2_with fail
        refine Lex.region_lex (ops := smops) (calls := smcalls) smord (fun W => W.cell? ⟨b, o + q * 4 + 1, none⟩ = some (.string ek) ∧ W.cell? ⟨b, o + q * 4 + 2, none⟩ = some (.int .i64 et) ∧ W.cell? ⟨b, o + q * 4 + 3, none⟩ = some (.int .i64 es)) (by kernel_rfl) (by kernel_rfl) smsel (by kernel_rfl) (by kernel_rfl) smlex (⟨cell_belowB hdr d1, cell_belowB hdr d2, cell_belowB hdr d3⟩) ?_
        unfold smord
        have d1 := cell_belowB hdr d1
        have d2 := cell_belowB hdr d2
        have d3 := cell_belowB hdr d3
        have hB := hB.trans (hdr.mono hB.size)
        clear hdr
        obtain ⟨wq, hwq⟩ : ∃ wq, wr.drew = wq := ⟨_, rfl⟩
        rw [hwq] at d1 d2 d3 hB ⊢
        clear hwq
        refine Lex.step_take (.slice (some ⟨b, o, none⟩) n cp) sm0 rfl (Lex.want_none rfl) (by intro Wx hSw; (try dsimp only at hSw); go_simp; (try (first | (with_reducible rfl) | assumption | rfl))) ?_
        simp only [Act.put, List.setIfInBounds_toArray, List.set_cons_zero, List.set_cons_succ]
        refine Lex.step_take (.int .i64 q) sm1 rfl (Lex.want_none rfl) (by intro Wx hSw; (try dsimp only at hSw); go_simp; (try (first | (with_reducible rfl) | assumption | rfl))) ?_
        simp only [Act.put, List.setIfInBounds_toArray, List.set_cons_zero, List.set_cons_succ]
        refine Lex.step_take (.pointer (some ⟨b, o + q * 4, none⟩)) sm2 rfl (Lex.want_none rfl) (by intro Wx hSw; (try dsimp only at hSw); go_simp; (try (first | (with_reducible rfl) | assumption | rfl))) ?_
        simp only [Act.put, List.setIfInBounds_toArray, List.set_cons_zero, List.set_cons_succ]
        refine Lex.step_take (.pointer (some ⟨b, o + q * 4 + 1, none⟩)) sm3 rfl (Lex.want_none rfl) (by intro Wx hSw; (try dsimp only at hSw); go_simp; (try (first | (with_reducible rfl) | assumption | rfl))) ?_
        simp only [Act.put, List.setIfInBounds_toArray, List.set_cons_zero, List.set_cons_succ]
        refine Lex.step_take (.string ek) sm4 rfl (Lex.want_none rfl) (by intro Wx hSw; (try dsimp only at hSw); go_simp; (try (first | (with_reducible rfl) | assumption | rfl))) ?_
        simp only [Act.put, List.setIfInBounds_toArray, List.set_cons_zero, List.set_cons_succ]
        refine Lex.step_take (.int .i64 (ek.size : Int)) sm5 rfl (Lex.want_none rfl) (by intro Wx hSw; (try dsimp only at hSw); go_simp; (try (first | (with_reducible rfl) | assumption | rfl))) ?_
        simp only [Act.put, List.setIfInBounds_toArray, List.set_cons_zero, List.set_cons_succ]
        refine Lex.step_take (.bool false) sm6 rfl (Lex.want_none rfl) (by intro Wx hSw; (try dsimp only at hSw); go_simp; (try (first | (with_reducible rfl) | assumption | rfl))) ?_
        simp only [Act.put, List.setIfInBounds_toArray, List.set_cons_zero, List.set_cons_succ]
        refine Lex.step_take (.bool false) sm7 rfl (Lex.want_none rfl) (by intro Wx hSw; (try dsimp only at hSw); go_simp; (try (first | (with_reducible rfl) | assumption | rfl))) ?_
        simp only [Act.put, List.setIfInBounds_toArray, List.set_cons_zero, List.set_cons_succ]
        refine Lex.step_take (.slice (some ⟨b, o, none⟩) n cp) sm8 rfl (Lex.want_some rfl sm7 rfl (b' := false) rfl rfl) (by intro Wx hSw; (try dsimp only at hSw); go_simp; (try (first | (with_reducible rfl) | assumption | rfl))) ?_
        simp only [Act.put, List.setIfInBounds_toArray, List.set_cons_zero, List.set_cons_succ]
        refine Lex.step_take (.int .i64 q) sm9 rfl (Lex.want_some rfl sm7 rfl (b' := false) rfl rfl) (by intro Wx hSw; (try dsimp only at hSw); go_simp; (try (first | (with_reducible rfl) | assumption | rfl))) ?_
        simp only [Act.put, List.setIfInBounds_toArray, List.set_cons_zero, List.set_cons_succ]
        refine Lex.step_take (.pointer (some ⟨b, o + q * 4, none⟩)) sm10 rfl (Lex.want_some rfl sm7 rfl (b' := false) rfl rfl) (by intro Wx hSw; (try dsimp only at hSw); go_simp; (try (first | (with_reducible rfl) | assumption | rfl))) ?_
        simp only [Act.put, List.setIfInBounds_toArray, List.set_cons_zero, List.set_cons_succ]
        refine Lex.step_take (.pointer (some ⟨b, o + q * 4 + 1, none⟩)) sm11 rfl (Lex.want_some rfl sm7 rfl (b' := false) rfl rfl) (by intro Wx hSw; (try dsimp only at hSw); go_simp; (try (first | (with_reducible rfl) | assumption | rfl))) ?_
        simp only [Act.put, List.setIfInBounds_toArray, List.set_cons_zero, List.set_cons_succ]
        refine Lex.step_take (.string ek) sm12 rfl (Lex.want_some rfl sm7 rfl (b' := false) rfl rfl) (by intro Wx hSw; (try dsimp only at hSw); go_simp; (try (first | (with_reducible rfl) | assumption | rfl))) ?_
        simp only [Act.put, List.setIfInBounds_toArray, List.set_cons_zero, List.set_cons_succ]
        refine Lex.step_take (.slice (some ⟨b, o, none⟩) n cp) sm13 rfl (Lex.want_some rfl sm7 rfl (b' := false) rfl rfl) (by intro Wx hSw; (try dsimp only at hSw); go_simp; (try (first | (with_reducible rfl) | assumption | rfl))) ?_
        simp only [Act.put, List.setIfInBounds_toArray, List.set_cons_zero, List.set_cons_succ]
        refine Lex.step_take (.int .i64 q) sm14 rfl (Lex.want_some rfl sm7 rfl (b' := false) rfl rfl) (by intro Wx hSw; (try dsimp only at hSw); go_simp; (try (first | (with_reducible rfl) | assumption | rfl))) ?_
        simp only [Act.put, List.setIfInBounds_toArray, List.set_cons_zero, List.set_cons_succ]
        refine Lex.step_take (.pointer (some ⟨b, o + q * 4, none⟩)) sm15 rfl (Lex.want_some rfl sm7 rfl (b' := false) rfl rfl) (by intro Wx hSw; (try dsimp only at hSw); go_simp; (try (first | (with_reducible rfl) | assumption | rfl))) ?_
        simp only [Act.put, List.setIfInBounds_toArray, List.set_cons_zero, List.set_cons_succ]
        refine Lex.step_take (.pointer (some ⟨b, o + q * 4 + 2, none⟩)) sm16 rfl (Lex.want_some rfl sm7 rfl (b' := false) rfl rfl) (by intro Wx hSw; (try dsimp only at hSw); go_simp; (try (first | (with_reducible rfl) | assumption | rfl))) ?_
        simp only [Act.put, List.setIfInBounds_toArray, List.set_cons_zero, List.set_cons_succ]
        refine Lex.step_take (.agg #[.int .i64 et, .int .i64 es]) sm17 rfl (Lex.want_some rfl sm7 rfl (b' := false) rfl rfl) (by intro Wx hSw; (try dsimp only at hSw); go_simp; (try (first | (with_reducible rfl) | assumption | rfl))) ?_
        simp only [Act.put, List.setIfInBounds_toArray, List.set_cons_zero, List.set_cons_succ]
        refine Lex.step_take (.agg #[.string ek, .int .i64 et, .int .i64 es]) sm18 rfl (Lex.want_some rfl sm7 rfl (b' := false) rfl rfl) (by intro Wx hSw; (try dsimp only at hSw); go_simp; (try (first | (with_reducible rfl) | assumption | rfl))) ?_
        simp only [Act.put, List.setIfInBounds_toArray, List.set_cons_zero, List.set_cons_succ]
        refine Lex.step_call sm19 rfl (Lex.want_some rfl sm7 rfl (b' := false) rfl rfl) (fun K hK => ?_)
        go_simp
        have hnw := (Below.refl wq.heap.size wq).alloc (Nat.le_refl _) (.cells #[.string ek, .int .i64 et, .int .i64 es] 51)
        have d1 := cell_belowB hnw d1
        have d2 := cell_belowB hnw d2
        have d3 := cell_belowB hnw d3
        have hB := hB.trans (hnw.mono hB.size)
        have hone : HasE (wq.alloc (.cells #[.string ek, .int .i64 et, .int .i64 es] 51)) wq.heap.size (some ⟨wq.heap.size, 0, none⟩) [⟨ek, et, es⟩] := Li.list_of_block cellsE_len (heap_alloc_new wq _) rfl
        generalize wq.alloc (.cells #[.string ek, .int .i64 et, .int .i64 es] 51) = wn at hone hB d1 d2 d3 ⊢
        clear hnw
        refine hK.out _ _ _ (fun _ h => h) ⟨d1, d2, d3⟩ ?_
        clear hK K
        try simp only [Act.put, List.setIfInBounds_toArray, List.set_cons_zero, List.set_cons_succ]
        refine Lex.step_call sm20 rfl (Lex.want_some rfl sm7 rfl (b' := false) rfl rfl) (fun K hK => ?_)
        go_simp
        refine (refRight_any (n := 1) (cp := 1) _ hone rfl (by omega)).mono ?_
        rintro e y1 ⟨rr, rfl, hrr, hv⟩
        have d1 := cell_belowB hv d1
        have d2 := cell_belowB hv d2
        have d3 := cell_belowB hv d3
        have hB := hB.trans (hv.mono hB.size)
        clear hv hone
        refine hK.out _ _ _ (fun _ h => h) ⟨d1, d2, d3⟩ ?_
        clear hK K
        try simp only [Act.put, List.setIfInBounds_toArray, List.set_cons_zero, List.set_cons_succ]
        refine Lex.step_take (.bool !rr) sm21 rfl (Lex.want_some rfl sm7 rfl (b' := false) rfl rfl) (by intro Wx hSw; (try dsimp only at hSw); go_simp; (try (first | (with_reducible rfl) | assumption | rfl))) ?_
        simp only [Act.put, List.setIfInBounds_toArray, List.set_cons_zero, List.set_cons_succ]
        refine Lex.step_take (.bool !rr) sm22 rfl (Lex.want_none rfl) (by intro Wx hSw; (try dsimp only at hSw); go_simp; (try (first | (with_reducible rfl) | assumption | rfl))) ?_
        simp only [Act.put, List.setIfInBounds_toArray, List.set_cons_zero, List.set_cons_succ]
        refine NoPanic.normal ?_
        cases rr
        · have HQ : Hid (¬ SmallA l m) := Lib.hid (fun h => by
            have := hrr.2 ((isB_one _).2 (h.fine _ HM.out))
            cases this)
          clear d1 d2 d3 hrr
          go_wp2
          go_ret
          exact ⟨false, rfl, ⟨fun e => (by cases e), fun e => absurd e HQ.out⟩, hB⟩
        · have HI : Hid (∀ a ∈ l.take (q + 1), FineP a.e) := Lib.hid (fun a ha => by
            rw [HT.out] at ha
            rcases List.mem_append.1 ha with h | h
            · exact hI.out a h
            · obtain rfl : a = ⟨ak, ek, et, es⟩ := by simpa using h
              exact (isB_one _).1 (hrr.1 rfl))
          clear d1 d2 d3 hrr
          go_wp2
          go_roundw
          case rel => exact ⟨q + 1, by omega, by go_num, HI, hB⟩
          case measure => simp [intOf]; omega
    · obtain rfl : q = n := by omega
      have hfull : l.take q = l := List.take_of_length_le (by rw [HL.out.2]; exact Nat.le_refl _)
      by_cases h5 : q ≤ m
      · have HY : Hid (SmallA l m) := Lib.hid ⟨by rw [HL.out.2]; exact h5, by have h := hI.out; rw [hfull] at h; exact h⟩
        have i5 : (q : Int) ≤ (m : Int) := by omega
        clear hfull
        go_wp2
        go_ret
        exact ⟨true, rfl, ⟨fun _ => HY.out, fun _ => rfl⟩, hB⟩
      · have HQ : Hid (¬ SmallA l m) := Lib.hid (fun h => h5 (by rw [← HL.out.2]; exact h.len))
        have i5 : ¬ (q : Int) ≤ (m : Int) := by omega
        clear hfull
        go_wp2
        go_ret
        exact ⟨false, rfl, ⟨fun e => (by cases e), fun e => absurd e HQ.out⟩, hB⟩
end
end Go.Proofs.Ytocmkjccaajnnaa.Ha
