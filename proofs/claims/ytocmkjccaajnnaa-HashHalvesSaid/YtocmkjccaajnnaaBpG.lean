/- The program's within, rightEntry and Right. -/
import Derived.Test.YtocmkjccaajnnaaBpF
import Derived.Test.YtocmkjccaajnnaaXud
import Derived.Test.YtocmkjccaajnnaaMgE
namespace Go.Proofs.Ytocmkjccaajnnaa.Bu
open Go.RowKit Pac Ls Lex

def cellsB (b : Int × Int) : List Value := [.int .i64 b.1, .int .i64 b.2]
theorem cellsB_len (b : Int × Int) : (cellsB b).length = 2 := rfl
def okB (b : Int × Int) : Bool := decide (0 ≤ b.1) && decide (b.1 ≤ b.2)
def fineB (e : E) : Bool := [((e.key.size : Int), 61), (e.t, 63), (e.s, 7)].all okB
theorem fineB_iff (e : E) : fineB e = true ↔ FineE e := by
  unfold fineB okB FineE
  simp only [List.all_cons, List.all_nil, Bool.and_true, Bool.and_eq_true, decide_eq_true_eq]
  omega
section
variable {A : Option Addr} {n cp : Nat} {w : World}
set_option maxRecDepth 20000 in
set_option maxHeartbeats 1600000 in
theorem within_any (bs : List (Int × Int)) (lo : Nat) (hl : Li.HasL cellsB 2 w lo A bs) (hn : bs.length = n) (h9 : n ≤ 100000) :
    Calls Try.prog 52 #[.slice A n cp] w (fun e w' => e = .returned (.bool (bs.all okB)) ∧ Below w.heap.size w w') := by
  have HL := Lib.hid (And.intro hl hn)
  obtain ⟨r, hr⟩ : ∃ r, bs.all okB = r := ⟨_, rfl⟩
  have HR := Lib.hid hr
  rw [hr]
  clear hl hn hr
  go_enter Try.func52, Try.ntmps52
  go_wp2
  go_loopw [4, 7] (fun _ i wr => ∃ q : Nat, q ≤ n ∧ i = .int .i64 q ∧ Hid ((bs.take q).all okB = true) ∧ Below w.heap.size w wr) (fun _ i _ => n - (intOf i).toNat)
  case atStart => exact ⟨0, Nat.zero_le _, rfl, Lib.hid (by simp), Below.refl _ w⟩
  case round =>
    obtain ⟨q, hq, rfl, hI, hB⟩ := hrel
    by_cases hlt : q < n
    · have hgt := List.getElem?_eq_getElem (l := bs) (i := q) (by rw [HL.out.2]; exact hlt)
      generalize (bs[q]'(by rw [HL.out.2]; exact hlt)) = x at hgt
      obtain ⟨b, o, rfl, _, hlb, hc⟩ := (HL.out.1.below hB (Nat.le_refl _)) (fun e => by rw [e] at hgt; simp at hgt)
      have d0 := hc q x hgt 0 _ rfl
      have d1 := hc q x hgt 1 _ rfl
      rw [Nat.add_zero] at d0
      obtain ⟨xn, xh⟩ := x
      simp only at d0 d1
      have HT : Hid (bs.take (q + 1) = bs.take q ++ [(xn, xh)]) := Lib.hid (by rw [List.take_add_one, hgt]; rfl)
      have HM := Lib.hid (List.mem_of_getElem? hgt)
      have i1 : (q : Int) < (n : Int) := by omega
      have i0 : (0 : Int) ≤ (q : Int) := by omega
      have hb2 := hB.alloc hB.size (.cells #[.int .i64 xn, .int .i64 xh] 71)
      clear hgt hc
      by_cases k1 : xn < 0
      · have HF : Hid (false = r) := Lib.hid (by
          rw [← HR.out]
          symm
          rw [List.all_eq_false]
          exact ⟨_, HM.out, by unfold okB; simp only [Bool.and_eq_true, decide_eq_true_eq]; omega⟩)
        go_wp2
        go_ret
        exact ⟨by rw [← HF.out]; rfl, hb2⟩
      · by_cases k2 : xh < xn
        · have HF : Hid (false = r) := Lib.hid (by
            rw [← HR.out]
            symm
            rw [List.all_eq_false]
            exact ⟨_, HM.out, by unfold okB; simp only [Bool.and_eq_true, decide_eq_true_eq]; omega⟩)
          go_wp2
          go_ret
          exact ⟨by rw [← HF.out]; rfl, hb2⟩
        · have HN : Hid ((bs.take (q + 1)).all okB = true) := Lib.hid (by
            rw [HT.out, List.all_append, hI.out]
            show (okB (xn, xh) && true) = true
            unfold okB
            simp only [Bool.and_true, Bool.and_eq_true, decide_eq_true_eq]
            omega)
          go_wp2
          go_roundw
          case rel => exact ⟨q + 1, by omega, by go_num, HN, hb2⟩
          case measure => simp [intOf]; omega
    · obtain rfl : q = n := by omega
      have HF : Hid (true = r) := Lib.hid (by
        have h := hI.out
        rw [List.take_of_length_le (by rw [HL.out.2]; exact Nat.le_refl _)] at h
        rw [← HR.out, h])
      go_wp2
      go_ret
      exact ⟨by rw [← HF.out]; rfl, hB⟩
set_option maxRecDepth 20000 in
set_option maxHeartbeats 1600000 in
theorem rightEntry_any (e : E) (w : World) :
    Calls Try.prog 53 #[.agg #[.string e.key, .int .i64 e.t, .int .i64 e.s]] w (fun r w' => r = .returned (.bool (fineB e)) ∧ Below w.heap.size w w') := by
  have hb := (Below.refl w.heap.size w).alloc (Nat.le_refl _) (.cells #[.string e.key, .int .i64 e.t, .int .i64 e.s] 51)
  have hx := Box3.new w (.string e.key) (.int .i64 e.t) (.int .i64 e.s) 51
  obtain ⟨r, hr⟩ : ∃ r, fineB e = r := ⟨_, rfl⟩
  rw [hr]
  have HR := Lib.hid (show [((e.key.size : Int), 61), (e.t, 63), (e.s, 7)].all okB = r from hr)
  clear hr
  obtain ⟨ek, et, es⟩ := e
  simp only at hb hx HR ⊢
  have x0 := hx.c0
  have x1 := hx.c1
  have x2 := hx.c2
  clear hx
  go_enter Try.func53, Try.ntmps53
  go_wp2_with fail
  have hs1 : (w.alloc (.cells #[.string ek, .int .i64 et, .int .i64 es] 51)).heap.size = w.heap.size + 1 := by simp
  generalize w.alloc (.cells #[.string ek, .int .i64 et, .int .i64 es] 51) = w1 at hb x0 x1 x2 hs1 ⊢
  have hb2 := hb.alloc hb.size (.cells #[.int .i64 (ek.size : Int), .int .i64 61, .int .i64 et, .int .i64 63, .int .i64 es, .int .i64 7] 71)
  have hL := Li.list_of_block (R := cellsB) (l := [((ek.size : Int), 61), (et, 63), (es, 7)]) cellsB_len (heap_alloc_new w1 (.cells #[.int .i64 (ek.size : Int), .int .i64 61, .int .i64 et, .int .i64 63, .int .i64 es, .int .i64 7] 71)) rfl
  have hw := within_any (n := 3) (cp := 3) _ _ hL rfl (by omega)
  rw [hs1] at hw
  rw [HR.out] at hw
  refine hw.mono ?_
  rintro e w2 ⟨rfl, hy⟩
  have HB := Lib.hid (hb2.trans (hy.mono hb2.size))
  clear hb hb2 hy hL x0 x1 x2 hs1
  go_wp2
  go_ret
  exact ⟨rfl, HB.out⟩
end
theorem le_cases {a b : ByteArray} : Op.bytesLess a.data.toList b.data.toList = true ∨ (Op.bytesLess a.data.toList b.data.toList = false ∧ a.data.toList = b.data.toList) ∨ (Op.bytesLess a.data.toList b.data.toList = false ∧ a.data.toList ≠ b.data.toList ∧ lt b.data.toList a.data.toList) := by
  rcases lt_total a.data.toList b.data.toList with h | h | h
  · exact .inl h
  · exact .inr (.inl ⟨by rw [h, less_irrefl], h⟩)
  · refine .inr (.inr ⟨?_, fun e => lt_irrefl _ (by rw [e] at h; exact h), h⟩)
    have := lt_asymm h
    cases h2 : Op.bytesLess a.data.toList b.data.toList
    · rfl
    · exact absurd h2 this
section
variable {A : Option Addr} {n cp : Nat} {l : List E} {w : World}
set_option maxRecDepth 20000 in
set_option maxHeartbeats 6400000 in
theorem right_any (lo : Nat) (hl : HasE w lo A l) (hn : l.length = n) (hc : n ≤ cp) (h9 : n ≤ 100000) :
    Calls Try.prog 39 #[.slice A n cp] w (RightPost l w) := by
  have hb := (Below.refl w.heap.size w).alloc (Nat.le_refl _) (.cells #[.int .i64 (n : Int), .int .i64 512] 71)
  have hL := Li.list_of_block (R := cellsB) (l := [((n : Int), 512)]) cellsB_len (heap_alloc_new w (.cells #[.int .i64 (n : Int), .int .i64 512] 71)) rfl
  have hw := within_any (n := 1) (cp := 1) _ _ hL rfl (by omega)
  have HL := Lib.hid (And.intro (hl.below hb (Nat.le_refl _)) (And.intro hn hb))
  clear hl hn hL hb hc
  by_cases h5 : n ≤ 512
  · have h1 : [((n : Int), (512 : Int))].all okB = true := by
      unfold okB
      simp only [List.all_cons, List.all_nil, Bool.and_true, Bool.and_eq_true, decide_eq_true_eq]
      omega
    rw [h1] at hw
    clear h1
    go_enter Try.func39, Try.ntmps39
    go_wp2_with fail
    refine hw.mono ?_
    rintro e w1 ⟨rfl, hB1⟩
    have hB0 := HL.out.2.2.trans (hB1.mono HL.out.2.2.size)
    have HA := Lib.hid (And.intro (HL.out.1.below hB1 (Nat.le_refl _)) HL.out.2.1)
    clear hB1 hw HL
    go_wp2
    go_loopw [3, 4, 13] (fun _ _ i wr => ∃ q : Nat, q ≤ n ∧ i = .int .i64 q ∧ Hid (Rises (l.take q) ∧ ∀ x ∈ l.take q, FineE x) ∧ Below w.heap.size w wr ∧ Hid (Below w1.heap.size w1 wr)) (fun _ _ i _ => n - (intOf i).toNat)
    case atStart => exact ⟨0, Nat.zero_le _, rfl, Lib.hid ⟨List.Pairwise.nil, fun x hx => by simp at hx⟩, hB0, Lib.hid (Below.refl _ w1)⟩
    case round =>
      obtain ⟨q, hq, rfl, hI, hB, hB2⟩ := hrel
      clear hB0
      by_cases hlt : q < n
      · have hgt := List.getElem?_eq_getElem (l := l) (i := q) (by rw [HA.out.2]; exact hlt)
        generalize (l[q]'(by rw [HA.out.2]; exact hlt)) = x at hgt
        obtain ⟨b, o, rfl, _, hlb, d0, d1, d2⟩ := HasE.at (HA.out.1.below hB2.out (Nat.le_refl _)) hgt
        have hcf := rightEntry_any x
        have HF := Lib.hid (fineB_iff x)
        have HM := Lib.hid (List.mem_of_getElem? hgt)
        have HGT := Lib.hid hgt
        have HQ1 : Hid (fineB x = false → ¬ IsB l) := Lib.hid (fun h hb => by
          have hm := HM.out
          have : FineE x := ⟨hb.key x hm, hb.t0 x hm, hb.s0 x hm⟩
          rw [← HF.out, h] at this
          cases this)
        obtain ⟨ek, et, es⟩ := x
        simp only at d0 d1 d2 hcf
        have i1 : (q : Int) < (n : Int) := by omega
        have i0 : (0 : Int) ≤ (q : Int) := by omega
        have hx := Box3.new wr (.string ek) (.int .i64 et) (.int .i64 es) 51
        have hB3 := Lib.hid (hB2.out.trans (((Below.refl wr.heap.size wr).alloc (Nat.le_refl _) (.cells #[.string ek, .int .i64 et, .int .i64 es] 51)).mono hB2.out.size))
        have hBn := (Below.refl wr.heap.size wr).alloc (Nat.le_refl _) (.cells #[.string ek, .int .i64 et, .int .i64 es] 51)
        have hB := hB.alloc hB.size (.cells #[.string ek, .int .i64 et, .int .i64 es] 51)
        clear hgt
        cases hfe : fineB (⟨ek, et, es⟩ : E) with
        | false =>
          rw [hfe] at hcf
          have HQ := Lib.hid (HQ1.out hfe)
          clear hfe
          go_wp2_with fail
          generalize wr.alloc (.cells #[.string ek, .int .i64 et, .int .i64 es] 51) = w3 at hx hB hB3 hBn ⊢
          generalize wr.heap.size = g at hx ⊢
          clear d0 d1 d2
          refine Lex.region_lex (ops := brops) (calls := brcalls) brord (fun W => W.cell? ⟨g, 0, none⟩ = some (.string ek) ∧ W.cell? ⟨g, 1, none⟩ = some (.int .i64 et) ∧ W.cell? ⟨g, 2, none⟩ = some (.int .i64 es) ∧ (True)) (by kernel_rfl) (by kernel_rfl) brsel (by kernel_rfl) (by kernel_rfl) brlex (⟨hx.drew.c0, hx.drew.c1, hx.drew.c2, trivial⟩) ?_
          unfold brord
          have hx := hx.drew
          have hB := hB.drew
          refine Lex.step_take (.agg #[.string ek, .int .i64 et, .int .i64 es]) br0 rfl (Lex.want_none rfl) (by intro Wx hSw; (try dsimp only at hSw); go_simp; (try (first | (with_reducible rfl) | assumption | rfl))) ?_
          simp only [Act.put, List.setIfInBounds_toArray, List.set_cons_zero, List.set_cons_succ]
          refine Lex.step_call br1 rfl (Lex.want_none rfl) (fun K hK => ?_)
          go_simp
          refine (hcf _).mono ?_
          rintro e y1 ⟨rfl, hy1⟩
          have hx := hx.below hy1 hx.lt
          have hB := hB.trans (hy1.mono hB.size)
          clear hy1
          refine hK.out _ _ _ (fun _ h => h) ⟨hx.c0, hx.c1, hx.c2, trivial⟩ ?_
          clear hK K
          try simp only [Act.put, List.setIfInBounds_toArray, List.set_cons_zero, List.set_cons_succ]
          refine Lex.step_take (.bool true) br2 rfl (Lex.want_none rfl) (by intro Wx hSw; (try dsimp only at hSw); go_simp; (try (first | (with_reducible rfl) | assumption | rfl))) ?_
          simp only [Act.put, List.setIfInBounds_toArray, List.set_cons_zero, List.set_cons_succ]
          refine Lex.step_take (.bool true) br3 rfl (Lex.want_none rfl) (by intro Wx hSw; (try dsimp only at hSw); go_simp; (try (first | (with_reducible rfl) | assumption | rfl))) ?_
          simp only [Act.put, List.setIfInBounds_toArray, List.set_cons_zero, List.set_cons_succ]
          refine Lex.step_skip br4 (Lex.want_some rfl br3 rfl (b' := true) rfl rfl) ?_
          simp only [Act.put, List.setIfInBounds_toArray, List.set_cons_zero, List.set_cons_succ]
          refine Lex.step_skip br5 (Lex.want_some rfl br3 rfl (b' := true) rfl rfl) ?_
          simp only [Act.put, List.setIfInBounds_toArray, List.set_cons_zero, List.set_cons_succ]
          refine Lex.step_skip br6 (Lex.want_some rfl br3 rfl (b' := true) rfl rfl) ?_
          simp only [Act.put, List.setIfInBounds_toArray, List.set_cons_zero, List.set_cons_succ]
          refine Lex.step_skip br7 (Lex.want_undef rfl br6 rfl rfl) ?_
          simp only [Act.put, List.setIfInBounds_toArray, List.set_cons_zero, List.set_cons_succ]
          refine Lex.step_skip br8 (Lex.want_undef rfl br6 rfl rfl) ?_
          simp only [Act.put, List.setIfInBounds_toArray, List.set_cons_zero, List.set_cons_succ]
          refine Lex.step_skip br9 (Lex.want_undef rfl br6 rfl rfl) ?_
          simp only [Act.put, List.setIfInBounds_toArray, List.set_cons_zero, List.set_cons_succ]
          refine Lex.step_skip br10 (Lex.want_undef rfl br6 rfl rfl) ?_
          simp only [Act.put, List.setIfInBounds_toArray, List.set_cons_zero, List.set_cons_succ]
          refine Lex.step_skip br11 (Lex.want_undef rfl br6 rfl rfl) ?_
          simp only [Act.put, List.setIfInBounds_toArray, List.set_cons_zero, List.set_cons_succ]
          refine Lex.step_skip br12 (Lex.want_undef rfl br6 rfl rfl) ?_
          simp only [Act.put, List.setIfInBounds_toArray, List.set_cons_zero, List.set_cons_succ]
          refine Lex.step_skip br13 (Lex.want_undef rfl br6 rfl rfl) ?_
          simp only [Act.put, List.setIfInBounds_toArray, List.set_cons_zero, List.set_cons_succ]
          refine Lex.step_skip br14 (Lex.want_undef rfl br6 rfl rfl) ?_
          simp only [Act.put, List.setIfInBounds_toArray, List.set_cons_zero, List.set_cons_succ]
          refine Lex.step_skip br15 (Lex.want_undef rfl br6 rfl rfl) ?_
          simp only [Act.put, List.setIfInBounds_toArray, List.set_cons_zero, List.set_cons_succ]
          refine Lex.step_skip br16 (Lex.want_some rfl br3 rfl (b' := true) rfl rfl) ?_
          simp only [Act.put, List.setIfInBounds_toArray, List.set_cons_zero, List.set_cons_succ]
          refine Lex.step_take (.bool true) br17 rfl (Lex.want_none rfl) (by intro Wx hSw; (try dsimp only at hSw); go_simp; (try (first | (with_reducible rfl) | assumption | rfl))) ?_
          simp only [Act.put, List.setIfInBounds_toArray, List.set_cons_zero, List.set_cons_succ]
          refine NoPanic.normal ?_
          clear hx hcf
          go_wp2
          go_ret
          exact ⟨false, rfl, ⟨fun e => (by cases e), fun e => absurd e HQ.out⟩, hB⟩
        | true =>
          rw [hfe] at hcf
          have HFE := Lib.hid (HF.out.1 hfe)
          clear hfe
          rcases Nat.eq_zero_or_pos q with hq0 | hq0
          · have HLT : Hid (∀ j p, q = j + 1 → l[j]? = some p → lt p.k (⟨ek, et, es⟩ : E).k) := Lib.hid (fun j p h => by omega)
            have hq0' : decide (0 < q) = false := decide_eq_false (by omega)
            have hq0'' : decide ((0 : Int) < (q : Int)) = false := decide_eq_false (by omega)
            have HI : Hid (Rises (l.take (q + 1)) ∧ ∀ x ∈ l.take (q + 1), FineE x) := Lib.hid (inv_next HGT.out hI.out.1 HLT.out hI.out.2 HFE.out)
            clear hq0
            go_wp2_with fail
            generalize wr.alloc (.cells #[.string ek, .int .i64 et, .int .i64 es] 51) = w3 at hx hB hB3 hBn ⊢
            generalize wr.heap.size = g at hx ⊢
            clear d0 d1 d2
            have HC := hB3
            clear hB3
            refine Lex.region_lex (ops := brops) (calls := brcalls) brord (fun W => W.cell? ⟨g, 0, none⟩ = some (.string ek) ∧ W.cell? ⟨g, 1, none⟩ = some (.int .i64 et) ∧ W.cell? ⟨g, 2, none⟩ = some (.int .i64 es) ∧ (True)) (by kernel_rfl) (by kernel_rfl) brsel (by kernel_rfl) (by kernel_rfl) brlex (⟨hx.drew.c0, hx.drew.c1, hx.drew.c2, trivial⟩) ?_
            unfold brord
            have hx := hx.drew
            have hB := hB.drew
            refine Lex.step_take (.agg #[.string ek, .int .i64 et, .int .i64 es]) br0 rfl (Lex.want_none rfl) (by intro Wx hSw; (try dsimp only at hSw); go_simp; (try (first | (with_reducible rfl) | assumption | rfl))) ?_
            simp only [Act.put, List.setIfInBounds_toArray, List.set_cons_zero, List.set_cons_succ]
            refine Lex.step_call br1 rfl (Lex.want_none rfl) (fun K hK => ?_)
            go_simp
            refine (hcf _).mono ?_
            rintro e y1 ⟨rfl, hy1⟩
            have hx := hx.below hy1 hx.lt
            have hB := hB.trans (hy1.mono hB.size)
            have HC' := Lib.hid ((HC.out.drew).trans (hy1.mono (HC.out.drew).size))
            clear hy1
            refine hK.out _ _ _ (fun _ h => h) ⟨hx.c0, hx.c1, hx.c2, trivial⟩ ?_
            clear hK K
            try simp only [Act.put, List.setIfInBounds_toArray, List.set_cons_zero, List.set_cons_succ]
            refine Lex.step_take (.bool false) br2 rfl (Lex.want_none rfl) (by intro Wx hSw; (try dsimp only at hSw); go_simp; (try (first | (with_reducible rfl) | assumption | rfl))) ?_
            simp only [Act.put, List.setIfInBounds_toArray, List.set_cons_zero, List.set_cons_succ]
            refine Lex.step_take (.bool false) br3 rfl (Lex.want_none rfl) (by intro Wx hSw; (try dsimp only at hSw); go_simp; (try (first | (with_reducible rfl) | assumption | rfl))) ?_
            simp only [Act.put, List.setIfInBounds_toArray, List.set_cons_zero, List.set_cons_succ]
            refine Lex.step_take (.int .i64 q) br4 rfl (Lex.want_some rfl br3 rfl (b' := false) rfl rfl) (by intro Wx hSw; (try dsimp only at hSw); go_simp; (try (first | (with_reducible rfl) | assumption | rfl))) ?_
            simp only [Act.put, List.setIfInBounds_toArray, List.set_cons_zero, List.set_cons_succ]
            refine Lex.step_take (.bool false) br5 rfl (Lex.want_some rfl br3 rfl (b' := false) rfl rfl) (by intro Wx hSw; (try dsimp only at hSw); go_simp; (try (first | (with_reducible rfl) | assumption | rfl))) ?_
            simp only [Act.put, List.setIfInBounds_toArray, List.set_cons_zero, List.set_cons_succ]
            refine Lex.step_take (.bool false) br6 rfl (Lex.want_some rfl br3 rfl (b' := false) rfl rfl) (by intro Wx hSw; (try dsimp only at hSw); go_simp; (try (first | (with_reducible rfl) | assumption | rfl))) ?_
            simp only [Act.put, List.setIfInBounds_toArray, List.set_cons_zero, List.set_cons_succ]
            refine Lex.step_skip br7 (Lex.want_some rfl br6 rfl (b' := false) rfl rfl) ?_
            simp only [Act.put, List.setIfInBounds_toArray, List.set_cons_zero, List.set_cons_succ]
            refine Lex.step_skip br8 (Lex.want_some rfl br6 rfl (b' := false) rfl rfl) ?_
            simp only [Act.put, List.setIfInBounds_toArray, List.set_cons_zero, List.set_cons_succ]
            refine Lex.step_skip br9 (Lex.want_some rfl br6 rfl (b' := false) rfl rfl) ?_
            simp only [Act.put, List.setIfInBounds_toArray, List.set_cons_zero, List.set_cons_succ]
            refine Lex.step_skip br10 (Lex.want_some rfl br6 rfl (b' := false) rfl rfl) ?_
            simp only [Act.put, List.setIfInBounds_toArray, List.set_cons_zero, List.set_cons_succ]
            refine Lex.step_skip br11 (Lex.want_some rfl br6 rfl (b' := false) rfl rfl) ?_
            simp only [Act.put, List.setIfInBounds_toArray, List.set_cons_zero, List.set_cons_succ]
            refine Lex.step_skip br12 (Lex.want_some rfl br6 rfl (b' := false) rfl rfl) ?_
            simp only [Act.put, List.setIfInBounds_toArray, List.set_cons_zero, List.set_cons_succ]
            refine Lex.step_skip br13 (Lex.want_some rfl br6 rfl (b' := false) rfl rfl) ?_
            simp only [Act.put, List.setIfInBounds_toArray, List.set_cons_zero, List.set_cons_succ]
            refine Lex.step_skip br14 (Lex.want_some rfl br6 rfl (b' := false) rfl rfl) ?_
            simp only [Act.put, List.setIfInBounds_toArray, List.set_cons_zero, List.set_cons_succ]
            refine Lex.step_skip br15 (Lex.want_some rfl br6 rfl (b' := false) rfl rfl) ?_
            simp only [Act.put, List.setIfInBounds_toArray, List.set_cons_zero, List.set_cons_succ]
            refine Lex.step_take (.bool false) br16 rfl (Lex.want_some rfl br3 rfl (b' := false) rfl rfl) (by intro Wx hSw; (try dsimp only at hSw); go_simp; (try (first | (with_reducible rfl) | assumption | rfl))) ?_
            simp only [Act.put, List.setIfInBounds_toArray, List.set_cons_zero, List.set_cons_succ]
            refine Lex.step_take (.bool false) br17 rfl (Lex.want_none rfl) (by intro Wx hSw; (try dsimp only at hSw); go_simp; (try (first | (with_reducible rfl) | assumption | rfl))) ?_
            simp only [Act.put, List.setIfInBounds_toArray, List.set_cons_zero, List.set_cons_succ]
            refine NoPanic.normal ?_
            clear hx hcf
            go_wp2
            go_roundw
            case rel => exact ⟨q + 1, by omega, by go_num, HI, hB, HC'⟩
            case measure => simp [intOf]; omega
          · obtain ⟨j, m1, m3⟩ : ∃ j : Nat, (q : Int) - 1 = (j : Int) ∧ q = j + 1 := ⟨q - 1, by omega, by omega⟩
            have hgp := List.getElem?_eq_getElem (l := l) (i := j) (by rw [HA.out.2]; omega)
            generalize (l[j]'(by rw [HA.out.2]; omega)) = p at hgp
            obtain ⟨b', o', hA', _, hlb', e0, _, _⟩ := HasE.at (HA.out.1.below hB2.out (Nat.le_refl _)) hgp
            injection hA' with hA'
            injection hA' with a1 a2
            subst a1 a2
            obtain ⟨pk, pt, ps⟩ := p
            simp only at e0
            have HGP := Lib.hid hgp
            have M3 := Lib.hid m3
            have j0 : (0 : Int) < (q : Int) := by omega
            have j0' : decide (0 < q) = true := decide_eq_true (by omega)
            have j2 : (j : Int) < (n : Int) := by omega
            have j3 : (0 : Int) ≤ (j : Int) := by omega
            have m4 : IntKind.i64.wrap (j : Int) = (j : Int) := IntWalk.i64_in _ (by omega)
            have e0 := (hBn.cell (p := ⟨b, o + j * 3, none⟩) hlb).trans e0
            clear hgp m3 hq0
            rcases le_cases (a := ek) (b := pk) with hls | ⟨hls, heq⟩ | ⟨hls, hneq, hlt2⟩
            · have HQ : Hid (¬ IsB l) := Lib.hid (fun h => lt_asymm hls (rises_at h.ris (by have := M3.out; omega) HGP.out HGT.out))
              have hbl : Op.bytesLess ek.toList pk.toList = true := by rw [key_list, key_list]; exact hls
              clear hls
              go_wp2_with fail
              generalize wr.alloc (.cells #[.string ek, .int .i64 et, .int .i64 es] 51) = w3 at hx hB hB3 hBn e0 ⊢
              generalize wr.heap.size = g at hx ⊢
              clear d0 d1 d2 hBn hlb hlb'
              refine Lex.region_lex (ops := brops) (calls := brcalls) brord (fun W => W.cell? ⟨g, 0, none⟩ = some (.string ek) ∧ W.cell? ⟨g, 1, none⟩ = some (.int .i64 et) ∧ W.cell? ⟨g, 2, none⟩ = some (.int .i64 es) ∧ (W.cell? ⟨b, o + j * 3, none⟩ = some (.string pk))) (by kernel_rfl) (by kernel_rfl) brsel (by kernel_rfl) (by kernel_rfl) brlex (⟨hx.drew.c0, hx.drew.c1, hx.drew.c2, cell_below ((Below.refl w3.heap.size w3).drew) e0⟩) ?_
              unfold brord
              have hx := hx.drew
              have e0 := cell_below ((Below.refl w3.heap.size w3).drew) e0
              have hB := hB.drew
              refine Lex.step_take (.agg #[.string ek, .int .i64 et, .int .i64 es]) br0 rfl (Lex.want_none rfl) (by intro Wx hSw; (try dsimp only at hSw); go_simp; (try (first | (with_reducible rfl) | assumption | rfl))) ?_
              simp only [Act.put, List.setIfInBounds_toArray, List.set_cons_zero, List.set_cons_succ]
              refine Lex.step_call br1 rfl (Lex.want_none rfl) (fun K hK => ?_)
              go_simp
              refine (hcf _).mono ?_
              rintro e y1 ⟨rfl, hy1⟩
              have hx := hx.below hy1 hx.lt
              have e0 := cell_below hy1 e0
              have hB := hB.trans (hy1.mono hB.size)
              clear hy1
              refine hK.out _ _ _ (fun _ h => h) ⟨hx.c0, hx.c1, hx.c2, e0⟩ ?_
              clear hK K
              try simp only [Act.put, List.setIfInBounds_toArray, List.set_cons_zero, List.set_cons_succ]
              refine Lex.step_take (.bool false) br2 rfl (Lex.want_none rfl) (by intro Wx hSw; (try dsimp only at hSw); go_simp; (try (first | (with_reducible rfl) | assumption | rfl))) ?_
              simp only [Act.put, List.setIfInBounds_toArray, List.set_cons_zero, List.set_cons_succ]
              refine Lex.step_take (.bool false) br3 rfl (Lex.want_none rfl) (by intro Wx hSw; (try dsimp only at hSw); go_simp; (try (first | (with_reducible rfl) | assumption | rfl))) ?_
              simp only [Act.put, List.setIfInBounds_toArray, List.set_cons_zero, List.set_cons_succ]
              refine Lex.step_take (.int .i64 q) br4 rfl (Lex.want_some rfl br3 rfl (b' := false) rfl rfl) (by intro Wx hSw; (try dsimp only at hSw); go_simp; (try (first | (with_reducible rfl) | assumption | rfl))) ?_
              simp only [Act.put, List.setIfInBounds_toArray, List.set_cons_zero, List.set_cons_succ]
              refine Lex.step_take (.bool true) br5 rfl (Lex.want_some rfl br3 rfl (b' := false) rfl rfl) (by intro Wx hSw; (try dsimp only at hSw); go_simp; (try (first | (with_reducible rfl) | assumption | rfl))) ?_
              simp only [Act.put, List.setIfInBounds_toArray, List.set_cons_zero, List.set_cons_succ]
              refine Lex.step_take (.bool true) br6 rfl (Lex.want_some rfl br3 rfl (b' := false) rfl rfl) (by intro Wx hSw; (try dsimp only at hSw); go_simp; (try (first | (with_reducible rfl) | assumption | rfl))) ?_
              simp only [Act.put, List.setIfInBounds_toArray, List.set_cons_zero, List.set_cons_succ]
              refine Lex.step_take (.pointer (some ⟨g, 0, none⟩)) br7 rfl (Lex.want_some rfl br6 rfl (b' := true) rfl rfl) (by intro Wx hSw; (try dsimp only at hSw); go_simp; (try (first | (with_reducible rfl) | assumption | rfl))) ?_
              simp only [Act.put, List.setIfInBounds_toArray, List.set_cons_zero, List.set_cons_succ]
              refine Lex.step_take (.string ek) br8 rfl (Lex.want_some rfl br6 rfl (b' := true) rfl rfl) (by intro Wx hSw; (try dsimp only at hSw); go_simp; (try (first | (with_reducible rfl) | assumption | rfl))) ?_
              simp only [Act.put, List.setIfInBounds_toArray, List.set_cons_zero, List.set_cons_succ]
              refine Lex.step_take (.slice (some ⟨b, o, none⟩) n cp) br9 rfl (Lex.want_some rfl br6 rfl (b' := true) rfl rfl) (by intro Wx hSw; (try dsimp only at hSw); go_simp; (try (first | (with_reducible rfl) | assumption | rfl))) ?_
              simp only [Act.put, List.setIfInBounds_toArray, List.set_cons_zero, List.set_cons_succ]
              refine Lex.step_take (.int .i64 q) br10 rfl (Lex.want_some rfl br6 rfl (b' := true) rfl rfl) (by intro Wx hSw; (try dsimp only at hSw); go_simp; (try (first | (with_reducible rfl) | assumption | rfl))) ?_
              simp only [Act.put, List.setIfInBounds_toArray, List.set_cons_zero, List.set_cons_succ]
              refine Lex.step_take (.int .i64 j) br11 rfl (Lex.want_some rfl br6 rfl (b' := true) rfl rfl) (by intro Wx hSw; (try dsimp only at hSw); go_simp; (try (first | (with_reducible rfl) | assumption | rfl))) ?_
              simp only [Act.put, List.setIfInBounds_toArray, List.set_cons_zero, List.set_cons_succ]
              refine Lex.step_take (.pointer (some ⟨b, o + j * 3, none⟩)) br12 rfl (Lex.want_some rfl br6 rfl (b' := true) rfl rfl) (by intro Wx hSw; (try dsimp only at hSw); go_simp; (try (first | (with_reducible rfl) | assumption | rfl))) ?_
              simp only [Act.put, List.setIfInBounds_toArray, List.set_cons_zero, List.set_cons_succ]
              refine Lex.step_take (.pointer (some ⟨b, o + j * 3, none⟩)) br13 rfl (Lex.want_some rfl br6 rfl (b' := true) rfl rfl) (by intro Wx hSw; (try dsimp only at hSw); go_simp; (try (first | (with_reducible rfl) | assumption | rfl))) ?_
              simp only [Act.put, List.setIfInBounds_toArray, List.set_cons_zero, List.set_cons_succ]
              refine Lex.step_take (.string pk) br14 rfl (Lex.want_some rfl br6 rfl (b' := true) rfl rfl) (by intro Wx hSw; (try dsimp only at hSw); go_simp; (try (first | (with_reducible rfl) | assumption | rfl))) ?_
              simp only [Act.put, List.setIfInBounds_toArray, List.set_cons_zero, List.set_cons_succ]
              refine Lex.step_take (.bool true) br15 rfl (Lex.want_some rfl br6 rfl (b' := true) rfl rfl) (by intro Wx hSw; (try dsimp only at hSw); go_simp; (try (first | (with_reducible rfl) | assumption | rfl))) ?_
              simp only [Act.put, List.setIfInBounds_toArray, List.set_cons_zero, List.set_cons_succ]
              refine Lex.step_take (.bool true) br16 rfl (Lex.want_some rfl br3 rfl (b' := false) rfl rfl) (by intro Wx hSw; (try dsimp only at hSw); go_simp; (try (first | (with_reducible rfl) | assumption | rfl))) ?_
              simp only [Act.put, List.setIfInBounds_toArray, List.set_cons_zero, List.set_cons_succ]
              refine Lex.step_take (.bool true) br17 rfl (Lex.want_none rfl) (by intro Wx hSw; (try dsimp only at hSw); go_simp; (try (first | (with_reducible rfl) | assumption | rfl))) ?_
              simp only [Act.put, List.setIfInBounds_toArray, List.set_cons_zero, List.set_cons_succ]
              refine NoPanic.normal ?_
              clear hx hcf e0
              go_wp2
              go_ret
              exact ⟨false, rfl, ⟨fun e => (by cases e), fun e => absurd e HQ.out⟩, hB⟩
            · have HQ : Hid (¬ IsB l) := Lib.hid (fun h => lt_irrefl _ (by
                have h2 := rises_at h.ris (by have := M3.out; omega) HGP.out HGT.out
                have h3 : (⟨ek, et, es⟩ : E).k = (⟨pk, pt, ps⟩ : E).k := heq
                rw [h3] at h2
                exact h2))
              have hbl : Op.bytesLess ek.toList pk.toList = false := by rw [key_list, key_list]; exact hls
              have hbe : (ek.toList == pk.toList) = true := by rw [key_beq]; exact decide_eq_true heq
              clear hls heq
              go_wp2_with fail
              generalize wr.alloc (.cells #[.string ek, .int .i64 et, .int .i64 es] 51) = w3 at hx hB hB3 hBn e0 ⊢
              generalize wr.heap.size = g at hx ⊢
              clear d0 d1 d2 hBn hlb hlb'
              refine Lex.region_lex (ops := brops) (calls := brcalls) brord (fun W => W.cell? ⟨g, 0, none⟩ = some (.string ek) ∧ W.cell? ⟨g, 1, none⟩ = some (.int .i64 et) ∧ W.cell? ⟨g, 2, none⟩ = some (.int .i64 es) ∧ (W.cell? ⟨b, o + j * 3, none⟩ = some (.string pk))) (by kernel_rfl) (by kernel_rfl) brsel (by kernel_rfl) (by kernel_rfl) brlex (⟨hx.drew.c0, hx.drew.c1, hx.drew.c2, cell_below ((Below.refl w3.heap.size w3).drew) e0⟩) ?_
              unfold brord
              have hx := hx.drew
              have e0 := cell_below ((Below.refl w3.heap.size w3).drew) e0
              have hB := hB.drew
              refine Lex.step_take (.agg #[.string ek, .int .i64 et, .int .i64 es]) br0 rfl (Lex.want_none rfl) (by intro Wx hSw; (try dsimp only at hSw); go_simp; (try (first | (with_reducible rfl) | assumption | rfl))) ?_
              simp only [Act.put, List.setIfInBounds_toArray, List.set_cons_zero, List.set_cons_succ]
              refine Lex.step_call br1 rfl (Lex.want_none rfl) (fun K hK => ?_)
              go_simp
              refine (hcf _).mono ?_
              rintro e y1 ⟨rfl, hy1⟩
              have hx := hx.below hy1 hx.lt
              have e0 := cell_below hy1 e0
              have hB := hB.trans (hy1.mono hB.size)
              clear hy1
              refine hK.out _ _ _ (fun _ h => h) ⟨hx.c0, hx.c1, hx.c2, e0⟩ ?_
              clear hK K
              try simp only [Act.put, List.setIfInBounds_toArray, List.set_cons_zero, List.set_cons_succ]
              refine Lex.step_take (.bool false) br2 rfl (Lex.want_none rfl) (by intro Wx hSw; (try dsimp only at hSw); go_simp; (try (first | (with_reducible rfl) | assumption | rfl))) ?_
              simp only [Act.put, List.setIfInBounds_toArray, List.set_cons_zero, List.set_cons_succ]
              refine Lex.step_take (.bool false) br3 rfl (Lex.want_none rfl) (by intro Wx hSw; (try dsimp only at hSw); go_simp; (try (first | (with_reducible rfl) | assumption | rfl))) ?_
              simp only [Act.put, List.setIfInBounds_toArray, List.set_cons_zero, List.set_cons_succ]
              refine Lex.step_take (.int .i64 q) br4 rfl (Lex.want_some rfl br3 rfl (b' := false) rfl rfl) (by intro Wx hSw; (try dsimp only at hSw); go_simp; (try (first | (with_reducible rfl) | assumption | rfl))) ?_
              simp only [Act.put, List.setIfInBounds_toArray, List.set_cons_zero, List.set_cons_succ]
              refine Lex.step_take (.bool true) br5 rfl (Lex.want_some rfl br3 rfl (b' := false) rfl rfl) (by intro Wx hSw; (try dsimp only at hSw); go_simp; (try (first | (with_reducible rfl) | assumption | rfl))) ?_
              simp only [Act.put, List.setIfInBounds_toArray, List.set_cons_zero, List.set_cons_succ]
              refine Lex.step_take (.bool true) br6 rfl (Lex.want_some rfl br3 rfl (b' := false) rfl rfl) (by intro Wx hSw; (try dsimp only at hSw); go_simp; (try (first | (with_reducible rfl) | assumption | rfl))) ?_
              simp only [Act.put, List.setIfInBounds_toArray, List.set_cons_zero, List.set_cons_succ]
              refine Lex.step_take (.pointer (some ⟨g, 0, none⟩)) br7 rfl (Lex.want_some rfl br6 rfl (b' := true) rfl rfl) (by intro Wx hSw; (try dsimp only at hSw); go_simp; (try (first | (with_reducible rfl) | assumption | rfl))) ?_
              simp only [Act.put, List.setIfInBounds_toArray, List.set_cons_zero, List.set_cons_succ]
              refine Lex.step_take (.string ek) br8 rfl (Lex.want_some rfl br6 rfl (b' := true) rfl rfl) (by intro Wx hSw; (try dsimp only at hSw); go_simp; (try (first | (with_reducible rfl) | assumption | rfl))) ?_
              simp only [Act.put, List.setIfInBounds_toArray, List.set_cons_zero, List.set_cons_succ]
              refine Lex.step_take (.slice (some ⟨b, o, none⟩) n cp) br9 rfl (Lex.want_some rfl br6 rfl (b' := true) rfl rfl) (by intro Wx hSw; (try dsimp only at hSw); go_simp; (try (first | (with_reducible rfl) | assumption | rfl))) ?_
              simp only [Act.put, List.setIfInBounds_toArray, List.set_cons_zero, List.set_cons_succ]
              refine Lex.step_take (.int .i64 q) br10 rfl (Lex.want_some rfl br6 rfl (b' := true) rfl rfl) (by intro Wx hSw; (try dsimp only at hSw); go_simp; (try (first | (with_reducible rfl) | assumption | rfl))) ?_
              simp only [Act.put, List.setIfInBounds_toArray, List.set_cons_zero, List.set_cons_succ]
              refine Lex.step_take (.int .i64 j) br11 rfl (Lex.want_some rfl br6 rfl (b' := true) rfl rfl) (by intro Wx hSw; (try dsimp only at hSw); go_simp; (try (first | (with_reducible rfl) | assumption | rfl))) ?_
              simp only [Act.put, List.setIfInBounds_toArray, List.set_cons_zero, List.set_cons_succ]
              refine Lex.step_take (.pointer (some ⟨b, o + j * 3, none⟩)) br12 rfl (Lex.want_some rfl br6 rfl (b' := true) rfl rfl) (by intro Wx hSw; (try dsimp only at hSw); go_simp; (try (first | (with_reducible rfl) | assumption | rfl))) ?_
              simp only [Act.put, List.setIfInBounds_toArray, List.set_cons_zero, List.set_cons_succ]
              refine Lex.step_take (.pointer (some ⟨b, o + j * 3, none⟩)) br13 rfl (Lex.want_some rfl br6 rfl (b' := true) rfl rfl) (by intro Wx hSw; (try dsimp only at hSw); go_simp; (try (first | (with_reducible rfl) | assumption | rfl))) ?_
              simp only [Act.put, List.setIfInBounds_toArray, List.set_cons_zero, List.set_cons_succ]
              refine Lex.step_take (.string pk) br14 rfl (Lex.want_some rfl br6 rfl (b' := true) rfl rfl) (by intro Wx hSw; (try dsimp only at hSw); go_simp; (try (first | (with_reducible rfl) | assumption | rfl))) ?_
              simp only [Act.put, List.setIfInBounds_toArray, List.set_cons_zero, List.set_cons_succ]
              refine Lex.step_take (.bool true) br15 rfl (Lex.want_some rfl br6 rfl (b' := true) rfl rfl) (by intro Wx hSw; (try dsimp only at hSw); go_simp; (try (first | (with_reducible rfl) | assumption | rfl))) ?_
              simp only [Act.put, List.setIfInBounds_toArray, List.set_cons_zero, List.set_cons_succ]
              refine Lex.step_take (.bool true) br16 rfl (Lex.want_some rfl br3 rfl (b' := false) rfl rfl) (by intro Wx hSw; (try dsimp only at hSw); go_simp; (try (first | (with_reducible rfl) | assumption | rfl))) ?_
              simp only [Act.put, List.setIfInBounds_toArray, List.set_cons_zero, List.set_cons_succ]
              refine Lex.step_take (.bool true) br17 rfl (Lex.want_none rfl) (by intro Wx hSw; (try dsimp only at hSw); go_simp; (try (first | (with_reducible rfl) | assumption | rfl))) ?_
              simp only [Act.put, List.setIfInBounds_toArray, List.set_cons_zero, List.set_cons_succ]
              refine NoPanic.normal ?_
              clear hx hcf e0
              go_wp2
              go_ret
              exact ⟨false, rfl, ⟨fun e => (by cases e), fun e => absurd e HQ.out⟩, hB⟩
            · have HLT : Hid (∀ j' p, q = j' + 1 → l[j']? = some p → lt p.k (⟨ek, et, es⟩ : E).k) := Lib.hid (fun j' p h h2 => by
                have h3 := M3.out
                obtain rfl : j = j' := by omega
                rw [HGP.out] at h2
                injection h2 with h2
                rw [← h2]
                exact hlt2)
              have hbl : Op.bytesLess ek.toList pk.toList = false := by rw [key_list, key_list]; exact hls
              have hbe : (ek.toList == pk.toList) = false := by rw [key_beq]; exact decide_eq_false hneq
              have HI : Hid (Rises (l.take (q + 1)) ∧ ∀ x ∈ l.take (q + 1), FineE x) := Lib.hid (inv_next HGT.out hI.out.1 HLT.out hI.out.2 HFE.out)
              clear hls hneq hlt2
              go_wp2_with fail
              generalize wr.alloc (.cells #[.string ek, .int .i64 et, .int .i64 es] 51) = w3 at hx hB hB3 hBn e0 ⊢
              generalize wr.heap.size = g at hx ⊢
              clear d0 d1 d2 hBn hlb hlb'
              have HC := hB3
              clear hB3
              refine Lex.region_lex (ops := brops) (calls := brcalls) brord (fun W => W.cell? ⟨g, 0, none⟩ = some (.string ek) ∧ W.cell? ⟨g, 1, none⟩ = some (.int .i64 et) ∧ W.cell? ⟨g, 2, none⟩ = some (.int .i64 es) ∧ (W.cell? ⟨b, o + j * 3, none⟩ = some (.string pk))) (by kernel_rfl) (by kernel_rfl) brsel (by kernel_rfl) (by kernel_rfl) brlex (⟨hx.drew.c0, hx.drew.c1, hx.drew.c2, cell_below ((Below.refl w3.heap.size w3).drew) e0⟩) ?_
              unfold brord
              have hx := hx.drew
              have e0 := cell_below ((Below.refl w3.heap.size w3).drew) e0
              have hB := hB.drew
              refine Lex.step_take (.agg #[.string ek, .int .i64 et, .int .i64 es]) br0 rfl (Lex.want_none rfl) (by intro Wx hSw; (try dsimp only at hSw); go_simp; (try (first | (with_reducible rfl) | assumption | rfl))) ?_
              simp only [Act.put, List.setIfInBounds_toArray, List.set_cons_zero, List.set_cons_succ]
              refine Lex.step_call br1 rfl (Lex.want_none rfl) (fun K hK => ?_)
              go_simp
              refine (hcf _).mono ?_
              rintro e y1 ⟨rfl, hy1⟩
              have hx := hx.below hy1 hx.lt
              have e0 := cell_below hy1 e0
              have hB := hB.trans (hy1.mono hB.size)
              have HC' := Lib.hid ((HC.out.drew).trans (hy1.mono (HC.out.drew).size))
              clear hy1
              refine hK.out _ _ _ (fun _ h => h) ⟨hx.c0, hx.c1, hx.c2, e0⟩ ?_
              clear hK K
              try simp only [Act.put, List.setIfInBounds_toArray, List.set_cons_zero, List.set_cons_succ]
              refine Lex.step_take (.bool false) br2 rfl (Lex.want_none rfl) (by intro Wx hSw; (try dsimp only at hSw); go_simp; (try (first | (with_reducible rfl) | assumption | rfl))) ?_
              simp only [Act.put, List.setIfInBounds_toArray, List.set_cons_zero, List.set_cons_succ]
              refine Lex.step_take (.bool false) br3 rfl (Lex.want_none rfl) (by intro Wx hSw; (try dsimp only at hSw); go_simp; (try (first | (with_reducible rfl) | assumption | rfl))) ?_
              simp only [Act.put, List.setIfInBounds_toArray, List.set_cons_zero, List.set_cons_succ]
              refine Lex.step_take (.int .i64 q) br4 rfl (Lex.want_some rfl br3 rfl (b' := false) rfl rfl) (by intro Wx hSw; (try dsimp only at hSw); go_simp; (try (first | (with_reducible rfl) | assumption | rfl))) ?_
              simp only [Act.put, List.setIfInBounds_toArray, List.set_cons_zero, List.set_cons_succ]
              refine Lex.step_take (.bool true) br5 rfl (Lex.want_some rfl br3 rfl (b' := false) rfl rfl) (by intro Wx hSw; (try dsimp only at hSw); go_simp; (try (first | (with_reducible rfl) | assumption | rfl))) ?_
              simp only [Act.put, List.setIfInBounds_toArray, List.set_cons_zero, List.set_cons_succ]
              refine Lex.step_take (.bool true) br6 rfl (Lex.want_some rfl br3 rfl (b' := false) rfl rfl) (by intro Wx hSw; (try dsimp only at hSw); go_simp; (try (first | (with_reducible rfl) | assumption | rfl))) ?_
              simp only [Act.put, List.setIfInBounds_toArray, List.set_cons_zero, List.set_cons_succ]
              refine Lex.step_take (.pointer (some ⟨g, 0, none⟩)) br7 rfl (Lex.want_some rfl br6 rfl (b' := true) rfl rfl) (by intro Wx hSw; (try dsimp only at hSw); go_simp; (try (first | (with_reducible rfl) | assumption | rfl))) ?_
              simp only [Act.put, List.setIfInBounds_toArray, List.set_cons_zero, List.set_cons_succ]
              refine Lex.step_take (.string ek) br8 rfl (Lex.want_some rfl br6 rfl (b' := true) rfl rfl) (by intro Wx hSw; (try dsimp only at hSw); go_simp; (try (first | (with_reducible rfl) | assumption | rfl))) ?_
              simp only [Act.put, List.setIfInBounds_toArray, List.set_cons_zero, List.set_cons_succ]
              refine Lex.step_take (.slice (some ⟨b, o, none⟩) n cp) br9 rfl (Lex.want_some rfl br6 rfl (b' := true) rfl rfl) (by intro Wx hSw; (try dsimp only at hSw); go_simp; (try (first | (with_reducible rfl) | assumption | rfl))) ?_
              simp only [Act.put, List.setIfInBounds_toArray, List.set_cons_zero, List.set_cons_succ]
              refine Lex.step_take (.int .i64 q) br10 rfl (Lex.want_some rfl br6 rfl (b' := true) rfl rfl) (by intro Wx hSw; (try dsimp only at hSw); go_simp; (try (first | (with_reducible rfl) | assumption | rfl))) ?_
              simp only [Act.put, List.setIfInBounds_toArray, List.set_cons_zero, List.set_cons_succ]
              refine Lex.step_take (.int .i64 j) br11 rfl (Lex.want_some rfl br6 rfl (b' := true) rfl rfl) (by intro Wx hSw; (try dsimp only at hSw); go_simp; (try (first | (with_reducible rfl) | assumption | rfl))) ?_
              simp only [Act.put, List.setIfInBounds_toArray, List.set_cons_zero, List.set_cons_succ]
              refine Lex.step_take (.pointer (some ⟨b, o + j * 3, none⟩)) br12 rfl (Lex.want_some rfl br6 rfl (b' := true) rfl rfl) (by intro Wx hSw; (try dsimp only at hSw); go_simp; (try (first | (with_reducible rfl) | assumption | rfl))) ?_
              simp only [Act.put, List.setIfInBounds_toArray, List.set_cons_zero, List.set_cons_succ]
              refine Lex.step_take (.pointer (some ⟨b, o + j * 3, none⟩)) br13 rfl (Lex.want_some rfl br6 rfl (b' := true) rfl rfl) (by intro Wx hSw; (try dsimp only at hSw); go_simp; (try (first | (with_reducible rfl) | assumption | rfl))) ?_
              simp only [Act.put, List.setIfInBounds_toArray, List.set_cons_zero, List.set_cons_succ]
              refine Lex.step_take (.string pk) br14 rfl (Lex.want_some rfl br6 rfl (b' := true) rfl rfl) (by intro Wx hSw; (try dsimp only at hSw); go_simp; (try (first | (with_reducible rfl) | assumption | rfl))) ?_
              simp only [Act.put, List.setIfInBounds_toArray, List.set_cons_zero, List.set_cons_succ]
              refine Lex.step_take (.bool false) br15 rfl (Lex.want_some rfl br6 rfl (b' := true) rfl rfl) (by intro Wx hSw; (try dsimp only at hSw); go_simp; (try (first | (with_reducible rfl) | assumption | rfl))) ?_
              simp only [Act.put, List.setIfInBounds_toArray, List.set_cons_zero, List.set_cons_succ]
              refine Lex.step_take (.bool false) br16 rfl (Lex.want_some rfl br3 rfl (b' := false) rfl rfl) (by intro Wx hSw; (try dsimp only at hSw); go_simp; (try (first | (with_reducible rfl) | assumption | rfl))) ?_
              simp only [Act.put, List.setIfInBounds_toArray, List.set_cons_zero, List.set_cons_succ]
              refine Lex.step_take (.bool false) br17 rfl (Lex.want_none rfl) (by intro Wx hSw; (try dsimp only at hSw); go_simp; (try (first | (with_reducible rfl) | assumption | rfl))) ?_
              simp only [Act.put, List.setIfInBounds_toArray, List.set_cons_zero, List.set_cons_succ]
              refine NoPanic.normal ?_
              clear hx hcf e0
              go_wp2
              go_roundw
              case rel => exact ⟨q + 1, by omega, by go_num, HI, hB, HC'⟩
              case measure => simp [intOf]; omega
      · obtain rfl : q = n := by omega
        have hfull : l.take q = l := List.take_of_length_le (by rw [HA.out.2]; exact Nat.le_refl _)
        have HY : Hid (IsB l) := Lib.hid (by
          have h := hI.out
          rw [hfull] at h
          exact ⟨h.1, by rw [HA.out.2]; exact h5, fun e he => (h.2 e he).1, fun e he => (h.2 e he).2.1, fun e he => (h.2 e he).2.2⟩)
        clear hfull
        go_wp2
        go_ret
        exact ⟨true, rfl, ⟨fun _ => HY.out, fun _ => rfl⟩, hB⟩
  · have h1 : [((n : Int), (512 : Int))].all okB = false := by
      rw [List.all_eq_false]
      exact ⟨_, List.mem_singleton_self _, by unfold okB; simp only [Bool.and_eq_true, decide_eq_true_eq]; omega⟩
    rw [h1] at hw
    have HQ : Hid (¬ IsB l) := Lib.hid (fun h => h5 (by rw [← HL.out.2.1]; exact h.len))
    clear h1
    go_enter Try.func39, Try.ntmps39
    go_wp2_with fail
    refine hw.mono ?_
    rintro e w1 ⟨rfl, hB1⟩
    have hB0 := Lib.hid (HL.out.2.2.trans (hB1.mono HL.out.2.2.size))
    clear hB1 hw HL
    go_wp2
    go_ret
    exact ⟨false, rfl, ⟨fun e => (by cases e), fun e => absurd e HQ.out⟩, hB0.out⟩
end
end Go.Proofs.Ytocmkjccaajnnaa.Bu
