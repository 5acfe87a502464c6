/- SplitBack: whatever groups, and what stands behind, walked. -/
import Derived.Test.YtifcepjflkgbmaaSpN
namespace Go.Proofs.Ytifcepjflkgbmaa.Sp
open Go.RowKit Pac Lex

theorem atG_get {c : Int} : ∀ {l : List (List Int)} {i k : Nat}, atG c l = some (i, k) → ∃ g, l[i]? = some g ∧ g[k]? = some c
  | [], i, k, h => by simp [atG] at h
  | g :: l, i, k, h => by
    unfold atG at h
    cases h1 : at1 c g with
    | some t =>
      rw [h1] at h
      injection h with h
      injection h with e1 e2
      subst e1 e2
      exact ⟨g, rfl, at1_get h1⟩
    | none =>
      rw [h1] at h
      obtain ⟨p, hp, e⟩ := Option.map_eq_some_iff.1 h
      injection e with e1 e2
      subst e1 e2
      obtain ⟨g', h2, h3⟩ := atG_get (i := p.1) (k := p.2) hp
      exact ⟨g', h2, h3⟩
theorem IsSplit.found {l : List (List Int)} {n : Nat} (h : IsSplit l n) {c : Int} (h0 : 0 ≤ c) (h1 : c < n) : ∃ i k g, atG c l = some (i, k) ∧ l[i]? = some g ∧ g[k]? = some c := by
  cases e : atG c l with
  | none =>
    obtain ⟨g, hg, hcg⟩ := List.mem_flatten.1 (h.all h0 h1)
    exact absurd hcg (atG_none.1 e g hg)
  | some p =>
    obtain ⟨i, k⟩ := p
    obtain ⟨g, h2, h3⟩ := atG_get e
    exact ⟨i, k, g, rfl, h2, h3⟩
theorem print_size {l : List (List Int)} {n : Nat} (h : IsSplit l n) : (printSp l).size ≤ 200 := by
  have := pre1_size h l.length
  unfold pre1 at this
  rw [List.take_length] at this
  exact this

set_option maxRecDepth 20000 in
set_option maxHeartbeats 6400000 in
theorem back_any (A1 : Option Addr) (cp1 : Nat) (l1 : List (List Int)) (cols : Int) (more : ByteArray) (lo1 : Nat) (w : World) (h1 : HasLL w lo1 A1 l1) (hl1 : l1.length ≤ 9223372036854775807) (hg1 : ∀ g ∈ l1, g.length ≤ 9223372036854775807) (hc0 : -9223372036854775808 ≤ cols) (hc1 : cols ≤ 9223372036854775807) (hsm : more.size ≤ 9223372036854775807) :
    Calls Try.prog 6 #[.slice A1 l1.length cp1, .int .i64 cols, .string more] w fun e w' => e = .returned (.bool true) ∧ Below w.heap.size w w' := by
  have hcs := small_any A1 cp1 l1 lo1 w h1 hl1 hg1
  obtain ⟨m, hm⟩ : ∃ m, l1.length = m := ⟨_, rfl⟩
  have HM := Lib.hid hm
  have hL := h1
  rw [hm] at hcs hl1 ⊢
  clear h1 hm hg1
  obtain ⟨f, hf⟩ : ∃ f, fewB l1 = f := ⟨_, rfl⟩
  rw [hf] at hcs
  have HF := Lib.hid hf
  clear hf
  go_enter Try.func6, Try.ntmps6
  go_wp2_with fail
  refine hcs.mono ?_
  rintro e w1 ⟨rfl, hB⟩
  have hL := hL.below hB (Nat.le_refl _)
  clear hcs
  cases f
  · clear hL
    go_wp2_with fail
    refine (awake_any _).mono ?_
    rintro e y9 ⟨rfl, hy⟩
    have hB := hB.trans (hy.mono hB.size)
    clear hy
    go_wp2
    go_ret
    exact ⟨rfl, hB⟩
  by_cases hq50 : 50 < more.size
  · clear hL
    go_wp2_with fail
    refine (awake_any _).mono ?_
    rintro e y9 ⟨rfl, hy⟩
    have hB := hB.trans (hy.mono hB.size)
    clear hy
    go_wp2
    go_ret
    exact ⟨rfl, hB⟩
  · have hfew := few_out HF.out
    have hcr := right_any A1 cp1 l1 cols lo1 w1 hL (by omega) (fun g hg => by have := hfew.2 g hg; omega) hc0 hc1
    obtain ⟨r, hr⟩ : ∃ r, rightSp l1 cols = r := ⟨_, rfl⟩
    rw [hr, HM.out] at hcr
    have HR := Lib.hid hr
    clear hr hfew
    go_wp2_with fail
    refine hcr.mono ?_
    rintro e w2 ⟨rfl, hy⟩
    have hL := hL.below hy (Nat.le_refl _)
    have hB := hB.trans (hy.mono hB.size)
    clear hy hcr
    cases r
    · clear hL
      go_wp2_with fail
      refine (awake_any _).mono ?_
      rintro e y9 ⟨rfl, hy⟩
      have hB := hB.trans (hy.mono hB.size)
      clear hy
      go_wp2
      go_ret
      exact ⟨rfl, hB⟩
    · obtain ⟨n, rfl, hs⟩ := right_out HR.out
      have HS := Lib.hid hs
      have hn8 := hs.n8
      have hn1 := hs.n1
      have hcp := print_any A1 cp1 l1 n lo1 w2 hL hs
      rw [HM.out] at hcp
      have hps := print_size hs
      have HRD := split_back hs more
      generalize printSp l1 = p at hcp hps HRD
      clear hs
      go_wp2_with fail
      refine hcp.mono ?_
      rintro e w3 ⟨rfl, hy⟩
      have hL := hL.below hy (Nat.le_refl _)
      have hB := hB.trans (hy.mono hB.size)
      clear hy hcp
      have hb := Box2.new w3 (.string (p ++ more)) (.bool false) 36
      have hrd := read_any w3.heap.size (p ++ more) false (n : Int) _ hb (by rw [ByteArray.size_append]; omega) (by omega) (by omega)
      rw [HRD] at hrd
      clear HRD
      go_wp2_with fail
      refine hrd.mono ?_
      rintro e w4 ⟨AX, cx, S1, rfl, hcx, hx, hb, hS, hbar⟩
      have hy := ((Below.refl w3.heap.size w3).alloc (Nat.le_refl _) (.cells #[.string (p ++ more), .bool false] 36)).trans (hbar.below (B := w3.heap.size) (Nat.le_refl _) (by simp))
      have hL := hL.below hy (Nat.le_refl _)
      have hB := hB.trans (hy.mono hB.size)
      have hx := hx.lower (Nat.zero_le _)
      obtain rfl := hS rfl
      simp only at hcx hx hb
      clear hrd hy hbar hS
      generalize w3.heap.size = g at hb ⊢
      have HA := Lib.hid (And.intro hL (And.intro hx hb))
      clear hL hx hb
      go_wp2
      go_loopw [9] (fun i wr => ∃ (c : Nat), c ≤ n ∧ i = .int .i64 c ∧ Below w4.heap.size w4 wr) (fun i _ => n - (intOf i).toNat)
      case atStart => exact ⟨0, Nat.zero_le _, rfl, Below.refl _ _⟩
      case round =>
        obtain ⟨c, hc, rfl, hBr⟩ := hrel
        by_cases hlt : c < n
        · have i1 : (c : Int) < (n : Int) := by omega
          obtain ⟨i, k, gr, hat, hgi, hgk⟩ := HS.out.found (c := (c : Int)) (by omega) i1
          have hL := HA.out.1.below hBr (Nat.le_refl _)
          have hcf := find_any A1 cp1 l1 c lo1 wr hL HS.out.sizes.1 HS.out.sizes.2
          rw [HM.out] at hcf
          go_wp2_with fail
          refine hcf.mono ?_
          rintro e w5 ⟨i', k', b, rfl, h1, h2, hy⟩
          obtain ⟨rfl, rfl, rfl⟩ := find_yes h1 h2 hat
          have hBr := hBr.trans (hy.mono hBr.size)
          obtain ⟨b1, o1, A3, c3, rfl, _, hlb1, d1, hI, _⟩ := (HA.out.1.below hBr (Nat.le_refl _)).at hgi
          obtain ⟨b2, o2, rfl, _, hlb2, f1⟩ := hI.at hgk
          have him : i' < m := by rw [← HM.out]; exact (List.getElem?_eq_some_iff.1 hgi).1
          have hkg := (List.getElem?_eq_some_iff.1 hgk).1
          obtain ⟨p2, hp2⟩ : ∃ p, gr.length = p := ⟨_, rfl⟩
          rw [hp2] at d1 hkg
          have j1 : (i' : Int) < (m : Int) := by omega
          have j0 : (0 : Int) ≤ (i' : Int) := by omega
          have j3 : (k' : Int) < (p2 : Int) := by omega
          have j2 : (0 : Int) ≤ (k' : Int) := by omega
          clear hcf h1 h2 hat hgi hgk hy hI hp2 hL
          go_wp2
          clear d1 f1
          go_roundw
          case rel => exact ⟨c + 1, by omega, by go_num, hBr⟩
          case measure => simp [intOf]; omega
        · obtain rfl : c = n := by omega
          have hL := HA.out.1.below hBr (Nat.le_refl _)
          have hx := HA.out.2.1.below hBr (Nat.le_refl _)
          have hb := HA.out.2.2.below hBr HA.out.2.2.lt
          have hB := hB.trans (hBr.mono hB.size)
          have HO : Hid (oneI c = oneS c ∧ IsSplit (oneS c) c) := Lib.hid ⟨by unfold oneI; rw [Int.toNat_natCast], one_split HS.out.n1 HS.out.n8⟩
          have HE : Hid (eachI c = eachS c ∧ IsSplit (eachS c) c) := Lib.hid ⟨by unfold eachI; rw [Int.toNat_natCast], each_split HS.out.n1 HS.out.n8⟩
          clear HA hBr hlt
          go_wp2_with fail
          refine (awake_any _).mono ?_
          rintro e y0 ⟨rfl, hy⟩
          have hL := hL.below hy (Nat.le_refl _)
          have hx := hx.below hy (Nat.le_refl _)
          have hb := hb.below hy hb.lt
          have hB := hB.trans (hy.mono hB.size)
          clear hy
          have hcS := refSame_any AX A1 cx cp1 l1 l1 0 lo1 y0 hx hL (by have := HS.out.sizes.1; omega) (by have := HS.out.sizes.1; omega) (fun g hg => by have := HS.out.sizes.2 g hg; omega) (fun g hg => by have := HS.out.sizes.2 g hg; omega)
          rw [HM.out, decide_eq_true rfl] at hcS
          rw [HM.out]
          go_wp2_with fail
          refine hcS.mono ?_
          rintro e y1 ⟨rfl, hy⟩
          have hb := hb.below hy hb.lt
          have hB := hB.trans (hy.mono hB.size)
          have b0 := hb.c0
          clear hy hcS hx hL
          go_wp2_with fail
          clear b0 hb
          have hcO := one_any (c : Int) y1 (by omega) (by omega)
          refine hcO.mono ?_
          rintro e y2 ⟨AO, co, rfl, _, ho, hy⟩
          have hB := hB.trans (hy.mono hB.size)
          have hcR := right_any AO co (oneI c) c y1.heap.size y2 ho (by rw [HO.out.1]; exact HO.out.2.sizes.1) (fun g hg => by rw [HO.out.1] at hg; exact HO.out.2.sizes.2 g hg) (by omega) (by omega)
          have hone : rightSp (oneI c) (c : Int) = true := by rw [HO.out.1]; exact rightSp_nat.1 HO.out.2
          rw [hone] at hcR
          clear hcO hy ho hone
          go_wp2_with fail
          refine hcR.mono ?_
          rintro e y3 ⟨rfl, hy⟩
          have hB := hB.trans (hy.mono hB.size)
          clear hcR hy
          go_wp2_with fail
          have hcO := each_any (c : Int) y3 (by omega) (by omega)
          refine hcO.mono ?_
          rintro e y4 ⟨AE, ce, rfl, _, ho, hy⟩
          have hB := hB.trans (hy.mono hB.size)
          have hcR := right_any AE ce (eachI c) c y3.heap.size y4 ho (by rw [HE.out.1]; exact HE.out.2.sizes.1) (fun g hg => by rw [HE.out.1] at hg; exact HE.out.2.sizes.2 g hg) (by omega) (by omega)
          have hone : rightSp (eachI c) (c : Int) = true := by rw [HE.out.1]; exact rightSp_nat.1 HE.out.2
          rw [hone] at hcR
          clear hcO hy ho hone
          go_wp2_with fail
          refine hcR.mono ?_
          rintro e y5 ⟨rfl, hy⟩
          have hB := hB.trans (hy.mono hB.size)
          clear hcR hy
          go_wp2
          go_ret
          exact ⟨rfl, hB⟩
end Go.Proofs.Ytifcepjflkgbmaa.Sp
