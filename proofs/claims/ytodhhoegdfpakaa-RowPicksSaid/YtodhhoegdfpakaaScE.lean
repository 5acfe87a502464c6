/- Whether a schema may be: the document's, walked. -/
import Derived.Test.YtodhhoegdfpakaaScD
namespace Go.Proofs.Ytodhhoegdfpakaa.Sc
open Go.RowKit Pac

theorem not_col {l : List C} {j : Nat} {c : C} (h : colB j c = false) : ¬ oneB l j c := fun h1 => by
  have := h1.1
  rw [h] at this
  cases this
theorem colB_def (j : Nat) (n : ByteArray) (k : Int) (z : Bool) : colB j ⟨n, k, z⟩ = (wordB n && (decide (1 ≤ k) && (decide (k ≤ 3) && !(j == 0 && (z || k == 2))))) := rfl

set_option maxRecDepth 20000 in
set_option maxHeartbeats 4000000 in
theorem refRight_any (A : Option Addr) (cp : Nat) (nm : ByteArray) (l : List C) (lo : Nat) (w : World) (h : HasCols w lo A l) (hcp : l.length ≤ cp) (hn : nm.size ≤ 9223372036854775807) (hl : l.length ≤ 9223372036854775807) (hok : ∀ (j : Nat) (c : C), l[j]? = some c → c.Ok) :
    Calls Try.prog 16 #[.agg #[.string nm, .slice A l.length cp]] w fun e w' => e = .returned (.bool (rightS nm l)) ∧ Below w.heap.size w w' := by
  have hcall := fun W : World => word_any nm W hn
  have hF0 : wordB nm = false → rightS nm l = false := rightS_word
  have hF1 := fun h => rightS_few (nm := nm) (l := l) h
  have hF2 := fun h => rightS_many (nm := nm) (l := l) h
  have hF3 := fun j c h1 h2 => rightS_one (nm := nm) (l := l) (j := j) (c := c) h1 h2
  have hT := fun h1 h2 h3 h4 => rightS_of (nm := nm) (l := l) h1 h2 h3 h4
  generalize rightS nm l = z at hF0 hF1 hF2 hF3 hT ⊢
  generalize wordB nm = x at hF0 hT hcall
  obtain ⟨m, hm⟩ : ∃ m, l.length = m := ⟨_, rfl⟩
  rw [hm] at hF1 hF2 hT hl hcp ⊢
  have HA := Lib.hid h
  have HM := Lib.hid hm
  have HF3 := Lib.hid hF3
  have HT := Lib.hid hT
  have HK := Lib.hid hok
  clear h hm hF3 hT hok
  have hB0 := (Below.refl w.heap.size w).alloc (Nat.le_refl _) (.cells #[.string nm, .slice A m cp] 24)
  have hx0 := Box2.new w (.string nm) (.slice A m cp) 24
  have HB0 := Lib.hid hB0
  clear hB0
  go_enter Try.func16, Try.ntmps16
  go_wp2_with fail
  refine (hcall _).mono ?_
  rintro e w1 ⟨rfl, rfl⟩
  clear hcall
  have c0 := hx0.c0
  have c1 := hx0.c1
  cases x
  · have HZ := Lib.hid (hF0 rfl)
    clear hF0 hF1 hF2
    go_wp2
    go_ret
    exact ⟨by rw [HZ.out]; rfl, HB0.out⟩
  · by_cases h1 : 1 ≤ m
    · by_cases h2 : m ≤ 8
      · clear hF0 hF1 hF2
        go_wp2
        have h00 : Box2 (w.alloc (.cells #[.string nm, .slice A m cp] 24)) w.heap.size (.string nm) (.slice A m cp) := hx0
        go_loopw [3] (fun i wr => ∃ q : Nat, q ≤ m ∧ i = .int .i64 q ∧ Hid (∀ j, j < q → ∀ c, l[j]? = some c → oneB l j c) ∧ Below w.heap.size w wr ∧ Box2 wr w.heap.size (.string nm) (.slice A m cp)) (fun i _ => m - (intOf i).toNat)
        case atStart => exact ⟨0, Nat.zero_le _, rfl, Lib.hid (fun j hj => absurd hj (Nat.not_lt_zero j)), HB0.out, h00⟩
        case round =>
          obtain ⟨q, hq, rfl, hH, hB, hx⟩ := hrel
          have c0 := hx.c0
          have c1 := hx.c1
          by_cases hlt : q < m
          · have hne : l ≠ [] := fun e => by have := HM.out; rw [e] at this; simp at this; omega
            have hg : l[q]? = some (l[q]'(by rw [HM.out]; exact hlt)) := List.getElem?_eq_getElem _
            obtain ⟨b, o, rfl, hlo, hlb, hc⟩ := (HA.out.below hB (Nat.le_refl _)) hne
            obtain ⟨d0, d1, d2⟩ := hc q _ hg
            have hok := HK.out q _ hg
            generalize (l[q]'(by rw [HM.out]; exact hlt)) = c at hg d0 d1 d2 hok
            obtain ⟨n, k, zz⟩ := c
            obtain ⟨k0, k1, nz⟩ := hok
            simp only at d0 d1 d2 k0 k1 nz
            have hcall := fun W : World => word_any n W nz
            have HF : Hid (colB q ⟨n, k, zz⟩ = false → z = false) := Lib.hid (fun e => HF3.out q _ hg (not_col e))
            have HN : Hid (nameIn (l.take q) n = true → z = false) := Lib.hid (fun e => HF3.out q _ hg (not_new e))
            have HS : Hid (colB q ⟨n, k, zz⟩ = true → nameIn (l.take q) n = false → ∀ j, j < q + 1 → ∀ c, l[j]? = some c → oneB l j c) := Lib.hid (fun e1 e2 j hj c hc => by
              by_cases hjq : j < q
              · exact hH.out j hjq c hc
              · obtain rfl : j = q := by omega
                rw [hg] at hc
                injection hc with hc
                subst hc
                exact ⟨e1, e2⟩)
            have hD := colB_def q n k zz
            generalize colB q ⟨n, k, zz⟩ = cb at hD HF HS
            generalize wordB n = x at hcall hD
            have HD := Lib.hid hD
            clear hD hc hg
            have hxN := hx.alloc (.cells #[.string n, .int .i64 k, .bool zz] 32)
            have hvN := Box3.new wr (.string n) (.int .i64 k) (.bool zz) 32
            have hBN := hB.alloc hB.size (.cells #[.string n, .int .i64 k, .bool zz] 32)
            go_wp2_with fail
            refine (hcall _).mono ?_
            rintro e w5 ⟨rfl, rfl⟩
            clear hcall d0 d1 d2 c0 c1
            generalize wr.alloc (.cells #[.string n, .int .i64 k, .bool zz] 32) = w3 at hxN hvN hBN ⊢
            generalize wr.heap.size = v at hvN ⊢
            have v0 := hvN.c0
            have v1 := hvN.c1
            have v2 := hvN.c2
            have g1 := hxN.c1
            cases x
            · have HZ : Hid (z = false) := Lib.hid (HF.out (by rw [HD.out]; rfl))
              go_wp2
              go_ret
              exact ⟨by rw [HZ.out]; rfl, hBN⟩
            · by_cases a1 : 1 ≤ k
              · by_cases a2 : k ≤ 3
                · have hgo : (((q : Int) == 0) = true ∧ zz = true ∧ cb = false) ∨ (((q : Int) == 0) = true ∧ zz = false ∧ (k == 2) = true ∧ cb = false) ∨ (((q : Int) == 0) = true ∧ zz = false ∧ (k == 2) = false ∧ cb = true) ∨ (((q : Int) == 0) = false ∧ cb = true) := by
                    rw [HD.out, decide_eq_true a1, decide_eq_true a2]
                    by_cases q0 : q = 0
                    · subst q0
                      cases zz
                      · cases hk2 : k == 2
                        · exact Or.inr (Or.inr (Or.inl ⟨rfl, rfl, rfl, rfl⟩))
                        · exact Or.inr (Or.inl ⟨rfl, rfl, rfl, rfl⟩)
                      · exact Or.inl ⟨rfl, rfl, rfl⟩
                    · have e1 : (q == 0) = false := beq_eq_false_iff_ne.2 q0
                      exact Or.inr (Or.inr (Or.inr ⟨beq_eq_false_iff_ne.2 (by omega), by rw [e1]; rfl⟩))
                  rcases hgo with ⟨e1, rfl, e3⟩ | ⟨e1, rfl, e2, e3⟩ | hgo
                  · have HZ : Hid (z = false) := Lib.hid (HF.out e3)
                    clear e3
                    go_wp2
                    go_ret
                    exact ⟨by rw [HZ.out]; rfl, hBN⟩
                  · have HZ : Hid (z = false) := Lib.hid (HF.out e3)
                    clear e3
                    go_wp2
                    go_ret
                    exact ⟨by rw [HZ.out]; rfl, hBN⟩
                  · have HC : Hid (cb = true) := Lib.hid (by rcases hgo with ⟨_, _, _, e⟩ | ⟨_, e⟩ <;> exact e)
                    have hgo2 : (((q : Int) == 0) = true ∧ zz = false ∧ (k == 2) = false) ∨ (((q : Int) == 0) = false) := by
                      rcases hgo with ⟨e1, e2, e3, _⟩ | ⟨e1, _⟩
                      · exact Or.inl ⟨e1, e2, e3⟩
                      · exact Or.inr e1
                    clear hgo
                    have HL : Hid (HasCols w lo (some ⟨b, o, none⟩) l) := HA
                    rcases hgo2 with ⟨e1, rfl, e2⟩ | e1
                    all_goals
                      go_wp2
                      have hxM := hxN
                      have hvM := hvN
                      have hBM := hBN
                      clear hxN hvN hBN v0 v1 v2 g1
                      go_loopw [5] (fun i wz => ∃ j : Nat, j ≤ q ∧ i = .int .i64 j ∧ Hid (nameIn (l.take j) n = false) ∧ Below w.heap.size w wz ∧ Box2 wz w.heap.size (.string nm) (.slice (some ⟨b, o, none⟩) m cp) ∧ (∃ s1 s2, Box3 wz v (.string n) s1 s2)) (fun i _ => q - (intOf i).toNat)
                      case atStart => exact ⟨0, Nat.zero_le _, rfl, Lib.hid rfl, hBM, hxM, ⟨_, _, hvM⟩⟩
                      case round =>
                        obtain ⟨j, hj, rfl, hJ, hBz, hxz, ⟨s1, s2, hvz⟩⟩ := hrel
                        have g1 := hxz.c1
                        have v0 := hvz.c0
                        by_cases hjq : j < q
                        · have hgj : l[j]? = some (l[j]'(by rw [HM.out]; omega)) := List.getElem?_eq_getElem _
                          have HJS := Lib.hid (nameIn_succ hgj n)
                          obtain ⟨b', o', hbo, hlo', hlb', hcz⟩ := (HL.out.below hBz (Nat.le_refl _)) (fun e => by have := HM.out; rw [e] at this; simp at this; omega)
                          injection hbo with hbo
                          injection hbo with hb1 hb2
                          subst hb1 hb2
                          obtain ⟨d0, d1, d2⟩ := hcz j _ hgj
                          generalize (l[j]'(by rw [HM.out]; omega)) = c at d0 d1 d2 HJS
                          obtain ⟨n2, k2, z2⟩ := c
                          simp only at d0 d1 d2 HJS
                          have i1 : (j : Int) < (m : Int) := by omega
                          have i0 : (0 : Int) ≤ (j : Int) := by omega
                          clear hcz hgj d1 d2
                          by_cases he : (n2.toList == n.toList) = true
                          · have HZ : Hid (z = false) := Lib.hid (HN.out (by
                              have e4 : nameIn ((l.take q).take (j + 1)) n = true := by
                                rw [List.take_take, show min (j + 1) q = j + 1 by omega, HJS.out, he]
                                exact Bool.or_true _
                              exact nameIn_take e4))
                            go_wp2
                            go_region
                            go_wp2
                            go_ret
                            exact ⟨by rw [HZ.out]; rfl, hBz.drew⟩
                          · have he : (n2.toList == n.toList) = false := by simpa using he
                            go_wp2
                            go_region
                            go_wp2
                            go_roundw
                            case rel => exact ⟨j + 1, by omega, by go_num, Lib.hid (by rw [HJS.out, hJ.out, he]; rfl), hBz.drew, hxz.drew, ⟨_, _, hvz.drew⟩⟩
                            case measure => simp [intOf]; omega
                        · obtain rfl : j = q := by omega
                          go_wp2
                          go_roundw
                          case rel => exact ⟨j + 1, by omega, by go_num, Lib.hid (HS.out HC.out hJ.out), hBz, hxz⟩
                          case measure => simp [intOf]; omega
                · have HZ : Hid (z = false) := Lib.hid (HF.out (by rw [HD.out, decide_eq_true a1, decide_eq_false a2]; rfl))
                  go_wp2
                  go_ret
                  exact ⟨by rw [HZ.out]; rfl, hBN⟩
              · have HZ : Hid (z = false) := Lib.hid (HF.out (by rw [HD.out, decide_eq_false a1]; rfl))
                go_wp2
                go_ret
                exact ⟨by rw [HZ.out]; rfl, hBN⟩
          · obtain rfl : q = m := by omega
            have HZ : Hid (z = true) := Lib.hid (HT.out trivial h1 h2 (fun j c hc => hH.out j (by rw [← HM.out]; exact (List.getElem?_eq_some_iff.1 hc).1) c hc))
            go_wp2
            go_ret
            exact ⟨by rw [HZ.out]; rfl, hB⟩
      · have H2 := Lib.hid (hF2 h2)
        clear hF0 hF1 hF2
        go_wp2
        go_ret
        exact ⟨by rw [H2.out]; rfl, HB0.out⟩
    · have H1 := Lib.hid (hF1 h1)
      clear hF0 hF1 hF2
      go_wp2
      go_ret
      exact ⟨by rw [H1.out]; rfl, HB0.out⟩
end Go.Proofs.Ytodhhoegdfpakaa.Sc
