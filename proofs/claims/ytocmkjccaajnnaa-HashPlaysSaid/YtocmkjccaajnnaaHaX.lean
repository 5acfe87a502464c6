/- HashOrder, walked. -/
import Derived.Test.YtocmkjccaajnnaaMgR
import Derived.Test.YtocmkjccaajnnaaMgZ
namespace Go.Proofs.Ytocmkjccaajnnaa.Ha
open Go.RowKit Pac Bu Ls Lex Go.Proofs.Ytocmkjccaajnnaa.Or

section
variable {A0 : Option Addr} {n cp : Nat} {l : List Ac} {w : World}
set_option maxRecDepth 20000 in
set_option maxHeartbeats 12800000 in
theorem order_any (u : Nat) (hl : HasA w 0 A0 l) (hn : l.length = n) (h9 : n ≤ 9223372036854775807) (hu : u ≤ 255) :
    Calls Try.prog 7 #[.slice A0 n cp, .int .u8 u] w fun e w' => e = .returned (.bool true) ∧ Below w.heap.size w w' := by
  have hcs := small_any (cp := cp) 0 60 hl hn h9 (by omega)
  have HL := Lib.hid (And.intro hl hn)
  clear hl hn
  go_enter Try.func7, Try.ntmps7
  go_wp2_with fail
  refine hcs.mono ?_
  rintro e w1 ⟨b, rfl, hb, h1⟩
  clear hcs
  cases b
  · clear hb
    go_wp2_with fail
    refine (awake_any w1).mono ?_
    rintro e w2 ⟨rfl, h2⟩
    go_wp2
    go_ret
    exact ⟨rfl, h1.trans (h2.mono h1.size)⟩
  · have hsm := hb.1 rfl
    have hn60 : n ≤ 60 := by have := hsm.len; rw [HL.out.2] at this; exact this
    have HS := Lib.hid hsm
    clear hb hsm
    go_wp2
    go_loopw [5, 6] (fun s5 _ wr => ∃ q : Nat, q ≤ n ∧ s5 = .int .i64 q ∧ Hid (∀ (i j : Nat) (a b : Ac), j < i → i < q → l[i]? = some a → l[j]? = some b → b.e.k ≠ a.e.k) ∧ Below w.heap.size w wr) (fun s5 _ _ => n - (intOf s5).toNat)
    case atStart => exact ⟨0, Nat.zero_le _, rfl, Lib.hid (fun i j a b _ h => absurd h (by omega)), h1⟩
    case round =>
      clear h1
      obtain ⟨q, hq, rfl, hI, hB⟩ := hrel
      by_cases hlt : q < n
      · have hgt := List.getElem?_eq_getElem (l := l) (i := q) (by rw [HL.out.2]; exact hlt)
        generalize (l[q]'(by rw [HL.out.2]; exact hlt)) = x at hgt
        have hA := HL.out.1.below hB (Nat.le_refl _)
        obtain ⟨b, o, rfl, _, hlb, _, e1, _, _⟩ := HasA.at hA hgt
        have HG := Lib.hid hgt
        obtain ⟨ak, xk, et, es⟩ := x
        simp only at e1
        have i1 : (q : Int) < (n : Int) := by omega
        have i0 : (0 : Int) ≤ (q : Int) := by omega
        have HB := Lib.hid hB
        have HA := Lib.hid hA
        clear hgt hA hB
        go_wp2
        go_loopw [6] (fun s6 wx => ∃ j : Nat, j ≤ q ∧ s6 = .int .i64 j ∧ Hid (∀ (j' : Nat) (b : Ac), j' < j → l[j']? = some b → b.e.k ≠ xk.data.toList) ∧ Below wr.heap.size wr wx) (fun s6 _ => q - (intOf s6).toNat)
        case atStart => exact ⟨0, Nat.zero_le _, rfl, Lib.hid (fun j' b h => absurd h (by omega)), Below.refl _ _⟩
        case round =>
          rename World => wx
          obtain ⟨j, hj, rfl, hJ, hBx⟩ := hrel
          by_cases hlj : j < q
          · have hgt := List.getElem?_eq_getElem (l := l) (i := j) (by rw [HL.out.2]; omega)
            generalize (l[j]'(by rw [HL.out.2]; omega)) = y at hgt
            obtain ⟨b', o', hAe, _, _, _, d1, _, _⟩ := HasA.at (HA.out.below hBx (Nat.le_refl _)) hgt
            injection hAe with hAe
            injection hAe with a1 a2
            subst a1 a2
            have HGJ := Lib.hid hgt
            obtain ⟨bk, yk, yt, ys⟩ := y
            simp only at d1
            have e1 := cell_belowB hBx e1
            have j1 : (j : Int) < (q : Int) := by omega
            have j0 : (0 : Int) ≤ (j : Int) := by omega
            have j2 : (j : Int) < (n : Int) := by omega
            clear hgt
            by_cases hk : yk.data.toList = xk.data.toList
            · have hbk : (yk.toList == xk.toList) = true := by rw [key_beq]; exact decide_eq_true hk
              clear hk
              go_wp2
              go_quiet (fail)
              have hB := HB.out.trans (hBx.mono HB.out.size)
              have hdr := below_drewN (Below.refl wx.heap.size wx) nq
              have hB := hB.trans (hdr.mono hB.size)
              generalize wx.drewN nq = wz at hB ⊢
              clear hdr hBx d1 e1
              go_wp2_with fail
              refine (awake_any _).mono ?_
              rintro e w2 ⟨rfl, h2⟩
              go_wp2
              go_ret
              exact ⟨rfl, hB.trans (h2.mono hB.size)⟩
            · have hbk : (yk.toList == xk.toList) = false := by rw [key_beq]; exact decide_eq_false hk
              have HJ' : Hid (∀ (j' : Nat) (b : Ac), j' < j + 1 → l[j']? = some b → b.e.k ≠ xk.data.toList) := Lib.hid (fun j' b h hb => by
                by_cases e : j' = j
                · subst e
                  rw [HGJ.out] at hb
                  injection hb with hb
                  subst hb
                  exact hk
                · exact hJ.out j' b (by omega) hb)
              clear hk
              go_wp2
              go_quiet (fail)
              have hdr := below_drewN (Below.refl wx.heap.size wx) nq
              have hB := hBx.trans (hdr.mono hBx.size)
              generalize wx.drewN nq = wz at hB ⊢
              clear hdr hBx d1 e1
              go_wp2
              go_roundw
              case rel => exact ⟨j + 1, by omega, by go_num, HJ', hB⟩
              case measure => simp [intOf]; omega
          · obtain rfl : q = j := by omega
            have HI : Hid (∀ (i j : Nat) (a b : Ac), j < i → i < q + 1 → l[i]? = some a → l[j]? = some b → b.e.k ≠ a.e.k) := Lib.hid (fun i j a b hji hi ha hb => by
              by_cases e : i = q
              · subst e
                rw [HG.out] at ha
                injection ha with ha
                subst ha
                exact hJ.out j b hji hb
              · exact hI.out i j a b hji (by omega) ha hb)
            have hB := HB.out.trans (hBx.mono HB.out.size)
            clear hBx e1
            go_wp2
            go_roundw
            case rel => exact ⟨q + 1, by omega, by go_num, HI, hB⟩
            case measure => simp [intOf]; omega
      · obtain rfl : n = q := by omega
        have HD : Hid (Apart1 l) := Lib.hid (fun i j a b hji ha hb => hI.out i j a b hji (by have := (List.getElem?_eq_some_iff.1 ha).1; rw [HL.out.2] at this; exact this) ha hb)
        -- which deed comes first for the other index
        obtain ⟨k, hk, hk0, hkn⟩ : ∃ k : Nat, k ≤ n ∧ (0 < n → k < n ∧ u % n = k) ∧ (n = 0 → k = 0) := by
          by_cases h0 : 0 < n
          · exact ⟨u % n, Nat.le_of_lt (Nat.mod_lt _ h0), fun _ => ⟨Nat.mod_lt _ h0, rfl⟩, fun e => absurd e (by omega)⟩
          · exact ⟨0, Nat.zero_le _, fun e => absurd e h0, fun _ => rfl⟩
        obtain ⟨l', hl'⟩ : ∃ l', turnA l k = l' := ⟨_, rfl⟩
        have HT : Hid (l'.length = n ∧ (∀ a, a ∈ l' ↔ a ∈ l) ∧ Apart1 l' ∧ ∀ i, i < n → l'[i]? = l[(i + k) % n]?) := Lib.hid (by
          have hnl := HL.out.2
          rw [← hl']
          refine ⟨by rw [turn_len l k (by omega), hnl], turn_mem l k, ?_, fun i hi => ?_⟩
          · by_cases h0 : 0 < n
            · exact turn_apart (by have := (hk0 h0).1; omega) HD.out
            · intro i j a b _ ha _
              have := (List.getElem?_eq_some_iff.1 ha).1
              rw [turn_len l k (by omega)] at this
              omega
          · have h0 : 0 < n := by omega
            rw [turn_at (by have := (hk0 h0).1; omega) (by omega), hnl])
        have HF' : Hid (∀ a ∈ l', FineP a.e) := Lib.hid (fun a ha => HS.out.fine a ((HT.out.2.1 a).1 ha))
        have HE : Hid (putsA l = putsA l') := Lib.hid (same_puts HS.out.fine HF'.out HD.out HT.out.2.2.1 (by rw [HL.out.2, HT.out.1]) (by rw [HL.out.2]; omega) (fun a => (HT.out.2.1 a).symm))
        clear hl' hI
        by_cases h0 : 0 < n
        · have hk1 := (hk0 h0).1
          have z1 : (u : Int) % (n : Int) = (k : Int) := by have := (hk0 h0).2; rw [← this]; push_cast; rfl
          have z2 : (0 : Int) < (n : Int) := by omega
          have z3 : ¬ (n : Int) = 0 := by omega
          have HKN := Lib.hid hk1
          clear hk0 hkn hk h0 hq hlt
          go_wp2_with fail
          refine (new_any _).mono ?_
          rintro e w2 ⟨A, n0, cp0, rfl, hnn, hcc, hbs, hy⟩
          have hB2 := hB.trans (hy.mono hB.size)
          clear hB hy
          go_wp2_with fail
          refine (new_any _).mono ?_
          rintro e w3 ⟨B, n1, cp1, rfl, hnn1, hcc1, hbs1, hy⟩
          have hB3 := hB2.trans (hy.mono hB2.size)
          have hbs := hbs.lt.below hy (Nat.le_refl _)
          clear hB2
          obtain ⟨h0, hh0⟩ : ∃ h0, newH = h0 := ⟨_, rfl⟩
          have HH0 := Lib.hid (show h0 = putsA (l.take 0) ∧ h0 = putsA (l'.take 0) by rw [← hh0, List.take_zero, List.take_zero]; exact ⟨rfl, rfl⟩)
          have hD := duo_new hB3 hnn hcc hbs hnn1 hcc1 hbs1
          rw [hh0] at hD
          obtain ⟨gx, hgx⟩ : ∃ gx, w3.heap.size = gx := ⟨_, rfl⟩
          rw [hgx] at hD
          clear hnn hcc hbs hnn1 hcc1 hbs1 hy hB3
          go_wp2
          clear hh0 hgx
          generalize (w3.alloc (.cells #[.int .i64 (h0.lv : Nat), .int .i64 (h0.nx : Nat), .slice A n0 cp0] 27)).alloc (.cells #[.int .i64 (h0.lv : Nat), .int .i64 (h0.nx : Nat), .slice B n1 cp1] 27) = w4 at hD ⊢
          generalize gx + 1 = gy at hD ⊢
          go_loopw [10, 11, 12] (fun s10 _ _ wx => ∃ (i : Nat) (x y : H) (A : Option Addr) (m c : Nat) (B : Option Addr) (m2 c2 : Nat), i ≤ n ∧ s10 = .int .i64 i ∧ Hid (x = putsA (l.take i) ∧ y = putsA (l'.take i)) ∧ Duo w wx gx gy x y A m c B m2 c2) (fun s10 _ _ _ => n - (intOf s10).toNat)
          case atStart => exact ⟨0, h0, h0, A, n0, cp0, B, n1, cp1, Nat.zero_le _, rfl, HH0, hD⟩
          case round =>
            clear hD HH0
            rename World => wx
            obtain ⟨i, x, y, A, m, c, B, m2, c2, hi, rfl, hXY, hD⟩ := hrel
            by_cases hlt : i < n
            · obtain ⟨r, hr⟩ : ∃ r, (i + k) % n = r := ⟨_, rfl⟩
              have hrn : r < n := by rw [← hr]; exact Nat.mod_lt _ (by omega)
              have hgt := List.getElem?_eq_getElem (l := l) (i := i) (by rw [HL.out.2]; exact hlt)
              have hgr := List.getElem?_eq_getElem (l := l) (i := r) (by rw [HL.out.2]; exact hrn)
              generalize (l[i]'(by rw [HL.out.2]; exact hlt)) = p at hgt
              generalize (l[r]'(by rw [HL.out.2]; exact hrn)) = q at hgr
              have hA := HL.out.1.below hD.b (Nat.le_refl _)
              obtain ⟨b, o, rfl, _, hlb, d0, d1, d2, d3⟩ := HasA.at hA hgt
              obtain ⟨b', o', hAe, _, _, e0, e1, e2, e3⟩ := HasA.at hA hgr
              injection hAe with hAe
              injection hAe with a1 a2
              subst a1 a2
              have hgl : l'[i]? = some q := by rw [HT.out.2.2.2 i hlt, hr]; exact hgr
              have hfx := HS.out.fine _ (List.mem_of_getElem? hgt)
              have hfy := HS.out.fine _ (List.mem_of_getElem? hgr)
              have hix : Idx spread x i := by rw [hXY.out.1]; exact Idx.puts HS.out.fine i (by rw [HL.out.2]; exact hi) (by omega)
              have hiy : Idx spread y i := by rw [hXY.out.2]; exact Idx.puts HF'.out i (by rw [HT.out.1]; exact hi) (by omega)
              have hnx : putH spread x p.e = putsA (l.take (i + 1)) := by rw [puts_take hgt, hXY.out.1]
              have hny : putH spread y q.e = putsA (l'.take (i + 1)) := by rw [puts_take hgl, hXY.out.2]
              obtain ⟨ak, ek, et, es⟩ := p
              obtain ⟨bk, fk, ft, fs⟩ := q
              simp only at d0 d1 d2 d3 e0 e1 e2 e3 hfx hfy hnx hny
              obtain ⟨x', hx'⟩ : ∃ x', putH spread x ⟨ek, et, es⟩ = x' := ⟨_, rfl⟩
              obtain ⟨y', hy'⟩ : ∃ y', putH spread y ⟨fk, ft, fs⟩ = y' := ⟨_, rfl⟩
              have HXY := Lib.hid (And.intro hx' hy')
              have HXY' : Hid (x' = putsA (l.take (i + 1)) ∧ y' = putsA (l'.take (i + 1))) := Lib.hid ⟨hx' ▸ hnx, hy' ▸ hny⟩
              have HIX := Lib.hid (And.intro hix (And.intro hiy (And.intro hfx hfy)))
              have i1 : (i : Int) < (n : Int) := by omega
              have i0 : (0 : Int) ≤ (i : Int) := by omega
              have r1 : (r : Int) < (n : Int) := by omega
              have r0 : (0 : Int) ≤ (r : Int) := by omega
              have z4 : IntKind.i64.wrap ((i : Int) + (k : Int)) = (i : Int) + (k : Int) := IntWalk.i64_in _ (by omega)
              have z5 : ((i : Int) + (k : Int)) % (n : Int) = (r : Int) := by rw [← hr]; push_cast; rfl
              have z6 : (0 : Int) ≤ (i : Int) + (k : Int) := by omega
              have z7 : ((i : Int) + (k : Int)).tmod (n : Int) = (r : Int) := by rw [Int.tmod_eq_emod_of_nonneg z6]; exact z5
              have z8 : ¬ n = 0 := by omega
              clear hA hgt hgr hgl hfx hfy hix hiy hnx hny hx' hy' hr hrn hXY
              go_wp2_with fail
              have hdr := (Below.refl wx.heap.size wx).drew
              have hD := hD.below hdr
              have d0 := cell_belowB hdr d0
              have d1 := cell_belowB hdr d1
              have d2 := cell_belowB hdr d2
              have d3 := cell_belowB hdr d3
              have e0 := cell_belowB hdr e0
              have e1 := cell_belowB hdr e1
              have e2 := cell_belowB hdr e2
              have e3 := cell_belowB hdr e3
              clear hdr
              refine Lex.region_tree (ops := oyops) oytree (fun W => W.cell? ⟨b, o + i * 4, none⟩ = some (.int .i64 ak) ∧ W.cell? ⟨b, o + i * 4 + 1, none⟩ = some (.string ek) ∧ W.cell? ⟨b, o + i * 4 + 2, none⟩ = some (.int .i64 et) ∧ W.cell? ⟨b, o + i * 4 + 3, none⟩ = some (.int .i64 es) ∧ W.cell? ⟨b, o + r * 4, none⟩ = some (.int .i64 bk) ∧ W.cell? ⟨b, o + r * 4 + 1, none⟩ = some (.string fk) ∧ W.cell? ⟨b, o + r * 4 + 2, none⟩ = some (.int .i64 ft) ∧ W.cell? ⟨b, o + r * 4 + 3, none⟩ = some (.int .i64 fs)) (by kernel_rfl) (by kernel_rfl) oysel oylex (⟨d0, d1, d2, d3, e0, e1, e2, e3⟩) ?_
              unfold oytree
              have HC := Lib.hid (And.intro d0 (And.intro d1 (And.intro d2 (And.intro d3 (And.intro e0 (And.intro e1 (And.intro e2 e3)))))))
              have HD0 := Lib.hid hD
              generalize wx.drew = wd at HC HD0 d0 d1 d2 d3 e0 e1 e2 e3 ⊢
              obtain ⟨N, hN⟩ : ∃ N, wd.heap.size = N := ⟨_, rfl⟩
              have HN := Lib.hid hN
              have hbel := Below.refl N wd
              clear hN hD
              refine Lex.tree_take (.slice (some ⟨b, o, none⟩) n cp) oy0 (Lex.want_none rfl) (by intro Wx hSw; (try dsimp only at hSw); go_simp; (try (first | (with_reducible rfl) | assumption | rfl))) ?_
              simp only [Act.put, List.setIfInBounds_toArray, List.set_cons_zero, List.set_cons_succ]
              refine Lex.tree_take (.int .i64 i) oy1 (Lex.want_none rfl) (by intro Wx hSw; (try dsimp only at hSw); go_simp; (try (first | (with_reducible rfl) | assumption | rfl))) ?_
              simp only [Act.put, List.setIfInBounds_toArray, List.set_cons_zero, List.set_cons_succ]
              refine Lex.tree_take (.pointer (some ⟨b, o + i * 4, none⟩)) oy2 (Lex.want_none rfl) (by intro Wx hSw; (try dsimp only at hSw); go_simp; (try (first | (with_reducible rfl) | assumption | rfl))) ?_
              simp only [Act.put, List.setIfInBounds_toArray, List.set_cons_zero, List.set_cons_succ]
              refine Lex.tree_take (.agg #[.int .i64 ak, .string ek, .int .i64 et, .int .i64 es]) oy3 (Lex.want_none rfl) (by intro Wx hSw; (try dsimp only at hSw); go_simp; (try (first | (with_reducible rfl) | assumption | rfl))) ?_
              simp only [Act.put, List.setIfInBounds_toArray, List.set_cons_zero, List.set_cons_succ]
              refine Lex.tree_take (.slice (some ⟨b, o, none⟩) n cp) oy4 (Lex.want_none rfl) (by intro Wx hSw; (try dsimp only at hSw); go_simp; (try (first | (with_reducible rfl) | assumption | rfl))) ?_
              simp only [Act.put, List.setIfInBounds_toArray, List.set_cons_zero, List.set_cons_succ]
              refine Lex.tree_take (.int .i64 i) oy5 (Lex.want_none rfl) (by intro Wx hSw; (try dsimp only at hSw); go_simp; (try (first | (with_reducible rfl) | assumption | rfl))) ?_
              simp only [Act.put, List.setIfInBounds_toArray, List.set_cons_zero, List.set_cons_succ]
              refine Lex.tree_take (.int .i64 k) oy6 (Lex.want_none rfl) (by intro Wx hSw; (try dsimp only at hSw); go_simp; (try (first | (with_reducible rfl) | assumption | rfl))) ?_
              simp only [Act.put, List.setIfInBounds_toArray, List.set_cons_zero, List.set_cons_succ]
              refine Lex.tree_take (.int .i64 ((i : Int) + (k : Int))) oy7 (Lex.want_none rfl) (by intro Wx hSw; (try dsimp only at hSw); go_simp; (try (first | (with_reducible rfl) | assumption | rfl))) ?_
              simp only [Act.put, List.setIfInBounds_toArray, List.set_cons_zero, List.set_cons_succ]
              refine Lex.tree_take (.slice (some ⟨b, o, none⟩) n cp) oy8 (Lex.want_none rfl) (by intro Wx hSw; (try dsimp only at hSw); go_simp; (try (first | (with_reducible rfl) | assumption | rfl))) ?_
              simp only [Act.put, List.setIfInBounds_toArray, List.set_cons_zero, List.set_cons_succ]
              refine Lex.tree_take (.int .i64 (n : Int)) oy9 (Lex.want_none rfl) (by intro Wx hSw; (try dsimp only at hSw); go_simp; (try (first | (with_reducible rfl) | assumption | rfl))) ?_
              simp only [Act.put, List.setIfInBounds_toArray, List.set_cons_zero, List.set_cons_succ]
              refine Lex.tree_take (.int .i64 (r : Int)) oy10 (Lex.want_none rfl) (by intro Wx hSw; (try dsimp only at hSw); go_simp; (try (first | (with_reducible rfl) | assumption | rfl))) ?_
              simp only [Act.put, List.setIfInBounds_toArray, List.set_cons_zero, List.set_cons_succ]
              refine Lex.tree_take (.pointer (some ⟨b, o + r * 4, none⟩)) oy11 (Lex.want_none rfl) (by intro Wx hSw; (try dsimp only at hSw); go_simp; (try (first | (with_reducible rfl) | assumption | rfl))) ?_
              simp only [Act.put, List.setIfInBounds_toArray, List.set_cons_zero, List.set_cons_succ]
              refine Lex.tree_take (.agg #[.int .i64 bk, .string fk, .int .i64 ft, .int .i64 fs]) oy12 (Lex.want_none rfl) (by intro Wx hSw; (try dsimp only at hSw); go_simp; (try (first | (with_reducible rfl) | assumption | rfl))) ?_
              simp only [Act.put, List.setIfInBounds_toArray, List.set_cons_zero, List.set_cons_succ]
              refine Lex.tree_call oy13 (Lex.want_none rfl) (fun K hK => ?_) ?_
              · go_simp
                have hq_ga := Box4.new wd (.int .i64 0) (.string ⟨#[]⟩) (.int .i64 0) (.int .i64 0) 32
                have hge_ga : N ≤ wd.heap.size := Nat.le_of_eq HN.out.symm
                have hbel := hbel.alloc (Nat.le_of_eq HN.out.symm) (.cells #[.int .i64 0, .string ⟨#[]⟩, .int .i64 0, .int .i64 0] 32)
                generalize wd.alloc (.cells #[.int .i64 0, .string ⟨#[]⟩, .int .i64 0, .int .i64 0] 32) = zga at hbel hq_ga  ⊢
                generalize wd.heap.size = ga at hge_ga hq_ga  ⊢
                clear d0 d1 d2 d3 e0 e1 e2 e3
                have d0 := cell_belowB2 hbel HC.out.1 HN.out
                have d1 := cell_belowB2 hbel HC.out.2.1 HN.out
                have d2 := cell_belowB2 hbel HC.out.2.2.1 HN.out
                have d3 := cell_belowB2 hbel HC.out.2.2.2.1 HN.out
                have e0 := cell_belowB2 hbel HC.out.2.2.2.2.1 HN.out
                have e1 := cell_belowB2 hbel HC.out.2.2.2.2.2.1 HN.out
                have e2 := cell_belowB2 hbel HC.out.2.2.2.2.2.2.1 HN.out
                have e3 := cell_belowB2 hbel HC.out.2.2.2.2.2.2.2 HN.out
                refine hK.out _ _ _ (fun _ h => h) (⟨d0, d1, d2, d3, e0, e1, e2, e3⟩) ?_
                clear hK K
                try simp only [Act.put, List.setIfInBounds_toArray, List.set_cons_zero, List.set_cons_succ]
                refine Lex.tree_call oy14 (Lex.want_none rfl) (fun K hK => ?_) Lex.tree_no
                go_simp
                have hq_gb := Box4.new zga (.int .i64 0) (.string ⟨#[]⟩) (.int .i64 0) (.int .i64 0) 32
                have hge_gb : N ≤ zga.heap.size := by have := hbel.size; have := HN.out; omega
                have hne := hq_ga.lt
                have hq_ga := hq_ga.below ((Below.refl zga.heap.size zga).alloc (Nat.le_refl _) (.cells #[.int .i64 0, .string ⟨#[]⟩, .int .i64 0, .int .i64 0] 32)) hne
                have hbel := hbel.alloc (hge_gb) (.cells #[.int .i64 0, .string ⟨#[]⟩, .int .i64 0, .int .i64 0] 32)
                generalize zga.alloc (.cells #[.int .i64 0, .string ⟨#[]⟩, .int .i64 0, .int .i64 0] 32) = zgbga at hbel hq_gb hq_ga ⊢
                generalize zga.heap.size = gb at hge_gb hq_gb hne ⊢
                clear d0 d1 d2 d3 e0 e1 e2 e3
                have d0 := cell_belowB2 hbel HC.out.1 HN.out
                have d1 := cell_belowB2 hbel HC.out.2.1 HN.out
                have d2 := cell_belowB2 hbel HC.out.2.2.1 HN.out
                have d3 := cell_belowB2 hbel HC.out.2.2.2.1 HN.out
                have e0 := cell_belowB2 hbel HC.out.2.2.2.2.1 HN.out
                have e1 := cell_belowB2 hbel HC.out.2.2.2.2.2.1 HN.out
                have e2 := cell_belowB2 hbel HC.out.2.2.2.2.2.2.1 HN.out
                have e3 := cell_belowB2 hbel HC.out.2.2.2.2.2.2.2 HN.out
                refine hK.out _ _ _ (fun _ h => h) (⟨d0, d1, d2, d3, e0, e1, e2, e3⟩) ?_
                clear hK K
                try simp only [Act.put, List.setIfInBounds_toArray, List.set_cons_zero, List.set_cons_succ]
                refine Lex.tree_call oy15 (Lex.want_none rfl) (fun K hK => ?_) Lex.tree_no
                have k0 := hq_ga.c0
                have k1 := hq_ga.c1
                have k2 := hq_ga.c2
                have k3 := hq_ga.c3
                have kf := hq_ga.f
                go_simp
                clear k0 k1 k2 k3 kf
                have hq_ga := hq_ga.put (.int .i64 ak) (.string ek) (.int .i64 et) (.int .i64 es)
                have hq_gb := hq_gb.bar (bar4 zgbga ga (.int .i64 ak) (.string ek) (.int .i64 et) (.int .i64 es)) (by omega)
                have hbel := below4 hbel hge_ga (.int .i64 ak) (.string ek) (.int .i64 et) (.int .i64 es)
                generalize ((((zgbga.setCell ⟨ga, 0, none⟩ (.int .i64 ak)).setCell ⟨ga, 1, none⟩ (.string ek)).setCell ⟨ga, 2, none⟩ (.int .i64 et)).setCell ⟨ga, 3, none⟩ (.int .i64 es)) = sgazgbga at hq_ga hq_gb hbel ⊢
                clear d0 d1 d2 d3 e0 e1 e2 e3
                have d0 := cell_belowB2 hbel HC.out.1 HN.out
                have d1 := cell_belowB2 hbel HC.out.2.1 HN.out
                have d2 := cell_belowB2 hbel HC.out.2.2.1 HN.out
                have d3 := cell_belowB2 hbel HC.out.2.2.2.1 HN.out
                have e0 := cell_belowB2 hbel HC.out.2.2.2.2.1 HN.out
                have e1 := cell_belowB2 hbel HC.out.2.2.2.2.2.1 HN.out
                have e2 := cell_belowB2 hbel HC.out.2.2.2.2.2.2.1 HN.out
                have e3 := cell_belowB2 hbel HC.out.2.2.2.2.2.2.2 HN.out
                refine hK.out _ _ _ (fun _ h => h) (⟨d0, d1, d2, d3, e0, e1, e2, e3⟩) ?_
                clear hK K
                try simp only [Act.put, List.setIfInBounds_toArray, List.set_cons_zero, List.set_cons_succ]
                refine Lex.tree_call oy16 (Lex.want_none rfl) (fun K hK => ?_) Lex.tree_no
                have k0 := hq_gb.c0
                have k1 := hq_gb.c1
                have k2 := hq_gb.c2
                have k3 := hq_gb.c3
                have kf := hq_gb.f
                go_simp
                clear k0 k1 k2 k3 kf
                have hq_gb := hq_gb.put (.int .i64 bk) (.string fk) (.int .i64 ft) (.int .i64 fs)
                have hq_ga := hq_ga.bar (bar4 sgazgbga gb (.int .i64 bk) (.string fk) (.int .i64 ft) (.int .i64 fs)) (by omega)
                have hbel := below4 hbel hge_gb (.int .i64 bk) (.string fk) (.int .i64 ft) (.int .i64 fs)
                generalize ((((sgazgbga.setCell ⟨gb, 0, none⟩ (.int .i64 bk)).setCell ⟨gb, 1, none⟩ (.string fk)).setCell ⟨gb, 2, none⟩ (.int .i64 ft)).setCell ⟨gb, 3, none⟩ (.int .i64 fs)) = sgbsgazgbga at hq_ga hq_gb hbel ⊢
                clear d0 d1 d2 d3 e0 e1 e2 e3
                have d0 := cell_belowB2 hbel HC.out.1 HN.out
                have d1 := cell_belowB2 hbel HC.out.2.1 HN.out
                have d2 := cell_belowB2 hbel HC.out.2.2.1 HN.out
                have d3 := cell_belowB2 hbel HC.out.2.2.2.1 HN.out
                have e0 := cell_belowB2 hbel HC.out.2.2.2.2.1 HN.out
                have e1 := cell_belowB2 hbel HC.out.2.2.2.2.2.1 HN.out
                have e2 := cell_belowB2 hbel HC.out.2.2.2.2.2.2.1 HN.out
                have e3 := cell_belowB2 hbel HC.out.2.2.2.2.2.2.2 HN.out
                refine hK.out _ _ _ (fun _ h => h) (⟨d0, d1, d2, d3, e0, e1, e2, e3⟩) ?_
                clear hK K
                try simp only [Act.put, List.setIfInBounds_toArray, List.set_cons_zero, List.set_cons_succ]
                refine Lex.tree_end ?_
                refine NoPanic.normal ?_
                clear d0 d1 d2 d3 e0 e1 e2 e3
                have hD := HD0.out.below (by rw [HN.out]; exact hbel)
                clear hbel
                have x0 := hD.x.b.c0
                have x1 := hD.x.b.c1
                have x2 := hD.x.b.c2
                have y0 := hD.y.b.c0
                have y1 := hD.y.b.c1
                have y2 := hD.y.b.c2
                have a1 := hq_ga.c1
                have a2 := hq_ga.c2
                have a3 := hq_ga.c3
                have b1 := hq_gb.c1
                have b2 := hq_gb.c2
                have b3 := hq_gb.c3
                have hcx := fun W (hW : HasBsX W (fun b => b ≠ gx ∧ b ≠ gy) A x.bs) => put_any (w := W) (fun b => b ≠ gx ∧ b ≠ gy) HIX.out.1 (by omega) hW hD.x.hn hD.x.hc ek et es HIX.out.2.2.1
                have hcy := fun W (hW : HasBsX W (fun b => b ≠ gx ∧ b ≠ gy) B y.bs) => put_any (w := W) (fun b => b ≠ gx ∧ b ≠ gy) HIX.out.2.1 (by omega) hW hD.y.hn hD.y.hc fk ft fs HIX.out.2.2.2
                rw [HXY.out.1] at hcx
                rw [HXY.out.2] at hcy
                go_wp2_with fail
                have hdr := (Below.refl sgbsgazgbga.heap.size sgbsgazgbga).drew
                refine Lex.region_parts (ops := ozraw) (ops1 := ozops) (calls := ozcalls) 12 ozord (fun W => W.cell? ⟨gx, 0, none⟩ = some (.int .i64 (x.lv : Nat)) ∧ W.cell? ⟨gx, 1, none⟩ = some (.int .i64 (x.nx : Nat)) ∧ W.cell? ⟨gx, 2, none⟩ = some (.slice A m c) ∧ W.cell? ⟨gy, 0, none⟩ = some (.int .i64 (y.lv : Nat)) ∧ W.cell? ⟨gy, 1, none⟩ = some (.int .i64 (y.nx : Nat)) ∧ W.cell? ⟨gy, 2, none⟩ = some (.slice B m2 c2) ∧ W.cell? ⟨ga, 1, none⟩ = some (.string ek) ∧ W.cell? ⟨ga, 2, none⟩ = some (.int .i64 et) ∧ W.cell? ⟨ga, 3, none⟩ = some (.int .i64 es) ∧ W.cell? ⟨gb, 1, none⟩ = some (.string fk) ∧ W.cell? ⟨gb, 2, none⟩ = some (.int .i64 ft) ∧ W.cell? ⟨gb, 3, none⟩ = some (.int .i64 fs)) (by kernel_rfl) ozcut (by rw [ozsize]; decide) (by kernel_rfl) (by kernel_rfl) (by kernel_rfl) ozsel (by kernel_rfl) (by kernel_rfl) ozlex (⟨x0, x1, x2, y0, y1, y2, a1, a2, a3, b1, b2, b3⟩) ?_
                unfold ozord
                have x0 := x0
                have x1 := x1
                have x2 := x2
                have y0 := y0
                have y1 := y1
                have y2 := y2
                have a1 := a1
                have a2 := a2
                have a3 := a3
                have b1 := b1
                have b2 := b2
                have b3 := b3
                have hD := hD.below hdr
                clear hdr
                refine Lex.step_take (.agg #[.int .i64 (x.lv : Nat), .int .i64 (x.nx : Nat), .slice A m c]) oz0 rfl (Lex.want_none rfl) (by intro Wx hSw; (try dsimp only at hSw); go_simp; (try (first | (with_reducible rfl) | assumption | rfl))) ?_
                simp only [Act.put, List.setIfInBounds_toArray, List.set_cons_zero, List.set_cons_succ]
                refine Lex.step_take (.pointer (some ⟨ga, 1, none⟩)) oz1 rfl (Lex.want_none rfl) (by intro Wx hSw; (try dsimp only at hSw); go_simp; (try (first | (with_reducible rfl) | assumption | rfl))) ?_
                simp only [Act.put, List.setIfInBounds_toArray, List.set_cons_zero, List.set_cons_succ]
                refine Lex.step_take (.string ek) oz2 rfl (Lex.want_none rfl) (by intro Wx hSw; (try dsimp only at hSw); go_simp; (try (first | (with_reducible rfl) | assumption | rfl))) ?_
                simp only [Act.put, List.setIfInBounds_toArray, List.set_cons_zero, List.set_cons_succ]
                refine Lex.step_take (.pointer (some ⟨ga, 2, none⟩)) oz3 rfl (Lex.want_none rfl) (by intro Wx hSw; (try dsimp only at hSw); go_simp; (try (first | (with_reducible rfl) | assumption | rfl))) ?_
                simp only [Act.put, List.setIfInBounds_toArray, List.set_cons_zero, List.set_cons_succ]
                refine Lex.step_take (.agg #[.int .i64 et, .int .i64 es]) oz4 rfl (Lex.want_none rfl) (by intro Wx hSw; (try dsimp only at hSw); go_simp; (try (first | (with_reducible rfl) | assumption | rfl))) ?_
                simp only [Act.put, List.setIfInBounds_toArray, List.set_cons_zero, List.set_cons_succ]
                refine Lex.step_take (.agg #[.int .i64 (y.lv : Nat), .int .i64 (y.nx : Nat), .slice B m2 c2]) oz6 rfl (Lex.want_none rfl) (by intro Wx hSw; (try dsimp only at hSw); go_simp; (try (first | (with_reducible rfl) | assumption | rfl))) ?_
                simp only [Act.put, List.setIfInBounds_toArray, List.set_cons_zero, List.set_cons_succ]
                refine Lex.step_take (.pointer (some ⟨gb, 1, none⟩)) oz7 rfl (Lex.want_none rfl) (by intro Wx hSw; (try dsimp only at hSw); go_simp; (try (first | (with_reducible rfl) | assumption | rfl))) ?_
                simp only [Act.put, List.setIfInBounds_toArray, List.set_cons_zero, List.set_cons_succ]
                refine Lex.step_take (.string fk) oz8 rfl (Lex.want_none rfl) (by intro Wx hSw; (try dsimp only at hSw); go_simp; (try (first | (with_reducible rfl) | assumption | rfl))) ?_
                simp only [Act.put, List.setIfInBounds_toArray, List.set_cons_zero, List.set_cons_succ]
                refine Lex.step_take (.pointer (some ⟨gb, 2, none⟩)) oz9 rfl (Lex.want_none rfl) (by intro Wx hSw; (try dsimp only at hSw); go_simp; (try (first | (with_reducible rfl) | assumption | rfl))) ?_
                simp only [Act.put, List.setIfInBounds_toArray, List.set_cons_zero, List.set_cons_succ]
                refine Lex.step_take (.agg #[.int .i64 ft, .int .i64 fs]) oz10 rfl (Lex.want_none rfl) (by intro Wx hSw; (try dsimp only at hSw); go_simp; (try (first | (with_reducible rfl) | assumption | rfl))) ?_
                simp only [Act.put, List.setIfInBounds_toArray, List.set_cons_zero, List.set_cons_succ]
                refine Lex.step_call oz5 rfl (Lex.want_none rfl) (fun K hK => ?_)
                go_simp
                have hDo := hD
                refine (hcx _ hD.x.hb).mono ?_
                rintro e p1 ⟨A', n', c', rfl, hn', hc', hb', hy⟩
                have hb' := duo_x hDo (Nat.le_refl _) hb'
                have x0 := cell_belowB hy x0
                have x1 := cell_belowB hy x1
                have x2 := cell_belowB hy x2
                have y0 := cell_belowB hy y0
                have y1 := cell_belowB hy y1
                have y2 := cell_belowB hy y2
                have a1 := cell_belowB hy a1
                have a2 := cell_belowB hy a2
                have a3 := cell_belowB hy a3
                have b1 := cell_belowB hy b1
                have b2 := cell_belowB hy b2
                have b3 := cell_belowB hy b3
                have hD := hD.below hy
                clear hy hDo hcx
                refine hK.out _ _ _ (fun _ h => h) (⟨x0, x1, x2, y0, y1, y2, a1, a2, a3, b1, b2, b3⟩) ?_
                clear hK K
                try simp only [Act.put, List.setIfInBounds_toArray, List.set_cons_zero, List.set_cons_succ]
                refine Lex.step_call oz11 rfl (Lex.want_none rfl) (fun K hK => ?_)
                go_simp
                have hDo := hD
                refine (hcy _ hD.y.hb).mono ?_
                rintro e p2 ⟨B', m', d', rfl, hm', hd', hbb, hy⟩
                have hbb := duo_x hDo (Nat.le_refl _) hbb
                have hb' := hb'.below hy (Nat.le_refl _)
                have x0 := cell_belowB hy x0
                have x1 := cell_belowB hy x1
                have x2 := cell_belowB hy x2
                have y0 := cell_belowB hy y0
                have y1 := cell_belowB hy y1
                have y2 := cell_belowB hy y2
                have a1 := cell_belowB hy a1
                have a2 := cell_belowB hy a2
                have a3 := cell_belowB hy a3
                have b1 := cell_belowB hy b1
                have b2 := cell_belowB hy b2
                have b3 := cell_belowB hy b3
                have hD := hD.below hy
                clear hy hDo hcy
                refine hK.out _ _ _ (fun _ h => h) (⟨x0, x1, x2, y0, y1, y2, a1, a2, a3, b1, b2, b3⟩) ?_
                clear hK K
                try simp only [Act.put, List.setIfInBounds_toArray, List.set_cons_zero, List.set_cons_succ]
                refine Lex.tail_two ozr0 ozr1 ozr2 (by rw [ozsize]; decide) ?_
                have xf := hD.x.b.f
                refine Lex.tail_op ozt0 rfl (fun K hK => ?_)
                go_simp
                refine hK.out _ _ ?_
                clear hK K xf x0 x1 x2 y0 y1 y2 a1 a2 a3 b1 b2 b3
                have hbb := hbb.lt.bar (by have := hD.x.b.lt; intro h; exact h.1.1 rfl) (bar3 p2 gx (.int .i64 (x'.lv : Nat)) (.int .i64 (x'.nx : Nat)) (.slice A' n' c'))
                have hD := hD.putX hn' hc' hb'
                generalize (((p2.setCell ⟨gx, 0, none⟩ (.int .i64 (x'.lv : Nat))).setCell ⟨gx, 1, none⟩ (.int .i64 (x'.nx : Nat))).setCell ⟨gx, 2, none⟩ (.slice A' n' c')) = p3 at hD hbb ⊢
                have hbb := hbb.mono (Y := fun b => b ≠ gx ∧ b ≠ gy) (fun _ h => h.1)
                have y0 := hD.y.b.c0
                have y1 := hD.y.b.c1
                have y2 := hD.y.b.c2
                have yf := hD.y.b.f
                refine Lex.tail_op ozt1 rfl (fun K hK => ?_)
                go_simp
                refine hK.out _ _ ?_
                clear hK K y0 y1 y2 yf
                have hD := Lib.hid (hD.putY hm' hd' hbb)
                refine NoPanic.normal ?_
                go_wp2
                go_roundw
                case rel => exact ⟨i + 1, x', y', A', n', c', B', m', d', by omega, by go_num, HXY', hD.out⟩
                case measure => simp [intOf]; omega
              refine Lex.tree_call oy14 (Lex.want_none rfl) (fun K hK => ?_) Lex.tree_no
              go_simp
              have hq_gb := Box4.new wd (.int .i64 0) (.string ⟨#[]⟩) (.int .i64 0) (.int .i64 0) 32
              have hge_gb : N ≤ wd.heap.size := Nat.le_of_eq HN.out.symm
              have hbel := hbel.alloc (Nat.le_of_eq HN.out.symm) (.cells #[.int .i64 0, .string ⟨#[]⟩, .int .i64 0, .int .i64 0] 32)
              generalize wd.alloc (.cells #[.int .i64 0, .string ⟨#[]⟩, .int .i64 0, .int .i64 0] 32) = zgb at hbel hq_gb  ⊢
              generalize wd.heap.size = gb at hge_gb hq_gb  ⊢
              clear d0 d1 d2 d3 e0 e1 e2 e3
              have d0 := cell_belowB2 hbel HC.out.1 HN.out
              have d1 := cell_belowB2 hbel HC.out.2.1 HN.out
              have d2 := cell_belowB2 hbel HC.out.2.2.1 HN.out
              have d3 := cell_belowB2 hbel HC.out.2.2.2.1 HN.out
              have e0 := cell_belowB2 hbel HC.out.2.2.2.2.1 HN.out
              have e1 := cell_belowB2 hbel HC.out.2.2.2.2.2.1 HN.out
              have e2 := cell_belowB2 hbel HC.out.2.2.2.2.2.2.1 HN.out
              have e3 := cell_belowB2 hbel HC.out.2.2.2.2.2.2.2 HN.out
              refine hK.out _ _ _ (fun _ h => h) (⟨d0, d1, d2, d3, e0, e1, e2, e3⟩) ?_
              clear hK K
              try simp only [Act.put, List.setIfInBounds_toArray, List.set_cons_zero, List.set_cons_succ]
              refine Lex.tree_call oy13 (Lex.want_none rfl) (fun K hK => ?_) Lex.tree_no
              go_simp
              have hq_ga := Box4.new zgb (.int .i64 0) (.string ⟨#[]⟩) (.int .i64 0) (.int .i64 0) 32
              have hge_ga : N ≤ zgb.heap.size := by have := hbel.size; have := HN.out; omega
              have hne := hq_gb.lt
              have hq_gb := hq_gb.below ((Below.refl zgb.heap.size zgb).alloc (Nat.le_refl _) (.cells #[.int .i64 0, .string ⟨#[]⟩, .int .i64 0, .int .i64 0] 32)) hne
              have hbel := hbel.alloc (hge_ga) (.cells #[.int .i64 0, .string ⟨#[]⟩, .int .i64 0, .int .i64 0] 32)
              generalize zgb.alloc (.cells #[.int .i64 0, .string ⟨#[]⟩, .int .i64 0, .int .i64 0] 32) = zgagb at hbel hq_ga hq_gb ⊢
              generalize zgb.heap.size = ga at hge_ga hq_ga hne ⊢
              clear d0 d1 d2 d3 e0 e1 e2 e3
              have d0 := cell_belowB2 hbel HC.out.1 HN.out
              have d1 := cell_belowB2 hbel HC.out.2.1 HN.out
              have d2 := cell_belowB2 hbel HC.out.2.2.1 HN.out
              have d3 := cell_belowB2 hbel HC.out.2.2.2.1 HN.out
              have e0 := cell_belowB2 hbel HC.out.2.2.2.2.1 HN.out
              have e1 := cell_belowB2 hbel HC.out.2.2.2.2.2.1 HN.out
              have e2 := cell_belowB2 hbel HC.out.2.2.2.2.2.2.1 HN.out
              have e3 := cell_belowB2 hbel HC.out.2.2.2.2.2.2.2 HN.out
              refine hK.out _ _ _ (fun _ h => h) (⟨d0, d1, d2, d3, e0, e1, e2, e3⟩) ?_
              clear hK K
              try simp only [Act.put, List.setIfInBounds_toArray, List.set_cons_zero, List.set_cons_succ]
              refine Lex.tree_call oy15 (Lex.want_none rfl) (fun K hK => ?_) Lex.tree_no
              have k0 := hq_ga.c0
              have k1 := hq_ga.c1
              have k2 := hq_ga.c2
              have k3 := hq_ga.c3
              have kf := hq_ga.f
              go_simp
              clear k0 k1 k2 k3 kf
              have hq_ga := hq_ga.put (.int .i64 ak) (.string ek) (.int .i64 et) (.int .i64 es)
              have hq_gb := hq_gb.bar (bar4 zgagb ga (.int .i64 ak) (.string ek) (.int .i64 et) (.int .i64 es)) (by omega)
              have hbel := below4 hbel hge_ga (.int .i64 ak) (.string ek) (.int .i64 et) (.int .i64 es)
              generalize ((((zgagb.setCell ⟨ga, 0, none⟩ (.int .i64 ak)).setCell ⟨ga, 1, none⟩ (.string ek)).setCell ⟨ga, 2, none⟩ (.int .i64 et)).setCell ⟨ga, 3, none⟩ (.int .i64 es)) = sgazgagb at hq_ga hq_gb hbel ⊢
              clear d0 d1 d2 d3 e0 e1 e2 e3
              have d0 := cell_belowB2 hbel HC.out.1 HN.out
              have d1 := cell_belowB2 hbel HC.out.2.1 HN.out
              have d2 := cell_belowB2 hbel HC.out.2.2.1 HN.out
              have d3 := cell_belowB2 hbel HC.out.2.2.2.1 HN.out
              have e0 := cell_belowB2 hbel HC.out.2.2.2.2.1 HN.out
              have e1 := cell_belowB2 hbel HC.out.2.2.2.2.2.1 HN.out
              have e2 := cell_belowB2 hbel HC.out.2.2.2.2.2.2.1 HN.out
              have e3 := cell_belowB2 hbel HC.out.2.2.2.2.2.2.2 HN.out
              refine hK.out _ _ _ (fun _ h => h) (⟨d0, d1, d2, d3, e0, e1, e2, e3⟩) ?_
              clear hK K
              try simp only [Act.put, List.setIfInBounds_toArray, List.set_cons_zero, List.set_cons_succ]
              refine Lex.tree_call oy16 (Lex.want_none rfl) (fun K hK => ?_) Lex.tree_no
              have k0 := hq_gb.c0
              have k1 := hq_gb.c1
              have k2 := hq_gb.c2
              have k3 := hq_gb.c3
              have kf := hq_gb.f
              go_simp
              clear k0 k1 k2 k3 kf
              have hq_gb := hq_gb.put (.int .i64 bk) (.string fk) (.int .i64 ft) (.int .i64 fs)
              have hq_ga := hq_ga.bar (bar4 sgazgagb gb (.int .i64 bk) (.string fk) (.int .i64 ft) (.int .i64 fs)) (by omega)
              have hbel := below4 hbel hge_gb (.int .i64 bk) (.string fk) (.int .i64 ft) (.int .i64 fs)
              generalize ((((sgazgagb.setCell ⟨gb, 0, none⟩ (.int .i64 bk)).setCell ⟨gb, 1, none⟩ (.string fk)).setCell ⟨gb, 2, none⟩ (.int .i64 ft)).setCell ⟨gb, 3, none⟩ (.int .i64 fs)) = sgbsgazgagb at hq_ga hq_gb hbel ⊢
              clear d0 d1 d2 d3 e0 e1 e2 e3
              have d0 := cell_belowB2 hbel HC.out.1 HN.out
              have d1 := cell_belowB2 hbel HC.out.2.1 HN.out
              have d2 := cell_belowB2 hbel HC.out.2.2.1 HN.out
              have d3 := cell_belowB2 hbel HC.out.2.2.2.1 HN.out
              have e0 := cell_belowB2 hbel HC.out.2.2.2.2.1 HN.out
              have e1 := cell_belowB2 hbel HC.out.2.2.2.2.2.1 HN.out
              have e2 := cell_belowB2 hbel HC.out.2.2.2.2.2.2.1 HN.out
              have e3 := cell_belowB2 hbel HC.out.2.2.2.2.2.2.2 HN.out
              refine hK.out _ _ _ (fun _ h => h) (⟨d0, d1, d2, d3, e0, e1, e2, e3⟩) ?_
              clear hK K
              try simp only [Act.put, List.setIfInBounds_toArray, List.set_cons_zero, List.set_cons_succ]
              refine Lex.tree_end ?_
              refine NoPanic.normal ?_
              clear d0 d1 d2 d3 e0 e1 e2 e3
              have hD := HD0.out.below (by rw [HN.out]; exact hbel)
              clear hbel
              have x0 := hD.x.b.c0
              have x1 := hD.x.b.c1
              have x2 := hD.x.b.c2
              have y0 := hD.y.b.c0
              have y1 := hD.y.b.c1
              have y2 := hD.y.b.c2
              have a1 := hq_ga.c1
              have a2 := hq_ga.c2
              have a3 := hq_ga.c3
              have b1 := hq_gb.c1
              have b2 := hq_gb.c2
              have b3 := hq_gb.c3
              have hcx := fun W (hW : HasBsX W (fun b => b ≠ gx ∧ b ≠ gy) A x.bs) => put_any (w := W) (fun b => b ≠ gx ∧ b ≠ gy) HIX.out.1 (by omega) hW hD.x.hn hD.x.hc ek et es HIX.out.2.2.1
              have hcy := fun W (hW : HasBsX W (fun b => b ≠ gx ∧ b ≠ gy) B y.bs) => put_any (w := W) (fun b => b ≠ gx ∧ b ≠ gy) HIX.out.2.1 (by omega) hW hD.y.hn hD.y.hc fk ft fs HIX.out.2.2.2
              rw [HXY.out.1] at hcx
              rw [HXY.out.2] at hcy
              go_wp2_with fail
              have hdr := (Below.refl sgbsgazgagb.heap.size sgbsgazgagb).drew
              refine Lex.region_parts (ops := ozraw) (ops1 := ozops) (calls := ozcalls) 12 ozord (fun W => W.cell? ⟨gx, 0, none⟩ = some (.int .i64 (x.lv : Nat)) ∧ W.cell? ⟨gx, 1, none⟩ = some (.int .i64 (x.nx : Nat)) ∧ W.cell? ⟨gx, 2, none⟩ = some (.slice A m c) ∧ W.cell? ⟨gy, 0, none⟩ = some (.int .i64 (y.lv : Nat)) ∧ W.cell? ⟨gy, 1, none⟩ = some (.int .i64 (y.nx : Nat)) ∧ W.cell? ⟨gy, 2, none⟩ = some (.slice B m2 c2) ∧ W.cell? ⟨ga, 1, none⟩ = some (.string ek) ∧ W.cell? ⟨ga, 2, none⟩ = some (.int .i64 et) ∧ W.cell? ⟨ga, 3, none⟩ = some (.int .i64 es) ∧ W.cell? ⟨gb, 1, none⟩ = some (.string fk) ∧ W.cell? ⟨gb, 2, none⟩ = some (.int .i64 ft) ∧ W.cell? ⟨gb, 3, none⟩ = some (.int .i64 fs)) (by kernel_rfl) ozcut (by rw [ozsize]; decide) (by kernel_rfl) (by kernel_rfl) (by kernel_rfl) ozsel (by kernel_rfl) (by kernel_rfl) ozlex (⟨x0, x1, x2, y0, y1, y2, a1, a2, a3, b1, b2, b3⟩) ?_
              unfold ozord
              have x0 := x0
              have x1 := x1
              have x2 := x2
              have y0 := y0
              have y1 := y1
              have y2 := y2
              have a1 := a1
              have a2 := a2
              have a3 := a3
              have b1 := b1
              have b2 := b2
              have b3 := b3
              have hD := hD.below hdr
              clear hdr
              refine Lex.step_take (.agg #[.int .i64 (x.lv : Nat), .int .i64 (x.nx : Nat), .slice A m c]) oz0 rfl (Lex.want_none rfl) (by intro Wx hSw; (try dsimp only at hSw); go_simp; (try (first | (with_reducible rfl) | assumption | rfl))) ?_
              simp only [Act.put, List.setIfInBounds_toArray, List.set_cons_zero, List.set_cons_succ]
              refine Lex.step_take (.pointer (some ⟨ga, 1, none⟩)) oz1 rfl (Lex.want_none rfl) (by intro Wx hSw; (try dsimp only at hSw); go_simp; (try (first | (with_reducible rfl) | assumption | rfl))) ?_
              simp only [Act.put, List.setIfInBounds_toArray, List.set_cons_zero, List.set_cons_succ]
              refine Lex.step_take (.string ek) oz2 rfl (Lex.want_none rfl) (by intro Wx hSw; (try dsimp only at hSw); go_simp; (try (first | (with_reducible rfl) | assumption | rfl))) ?_
              simp only [Act.put, List.setIfInBounds_toArray, List.set_cons_zero, List.set_cons_succ]
              refine Lex.step_take (.pointer (some ⟨ga, 2, none⟩)) oz3 rfl (Lex.want_none rfl) (by intro Wx hSw; (try dsimp only at hSw); go_simp; (try (first | (with_reducible rfl) | assumption | rfl))) ?_
              simp only [Act.put, List.setIfInBounds_toArray, List.set_cons_zero, List.set_cons_succ]
              refine Lex.step_take (.agg #[.int .i64 et, .int .i64 es]) oz4 rfl (Lex.want_none rfl) (by intro Wx hSw; (try dsimp only at hSw); go_simp; (try (first | (with_reducible rfl) | assumption | rfl))) ?_
              simp only [Act.put, List.setIfInBounds_toArray, List.set_cons_zero, List.set_cons_succ]
              refine Lex.step_take (.agg #[.int .i64 (y.lv : Nat), .int .i64 (y.nx : Nat), .slice B m2 c2]) oz6 rfl (Lex.want_none rfl) (by intro Wx hSw; (try dsimp only at hSw); go_simp; (try (first | (with_reducible rfl) | assumption | rfl))) ?_
              simp only [Act.put, List.setIfInBounds_toArray, List.set_cons_zero, List.set_cons_succ]
              refine Lex.step_take (.pointer (some ⟨gb, 1, none⟩)) oz7 rfl (Lex.want_none rfl) (by intro Wx hSw; (try dsimp only at hSw); go_simp; (try (first | (with_reducible rfl) | assumption | rfl))) ?_
              simp only [Act.put, List.setIfInBounds_toArray, List.set_cons_zero, List.set_cons_succ]
              refine Lex.step_take (.string fk) oz8 rfl (Lex.want_none rfl) (by intro Wx hSw; (try dsimp only at hSw); go_simp; (try (first | (with_reducible rfl) | assumption | rfl))) ?_
              simp only [Act.put, List.setIfInBounds_toArray, List.set_cons_zero, List.set_cons_succ]
              refine Lex.step_take (.pointer (some ⟨gb, 2, none⟩)) oz9 rfl (Lex.want_none rfl) (by intro Wx hSw; (try dsimp only at hSw); go_simp; (try (first | (with_reducible rfl) | assumption | rfl))) ?_
              simp only [Act.put, List.setIfInBounds_toArray, List.set_cons_zero, List.set_cons_succ]
              refine Lex.step_take (.agg #[.int .i64 ft, .int .i64 fs]) oz10 rfl (Lex.want_none rfl) (by intro Wx hSw; (try dsimp only at hSw); go_simp; (try (first | (with_reducible rfl) | assumption | rfl))) ?_
              simp only [Act.put, List.setIfInBounds_toArray, List.set_cons_zero, List.set_cons_succ]
              refine Lex.step_call oz5 rfl (Lex.want_none rfl) (fun K hK => ?_)
              go_simp
              have hDo := hD
              refine (hcx _ hD.x.hb).mono ?_
              rintro e p1 ⟨A', n', c', rfl, hn', hc', hb', hy⟩
              have hb' := duo_x hDo (Nat.le_refl _) hb'
              have x0 := cell_belowB hy x0
              have x1 := cell_belowB hy x1
              have x2 := cell_belowB hy x2
              have y0 := cell_belowB hy y0
              have y1 := cell_belowB hy y1
              have y2 := cell_belowB hy y2
              have a1 := cell_belowB hy a1
              have a2 := cell_belowB hy a2
              have a3 := cell_belowB hy a3
              have b1 := cell_belowB hy b1
              have b2 := cell_belowB hy b2
              have b3 := cell_belowB hy b3
              have hD := hD.below hy
              clear hy hDo hcx
              refine hK.out _ _ _ (fun _ h => h) (⟨x0, x1, x2, y0, y1, y2, a1, a2, a3, b1, b2, b3⟩) ?_
              clear hK K
              try simp only [Act.put, List.setIfInBounds_toArray, List.set_cons_zero, List.set_cons_succ]
              refine Lex.step_call oz11 rfl (Lex.want_none rfl) (fun K hK => ?_)
              go_simp
              have hDo := hD
              refine (hcy _ hD.y.hb).mono ?_
              rintro e p2 ⟨B', m', d', rfl, hm', hd', hbb, hy⟩
              have hbb := duo_x hDo (Nat.le_refl _) hbb
              have hb' := hb'.below hy (Nat.le_refl _)
              have x0 := cell_belowB hy x0
              have x1 := cell_belowB hy x1
              have x2 := cell_belowB hy x2
              have y0 := cell_belowB hy y0
              have y1 := cell_belowB hy y1
              have y2 := cell_belowB hy y2
              have a1 := cell_belowB hy a1
              have a2 := cell_belowB hy a2
              have a3 := cell_belowB hy a3
              have b1 := cell_belowB hy b1
              have b2 := cell_belowB hy b2
              have b3 := cell_belowB hy b3
              have hD := hD.below hy
              clear hy hDo hcy
              refine hK.out _ _ _ (fun _ h => h) (⟨x0, x1, x2, y0, y1, y2, a1, a2, a3, b1, b2, b3⟩) ?_
              clear hK K
              try simp only [Act.put, List.setIfInBounds_toArray, List.set_cons_zero, List.set_cons_succ]
              refine Lex.tail_two ozr0 ozr1 ozr2 (by rw [ozsize]; decide) ?_
              have xf := hD.x.b.f
              refine Lex.tail_op ozt0 rfl (fun K hK => ?_)
              go_simp
              refine hK.out _ _ ?_
              clear hK K xf x0 x1 x2 y0 y1 y2 a1 a2 a3 b1 b2 b3
              have hbb := hbb.lt.bar (by have := hD.x.b.lt; intro h; exact h.1.1 rfl) (bar3 p2 gx (.int .i64 (x'.lv : Nat)) (.int .i64 (x'.nx : Nat)) (.slice A' n' c'))
              have hD := hD.putX hn' hc' hb'
              generalize (((p2.setCell ⟨gx, 0, none⟩ (.int .i64 (x'.lv : Nat))).setCell ⟨gx, 1, none⟩ (.int .i64 (x'.nx : Nat))).setCell ⟨gx, 2, none⟩ (.slice A' n' c')) = p3 at hD hbb ⊢
              have hbb := hbb.mono (Y := fun b => b ≠ gx ∧ b ≠ gy) (fun _ h => h.1)
              have y0 := hD.y.b.c0
              have y1 := hD.y.b.c1
              have y2 := hD.y.b.c2
              have yf := hD.y.b.f
              refine Lex.tail_op ozt1 rfl (fun K hK => ?_)
              go_simp
              refine hK.out _ _ ?_
              clear hK K y0 y1 y2 yf
              have hD := Lib.hid (hD.putY hm' hd' hbb)
              refine NoPanic.normal ?_
              go_wp2
              go_roundw
              case rel => exact ⟨i + 1, x', y', A', n', c', B', m', d', by omega, by go_num, HXY', hD.out⟩
              case measure => simp [intOf]; omega
            · obtain rfl : n = i := by omega
              have hfl : l.take n = l := List.take_of_length_le (by rw [HL.out.2]; exact Nat.le_refl _)
              have hfl' : l'.take n = l' := List.take_of_length_le (by rw [HT.out.1]; exact Nat.le_refl _)
              have hxe := hXY.out.1
              have hye := hXY.out.2
              rw [hfl] at hxe
              rw [hfl', ← HE.out, ← hxe] at hye
              have hix : Idx spread x n := by rw [hxe, ← hfl]; exact Idx.puts HS.out.fine n (by rw [HL.out.2]; exact Nat.le_refl _) (by omega)
              have hcn : countH x = n := by rw [hxe, ← hfl]; exact puts_count HS.out.fine HD.out n (by rw [HL.out.2]; exact Nat.le_refl _) (by omega)
              obtain rfl : x = y := hye.symm
              clear hxe hye hfl hfl' hXY
              have hsm := hix.small (by omega)
              have hlen := hix.len
              have hxn := hD.x.hn
              have hyn := hD.y.hn
              have hcs := fun W (hX : HasBs W 0 A x.bs) (hY : HasBs W 0 B x.bs) => refSameH_any (cp := c) (cp2 := c2) (w := W) (x.lv : Nat) (x.nx : Nat) (x.lv : Nat) (x.nx : Nat) 0 0 hX hxn (by omega) (fun r hr => by have := hsm.1 r hr; omega) hY hyn (fun r hr => by have := hsm.1 r hr; omega)
              have hcc := fun W (hX : HasBs W 0 A x.bs) => count_any (w := W) hix (by omega) hX hxn hD.x.hc
              rw [hcn] at hcc
              have HCS := Lib.hid hcs
              have HCC := Lib.hid hcc
              have x0 := hD.x.b.c0
              have x1 := hD.x.b.c1
              have x2 := hD.x.b.c2
              have y0 := hD.y.b.c0
              have y1 := hD.y.b.c1
              have y2 := hD.y.b.c2
              clear hcs hcc hsm hlen hxn hyn hcn hix
              go_wp2_with fail
              refine (awake_any _).mono ?_
              rintro e q1 ⟨rfl, hy⟩
              have hD := hD.below hy
              clear hy
              clear x0 x1 x2 y0 y1 y2
              have x0 := hD.x.b.c0
              have x1 := hD.x.b.c1
              have x2 := hD.x.b.c2
              have y0 := hD.y.b.c0
              have y1 := hD.y.b.c1
              have y2 := hD.y.b.c2
              go_wp2_with fail
              refine (HCS.out _ hD.x.hb.bs hD.y.hb.bs).mono ?_
              rintro e q2 ⟨sb, rfl, hsb, hy⟩
              obtain rfl : sb = true := hsb.2 (by simp)
              have hD := hD.below hy
              clear hsb hy
              clear x0 x1 x2 y0 y1 y2
              have x0 := hD.x.b.c0
              have x1 := hD.x.b.c1
              have x2 := hD.x.b.c2
              have y0 := hD.y.b.c0
              have y1 := hD.y.b.c1
              have y2 := hD.y.b.c2
              go_wp2_with fail
              refine (HCC.out _ hD.x.hb.bs).mono ?_
              rintro e q3 ⟨rfl, hy⟩
              have hB := (hD.below hy).b
              clear hD hy x0 x1 x2 y0 y1 y2
              go_wp2
              go_ret
              exact ⟨rfl, hB⟩
        · have hn0 : ¬ 0 < n := h0
          have z2 : ¬ (0 : Int) < (n : Int) := by omega
          clear hk0 hkn hk hq hlt h0
          go_wp2_with fail
          refine (new_any _).mono ?_
          rintro e w2 ⟨A, n0, cp0, rfl, hnn, hcc, hbs, hy⟩
          have hB2 := hB.trans (hy.mono hB.size)
          clear hB hy
          go_wp2_with fail
          refine (new_any _).mono ?_
          rintro e w3 ⟨B, n1, cp1, rfl, hnn1, hcc1, hbs1, hy⟩
          have hB3 := hB2.trans (hy.mono hB2.size)
          have hbs := hbs.lt.below hy (Nat.le_refl _)
          clear hB2
          obtain ⟨h0, hh0⟩ : ∃ h0, newH = h0 := ⟨_, rfl⟩
          have HH0 := Lib.hid (show h0 = putsA (l.take 0) ∧ h0 = putsA (l'.take 0) by rw [← hh0, List.take_zero, List.take_zero]; exact ⟨rfl, rfl⟩)
          have hD := duo_new hB3 hnn hcc hbs hnn1 hcc1 hbs1
          rw [hh0] at hD
          obtain ⟨gx, hgx⟩ : ∃ gx, w3.heap.size = gx := ⟨_, rfl⟩
          rw [hgx] at hD
          clear hnn hcc hbs hnn1 hcc1 hbs1 hy hB3
          go_wp2
          clear hh0 hgx
          generalize (w3.alloc (.cells #[.int .i64 (h0.lv : Nat), .int .i64 (h0.nx : Nat), .slice A n0 cp0] 27)).alloc (.cells #[.int .i64 (h0.lv : Nat), .int .i64 (h0.nx : Nat), .slice B n1 cp1] 27) = w4 at hD ⊢
          generalize gx + 1 = gy at hD ⊢
          go_loopw [10, 11, 12] (fun s10 _ _ wx => ∃ (i : Nat) (x y : H) (A : Option Addr) (m c : Nat) (B : Option Addr) (m2 c2 : Nat), i ≤ n ∧ s10 = .int .i64 i ∧ Hid (x = putsA (l.take i) ∧ y = putsA (l'.take i)) ∧ Duo w wx gx gy x y A m c B m2 c2) (fun s10 _ _ _ => n - (intOf s10).toNat)
          case atStart => exact ⟨0, h0, h0, A, n0, cp0, B, n1, cp1, Nat.zero_le _, rfl, HH0, hD⟩
          case round =>
            clear hD HH0
            rename World => wx
            obtain ⟨i, x, y, A, m, c, B, m2, c2, hi, rfl, hXY, hD⟩ := hrel
            by_cases hlt : i < n
            · omega
            · obtain rfl : n = i := by omega
              have hfl : l.take n = l := List.take_of_length_le (by rw [HL.out.2]; exact Nat.le_refl _)
              have hfl' : l'.take n = l' := List.take_of_length_le (by rw [HT.out.1]; exact Nat.le_refl _)
              have hxe := hXY.out.1
              have hye := hXY.out.2
              rw [hfl] at hxe
              rw [hfl', ← HE.out, ← hxe] at hye
              have hix : Idx spread x n := by rw [hxe, ← hfl]; exact Idx.puts HS.out.fine n (by rw [HL.out.2]; exact Nat.le_refl _) (by omega)
              have hcn : countH x = n := by rw [hxe, ← hfl]; exact puts_count HS.out.fine HD.out n (by rw [HL.out.2]; exact Nat.le_refl _) (by omega)
              obtain rfl : x = y := hye.symm
              clear hxe hye hfl hfl' hXY
              have hsm := hix.small (by omega)
              have hlen := hix.len
              have hxn := hD.x.hn
              have hyn := hD.y.hn
              have hcs := fun W (hX : HasBs W 0 A x.bs) (hY : HasBs W 0 B x.bs) => refSameH_any (cp := c) (cp2 := c2) (w := W) (x.lv : Nat) (x.nx : Nat) (x.lv : Nat) (x.nx : Nat) 0 0 hX hxn (by omega) (fun r hr => by have := hsm.1 r hr; omega) hY hyn (fun r hr => by have := hsm.1 r hr; omega)
              have hcc := fun W (hX : HasBs W 0 A x.bs) => count_any (w := W) hix (by omega) hX hxn hD.x.hc
              rw [hcn] at hcc
              have HCS := Lib.hid hcs
              have HCC := Lib.hid hcc
              have x0 := hD.x.b.c0
              have x1 := hD.x.b.c1
              have x2 := hD.x.b.c2
              have y0 := hD.y.b.c0
              have y1 := hD.y.b.c1
              have y2 := hD.y.b.c2
              clear hcs hcc hsm hlen hxn hyn hcn hix
              go_wp2_with fail
              refine (awake_any _).mono ?_
              rintro e q1 ⟨rfl, hy⟩
              have hD := hD.below hy
              clear hy
              clear x0 x1 x2 y0 y1 y2
              have x0 := hD.x.b.c0
              have x1 := hD.x.b.c1
              have x2 := hD.x.b.c2
              have y0 := hD.y.b.c0
              have y1 := hD.y.b.c1
              have y2 := hD.y.b.c2
              go_wp2_with fail
              refine (HCS.out _ hD.x.hb.bs hD.y.hb.bs).mono ?_
              rintro e q2 ⟨sb, rfl, hsb, hy⟩
              obtain rfl : sb = true := hsb.2 (by simp)
              have hD := hD.below hy
              clear hsb hy
              clear x0 x1 x2 y0 y1 y2
              have x0 := hD.x.b.c0
              have x1 := hD.x.b.c1
              have x2 := hD.x.b.c2
              have y0 := hD.y.b.c0
              have y1 := hD.y.b.c1
              have y2 := hD.y.b.c2
              go_wp2_with fail
              refine (HCC.out _ hD.x.hb.bs).mono ?_
              rintro e q3 ⟨rfl, hy⟩
              have hB := (hD.below hy).b
              clear hD hy x0 x1 x2 y0 y1 y2
              go_wp2
              go_ret
              exact ⟨rfl, hB⟩
end
end Go.Proofs.Ytocmkjccaajnnaa.Ha
