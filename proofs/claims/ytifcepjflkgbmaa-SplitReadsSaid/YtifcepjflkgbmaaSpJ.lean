/- Two groups as one: the document's, walked. -/
import Derived.Test.YtifcepjflkgbmaaSpI
namespace Go.Proofs.Ytifcepjflkgbmaa.Sp
open Go.RowKit Pac Lex

theorem mrg_nil (a : List Int) : mrg a [] = a := by cases a <;> simp [mrg]
theorem mrg_nil' (b : List Int) : mrg [] b = b := by cases b <;> simp [mrg]
theorem drop_at {g : List Int} {i : Nat} {x : Int} (h : g[i]? = some x) : g.drop i = x :: g.drop (i + 1) := by
  obtain ⟨hi, rfl⟩ := List.getElem?_eq_some_iff.1 h
  rw [List.drop_eq_getElem_cons hi]
theorem mrg_a {M Gs ga gb : List Int} {i k : Nat} {x : Int} (h : M = Gs ++ mrg (ga.drop i) (gb.drop k)) (hx : ga[i]? = some x) (hk : gb.length = k) : M = (Gs ++ [x]) ++ mrg (ga.drop (i + 1)) (gb.drop k) := by
  have e : gb.drop k = [] := List.drop_of_length_le (by omega)
  rw [h, e, mrg_nil, mrg_nil, drop_at hx, List.append_assoc]
  rfl
theorem mrg_b {M Gs ga gb : List Int} {i k : Nat} {y : Int} (h : M = Gs ++ mrg (ga.drop i) (gb.drop k)) (hy : gb[k]? = some y) (hi : ga.length = i) : M = (Gs ++ [y]) ++ mrg (ga.drop i) (gb.drop (k + 1)) := by
  have e : ga.drop i = [] := List.drop_of_length_le (by omega)
  rw [h, e, mrg_nil', mrg_nil', drop_at hy, List.append_assoc]
  rfl
theorem mrg_lt {M Gs ga gb : List Int} {i k : Nat} {x y : Int} (h : M = Gs ++ mrg (ga.drop i) (gb.drop k)) (hx : ga[i]? = some x) (hy : gb[k]? = some y) (hxy : x < y) : M = (Gs ++ [x]) ++ mrg (ga.drop (i + 1)) (gb.drop k) := by
  rw [h, drop_at hx, drop_at hy, List.append_assoc]
  congr 1
  rw [mrg, if_pos hxy]
  rfl
theorem mrg_ge {M Gs ga gb : List Int} {i k : Nat} {x y : Int} (h : M = Gs ++ mrg (ga.drop i) (gb.drop k)) (hx : ga[i]? = some x) (hy : gb[k]? = some y) (hxy : ¬ x < y) : M = (Gs ++ [y]) ++ mrg (ga.drop i) (gb.drop (k + 1)) := by
  rw [h, drop_at hx, drop_at hy, List.append_assoc]
  congr 1
  rw [mrg, if_neg hxy]
  rfl
/-- The first n groups, x replaced, and y left out. -/
def outN (l : List (List Int)) (x y : Nat) (g : List Int) : Nat → List (List Int)
  | 0 => []
  | n + 1 => outN l x y g n ++ (if n = x then [g] else if n = y then [] else match l[n]? with | some k => [k] | none => [])
theorem out_x {l : List (List Int)} {x y : Nat} {g : List Int} : outN l x y g (x + 1) = outN l x y g x ++ [g] := by
  show _ ++ (if x = x then _ else _) = _
  rw [if_pos rfl]
theorem out_y {l : List (List Int)} {x y : Nat} {g : List Int} (h : x < y) : outN l x y g (y + 1) = outN l x y g y := by
  show _ ++ (if y = x then _ else if y = y then _ else _) = _
  rw [if_neg (by omega), if_pos rfl, List.append_nil]
theorem out_n {l : List (List Int)} {x y n : Nat} {g k : List Int} (hx : n ≠ x) (hy : n ≠ y) (hk : l[n]? = some k) : outN l x y g (n + 1) = outN l x y g n ++ [k] := by
  show _ ++ (if n = x then _ else if n = y then _ else _) = _
  rw [if_neg hx, if_neg hy, hk]
/-- Two groups as one. -/
def joinN (l : List (List Int)) (x y : Nat) : List (List Int) := outN l x y (mrg (l[x]?.getD []) (l[y]?.getD [])) l.length
def joinI (l : List (List Int)) (a b : Int) : List (List Int) := if a < 0 ∨ b < 0 ∨ (l.length : Int) ≤ a ∨ (l.length : Int) ≤ b ∨ a = b then l else joinN l (min a b).toNat (max a b).toNat
def JoinPost (lo : Nat) (ls : List (List Int)) (w : World) (e : Ending) (w' : World) : Prop :=
  ∃ A cp, e = .returned (.slice A ls.length cp) ∧ HasLL w' lo A ls ∧ Below w.heap.size w w'
theorem JoinPost.own {lo n : Nat} {ls : List (List Int)} {w w' : World} {sv : Value} {hs : List G} (hlo : lo ≤ w.heap.size) (hown : w'.ownsRow w.heap.size 44 1 sv n (Li.cellsL cellsG hs)) (hn : hs.length = n) (hI : ∀ z ∈ hs, In1 w' lo w.heap.size z) (e : hs.map G.g = ls) (hB : Below w.heap.size w w') : JoinPost lo ls w (.returned sv) w' := by
  obtain ⟨A, cp, h1, _, h2, h3⟩ := LLPost.own hlo hown hn hI e hB
  exact ⟨A, cp, h1, h2, h3⟩
theorem In1.old {w w' : World} {lo c : Nat} {A : Option Addr} {g : List Int} (h : HasI w lo A g) (hc : g.length ≤ c) (hB : Below w.heap.size w w') : In1 w' lo w.heap.size ⟨A, c, g⟩ := by
  refine ⟨h.below hB (Nat.le_refl _), hc, fun b o s e hn => Or.inl ?_⟩
  obtain ⟨b', o', hA, _, hlt, _⟩ := h hn
  have e' : A = some ⟨b, o, s⟩ := e
  rw [hA] at e'
  injection e' with e'
  injection e' with e1 _ _
  omega

theorem cell_below {w w' : World} (h : Below w.heap.size w w') {b i : Nat} {v : Value} (hc : w.cell? ⟨b, i, none⟩ = some v) : w'.cell? ⟨b, i, none⟩ = some v :=
  (h.cell (p := ⟨b, i, none⟩) (World.block_lt_of_cell? w _ hc)).trans hc
set_option maxRecDepth 20000 in
set_option maxHeartbeats 6400000 in
theorem refJoin_any (A1 : Option Addr) (cp1 : Nat) (l1 : List (List Int)) (a b : Int) (lo1 : Nat) (w : World) (h1 : HasLL w lo1 A1 l1) (hl1 : l1.length ≤ 1000000) (hg1 : ∀ g ∈ l1, g.length ≤ 1000000) (hlow : lo1 ≤ w.heap.size) (ha0 : -9223372036854775808 ≤ a) (ha1 : a ≤ 9223372036854775807) (hb0 : -9223372036854775808 ≤ b) (hb1 : b ≤ 9223372036854775807) :
    Calls Try.prog 22 #[.slice A1 l1.length cp1, .int .i64 a, .int .i64 b] w (JoinPost lo1 (joinI l1 a b) w) := by
  obtain ⟨i0, hi, hz0, hz1, hz2⟩ := info_parts infoI
  obtain ⟨i2, hi2, hy0, hy1, hy2⟩ := info_parts infoG
  obtain ⟨m, hm⟩ : ∃ m, l1.length = m := ⟨_, rfl⟩
  have HM := Lib.hid hm
  by_cases hbad : a < 0 ∨ b < 0 ∨ (l1.length : Int) ≤ a ∨ (l1.length : Int) ≤ b ∨ a = b
  · have hP : JoinPost lo1 (joinI l1 a b) w (.returned (.slice A1 l1.length cp1)) w := by
      unfold joinI
      rw [if_pos hbad]
      exact ⟨A1, cp1, rfl, h1, Below.refl _ w⟩
    generalize JoinPost lo1 (joinI l1 a b) w = post at hP ⊢
    rw [hm] at hP hbad hl1 ⊢
    have HP := Lib.hid hP
    clear hP h1 hg1
    go_enter Try.func22, Try.ntmps22
    by_cases q1 : a < 0
    · go_wp2
      exact HP.out
    by_cases q2 : b < 0
    · go_wp2
      exact HP.out
    by_cases q3 : (m : Int) ≤ a
    · go_wp2
      exact HP.out
    by_cases q4 : (m : Int) ≤ b
    · go_wp2
      exact HP.out
    obtain rfl : a = b := by omega
    go_wp2
    exact HP.out
  · have hJ : joinI l1 a b = joinN l1 (min a b).toNat (max a b).toNat := by
      unfold joinI
      rw [if_neg hbad]
    rw [hJ]
    rw [hm] at hbad
    obtain ⟨x, hx⟩ : ∃ x, (min a b).toNat = x := ⟨_, rfl⟩
    obtain ⟨y, hy⟩ : ∃ y, (max a b).toNat = y := ⟨_, rfl⟩
    rw [hx, hy]
    have hxm : x < m := by omega
    have hym : y < m := by omega
    have hxy : x < y := by omega
    have hga : l1[x]? = some (l1[x]'(by omega)) := List.getElem?_eq_getElem _
    have hgb : l1[y]? = some (l1[y]'(by omega)) := List.getElem?_eq_getElem _
    generalize (l1[x]'(by omega)) = ga at hga
    generalize (l1[y]'(by omega)) = gb at hgb
    have hJ2 : joinN l1 x y = outN l1 x y (mrg ga gb) m := by
      unfold joinN
      rw [hga, hgb, hm]
      rfl
    rw [hJ2]
    clear hJ hJ2
    have hPG := fun (w' : World) (sv : Value) (n : Nat) (hs : List G) (hown : w'.ownsRow w.heap.size 44 1 sv n (Li.cellsL cellsG hs)) (hn : hs.length = n) (hI : ∀ z ∈ hs, In1 w' lo1 w.heap.size z) (e : hs.map G.g = outN l1 x y (mrg ga gb) m) (hB : Below w.heap.size w w') => JoinPost.own hlow hown hn hI e hB
    generalize JoinPost lo1 (outN l1 x y (mrg ga gb) m) w = post at hPG ⊢
    have HPG := Lib.hid hPG
    have sa := hg1 ga (List.mem_of_getElem? hga)
    have sb := hg1 gb (List.mem_of_getElem? hgb)
    obtain ⟨p1, hp1⟩ : ∃ p, ga.length = p := ⟨_, rfl⟩
    obtain ⟨p2, hp2⟩ : ∃ p, gb.length = p := ⟨_, rfl⟩
    rw [hp1] at sa
    rw [hp2] at sb
    rw [hm] at hl1 ⊢
    have HPa := Lib.hid hp1
    have HPb := Lib.hid hp2
    have HGa := Lib.hid hga
    have HGb := Lib.hid hgb
    have HA := Lib.hid h1
    have HGG := Lib.hid hg1
    obtain ⟨b1, o1, A3, c3, rfl, hlo1, hlb1, d1, hI1, _⟩ := h1.at hga
    obtain ⟨b2, o2, A4, c4, e4, hlo2, hlb2, d2, hI2, _⟩ := h1.at hgb
    injection e4 with e4
    injection e4 with e4 e4'
    subst e4 e4'
    rw [hp1] at d1
    rw [hp2] at d2
    clear hPG h1 hg1 hga hgb hp1 hp2 hm hI1 hI2 hlo1 hlb1 hlo2 hlb2
    have i1 : (x : Int) < (m : Int) := by omega
    have i0' : (0 : Int) ≤ (x : Int) := by omega
    have i3 : (y : Int) < (m : Int) := by omega
    have i4 : (0 : Int) ≤ (y : Int) := by omega
    by_cases hab : a < b
    · obtain rfl : a = (x : Int) := by omega
      obtain rfl : b = (y : Int) := by omega
      clear hbad hx hy ha0 ha1 hb0 hb1 hab
      go_enter Try.func22, Try.ntmps22
      have hmn : min (x : Int) (y : Int) = (x : Int) := by omega
      have hmx : max (x : Int) (y : Int) = (y : Int) := by omega
      have hne : ((x : Int) == (y : Int)) = false := beq_eq_false_iff_ne.2 (by omega)
      clear d1 d2
      go_wp2
      go_loopw [7, 8, 9] (fun gv iv kv wr => ∃ (i k : Nat) (Gs : List Int) (sv : Value), i ≤ p1 ∧ k ≤ p2 ∧ gv = sv ∧ iv = .int .i64 i ∧ kv = .int .i64 k ∧ wr.ownsRow w.heap.size 3 1 sv (i + k) (Li.cellsL cellsI Gs) ∧ Hid (Gs.length = i + k ∧ mrg ga gb = Gs ++ mrg (ga.drop i) (gb.drop k)) ∧ Below w.heap.size w wr) (fun _ iv kv _ => p1 + p2 - (intOf iv + intOf kv).toNat)
      case atStart => exact ⟨0, 0, [], _, Nat.zero_le _, Nat.zero_le _, rfl, rfl, rfl, World.ownsRow_nil _ _ _ _, Lib.hid ⟨rfl, rfl⟩, Below.refl _ w⟩
      case round =>
        obtain ⟨i, k, Gs, sv, hip, hkp, rfl, rfl, rfl, hown, hT, hB⟩ := hrel
        obtain ⟨b1', o1', A5, c5, e1, hlo1', hlb1', d1, hIa, _⟩ := (HA.out.below hB (Nat.le_refl _)).at HGa.out
        injection e1 with e1
        injection e1 with e1 e1'
        subst e1 e1'
        obtain ⟨b2', o2', A6, c6, e2, hlo2', hlb2', d2, hIb, _⟩ := (HA.out.below hB (Nat.le_refl _)).at HGb.out
        injection e2 with e2
        injection e2 with e2 e2'
        subst e2 e2'
        rw [HPa.out] at d1
        rw [HPb.out] at d2
        clear hlo1' hlb1' hlo2' hlb2'
        by_cases hk : k = p2
        · have kb : ((k : Int) == (p2 : Int)) = true := beq_iff_eq.2 (by omega)
          have kl : decide (k < p2) = false := decide_eq_false (by omega)
          by_cases hi' : i < p1
          · have hxa : ga[i]? = some (ga[i]'(by rw [HPa.out]; exact hi')) := List.getElem?_eq_getElem _
            generalize (ga[i]'(by rw [HPa.out]; exact hi')) = xa at hxa
            obtain ⟨b5, o5, rfl, _, hlb5, f1⟩ := hIa.at hxa
            have HM5 := Lib.hid (mrg_a hT.out.2 hxa (by rw [HPb.out, hk]))
            have j1 : (i : Int) < (p1 : Int) := by omega
            have j0 : (0 : Int) ≤ (i : Int) := by omega
            clear hxa hIa hIb hk
            go_wp2
            go_quiet (fail)
            have hB := hB.trans (below_drewN (Below.refl w.heap.size wr) nq)
            have hown := Li.own_below hown (below_drewN (Below.refl wr.heap.size wr) nq) (Nat.le_refl _)
            have hy := below_drewN (Below.refl wr.heap.size wr) nq
            have d1 := cell_below hy d1
            have d2 := cell_below hy d2
            have f1 := cell_below hy f1
            generalize wr.drewN nq = wx at hB hown d1 d2 f1 ⊢
            clear hy
            have HW := Lib.hid (And.intro (hown.alloc (.cells #[.int .i64 xa] 3)) (And.intro (hB.alloc hB.size (.cells #[.int .i64 xa] 3)) (heap_alloc_new wx (.cells #[.int .i64 xa] 3))))
            clear hown hB
            go_wp2_with (at_builtin; go_must (refine wpList_append_own _ rfl _ _ 44 rfl w.heap.size 3 i0 (.int .i64 0) 1 8 Try.underlying44 hi hz0 hz1 hz2 rfl (by decide) u7 (i + k) (Li.cellsL cellsI Gs) rfl HW.out.1 ⟨wx.heap.size, 0, none⟩ 1 1 [.int .i64 xa] rfl rfl (World.news_of_block HW.out.2.2) (by simp [Value.oneCell']) (by unfold maxLen; omega) (by omega) HW.out.2.1.size ?_))
            intro v5 y5 hown5 hgrow5 _
            obtain ⟨hownW, hbW, hnW⟩ := HW.out
            have hB := hbW.grown hgrow5 hbW.size (fun k hk => (hownW.lt k hk).1)
            clear hownW hbW hnW hgrow5 HW
            go_wp2
            go_roundw
            case rel =>
              refine ⟨(i + 1), k, Gs ++ [xa], _, by omega, by omega, rfl, by go_num, by go_num, ?_, Lib.hid ⟨by rw [List.length_append, hT.out.1]; simp; omega, HM5.out⟩, hB⟩
              rw [Li.cellsL_snoc]
              have e : (i + 1) + k = i + k + 1 := by omega
              rw [e]
              exact hown5
            case measure => simp [intOf]; omega
          · have hie : i = p1 := by omega
            have HM6 : Hid (Gs.length = i + k ∧ mrg ga gb = Gs) := Lib.hid (by
              have h1 := hT.out.1
              have h2 := hT.out.2
              rw [List.drop_of_length_le (by rw [HPa.out]; omega), List.drop_of_length_le (by rw [HPb.out]; omega)] at h2
              exact ⟨h1, by rw [h2, mrg_nil]; exact List.append_nil _⟩)
            obtain ⟨A7, c7, rfl, hc7, hl7⟩ := Li.list_of_own cellsI_len hown HM6.out.1
            have hx7 : In1 wr lo1 w.heap.size ⟨A7, c7, Gs⟩ := In1.of_own hown HM6.out.1 hlow
            obtain ⟨u7, hu7⟩ : ∃ u, i + k = u := ⟨_, rfl⟩
            rw [hu7] at hown ⊢
            have HU7 : Hid (Gs.length = u7 ∧ mrg ga gb = Gs) := Lib.hid ⟨HM6.out.1.trans hu7, HM6.out.2⟩
            have HX7 := Lib.hid hx7
            clear hown hl7 hx7 HM6 hIa hIb hc7
            go_wp2
            clear d1 d2
            go_loopw [10, 11] (fun ov nv wr => ∃ (n q : Nat) (sv : Value) (hs : List G), n ≤ m ∧ q ≤ n ∧ ov = sv ∧ nv = .int .i64 n ∧ wr.ownsRow w.heap.size 44 1 sv q (Li.cellsL cellsG hs) ∧ Hid (hs.length = q ∧ (∀ z ∈ hs, In1 wr lo1 w.heap.size z) ∧ hs.map G.g = outN l1 x y (mrg ga gb) n ∧ In1 wr lo1 w.heap.size ⟨A7, c7, Gs⟩) ∧ Below w.heap.size w wr) (fun _ nv _ => m - (intOf nv).toNat)
            case atStart => exact ⟨0, 0, _, [], Nat.zero_le _, Nat.zero_le _, rfl, rfl, World.ownsRow_nil _ _ _ _, Lib.hid ⟨rfl, fun z hz => by simp at hz, rfl, HX7.out⟩, hB⟩
            case round =>
              clear hB HX7
              obtain ⟨n, q, sv, hs, hnm, hqn, rfl, rfl, hown, hH, hB⟩ := hrel
              by_cases hlt : n < m
              · have n1 : (n : Int) < (m : Int) := by omega
                have n0 : (0 : Int) ≤ (n : Int) := by omega
                by_cases hnx : n = x
                · have hnx' : ((n : Int) == (x : Int)) = true := beq_iff_eq.2 (by omega)
                  have HE : Hid (hs.map G.g ++ [Gs] = outN l1 x y (mrg ga gb) (n + 1)) := Lib.hid (by have h := hH.out.2.2.1; rw [hnx] at h ⊢; rw [out_x, ← h, HU7.out.2])
                  clear hnx
                  have HW := Lib.hid (And.intro (hown.alloc (.cells #[.slice A7 u7 c7] 44)) (And.intro (hB.alloc hB.size (.cells #[.slice A7 u7 c7] 44)) (heap_alloc_new wr (.cells #[.slice A7 u7 c7] 44))))
                  have hya := (Below.refl wr.heap.size wr).alloc (Nat.le_refl _) (.cells #[.slice A7 u7 c7] 44)
                  have HI : Hid ((∀ z ∈ hs, In1 (wr.alloc (.cells #[.slice A7 u7 c7] 44)) lo1 w.heap.size z) ∧ In1 (wr.alloc (.cells #[.slice A7 u7 c7] 44)) lo1 w.heap.size ⟨A7, c7, Gs⟩ ∧ In1 (wr.alloc (.cells #[.slice A7 u7 c7] 44)) lo1 w.heap.size ⟨A7, c7, Gs⟩) := Lib.hid ⟨fun z hz => (hH.out.2.1 z hz).below hya (Nat.le_refl _), (hH.out.2.2.2).below hya (Nat.le_refl _), hH.out.2.2.2.below hya (Nat.le_refl _)⟩
                  clear hown hB hya
                  go_wp2_with (at_builtin; go_must (refine wpList_append_own _ rfl _ _ 22 rfl w.heap.size 44 i2 (.slice none 0 0) 1 24 Try.underlying22 hi2 hy0 hy1 hy2 rfl (by decide) u10 q (Li.cellsL cellsG hs) rfl HW.out.1 ⟨wr.heap.size, 0, none⟩ 1 1 [.slice A7 u7 c7] rfl rfl (World.news_of_block HW.out.2.2) (by simp [Value.oneCell']) (by unfold maxLen; omega) (by omega) HW.out.2.1.size ?_))
                  intro v5 y5 hown5 hgrow5 _
                  obtain ⟨hownW, hbW, hnW⟩ := HW.out
                  have hB := hbW.grown hgrow5 hbW.size (fun k hk => (hownW.lt k hk).1)
                  have hown5 : y5.ownsRow w.heap.size 44 1 v5 (q + 1) (Li.cellsL cellsG hs ++ [.slice A7 (List.length Gs) c7]) := by rw [HU7.out.1]; exact hown5
                  have hP := own_push (x := ⟨A7, c7, Gs⟩) HI.out.1 hownW HI.out.2.1 hown5 hgrow5
                  have HP := Lib.hid (And.intro hP.2 (HI.out.2.2.grown hownW hgrow5))
                  have hown6 := hP.1
                  clear hownW hbW hnW hgrow5 HW hP HI hown5
                  go_wp2
                  go_roundw
                  case rel => exact ⟨n + 1, q + 1, _, hs ++ [⟨A7, c7, Gs⟩], by omega, by omega, rfl, by go_num, hown6, Lib.hid ⟨by rw [List.length_append, hH.out.1]; rfl, HP.out.1, by rw [List.map_append]; exact HE.out, HP.out.2⟩, hB⟩
                  case measure => simp [intOf]; omega
                · by_cases hny : n = y
                  · have hnx' : ((n : Int) == (x : Int)) = false := beq_eq_false_iff_ne.2 (by omega)
                    have hny' : ((n : Int) == (y : Int)) = true := beq_iff_eq.2 (by omega)
                    have HE : Hid (hs.map G.g = outN l1 x y (mrg ga gb) (n + 1)) := Lib.hid (by have h := hH.out.2.2.1; rw [hny] at h ⊢; rw [out_y hxy]; exact h)
                    clear hny hnx
                    go_wp2
                    go_roundw
                    case rel => exact ⟨n + 1, q, _, hs, by omega, by omega, rfl, by go_num, hown, Lib.hid ⟨hH.out.1, hH.out.2.1, HE.out, hH.out.2.2.2⟩, hB⟩
                    case measure => simp [intOf]; omega
                  · have hnx' : ((n : Int) == (x : Int)) = false := beq_eq_false_iff_ne.2 (by omega)
                    have hny' : ((n : Int) == (y : Int)) = false := beq_eq_false_iff_ne.2 (by omega)
                    have hgk : l1[n]? = some (l1[n]'(by rw [HM.out]; exact hlt)) := List.getElem?_eq_getElem _
                    generalize (l1[n]'(by rw [HM.out]; exact hlt)) = gk at hgk
                    obtain ⟨b9, o9, A9, c9, e9, _, _, d9, hI9, hc9⟩ := HA.out.at hgk
                    injection e9 with e9
                    injection e9 with e9 e9'
                    subst e9 e9'
                    have d9 := cell_below hB d9
                    have HE : Hid (hs.map G.g ++ [gk] = outN l1 x y (mrg ga gb) (n + 1)) := Lib.hid (by rw [out_n hnx hny hgk, ← hH.out.2.2.1])
                    have HX9 : Hid (In1 wr lo1 w.heap.size ⟨A9, c9, gk⟩) := Lib.hid (In1.old hI9 hc9 hB)
                    clear hnx hny hgk hI9 hc9
                    have HW := Lib.hid (And.intro (hown.alloc (.cells #[.slice A9 gk.length c9] 44)) (And.intro (hB.alloc hB.size (.cells #[.slice A9 gk.length c9] 44)) (heap_alloc_new wr (.cells #[.slice A9 gk.length c9] 44))))
                    have hya := (Below.refl wr.heap.size wr).alloc (Nat.le_refl _) (.cells #[.slice A9 gk.length c9] 44)
                    have HI : Hid ((∀ z ∈ hs, In1 (wr.alloc (.cells #[.slice A9 gk.length c9] 44)) lo1 w.heap.size z) ∧ In1 (wr.alloc (.cells #[.slice A9 gk.length c9] 44)) lo1 w.heap.size ⟨A9, c9, gk⟩ ∧ In1 (wr.alloc (.cells #[.slice A9 gk.length c9] 44)) lo1 w.heap.size ⟨A7, c7, Gs⟩) := Lib.hid ⟨fun z hz => (hH.out.2.1 z hz).below hya (Nat.le_refl _), (HX9.out).below hya (Nat.le_refl _), hH.out.2.2.2.below hya (Nat.le_refl _)⟩
                    clear hown hB hya
                    go_wp2_with (at_builtin; go_must (refine wpList_append_own _ rfl _ _ 22 rfl w.heap.size 44 i2 (.slice none 0 0) 1 24 Try.underlying22 hi2 hy0 hy1 hy2 rfl (by decide) u10 q (Li.cellsL cellsG hs) rfl HW.out.1 ⟨wr.heap.size, 0, none⟩ 1 1 [.slice A9 gk.length c9] rfl rfl (World.news_of_block HW.out.2.2) (by simp [Value.oneCell']) (by unfold maxLen; omega) (by omega) HW.out.2.1.size ?_))
                    intro v5 y5 hown5 hgrow5 _
                    obtain ⟨hownW, hbW, hnW⟩ := HW.out
                    have hB := hbW.grown hgrow5 hbW.size (fun k hk => (hownW.lt k hk).1)
                    have hown5 : y5.ownsRow w.heap.size 44 1 v5 (q + 1) (Li.cellsL cellsG hs ++ [.slice A9 (List.length gk) c9]) := hown5
                    have hP := own_push (x := ⟨A9, c9, gk⟩) HI.out.1 hownW HI.out.2.1 hown5 hgrow5
                    have HP := Lib.hid (And.intro hP.2 (HI.out.2.2.grown hownW hgrow5))
                    have hown6 := hP.1
                    clear hownW hbW hnW hgrow5 HW hP HI hown5
                    go_wp2
                    go_roundw
                    case rel => exact ⟨n + 1, q + 1, _, hs ++ [⟨A9, c9, gk⟩], by omega, by omega, rfl, by go_num, hown6, Lib.hid ⟨by rw [List.length_append, hH.out.1]; rfl, HP.out.1, by rw [List.map_append]; exact HE.out, HP.out.2⟩, hB⟩
                    case measure => simp [intOf]; omega
              · obtain rfl : n = m := by omega
                have HQ := Lib.hid (HPG.out wr _ q hs hown hH.out.1 hH.out.2.1 hH.out.2.2.1 hB)
                clear hown
                go_wp2
                exact HQ.out
        · have hk' : k < p2 := by omega
          have kb : ((k : Int) == (p2 : Int)) = false := beq_eq_false_iff_ne.2 (by omega)
          have kl : decide (k < p2) = true := decide_eq_true hk'
          have hyb : gb[k]? = some (gb[k]'(by rw [HPb.out]; exact hk')) := List.getElem?_eq_getElem _
          generalize (gb[k]'(by rw [HPb.out]; exact hk')) = yb at hyb
          obtain ⟨b6, o6, rfl, _, hlb6, f2⟩ := hIb.at hyb
          have j3 : (k : Int) < (p2 : Int) := by omega
          have j2 : (0 : Int) ≤ (k : Int) := by omega
          by_cases hi' : i < p1
          · have il : decide (i < p1) = true := decide_eq_true hi'
            have hxa : ga[i]? = some (ga[i]'(by rw [HPa.out]; exact hi')) := List.getElem?_eq_getElem _
            generalize (ga[i]'(by rw [HPa.out]; exact hi')) = xa at hxa
            obtain ⟨b5, o5, rfl, _, hlb5, f1⟩ := hIa.at hxa
            have j1 : (i : Int) < (p1 : Int) := by omega
            have j0 : (0 : Int) ≤ (i : Int) := by omega
            by_cases hxy' : xa < yb
            · have hd : decide (xa < yb) = true := decide_eq_true hxy'
              have HM5 := Lib.hid (mrg_lt hT.out.2 hxa hyb hxy')
              clear hxa hyb hIa hIb hk hxy'
              go_wp2
              go_quiet (fail)
              have hB := hB.trans (below_drewN (Below.refl w.heap.size wr) nq)
              have hown := Li.own_below hown (below_drewN (Below.refl wr.heap.size wr) nq) (Nat.le_refl _)
              have hy := below_drewN (Below.refl wr.heap.size wr) nq
              have d1 := cell_below hy d1
              have d2 := cell_below hy d2
              have f1 := cell_below hy f1
              generalize wr.drewN nq = wx at hB hown d1 d2 f1 ⊢
              clear hy f2
              have HW := Lib.hid (And.intro (hown.alloc (.cells #[.int .i64 xa] 3)) (And.intro (hB.alloc hB.size (.cells #[.int .i64 xa] 3)) (heap_alloc_new wx (.cells #[.int .i64 xa] 3))))
              clear hown hB
              go_wp2_with (at_builtin; go_must (refine wpList_append_own _ rfl _ _ 44 rfl w.heap.size 3 i0 (.int .i64 0) 1 8 Try.underlying44 hi hz0 hz1 hz2 rfl (by decide) u7 (i + k) (Li.cellsL cellsI Gs) rfl HW.out.1 ⟨wx.heap.size, 0, none⟩ 1 1 [.int .i64 xa] rfl rfl (World.news_of_block HW.out.2.2) (by simp [Value.oneCell']) (by unfold maxLen; omega) (by omega) HW.out.2.1.size ?_))
              intro v5 y5 hown5 hgrow5 _
              obtain ⟨hownW, hbW, hnW⟩ := HW.out
              have hB := hbW.grown hgrow5 hbW.size (fun k hk => (hownW.lt k hk).1)
              clear hownW hbW hnW hgrow5 HW
              go_wp2
              go_roundw
              case rel =>
                refine ⟨(i + 1), k, Gs ++ [xa], _, by omega, by omega, rfl, by go_num, by go_num, ?_, Lib.hid ⟨by rw [List.length_append, hT.out.1]; simp; omega, HM5.out⟩, hB⟩
                rw [Li.cellsL_snoc]
                have e : (i + 1) + k = i + k + 1 := by omega
                rw [e]
                exact hown5
              case measure => simp [intOf]; omega
            · have hd : decide (xa < yb) = false := decide_eq_false hxy'
              have HM5 := Lib.hid (mrg_ge hT.out.2 hxa hyb hxy')
              clear hxa hyb hIa hIb hk hxy'
              go_wp2
              go_quiet (fail)
              have hB := hB.trans (below_drewN (Below.refl w.heap.size wr) nq)
              have hown := Li.own_below hown (below_drewN (Below.refl wr.heap.size wr) nq) (Nat.le_refl _)
              have hy := below_drewN (Below.refl wr.heap.size wr) nq
              have d1 := cell_below hy d1
              have d2 := cell_below hy d2
              have f2 := cell_below hy f2
              generalize wr.drewN nq = wx at hB hown d1 d2 f2 ⊢
              clear hy f1
              have HW := Lib.hid (And.intro (hown.alloc (.cells #[.int .i64 yb] 3)) (And.intro (hB.alloc hB.size (.cells #[.int .i64 yb] 3)) (heap_alloc_new wx (.cells #[.int .i64 yb] 3))))
              clear hown hB
              go_wp2_with (at_builtin; go_must (refine wpList_append_own _ rfl _ _ 44 rfl w.heap.size 3 i0 (.int .i64 0) 1 8 Try.underlying44 hi hz0 hz1 hz2 rfl (by decide) u7 (i + k) (Li.cellsL cellsI Gs) rfl HW.out.1 ⟨wx.heap.size, 0, none⟩ 1 1 [.int .i64 yb] rfl rfl (World.news_of_block HW.out.2.2) (by simp [Value.oneCell']) (by unfold maxLen; omega) (by omega) HW.out.2.1.size ?_))
              intro v5 y5 hown5 hgrow5 _
              obtain ⟨hownW, hbW, hnW⟩ := HW.out
              have hB := hbW.grown hgrow5 hbW.size (fun k hk => (hownW.lt k hk).1)
              clear hownW hbW hnW hgrow5 HW
              go_wp2
              go_roundw
              case rel =>
                refine ⟨i, (k + 1), Gs ++ [yb], _, by omega, by omega, rfl, by go_num, by go_num, ?_, Lib.hid ⟨by rw [List.length_append, hT.out.1]; simp; omega, HM5.out⟩, hB⟩
                rw [Li.cellsL_snoc]
                have e : i + (k + 1) = i + k + 1 := by omega
                rw [e]
                exact hown5
              case measure => simp [intOf]; omega
          · have il : decide (i < p1) = false := decide_eq_false hi'
            have HM5 := Lib.hid (mrg_b hT.out.2 hyb (by rw [HPa.out]; omega))
            clear hyb hIa hIb hk
            go_wp2
            go_quiet (fail)
            have hB := hB.trans (below_drewN (Below.refl w.heap.size wr) nq)
            have hown := Li.own_below hown (below_drewN (Below.refl wr.heap.size wr) nq) (Nat.le_refl _)
            have hy := below_drewN (Below.refl wr.heap.size wr) nq
            have d1 := cell_below hy d1
            have d2 := cell_below hy d2
            have f2 := cell_below hy f2
            generalize wr.drewN nq = wx at hB hown d1 d2 f2 ⊢
            clear hy
            have HW := Lib.hid (And.intro (hown.alloc (.cells #[.int .i64 yb] 3)) (And.intro (hB.alloc hB.size (.cells #[.int .i64 yb] 3)) (heap_alloc_new wx (.cells #[.int .i64 yb] 3))))
            clear hown hB
            go_wp2_with (at_builtin; go_must (refine wpList_append_own _ rfl _ _ 44 rfl w.heap.size 3 i0 (.int .i64 0) 1 8 Try.underlying44 hi hz0 hz1 hz2 rfl (by decide) u7 (i + k) (Li.cellsL cellsI Gs) rfl HW.out.1 ⟨wx.heap.size, 0, none⟩ 1 1 [.int .i64 yb] rfl rfl (World.news_of_block HW.out.2.2) (by simp [Value.oneCell']) (by unfold maxLen; omega) (by omega) HW.out.2.1.size ?_))
            intro v5 y5 hown5 hgrow5 _
            obtain ⟨hownW, hbW, hnW⟩ := HW.out
            have hB := hbW.grown hgrow5 hbW.size (fun k hk => (hownW.lt k hk).1)
            clear hownW hbW hnW hgrow5 HW
            go_wp2
            go_roundw
            case rel =>
              refine ⟨i, (k + 1), Gs ++ [yb], _, by omega, by omega, rfl, by go_num, by go_num, ?_, Lib.hid ⟨by rw [List.length_append, hT.out.1]; simp; omega, HM5.out⟩, hB⟩
              rw [Li.cellsL_snoc]
              have e : i + (k + 1) = i + k + 1 := by omega
              rw [e]
              exact hown5
            case measure => simp [intOf]; omega
    · obtain rfl : a = (y : Int) := by omega
      obtain rfl : b = (x : Int) := by omega
      clear hbad hx hy ha0 ha1 hb0 hb1 hab
      go_enter Try.func22, Try.ntmps22
      have hmn : min (y : Int) (x : Int) = (x : Int) := by omega
      have hmx : max (y : Int) (x : Int) = (y : Int) := by omega
      have hne : ((y : Int) == (x : Int)) = false := beq_eq_false_iff_ne.2 (by omega)
      clear d1 d2
      go_wp2
      go_loopw [7, 8, 9] (fun gv iv kv wr => ∃ (i k : Nat) (Gs : List Int) (sv : Value), i ≤ p1 ∧ k ≤ p2 ∧ gv = sv ∧ iv = .int .i64 i ∧ kv = .int .i64 k ∧ wr.ownsRow w.heap.size 3 1 sv (i + k) (Li.cellsL cellsI Gs) ∧ Hid (Gs.length = i + k ∧ mrg ga gb = Gs ++ mrg (ga.drop i) (gb.drop k)) ∧ Below w.heap.size w wr) (fun _ iv kv _ => p1 + p2 - (intOf iv + intOf kv).toNat)
      case atStart => exact ⟨0, 0, [], _, Nat.zero_le _, Nat.zero_le _, rfl, rfl, rfl, World.ownsRow_nil _ _ _ _, Lib.hid ⟨rfl, rfl⟩, Below.refl _ w⟩
      case round =>
        obtain ⟨i, k, Gs, sv, hip, hkp, rfl, rfl, rfl, hown, hT, hB⟩ := hrel
        obtain ⟨b1', o1', A5, c5, e1, hlo1', hlb1', d1, hIa, _⟩ := (HA.out.below hB (Nat.le_refl _)).at HGa.out
        injection e1 with e1
        injection e1 with e1 e1'
        subst e1 e1'
        obtain ⟨b2', o2', A6, c6, e2, hlo2', hlb2', d2, hIb, _⟩ := (HA.out.below hB (Nat.le_refl _)).at HGb.out
        injection e2 with e2
        injection e2 with e2 e2'
        subst e2 e2'
        rw [HPa.out] at d1
        rw [HPb.out] at d2
        clear hlo1' hlb1' hlo2' hlb2'
        by_cases hk : k = p2
        · have kb : ((k : Int) == (p2 : Int)) = true := beq_iff_eq.2 (by omega)
          have kl : decide (k < p2) = false := decide_eq_false (by omega)
          by_cases hi' : i < p1
          · have hxa : ga[i]? = some (ga[i]'(by rw [HPa.out]; exact hi')) := List.getElem?_eq_getElem _
            generalize (ga[i]'(by rw [HPa.out]; exact hi')) = xa at hxa
            obtain ⟨b5, o5, rfl, _, hlb5, f1⟩ := hIa.at hxa
            have HM5 := Lib.hid (mrg_a hT.out.2 hxa (by rw [HPb.out, hk]))
            have j1 : (i : Int) < (p1 : Int) := by omega
            have j0 : (0 : Int) ≤ (i : Int) := by omega
            clear hxa hIa hIb hk
            go_wp2
            go_quiet (fail)
            have hB := hB.trans (below_drewN (Below.refl w.heap.size wr) nq)
            have hown := Li.own_below hown (below_drewN (Below.refl wr.heap.size wr) nq) (Nat.le_refl _)
            have hy := below_drewN (Below.refl wr.heap.size wr) nq
            have d1 := cell_below hy d1
            have d2 := cell_below hy d2
            have f1 := cell_below hy f1
            generalize wr.drewN nq = wx at hB hown d1 d2 f1 ⊢
            clear hy
            have HW := Lib.hid (And.intro (hown.alloc (.cells #[.int .i64 xa] 3)) (And.intro (hB.alloc hB.size (.cells #[.int .i64 xa] 3)) (heap_alloc_new wx (.cells #[.int .i64 xa] 3))))
            clear hown hB
            go_wp2_with (at_builtin; go_must (refine wpList_append_own _ rfl _ _ 44 rfl w.heap.size 3 i0 (.int .i64 0) 1 8 Try.underlying44 hi hz0 hz1 hz2 rfl (by decide) u7 (i + k) (Li.cellsL cellsI Gs) rfl HW.out.1 ⟨wx.heap.size, 0, none⟩ 1 1 [.int .i64 xa] rfl rfl (World.news_of_block HW.out.2.2) (by simp [Value.oneCell']) (by unfold maxLen; omega) (by omega) HW.out.2.1.size ?_))
            intro v5 y5 hown5 hgrow5 _
            obtain ⟨hownW, hbW, hnW⟩ := HW.out
            have hB := hbW.grown hgrow5 hbW.size (fun k hk => (hownW.lt k hk).1)
            clear hownW hbW hnW hgrow5 HW
            go_wp2
            go_roundw
            case rel =>
              refine ⟨(i + 1), k, Gs ++ [xa], _, by omega, by omega, rfl, by go_num, by go_num, ?_, Lib.hid ⟨by rw [List.length_append, hT.out.1]; simp; omega, HM5.out⟩, hB⟩
              rw [Li.cellsL_snoc]
              have e : (i + 1) + k = i + k + 1 := by omega
              rw [e]
              exact hown5
            case measure => simp [intOf]; omega
          · have hie : i = p1 := by omega
            have HM6 : Hid (Gs.length = i + k ∧ mrg ga gb = Gs) := Lib.hid (by
              have h1 := hT.out.1
              have h2 := hT.out.2
              rw [List.drop_of_length_le (by rw [HPa.out]; omega), List.drop_of_length_le (by rw [HPb.out]; omega)] at h2
              exact ⟨h1, by rw [h2, mrg_nil]; exact List.append_nil _⟩)
            obtain ⟨A7, c7, rfl, hc7, hl7⟩ := Li.list_of_own cellsI_len hown HM6.out.1
            have hx7 : In1 wr lo1 w.heap.size ⟨A7, c7, Gs⟩ := In1.of_own hown HM6.out.1 hlow
            obtain ⟨u7, hu7⟩ : ∃ u, i + k = u := ⟨_, rfl⟩
            rw [hu7] at hown ⊢
            have HU7 : Hid (Gs.length = u7 ∧ mrg ga gb = Gs) := Lib.hid ⟨HM6.out.1.trans hu7, HM6.out.2⟩
            have HX7 := Lib.hid hx7
            clear hown hl7 hx7 HM6 hIa hIb hc7
            go_wp2
            clear d1 d2
            go_loopw [10, 11] (fun ov nv wr => ∃ (n q : Nat) (sv : Value) (hs : List G), n ≤ m ∧ q ≤ n ∧ ov = sv ∧ nv = .int .i64 n ∧ wr.ownsRow w.heap.size 44 1 sv q (Li.cellsL cellsG hs) ∧ Hid (hs.length = q ∧ (∀ z ∈ hs, In1 wr lo1 w.heap.size z) ∧ hs.map G.g = outN l1 x y (mrg ga gb) n ∧ In1 wr lo1 w.heap.size ⟨A7, c7, Gs⟩) ∧ Below w.heap.size w wr) (fun _ nv _ => m - (intOf nv).toNat)
            case atStart => exact ⟨0, 0, _, [], Nat.zero_le _, Nat.zero_le _, rfl, rfl, World.ownsRow_nil _ _ _ _, Lib.hid ⟨rfl, fun z hz => by simp at hz, rfl, HX7.out⟩, hB⟩
            case round =>
              clear hB HX7
              obtain ⟨n, q, sv, hs, hnm, hqn, rfl, rfl, hown, hH, hB⟩ := hrel
              by_cases hlt : n < m
              · have n1 : (n : Int) < (m : Int) := by omega
                have n0 : (0 : Int) ≤ (n : Int) := by omega
                by_cases hnx : n = x
                · have hnx' : ((n : Int) == (x : Int)) = true := beq_iff_eq.2 (by omega)
                  have HE : Hid (hs.map G.g ++ [Gs] = outN l1 x y (mrg ga gb) (n + 1)) := Lib.hid (by have h := hH.out.2.2.1; rw [hnx] at h ⊢; rw [out_x, ← h, HU7.out.2])
                  clear hnx
                  have HW := Lib.hid (And.intro (hown.alloc (.cells #[.slice A7 u7 c7] 44)) (And.intro (hB.alloc hB.size (.cells #[.slice A7 u7 c7] 44)) (heap_alloc_new wr (.cells #[.slice A7 u7 c7] 44))))
                  have hya := (Below.refl wr.heap.size wr).alloc (Nat.le_refl _) (.cells #[.slice A7 u7 c7] 44)
                  have HI : Hid ((∀ z ∈ hs, In1 (wr.alloc (.cells #[.slice A7 u7 c7] 44)) lo1 w.heap.size z) ∧ In1 (wr.alloc (.cells #[.slice A7 u7 c7] 44)) lo1 w.heap.size ⟨A7, c7, Gs⟩ ∧ In1 (wr.alloc (.cells #[.slice A7 u7 c7] 44)) lo1 w.heap.size ⟨A7, c7, Gs⟩) := Lib.hid ⟨fun z hz => (hH.out.2.1 z hz).below hya (Nat.le_refl _), (hH.out.2.2.2).below hya (Nat.le_refl _), hH.out.2.2.2.below hya (Nat.le_refl _)⟩
                  clear hown hB hya
                  go_wp2_with (at_builtin; go_must (refine wpList_append_own _ rfl _ _ 22 rfl w.heap.size 44 i2 (.slice none 0 0) 1 24 Try.underlying22 hi2 hy0 hy1 hy2 rfl (by decide) u10 q (Li.cellsL cellsG hs) rfl HW.out.1 ⟨wr.heap.size, 0, none⟩ 1 1 [.slice A7 u7 c7] rfl rfl (World.news_of_block HW.out.2.2) (by simp [Value.oneCell']) (by unfold maxLen; omega) (by omega) HW.out.2.1.size ?_))
                  intro v5 y5 hown5 hgrow5 _
                  obtain ⟨hownW, hbW, hnW⟩ := HW.out
                  have hB := hbW.grown hgrow5 hbW.size (fun k hk => (hownW.lt k hk).1)
                  have hown5 : y5.ownsRow w.heap.size 44 1 v5 (q + 1) (Li.cellsL cellsG hs ++ [.slice A7 (List.length Gs) c7]) := by rw [HU7.out.1]; exact hown5
                  have hP := own_push (x := ⟨A7, c7, Gs⟩) HI.out.1 hownW HI.out.2.1 hown5 hgrow5
                  have HP := Lib.hid (And.intro hP.2 (HI.out.2.2.grown hownW hgrow5))
                  have hown6 := hP.1
                  clear hownW hbW hnW hgrow5 HW hP HI hown5
                  go_wp2
                  go_roundw
                  case rel => exact ⟨n + 1, q + 1, _, hs ++ [⟨A7, c7, Gs⟩], by omega, by omega, rfl, by go_num, hown6, Lib.hid ⟨by rw [List.length_append, hH.out.1]; rfl, HP.out.1, by rw [List.map_append]; exact HE.out, HP.out.2⟩, hB⟩
                  case measure => simp [intOf]; omega
                · by_cases hny : n = y
                  · have hnx' : ((n : Int) == (x : Int)) = false := beq_eq_false_iff_ne.2 (by omega)
                    have hny' : ((n : Int) == (y : Int)) = true := beq_iff_eq.2 (by omega)
                    have HE : Hid (hs.map G.g = outN l1 x y (mrg ga gb) (n + 1)) := Lib.hid (by have h := hH.out.2.2.1; rw [hny] at h ⊢; rw [out_y hxy]; exact h)
                    clear hny hnx
                    go_wp2
                    go_roundw
                    case rel => exact ⟨n + 1, q, _, hs, by omega, by omega, rfl, by go_num, hown, Lib.hid ⟨hH.out.1, hH.out.2.1, HE.out, hH.out.2.2.2⟩, hB⟩
                    case measure => simp [intOf]; omega
                  · have hnx' : ((n : Int) == (x : Int)) = false := beq_eq_false_iff_ne.2 (by omega)
                    have hny' : ((n : Int) == (y : Int)) = false := beq_eq_false_iff_ne.2 (by omega)
                    have hgk : l1[n]? = some (l1[n]'(by rw [HM.out]; exact hlt)) := List.getElem?_eq_getElem _
                    generalize (l1[n]'(by rw [HM.out]; exact hlt)) = gk at hgk
                    obtain ⟨b9, o9, A9, c9, e9, _, _, d9, hI9, hc9⟩ := HA.out.at hgk
                    injection e9 with e9
                    injection e9 with e9 e9'
                    subst e9 e9'
                    have d9 := cell_below hB d9
                    have HE : Hid (hs.map G.g ++ [gk] = outN l1 x y (mrg ga gb) (n + 1)) := Lib.hid (by rw [out_n hnx hny hgk, ← hH.out.2.2.1])
                    have HX9 : Hid (In1 wr lo1 w.heap.size ⟨A9, c9, gk⟩) := Lib.hid (In1.old hI9 hc9 hB)
                    clear hnx hny hgk hI9 hc9
                    have HW := Lib.hid (And.intro (hown.alloc (.cells #[.slice A9 gk.length c9] 44)) (And.intro (hB.alloc hB.size (.cells #[.slice A9 gk.length c9] 44)) (heap_alloc_new wr (.cells #[.slice A9 gk.length c9] 44))))
                    have hya := (Below.refl wr.heap.size wr).alloc (Nat.le_refl _) (.cells #[.slice A9 gk.length c9] 44)
                    have HI : Hid ((∀ z ∈ hs, In1 (wr.alloc (.cells #[.slice A9 gk.length c9] 44)) lo1 w.heap.size z) ∧ In1 (wr.alloc (.cells #[.slice A9 gk.length c9] 44)) lo1 w.heap.size ⟨A9, c9, gk⟩ ∧ In1 (wr.alloc (.cells #[.slice A9 gk.length c9] 44)) lo1 w.heap.size ⟨A7, c7, Gs⟩) := Lib.hid ⟨fun z hz => (hH.out.2.1 z hz).below hya (Nat.le_refl _), (HX9.out).below hya (Nat.le_refl _), hH.out.2.2.2.below hya (Nat.le_refl _)⟩
                    clear hown hB hya
                    go_wp2_with (at_builtin; go_must (refine wpList_append_own _ rfl _ _ 22 rfl w.heap.size 44 i2 (.slice none 0 0) 1 24 Try.underlying22 hi2 hy0 hy1 hy2 rfl (by decide) u10 q (Li.cellsL cellsG hs) rfl HW.out.1 ⟨wr.heap.size, 0, none⟩ 1 1 [.slice A9 gk.length c9] rfl rfl (World.news_of_block HW.out.2.2) (by simp [Value.oneCell']) (by unfold maxLen; omega) (by omega) HW.out.2.1.size ?_))
                    intro v5 y5 hown5 hgrow5 _
                    obtain ⟨hownW, hbW, hnW⟩ := HW.out
                    have hB := hbW.grown hgrow5 hbW.size (fun k hk => (hownW.lt k hk).1)
                    have hown5 : y5.ownsRow w.heap.size 44 1 v5 (q + 1) (Li.cellsL cellsG hs ++ [.slice A9 (List.length gk) c9]) := hown5
                    have hP := own_push (x := ⟨A9, c9, gk⟩) HI.out.1 hownW HI.out.2.1 hown5 hgrow5
                    have HP := Lib.hid (And.intro hP.2 (HI.out.2.2.grown hownW hgrow5))
                    have hown6 := hP.1
                    clear hownW hbW hnW hgrow5 HW hP HI hown5
                    go_wp2
                    go_roundw
                    case rel => exact ⟨n + 1, q + 1, _, hs ++ [⟨A9, c9, gk⟩], by omega, by omega, rfl, by go_num, hown6, Lib.hid ⟨by rw [List.length_append, hH.out.1]; rfl, HP.out.1, by rw [List.map_append]; exact HE.out, HP.out.2⟩, hB⟩
                    case measure => simp [intOf]; omega
              · obtain rfl : n = m := by omega
                have HQ := Lib.hid (HPG.out wr _ q hs hown hH.out.1 hH.out.2.1 hH.out.2.2.1 hB)
                clear hown
                go_wp2
                exact HQ.out
        · have hk' : k < p2 := by omega
          have kb : ((k : Int) == (p2 : Int)) = false := beq_eq_false_iff_ne.2 (by omega)
          have kl : decide (k < p2) = true := decide_eq_true hk'
          have hyb : gb[k]? = some (gb[k]'(by rw [HPb.out]; exact hk')) := List.getElem?_eq_getElem _
          generalize (gb[k]'(by rw [HPb.out]; exact hk')) = yb at hyb
          obtain ⟨b6, o6, rfl, _, hlb6, f2⟩ := hIb.at hyb
          have j3 : (k : Int) < (p2 : Int) := by omega
          have j2 : (0 : Int) ≤ (k : Int) := by omega
          by_cases hi' : i < p1
          · have il : decide (i < p1) = true := decide_eq_true hi'
            have hxa : ga[i]? = some (ga[i]'(by rw [HPa.out]; exact hi')) := List.getElem?_eq_getElem _
            generalize (ga[i]'(by rw [HPa.out]; exact hi')) = xa at hxa
            obtain ⟨b5, o5, rfl, _, hlb5, f1⟩ := hIa.at hxa
            have j1 : (i : Int) < (p1 : Int) := by omega
            have j0 : (0 : Int) ≤ (i : Int) := by omega
            by_cases hxy' : xa < yb
            · have hd : decide (xa < yb) = true := decide_eq_true hxy'
              have HM5 := Lib.hid (mrg_lt hT.out.2 hxa hyb hxy')
              clear hxa hyb hIa hIb hk hxy'
              go_wp2
              go_quiet (fail)
              have hB := hB.trans (below_drewN (Below.refl w.heap.size wr) nq)
              have hown := Li.own_below hown (below_drewN (Below.refl wr.heap.size wr) nq) (Nat.le_refl _)
              have hy := below_drewN (Below.refl wr.heap.size wr) nq
              have d1 := cell_below hy d1
              have d2 := cell_below hy d2
              have f1 := cell_below hy f1
              generalize wr.drewN nq = wx at hB hown d1 d2 f1 ⊢
              clear hy f2
              have HW := Lib.hid (And.intro (hown.alloc (.cells #[.int .i64 xa] 3)) (And.intro (hB.alloc hB.size (.cells #[.int .i64 xa] 3)) (heap_alloc_new wx (.cells #[.int .i64 xa] 3))))
              clear hown hB
              go_wp2_with (at_builtin; go_must (refine wpList_append_own _ rfl _ _ 44 rfl w.heap.size 3 i0 (.int .i64 0) 1 8 Try.underlying44 hi hz0 hz1 hz2 rfl (by decide) u7 (i + k) (Li.cellsL cellsI Gs) rfl HW.out.1 ⟨wx.heap.size, 0, none⟩ 1 1 [.int .i64 xa] rfl rfl (World.news_of_block HW.out.2.2) (by simp [Value.oneCell']) (by unfold maxLen; omega) (by omega) HW.out.2.1.size ?_))
              intro v5 y5 hown5 hgrow5 _
              obtain ⟨hownW, hbW, hnW⟩ := HW.out
              have hB := hbW.grown hgrow5 hbW.size (fun k hk => (hownW.lt k hk).1)
              clear hownW hbW hnW hgrow5 HW
              go_wp2
              go_roundw
              case rel =>
                refine ⟨(i + 1), k, Gs ++ [xa], _, by omega, by omega, rfl, by go_num, by go_num, ?_, Lib.hid ⟨by rw [List.length_append, hT.out.1]; simp; omega, HM5.out⟩, hB⟩
                rw [Li.cellsL_snoc]
                have e : (i + 1) + k = i + k + 1 := by omega
                rw [e]
                exact hown5
              case measure => simp [intOf]; omega
            · have hd : decide (xa < yb) = false := decide_eq_false hxy'
              have HM5 := Lib.hid (mrg_ge hT.out.2 hxa hyb hxy')
              clear hxa hyb hIa hIb hk hxy'
              go_wp2
              go_quiet (fail)
              have hB := hB.trans (below_drewN (Below.refl w.heap.size wr) nq)
              have hown := Li.own_below hown (below_drewN (Below.refl wr.heap.size wr) nq) (Nat.le_refl _)
              have hy := below_drewN (Below.refl wr.heap.size wr) nq
              have d1 := cell_below hy d1
              have d2 := cell_below hy d2
              have f2 := cell_below hy f2
              generalize wr.drewN nq = wx at hB hown d1 d2 f2 ⊢
              clear hy f1
              have HW := Lib.hid (And.intro (hown.alloc (.cells #[.int .i64 yb] 3)) (And.intro (hB.alloc hB.size (.cells #[.int .i64 yb] 3)) (heap_alloc_new wx (.cells #[.int .i64 yb] 3))))
              clear hown hB
              go_wp2_with (at_builtin; go_must (refine wpList_append_own _ rfl _ _ 44 rfl w.heap.size 3 i0 (.int .i64 0) 1 8 Try.underlying44 hi hz0 hz1 hz2 rfl (by decide) u7 (i + k) (Li.cellsL cellsI Gs) rfl HW.out.1 ⟨wx.heap.size, 0, none⟩ 1 1 [.int .i64 yb] rfl rfl (World.news_of_block HW.out.2.2) (by simp [Value.oneCell']) (by unfold maxLen; omega) (by omega) HW.out.2.1.size ?_))
              intro v5 y5 hown5 hgrow5 _
              obtain ⟨hownW, hbW, hnW⟩ := HW.out
              have hB := hbW.grown hgrow5 hbW.size (fun k hk => (hownW.lt k hk).1)
              clear hownW hbW hnW hgrow5 HW
              go_wp2
              go_roundw
              case rel =>
                refine ⟨i, (k + 1), Gs ++ [yb], _, by omega, by omega, rfl, by go_num, by go_num, ?_, Lib.hid ⟨by rw [List.length_append, hT.out.1]; simp; omega, HM5.out⟩, hB⟩
                rw [Li.cellsL_snoc]
                have e : i + (k + 1) = i + k + 1 := by omega
                rw [e]
                exact hown5
              case measure => simp [intOf]; omega
          · have il : decide (i < p1) = false := decide_eq_false hi'
            have HM5 := Lib.hid (mrg_b hT.out.2 hyb (by rw [HPa.out]; omega))
            clear hyb hIa hIb hk
            go_wp2
            go_quiet (fail)
            have hB := hB.trans (below_drewN (Below.refl w.heap.size wr) nq)
            have hown := Li.own_below hown (below_drewN (Below.refl wr.heap.size wr) nq) (Nat.le_refl _)
            have hy := below_drewN (Below.refl wr.heap.size wr) nq
            have d1 := cell_below hy d1
            have d2 := cell_below hy d2
            have f2 := cell_below hy f2
            generalize wr.drewN nq = wx at hB hown d1 d2 f2 ⊢
            clear hy
            have HW := Lib.hid (And.intro (hown.alloc (.cells #[.int .i64 yb] 3)) (And.intro (hB.alloc hB.size (.cells #[.int .i64 yb] 3)) (heap_alloc_new wx (.cells #[.int .i64 yb] 3))))
            clear hown hB
            go_wp2_with (at_builtin; go_must (refine wpList_append_own _ rfl _ _ 44 rfl w.heap.size 3 i0 (.int .i64 0) 1 8 Try.underlying44 hi hz0 hz1 hz2 rfl (by decide) u7 (i + k) (Li.cellsL cellsI Gs) rfl HW.out.1 ⟨wx.heap.size, 0, none⟩ 1 1 [.int .i64 yb] rfl rfl (World.news_of_block HW.out.2.2) (by simp [Value.oneCell']) (by unfold maxLen; omega) (by omega) HW.out.2.1.size ?_))
            intro v5 y5 hown5 hgrow5 _
            obtain ⟨hownW, hbW, hnW⟩ := HW.out
            have hB := hbW.grown hgrow5 hbW.size (fun k hk => (hownW.lt k hk).1)
            clear hownW hbW hnW hgrow5 HW
            go_wp2
            go_roundw
            case rel =>
              refine ⟨i, (k + 1), Gs ++ [yb], _, by omega, by omega, rfl, by go_num, by go_num, ?_, Lib.hid ⟨by rw [List.length_append, hT.out.1]; simp; omega, HM5.out⟩, hB⟩
              rw [Li.cellsL_snoc]
              have e : i + (k + 1) = i + k + 1 := by omega
              rw [e]
              exact hown5
            case measure => simp [intOf]; omega
end Go.Proofs.Ytifcepjflkgbmaa.Sp
