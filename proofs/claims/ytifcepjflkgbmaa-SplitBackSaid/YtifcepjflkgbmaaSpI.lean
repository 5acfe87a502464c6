/- The next split of any bytes: the document's, walked. -/
import Derived.Test.YtifcepjflkgbmaaSpH
namespace Go.Proofs.Ytifcepjflkgbmaa.Sp
open Go.RowKit Pac Lex

theorem bar_grown {g : Nat} {a w w' : World} {row : Option Nat} (h : Bar g a w) (hg : w.grownBy w' row) (hr : ∀ k, row = some k → a.heap.size ≤ k) : Bar g a w' :=
  ⟨hg.os.trans h.os, hg.tape.trans h.tape, hg.output.trans h.output, Nat.le_trans h.size hg.size, fun k hk hne => (hg.block k (Nat.lt_of_lt_of_le hk h.size) (fun e => by have := hr k e.symm; omega)).trans (h.block k hk hne)⟩
theorem bar_new {g : Nat} {a w : World} (h : Bar g a w) (o : Obj) : Bar g a (w.alloc o) := h.trans (Bar.of_below g ((Below.refl w.heap.size w).alloc (Nat.le_refl _) o) (Nat.le_refl _))
theorem box_grown {g : Nat} {w w' : World} {v0 v1 : Value} {row : Option Nat} (h : Box2 w g v0 v1) (hg : w.grownBy w' row) (hr : ∀ k, row = some k → g < k) : Box2 w' g v0 v1 := by
  have hne : some g ≠ row := fun e => by have := hr g e.symm; omega
  exact ⟨hg.cell h.c0 hne, hg.cell h.c1 hne, fun i => (World.frozen?_of_block (hg.block g h.lt hne)).trans (h.f i)⟩
theorem In1.bar {w w' : World} {lo base g : Nat} {x : G} (h : In1 w lo base x) (hb : Bar g w w') (hg : g < lo) : In1 w' lo base x := by
  refine ⟨h.has.bar hb (Or.inl hg), h.cap, fun b o s e hn => ?_⟩
  rcases h.tag b o s e hn with h1 | ⟨cs, fr, h1⟩
  · exact Or.inl h1
  · have hlt : b < w.heap.size := (Array.getElem?_eq_some_iff.1 h1).1
    obtain ⟨b', o', hA, hlo, _, _⟩ := h.has hn
    rw [e] at hA
    injection hA with hA
    injection hA with e1 _ _
    exact Or.inr ⟨cs, fr, (hb.block b hlt (by omega)).trans h1⟩
theorem In1.of_own {w : World} {lo b0 base u c : Nat} {A : Option Addr} {Gs : List Int} (h : w.ownsRow b0 3 1 (.slice A u c) u (Li.cellsL cellsI Gs)) (hu : Gs.length = u) (hlo : lo ≤ b0) : In1 w lo base ⟨A, c, Gs⟩ := by
  obtain ⟨A', c', e, hc, hl⟩ := Li.list_of_own cellsI_len h hu
  injection e with e1 e2 e3
  subst e1 e3
  refine ⟨hl.lower hlo, by show Gs.length ≤ c; omega, fun b o s e hn => Or.inr ?_⟩
  rcases h.2 with ⟨_, h0⟩ | ⟨g, cap, cur, e4, _, hg, _⟩
  · exact absurd (List.eq_nil_of_length_eq_zero (by rw [hu]; exact h0)) hn
  · injection e4 with e4
    have e' : A = some ⟨b, o, s⟩ := e
    rw [e'] at e4
    injection e4 with e4
    injection e4 with e4
    subst e4
    exact ⟨_, _, hg⟩
theorem gs_next {X : List (List Int) × ByteArray × Bool} {L : List (List Int)} {k : Nat} {S S1 : ByteArray} {D1 : Bool} {Gs : List Int} (hJ : X = (L ++ (readGs (k + 1) S false).1, (readGs (k + 1) S false).2)) (hG : readG S false = (Gs, S1, D1)) : X = ((L ++ [Gs]) ++ (readGs k S1 D1).1, (readGs k S1 D1).2) := by
  have e : readGs (k + 1) S false = ((readG S false).1 :: (readGs k (readG S false).2.1 (readG S false).2.2).1, (readGs k (readG S false).2.1 (readG S false).2.2).2) := by
    show (if false = true then _ else _) = _
    rw [if_neg (by simp)]
  rw [e, hG] at hJ
  rw [hJ, List.append_assoc]
  rfl
theorem gs_end {k : Nat} {S : ByteArray} {D : Bool} (h : k = 0 ∨ D = true) : readGs k S D = ([], S, D) := by
  cases k with
  | zero => rfl
  | succ k =>
    obtain rfl : D = true := by
      rcases h with h | h
      · cases h
      · exact h
    show (if true = true then _ else _) = _
    rw [if_pos rfl]
theorem ns_next {X : List Int × ByteArray × Bool} {L : List Int} {k : Nat} {S : ByteArray} (hJ : X = (L ++ (readNs (k + 1) S false).1, (readNs (k + 1) S false).2)) : X = ((L ++ [numR S false]) ++ (readNs k (numS S false) (numBad S false)).1, (readNs k (numS S false) (numBad S false)).2) := by
  have e : readNs (k + 1) S false = (numR S false :: (readNs k (numS S false) (numBad S false)).1, (readNs k (numS S false) (numBad S false)).2) := by
    show (if false = true then _ else _) = _
    rw [if_neg (by simp)]
  rw [e] at hJ
  rw [hJ, List.append_assoc]
  rfl
theorem ns_end {k : Nat} {S : ByteArray} {D : Bool} (h : k = 0 ∨ D = true) : readNs k S D = ([], S, D) := by
  cases k with
  | zero => rfl
  | succ k =>
    obtain rfl : D = true := by
      rcases h with h | h
      · cases h
      · exact h
    show (if true = true then _ else _) = _
    rw [if_pos rfl]
theorem btw08 (s : ByteArray) (d : Bool) : ∃ k : Nat, btwR s d 0 8 = (k : Int) ∧ k ≤ 8 := by
  unfold btwR
  by_cases h : btwBad s d 0 8 = true
  · rw [if_pos h]
    exact ⟨0, rfl, by omega⟩
  · rw [if_neg h]
    unfold btwBad at h
    simp at h
    exact ⟨(numR s d).toNat, by omega, by omega⟩
def ReadPost (g : Nat) (X : List (List Int) × ByteArray × Bool) (w : World) (e : Ending) (w' : World) : Prop :=
  ∃ A cp, e = .returned (.slice A X.1.length cp) ∧ X.1.length ≤ cp ∧ HasLL w' w.heap.size A X.1 ∧ IsBox w' g X.2.1 X.2.2 ∧ Bar g w w'
theorem ReadPost.bad {g : Nat} {s : ByteArray} {bad : Bool} {cols : Int} {L : List (List Int)} {S : ByteArray} {D : Bool} {w w' : World} (hX : seenSp s bad = (L, S, D)) (h : D = true ∨ rightSp L cols = false) (hb : IsBox w' g S true) (hB : Bar g w w') : ReadPost g (readSp s bad cols) w (.returned (.slice none 0 0)) w' := by
  have e : readSp s bad cols = ([], S, true) := by
    unfold readSp
    rw [hX, if_neg]
    rintro ⟨h1, n, rfl, h2⟩
    rcases h with h | h
    · rw [h] at h1
      cases h1
    · have h3 := (rightSp_nat (l := L) (n := n)).1 h2
      rw [h] at h3
      cases h3
  rw [e]
  exact ⟨none, 0, rfl, Nat.le_refl _, HasLL.nil _ _ _, hb, hB⟩
open Classical in
theorem ReadPost.good {g : Nat} {s : ByteArray} {bad : Bool} {cols : Int} {L : List (List Int)} {S : ByteArray} {w w' : World} {A : Option Addr} {cp : Nat} (hX : seenSp s bad = (L, S, false)) (h : rightSp L cols = true) (hc : L.length ≤ cp) (hl : HasLL w' w.heap.size A L) (hb : IsBox w' g S false) (hB : Bar g w w') : ReadPost g (readSp s bad cols) w (.returned (.slice A L.length cp)) w' := by
  have e : readSp s bad cols = (L, S, false) := by
    unfold readSp
    rw [hX, if_pos]
    refine ⟨rfl, ?_⟩
    unfold rightSp at h
    exact of_decide_eq_true h
  rw [e]
  exact ⟨A, cp, rfl, hc, hl, hb, hB⟩

set_option maxRecDepth 20000 in
set_option maxHeartbeats 6400000 in
theorem refRead_any (g : Nat) (s : ByteArray) (bad : Bool) (cols : Int) (w : World) (hb : IsBox w g s bad) (hs : s.size ≤ 9223372036854775807) (hc0 : -9223372036854775808 ≤ cols) (hc1 : cols ≤ 9223372036854775807) :
    Calls Try.prog 24 #[.pointer (some ⟨g, 0, none⟩), .int .i64 cols] w (ReadPost g (readSp s bad cols) w) := by
  obtain ⟨i0, hi, hz0, hz1, hz2⟩ := info_parts infoI
  obtain ⟨i2, hi2, hy0, hy1, hy2⟩ := info_parts infoG
  obtain ⟨X, hX0⟩ : ∃ X, seenSp s bad = X := ⟨_, rfl⟩
  have HX0 := Lib.hid hX0
  obtain ⟨post, hpe⟩ : ∃ post, ReadPost g (readSp s bad cols) w = post := ⟨_, rfl⟩
  have HPE := Lib.hid hpe
  rw [hpe]
  have hgw := hb.lt
  obtain ⟨k0, hk0, hk8⟩ := btw08 s bad
  have hJ0 : X = ([] ++ (readGs k0 (numS s bad) (btwBad s bad 0 8)).1, (readGs k0 (numS s bad) (btwBad s bad 0 8)).2) := by
    rw [← hX0]
    unfold seenSp
    rw [hk0, Int.toNat_natCast]
    rfl
  have hcB := refBetween_any g s bad 0 8 w hb hs
  rw [hk0] at hcB
  have hs1 : (numS s bad).size ≤ 9223372036854775807 := Nat.le_trans (numS_size s bad) hs
  clear hpe hX0 hk0
  generalize numS s bad = S0 at hJ0 hcB hs1
  generalize btwBad s bad 0 8 = D0 at hJ0 hcB
  have HJ0 := Lib.hid hJ0
  clear hJ0
  go_enter Try.func24, Try.ntmps24
  go_wp2_with fail
  refine hcB.mono ?_
  rintro e w1 ⟨rfl, hbx, hB⟩
  clear hcB
  go_wp2
  go_loopw [5, 6] (fun x i wr => ∃ (k : Nat) (S : ByteArray) (D : Bool) (L : List (List Int)) (q : Nat) (sv : Value) (hs : List G), k + q ≤ 8 ∧ i = .int .i64 k ∧ x = sv ∧ wr.ownsRow w.heap.size 44 1 sv q (Li.cellsL cellsG hs) ∧ IsBox wr g S D ∧ S.size ≤ 9223372036854775807 ∧ Hid (hs.length = q ∧ (∀ z ∈ hs, In1 wr w.heap.size w.heap.size z ∧ z.g.length ≤ 8) ∧ hs.map G.g = L ∧ X = (L ++ (readGs k S D).1, (readGs k S D).2)) ∧ Bar g w wr) (fun _ i _ => (intOf i).toNat)
  case atStart => exact ⟨k0, S0, D0, [], 0, _, [], by omega, rfl, rfl, World.ownsRow_nil _ _ _ _, hbx, hs1, Lib.hid ⟨rfl, fun z hz => by simp at hz, rfl, HJ0.out⟩, hB⟩
  case round =>
    clear hbx hB hs1
    obtain ⟨k, S, D, L, q, sv, hs, hkq, rfl, rfl, hown, hbx, hS, hH, hB⟩ := hrel
    have hgs := hB.size
    cases D
    · by_cases hk : k = 0
      · subst hk
        have hXe : X = (L, S, false) := by rw [hH.out.2.2.2, gs_end (Or.inl rfl)]; simp
        have hmap := hH.out.2.2.1
        have hlen := hH.out.1
        obtain ⟨A, c, rfl, hcc, hl⟩ := Li.list_of_own cellsG_len hown hlen
        have hLL : HasLL wr w.heap.size A L := ⟨hs, hmap, hl, fun x hx => ⟨(hH.out.2.1 x hx).1.has, (hH.out.2.1 x hx).1.cap⟩⟩
        have hLq : L.length = q := by rw [← hmap, List.length_map, hlen]
        have hcR := refRight_any A c L cols w.heap.size wr hLL (by omega) (fun g' hg' => by
          rw [← hmap] at hg'
          obtain ⟨z, hz, rfl⟩ := List.mem_map.1 hg'
          have := (hH.out.2.1 z hz).2
          omega) hc0 hc1
        rw [hLq] at hcR
        have HG := Lib.hid (fun (w' : World) (h : rightSp L cols = true) (hl : HasLL w' w.heap.size A L) => ReadPost.good (g := g) (w := w) (w' := w') (HX0.out.trans hXe) h (by rw [hLq]; exact hcc) hl)
        have HF := Lib.hid (fun (w' : World) (h : rightSp L cols = false) => ReadPost.bad (g := g) (cols := cols) (w := w) (w' := w') (HX0.out.trans hXe) (Or.inr h))
        rw [HPE.out] at HG HF
        rw [hLq] at HG
        have HLL := Lib.hid hLL
        generalize rightSp L cols = r at hcR HG HF
        have c1 := hbx.c1
        clear hown hl hLL hXe hmap hlen
        go_wp2_with fail
        refine hcR.mono ?_
        rintro e w2 ⟨rfl, hw2⟩
        have hbx := hbx.below hw2 hbx.lt
        have hB := hB.trans (Bar.of_below g hw2 (Nat.le_refl _))
        have HLL := Lib.hid (HLL.out.below hw2 (Nat.le_refl _))
        clear hw2 hcR c1
        cases r
        · have c1 := hbx.c1
          have f1 := hbx.f 1
          have HS1 := Lib.hid (hbx.set1 (.bool true))
          have HB1 := Lib.hid (hB.setCell 1 (.bool true))
          clear hbx
          go_wp2
          exact HF.out _ (by simp) HS1.out HB1.out
        · go_wp2
          exact HG.out _ (by simp) HLL.out hbx hB
      · obtain ⟨k', rfl⟩ : ∃ k', k = k' + 1 := ⟨k - 1, by omega⟩
        have c1 := hbx.c1
        have hcB := refBetween_any g S false 0 8 wr hbx hS
        obtain ⟨j0, hj0, hj8⟩ := btw08 S false
        have hG0 : readG S false = ([] ++ (readNs j0 (numS S false) (btwBad S false 0 8)).1, (readNs j0 (numS S false) (btwBad S false 0 8)).2) := by
          unfold readG
          rw [hj0, Int.toNat_natCast]
          rfl
        rw [hj0] at hcB
        have hs1 : (numS S false).size ≤ 9223372036854775807 := Nat.le_trans (numS_size S false) hS
        clear hj0
        generalize numS S false = S1 at hG0 hcB hs1
        generalize btwBad S false 0 8 = D1 at hG0 hcB
        have HG0 := Lib.hid hG0
        have HOW := Lib.hid hown
        clear hG0 hown
        go_wp2_with fail
        refine hcB.mono ?_
        rintro e ws ⟨rfl, hbx, hBs⟩
        have HOW := Lib.hid (Li.own_bar HOW.out hBs hgw)
        have HIN : Hid (∀ z ∈ hs, In1 ws w.heap.size w.heap.size z ∧ z.g.length ≤ 8) := Lib.hid (fun z hz => ⟨(hH.out.2.1 z hz).1.bar hBs hgw, (hH.out.2.1 z hz).2⟩)
        have hB := hB.trans hBs
        have hgs := hB.size
        clear hcB hBs c1
        go_wp2
        go_loopw [7, 8] (fun x i wr => ∃ (j : Nat) (S1 : ByteArray) (D1 : Bool) (Gs : List Int) (u : Nat) (sv1 : Value), j + u ≤ 8 ∧ i = .int .i64 j ∧ x = sv1 ∧ wr.ownsRow ws.heap.size 3 1 sv1 u (Li.cellsL cellsI Gs) ∧ IsBox wr g S1 D1 ∧ S1.size ≤ 9223372036854775807 ∧ Hid (Gs.length = u ∧ readG S false = (Gs ++ (readNs j S1 D1).1, (readNs j S1 D1).2)) ∧ Bar g ws wr) (fun _ i _ => (intOf i).toNat)
        case atStart => exact ⟨j0, S1, D1, [], 0, _, by omega, rfl, rfl, World.ownsRow_nil _ _ _ _, hbx, hs1, Lib.hid ⟨rfl, HG0.out⟩, Bar.refl _ _⟩
        case round =>
          clear hbx hs1
          obtain ⟨j, S1, D1, Gs, u, sv1, hju, rfl, rfl, hown, hbx, hS1, hT, hBw⟩ := hrel
          have hgw2 := hBw.size
          by_cases hgo : 0 < j ∧ D1 = false
          · obtain ⟨hj, rfl⟩ := hgo
            obtain ⟨j', rfl⟩ : ∃ j', j = j' + 1 := ⟨j - 1, by omega⟩
            have c1 := hbx.c1
            have hcN := refBoxNum_any g S1 false wr hbx hS1
            have hs2 : (numS S1 false).size ≤ 9223372036854775807 := Nat.le_trans (numS_size S1 false) hS1
            have hT2 := ns_next hT.out.2
            generalize numR S1 false = n1 at hcN hT2
            generalize numS S1 false = S2 at hcN hs2 hT2
            generalize numBad S1 false = D2 at hcN hT2
            have HT2 := Lib.hid hT2
            have HO2 := Lib.hid hown
            clear hT2 hown
            go_wp2_with fail
            refine hcN.mono ?_
            rintro e w3 ⟨rfl, hbx, hBn⟩
            have hown := Li.own_bar HO2.out hBn (by omega)
            have hBw := hBw.trans hBn
            have hsz := hBw.size
            have HW := Lib.hid (And.intro (hown.alloc (.cells #[.int .i64 n1] 3)) (And.intro (bar_new hBw (.cells #[.int .i64 n1] 3)) (And.intro (heap_alloc_new w3 (.cells #[.int .i64 n1] 3)) (hbx.alloc (.cells #[.int .i64 n1] 3)))))
            clear hown hBw hBn hcN c1 HO2 hbx
            go_wp2_with (at_builtin; go_must (refine wpList_append_own _ rfl _ _ 44 rfl ws.heap.size 3 i0 (.int .i64 0) 1 8 Try.underlying44 hi hz0 hz1 hz2 rfl (by decide) u7 u (Li.cellsL cellsI Gs) rfl HW.out.1 ⟨w3.heap.size, 0, none⟩ 1 1 [.int .i64 n1] rfl rfl (World.news_of_block HW.out.2.2.1) (by simp [Value.oneCell']) (by unfold maxLen; omega) (by omega) HW.out.2.1.size ?_))
            intro v5 y5 hown5 hgrow5 _
            obtain ⟨hownW, hbW, hnW, hxW⟩ := HW.out
            have hBw := bar_grown hbW hgrow5 (fun k hk => (hownW.lt k hk).1)
            have hbx := box_grown hxW hgrow5 (fun k hk => by have := (hownW.lt k hk).1; omega)
            clear hownW hbW hnW hxW hgrow5 HW
            go_wp2
            go_roundw
            case rel =>
              refine ⟨j', S2, D2, Gs ++ [n1], u + 1, _, by omega, by go_num, rfl, ?_, hbx, hs2, Lib.hid ⟨by rw [List.length_append, hT.out.1]; rfl, HT2.out⟩, hBw⟩
              rw [Li.cellsL_snoc]
              exact hown5
            case measure => simp [intOf]
          · have hGe : readG S false = (Gs, S1, D1) := by
              rw [hT.out.2, ns_end (by cases D1 <;> simp_all)]
              simp
            have HXN := Lib.hid (gs_next hH.out.2.2.2 hGe)
            have hu := hT.out.1
            obtain ⟨A, c, rfl, hcc, hl⟩ := Li.list_of_own cellsI_len hown hu
            have hx1 : In1 wr w.heap.size w.heap.size ⟨A, c, Gs⟩ := In1.of_own hown hu hgs
            have hO2 := Li.own_bar HOW.out hBw hgw
            have hI2 : ∀ z ∈ hs, In1 wr w.heap.size w.heap.size z := fun z hz => (HIN.out z hz).1.bar hBw hgw
            have hy := (Below.refl wr.heap.size wr).alloc (Nat.le_refl _) (.cells #[.slice A u c] 44)
            have HI : Hid ((∀ z ∈ hs, In1 (wr.alloc (.cells #[.slice A u c] 44)) w.heap.size w.heap.size z) ∧ In1 (wr.alloc (.cells #[.slice A u c] 44)) w.heap.size w.heap.size ⟨A, c, Gs⟩) := Lib.hid ⟨fun z hz => (hI2 z hz).below hy (Nat.le_refl _), hx1.below hy (Nat.le_refl _)⟩
            have HW := Lib.hid (And.intro (hO2.alloc (.cells #[.slice A u c] 44)) (And.intro (bar_new (hB.trans hBw) (.cells #[.slice A u c] 44)) (And.intro (heap_alloc_new wr (.cells #[.slice A u c] 44)) (hbx.alloc (.cells #[.slice A u c] 44)))))
            have c1 := hbx.c1
            have HU := Lib.hid hu
            have hgo' : j = 0 ∨ D1 = true := by
              cases D1
              · exact Or.inl (Nat.eq_zero_of_not_pos (fun h => hgo ⟨h, rfl⟩))
              · exact Or.inr rfl
            clear hown hl hx1 hO2 hI2 hy hGe hu hgo hBw hbx
            rcases hgo' with rfl | rfl
            all_goals
              go_wp2_with (at_builtin; go_must (refine wpList_append_own _ rfl _ _ 22 rfl w.heap.size 44 i2 (.slice none 0 0) 1 24 Try.underlying22 hi2 hy0 hy1 hy2 rfl (by decide) u5 q (Li.cellsL cellsG hs) rfl HW.out.1 ⟨wr.heap.size, 0, none⟩ 1 1 [.slice A u c] rfl rfl (World.news_of_block HW.out.2.2.1) (by simp [Value.oneCell']) (by unfold maxLen; omega) (by omega) HW.out.2.1.size ?_))
              all_goals
                intro v5 y5 hown5 hgrow5 _
                obtain ⟨hownW, hbW, hnW, hxW⟩ := HW.out
                have hBe := bar_grown hbW hgrow5 (fun k hk => (hownW.lt k hk).1)
                have hbx := box_grown hxW hgrow5 (fun k hk => by have := (hownW.lt k hk).1; omega)
                have hown5 : y5.ownsRow w.heap.size 44 1 v5 (q + 1) (Li.cellsL cellsG hs ++ [.slice A Gs.length c]) := by rw [HU.out]; exact hown5
                have hP := own_push (x := ⟨A, c, Gs⟩) HI.out.1 hownW HI.out.2 hown5 hgrow5
                have HP : Hid (∀ z ∈ hs ++ [(⟨A, c, Gs⟩ : G)], In1 y5 w.heap.size w.heap.size z ∧ z.g.length ≤ 8) := Lib.hid (fun z hz => ⟨hP.2 z hz, by
                  rcases List.mem_append.1 hz with hz | hz
                  · exact (HIN.out z hz).2
                  · rw [List.mem_singleton] at hz
                    subst hz
                    show Gs.length ≤ 8
                    rw [HU.out]
                    omega⟩)
                have hown6 := hP.1
                clear hownW hbW hnW hxW hgrow5 HW hP HI hown5
                go_wp2
                go_roundw
                case rel => exact ⟨k', S1, _, L ++ [Gs], q + 1, _, hs ++ [⟨A, c, Gs⟩], by omega, by go_num, rfl, hown6, hbx, hS1, Lib.hid ⟨by rw [List.length_append, hH.out.1]; rfl, HP.out, by rw [List.map_append, hH.out.2.2.1]; rfl, HXN.out⟩, hBe⟩
                case measure => simp [intOf]
    · have hXe : X = (L, S, true) := by rw [hH.out.2.2.2, gs_end (Or.inr rfl)]; simp
      by_cases hk : k = 0
      · subst hk
        have HQ := Lib.hid (fun (w' : World) => ReadPost.bad (g := g) (cols := cols) (w := w) (w' := w') (HX0.out.trans hXe) (Or.inl rfl))
        have c1 := hbx.c1
        have f1 := hbx.f 1
        have HS1 := Lib.hid (hbx.set1 (.bool true))
        have HB1 := Lib.hid (hB.setCell 1 (.bool true))
        rw [HPE.out] at HQ
        clear hown hbx hXe
        go_wp2
        exact HQ.out _ HS1.out HB1.out
      · have hk0 : (0 : Int) < (k : Int) := by omega
        have HQ := Lib.hid (fun (w' : World) => ReadPost.bad (g := g) (cols := cols) (w := w) (w' := w') (HX0.out.trans hXe) (Or.inl rfl))
        have c1 := hbx.c1
        have f1 := hbx.f 1
        have HS1 := Lib.hid (hbx.set1 (.bool true))
        have HB1 := Lib.hid (hB.setCell 1 (.bool true))
        rw [HPE.out] at HQ
        clear hown hbx hXe
        go_wp2
        exact HQ.out _ HS1.out HB1.out
end Go.Proofs.Ytifcepjflkgbmaa.Sp
