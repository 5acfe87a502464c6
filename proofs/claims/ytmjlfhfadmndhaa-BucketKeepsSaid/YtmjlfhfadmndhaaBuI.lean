/- Buckets: the document's Parse, walked. -/
import Derived.Test.YtmjlfhfadmndhaaBuH
import Derived.Test.YtmjlfhfadmndhaaPacJ
import Derived.Test.YtmjlfhfadmndhaaPacL
import Derived.OneCell
namespace Go.Proofs.Ytmjlfhfadmndhaa.Bu
open Go.RowKit Pac Ls Lex

theorem es_next {X : List E × ByteArray × Bool} {L : List E} {k : Nat} {S S1 : ByteArray} {D1 : Bool} {e : E} (hJ : X = (L ++ (readEs (k + 1) S false).1, (readEs (k + 1) S false).2)) (hE : readE S = (e, S1, D1)) : X = ((L ++ [e]) ++ (readEs k S1 D1).1, (readEs k S1 D1).2) := by
  have h : readEs (k + 1) S false = ((readE S).1 :: (readEs k (readE S).2.1 (readE S).2.2).1, (readEs k (readE S).2.1 (readE S).2.2).2) := by
    show (if false = true then _ else _) = _
    rw [if_neg (by simp)]
  rw [h, hE] at hJ
  rw [hJ, List.append_assoc]
  rfl
theorem es_end {k : Nat} {S : ByteArray} {D : Bool} (h : k = 0 ∨ D = true) : readEs k S D = ([], S, D) := by
  cases k with
  | zero => rfl
  | succ k =>
    obtain rfl : D = true := by
      rcases h with h | h
      · cases h
      · exact h
    show (if true = true then _ else _) = _
    rw [if_pos rfl]
theorem btw0 (s : ByteArray) (d : Bool) (hi : Nat) : ∃ k : Nat, btwR s d 0 hi = (k : Int) ∧ k ≤ hi := by
  unfold btwR
  by_cases h : btwBad s d 0 hi = true
  · rw [if_pos h]
    exact ⟨0, rfl, by omega⟩
  · rw [if_neg h]
    unfold btwBad at h
    simp at h
    exact ⟨(numR s d).toNat, by omega, by omega⟩
theorem done_iff {s : ByteArray} {d : Bool} : doneB s d = true ↔ d = false ∧ s = ⟨#[]⟩ := by
  unfold doneB
  cases d
  · have h : s.toList.isEmpty = true ↔ s = ⟨#[]⟩ := by
      rw [ByteArray.toList_eq]
      constructor
      · intro h
        exact bytesEq' (by rw [List.isEmpty_iff.1 h])
      · rintro rfl
        rfl
    simpa using h
  · simp
/-- What Parse returns. -/
def ParsePost (o : Option (List E)) (w : World) (e : Ending) (w' : World) : Prop :=
  ∃ A n cp, e = .returned (.tuple #[.slice A n cp, .bool o.isSome]) ∧ (o.getD []).length = n ∧ n ≤ cp ∧ HasE w' w.heap.size A (o.getD []) ∧ Below w.heap.size w w'
theorem hasE_nil (w : World) (lo : Nat) (A : Option Addr) : HasE w lo A [] := fun h => absurd rfl h
theorem ParsePost.no {s : ByteArray} {L : List E} {S : ByteArray} {D : Bool} {w w' : World} (hX : seenB s = (L, S, D)) (h : ¬ (doneB S D = true ∧ IsB L)) (hB : Below w.heap.size w w') : ParsePost (parseB s) w (.returned (.tuple #[.slice none 0 0, .bool false])) w' := by
  have e : parseB s = none := by
    unfold parseB
    rw [hX, if_neg]
    rintro ⟨h1, h2, h3⟩
    exact h ⟨done_iff.2 ⟨h1, h2⟩, h3⟩
  rw [e]
  exact ⟨none, 0, 0, rfl, rfl, Nat.le_refl _, hasE_nil _ _ _, hB⟩
theorem ParsePost.yes {s : ByteArray} {L : List E} {S : ByteArray} {D : Bool} {w w' : World} {A : Option Addr} {n cp : Nat} (hX : seenB s = (L, S, D)) (hd : doneB S D = true) (hb : IsB L) (hn : L.length = n) (hc : n ≤ cp) (hl : HasE w' w.heap.size A L) (hB : Below w.heap.size w w') : ParsePost (parseB s) w (.returned (.tuple #[.slice A n cp, .bool true])) w' := by
  have e : parseB s = some L := by
    unfold parseB
    rw [hX, if_pos ⟨(done_iff.1 hd).1, (done_iff.1 hd).2, hb⟩]
  rw [e]
  exact ⟨A, n, cp, rfl, hn, hc, hl, hB⟩
theorem box_grown {g : Nat} {w w' : World} {v0 v1 : Value} {row : Option Nat} (h : Box2 w g v0 v1) (hg : w.grownBy w' row) (hr : ∀ k, row = some k → g < k) : Box2 w' g v0 v1 := by
  have hne : some g ≠ row := fun e => by have := hr g e.symm; omega
  exact ⟨hg.cell h.c0 hne, hg.cell h.c1 hne, fun i => (World.frozen?_of_block (hg.block g h.lt hne)).trans (h.f i)⟩
theorem own_setE {w : World} {base h : Nat} {e : TypeId} {size : Nat} {v : Value} {n : Nat} {xs : List Value} (hw : w.ownsRow base e size v n xs) (hne : v.ownBlock ≠ some h) (a b : Value) : ((w.setCell ⟨h, 1, none⟩ a).setCell ⟨h, 2, none⟩ b).ownsRow base e size v n xs :=
  ownsRow_setCell_other (ownsRow_setCell_other hw hne a) hne b
section
variable {w : World}
set_option maxRecDepth 20000 in
set_option maxHeartbeats 6400000 in
theorem refParse_any (s : ByteArray) (hs : s.size ≤ 1000000000) :
    Calls Try.prog 19 #[.string s] w (ParsePost (parseB s) w) := by
  obtain ⟨iE, hiE, hv0, hv1, hv2⟩ := info_parts infoE
  obtain ⟨X, hX0⟩ : ∃ X, seenB s = X := ⟨_, rfl⟩
  have HX0 := Lib.hid hX0
  obtain ⟨post, hpe⟩ : ∃ post, ParsePost (parseB s) w = post := ⟨_, rfl⟩
  have HPE := Lib.hid hpe
  rw [hpe]
  obtain ⟨k0, hk0, hk8⟩ := btw0 s false 512
  have hJ0 : X = ([] ++ (readEs k0 (numS s false) (btwBad s false 0 512)).1, (readEs k0 (numS s false) (btwBad s false 0 512)).2) := by
    rw [← hX0]
    unfold seenB
    have h : btwR s false 0 512 = (k0 : Int) := hk0
    rw [h, Int.toNat_natCast]
    rfl
  obtain ⟨g, hg⟩ : ∃ g, w.heap.size = g := ⟨_, rfl⟩
  have hbx := Box2.new w (.string s) (.bool false) 58
  have hB0 := (Below.refl w.heap.size w).alloc (Nat.le_refl _) (.cells #[.string s, .bool false] 58)
  have hz0 : (w.alloc (.cells #[.string s, .bool false] 58)).heap.size = g + 1 := by simp [hg]
  have hcB := refBetween_any w.heap.size s false 0 512 _ hbx (by omega)
  rw [show btwR s false 0 512 = (k0 : Int) from hk0] at hcB
  have hs1 : (numS s false).size ≤ 1000000000 := Nat.le_trans (numS_size s false) hs
  clear hpe hX0 hk0 hbx
  generalize numS s false = S0 at hJ0 hcB hs1
  generalize btwBad s false 0 512 = D0 at hJ0 hcB
  have HJ0 := Lib.hid hJ0
  clear hJ0
  generalize hw0 : w.alloc (.cells #[.string s, .bool false] 58) = wa at hB0 hz0 hcB
  rw [hg] at hcB hB0
  go_enter Try.func19, Try.ntmps19
  go_wp2_with fail
  refine hcB.mono ?_
  rintro e w1 ⟨rfl, hbx, hB1⟩
  have hB := hB0.trans (hB1.below (Nat.le_refl _) (by omega))
  have hg1 : g + 1 ≤ w1.heap.size := by have := hB1.size; omega
  clear hcB hB0 hB1 hz0 hw0
  go_wp2
  go_loopw [5, 6] (fun x i wr => ∃ (k : Nat) (S : ByteArray) (D : Bool) (L : List E) (q : Nat) (sv : Value), k + q ≤ 512 ∧ i = .int .i64 k ∧ x = sv ∧ wr.ownsRow (g + 1) 30 3 sv q (Li.cellsL cellsE L) ∧ IsBox wr g S D ∧ S.size ≤ 1000000000 ∧ Hid (L.length = q ∧ X = (L ++ (readEs k S D).1, (readEs k S D).2)) ∧ Below g w wr ∧ g + 1 ≤ wr.heap.size) (fun _ i _ => (intOf i).toNat)
  case atStart => exact ⟨k0, S0, D0, [], 0, _, by omega, rfl, rfl, World.ownsRow_nil _ _ _ _, hbx, hs1, Lib.hid ⟨rfl, HJ0.out⟩, hB, hg1⟩
  case round =>
    clear hbx hB hs1 hg1
    obtain ⟨k, S, D, L, q, sv, hkq, rfl, rfl, hown, hbx, hS, hH, hB, hg1⟩ := hrel
    have c1 := hbx.c1
    by_cases hgo : 0 < k ∧ D = false
    · obtain ⟨hk, rfl⟩ := hgo
      obtain ⟨k', rfl⟩ : ∃ k', k = k' + 1 := ⟨k - 1, by omega⟩
      have hk1 : (0 : Int) < ((k' + 1 : Nat) : Int) := by omega
      have hcT := refBoxText_any g S false 61 wr hbx (by omega)
      have hsT : (txtS S false 61).size ≤ 1000000000 := Nat.le_trans (txtS_size S false 61) hS
      obtain ⟨at0, hat, hat8⟩ := btw0 (txtS S false 61) (txtBad S false 61) 511
      have hat : btwR (txtS S false 61) (txtBad S false 61) 0 511 = (at0 : Int) := hat
      have hE : readE S = (⟨txtR S false 61, (at0 : Int) / 8, (at0 : Int) % 8⟩, numS (txtS S false 61) (txtBad S false 61), btwBad (txtS S false 61) (txtBad S false 61) 0 511) := by
        unfold readE
        rw [hat]
      have hcB := fun (W : World) (h : IsBox W g (txtS S false 61) (txtBad S false 61)) => refBetween_any g (txtS S false 61) (txtBad S false 61) 0 511 W h (by omega)
      rw [hat] at hcB
      have hs2 : (numS (txtS S false 61) (txtBad S false 61)).size ≤ 1000000000 := Nat.le_trans (numS_size _ _) hsT
      generalize txtR S false 61 = ek at hcT hE
      generalize txtS S false 61 = S1 at hcT hE hcB hs2 hsT hat
      generalize txtBad S false 61 = D1 at hcT hE hcB hs2 hat
      generalize numS S1 D1 = S2 at hE hcB hs2
      generalize btwBad S1 D1 0 511 = D2 at hE hcB
      have HE := Lib.hid hE
      have HOW := Lib.hid hown
      clear hE hown hat hsT
      go_wp2_with fail
      refine hcT.mono ?_
      rintro e w2 ⟨rfl, hbx, hB2⟩
      have HOW := Lib.hid (Li.own_bar HOW.out hB2 (Nat.lt_succ_self g))
      have hB := hB.trans (hB2.below (Nat.le_refl _) (by omega))
      have hg2 : g + 1 ≤ w2.heap.size := by have := hB2.size; omega
      clear hcT hB2 c1
      go_wp2_with fail
      obtain ⟨h, hh⟩ : ∃ h, w2.heap.size = h := ⟨_, rfl⟩
      have HNE : Hid (u5.ownBlock ≠ some h) := Lib.hid (fun e => by have := (HOW.out.lt h e).2; omega)
      have hnew := (Below.refl w2.heap.size w2).alloc (Nat.le_refl _) (.cells #[.string ek, .int .i64 0, .int .i64 0] 30)
      have hx := Box3.new w2 (.string ek) (.int .i64 0) (.int .i64 0) 30
      have hz3 : (w2.alloc (.cells #[.string ek, .int .i64 0, .int .i64 0] 30)).heap.size = h + 1 := by simp [hh]
      have hbx := hbx.below hnew hbx.lt
      have HOW := Lib.hid (Li.own_below HOW.out hnew (Nat.le_refl _))
      have hB := hB.trans (hnew.mono (show g ≤ w2.heap.size by omega))
      rw [hh] at hx ⊢
      generalize hw3 : w2.alloc (.cells #[.string ek, .int .i64 0, .int .i64 0] 30) = w3 at hx hz3 hbx HOW hB ⊢
      refine (hcB _ hbx).mono ?_
      rintro e w4 ⟨rfl, hbx, hB4⟩
      have HOW := Lib.hid (Li.own_bar HOW.out hB4 (Nat.lt_succ_self g))
      have hB := hB.trans (hB4.below (Nat.le_refl _) (by omega))
      have hg4 : h + 1 ≤ w4.heap.size := by have := hB4.size; omega
      have hx := hx.bar hB4 (by omega)
      clear hcB hB4 hw3 hnew hz3
      have c0 := hx.c0
      have c1 := hx.c1
      have c2 := hx.c2
      have f1 := hx.f 1
      have f2 := hx.f 2
      have a0 : (0 : Int) ≤ (at0 : Int) := by omega
      have hW := own_setE (h := h) HOW.out HNE.out (.int .i64 ((at0 : Int) / 8)) (.int .i64 ((at0 : Int) % 8))
      have hR := ((Bar.refl h w4).setCell 1 (.int .i64 ((at0 : Int) / 8))).setCell 2 (.int .i64 ((at0 : Int) % 8))
      have hB := hB.trans (hR.below (B := g) (by omega) (by omega))
      have hbx := hbx.bar hR (by omega)
      have hz5 : ((w4.setCell ⟨h, 1, none⟩ (.int .i64 ((at0 : Int) / 8))).setCell ⟨h, 2, none⟩ (.int .i64 ((at0 : Int) % 8))).heap.size = w4.heap.size := by simp
      have HW := Lib.hid (And.intro (hW.alloc (.cells #[.string ek, .int .i64 ((at0 : Int) / 8), .int .i64 ((at0 : Int) % 8)] 30)) (And.intro (hB.alloc (hg ▸ hB.size) (.cells #[.string ek, .int .i64 ((at0 : Int) / 8), .int .i64 ((at0 : Int) % 8)] 30)) (And.intro (heap_alloc_new ((w4.setCell ⟨h, 1, none⟩ (.int .i64 ((at0 : Int) / 8))).setCell ⟨h, 2, none⟩ (.int .i64 ((at0 : Int) % 8))) (.cells #[.string ek, .int .i64 ((at0 : Int) / 8), .int .i64 ((at0 : Int) % 8)] 30)) (hbx.alloc (.cells #[.string ek, .int .i64 ((at0 : Int) / 8), .int .i64 ((at0 : Int) % 8)] 30)))))
      rw [hz5] at HW
      clear hW hR hB hbx hx hz5 HOW HNE
      go_wp2_with (at_builtin; go_must (refine wpList_append_own _ rfl _ _ 22 rfl (g + 1) 30 iE (.agg #[.string ⟨#[]⟩, .int .i64 0, .int .i64 0]) 3 32 Try.underlying22 hiE hv0 hv1 hv2 rfl (by decide) u5 q (Li.cellsL cellsE L) rfl HW.out.1 ⟨w4.heap.size, 0, none⟩ 1 1 [.string ek, .int .i64 ((at0 : Int) / 8), .int .i64 ((at0 : Int) % 8)] (by go_simp) rfl (World.news_of_block HW.out.2.2.1) (by simp [Value.oneCell']) (by unfold maxLen; omega) (by omega) (by have := HW.out.2.1.size; simp; omega) ?_))
      intro v5 y5 hown5 hgrow5 _
      obtain ⟨hownW, hbW, _, hxW⟩ := HW.out
      have hB5 := hbW.grown hgrow5 (hg ▸ hbW.size) (fun k hk => by have := (hownW.lt k hk).1; omega)
      have hx5 := box_grown hxW hgrow5 (fun k hk => by have := (hownW.lt k hk).1; omega)
      have hg5 : g + 1 ≤ y5.heap.size := by have h1 := hgrow5.size; simp at h1; omega
      have HN : Hid ((L ++ [(⟨ek, (at0 : Int) / 8, (at0 : Int) % 8⟩ : E)]).length = q + 1 ∧ X = ((L ++ [(⟨ek, (at0 : Int) / 8, (at0 : Int) % 8⟩ : E)]) ++ (readEs k' S2 D2).1, (readEs k' S2 D2).2)) := Lib.hid ⟨by rw [List.length_append, hH.out.1]; rfl, es_next hH.out.2 HE.out⟩
      clear hownW hbW hxW hgrow5 HW c0 c1 c2 f1 f2
      go_wp2
      go_roundw
      case rel =>
        refine ⟨k', S2, D2, _, q + 1, _, by omega, by go_num, rfl, ?_, hx5, hs2, HN, hB5, hg5⟩
        rw [Li.cellsL_snoc]
        exact hown5
      case measure => simp [intOf]
    · have hor : k = 0 ∨ (0 < k ∧ D = true) := by
        rcases Nat.eq_zero_or_pos k with h | h
        · exact Or.inl h
        · exact Or.inr ⟨h, by cases D <;> simp_all⟩
      have hXe : X = (L, S, D) := by
        rw [hH.out.2, es_end (hor.imp id And.right)]
        simp
      obtain ⟨A, c, rfl, hcc, hl⟩ := Li.list_of_own cellsE_len hown hH.out.1
      have hq9 : q ≤ 512 := by omega
      have hLq := hH.out.1
      have HF := Lib.hid (fun (w' : World) (h : ¬ (doneB S D = true ∧ IsB L)) (hb : Below g w w') => ParsePost.no (w := w) (w' := w') (HX0.out.trans hXe) h (hg ▸ hb))
      have HG := Lib.hid (fun (w' : World) (hd : doneB S D = true) (hb : IsB L) (hl : HasE w' w.heap.size A L) (hbe : Below g w w') => ParsePost.yes (w := w) (w' := w') (HX0.out.trans hXe) hd hb hLq hcc hl (hg ▸ hbe))
      rw [HPE.out] at HF HG
      have hcD := refDone_any g S D wr hbx
      have hcR := refRight_any (cp := c) (g + 1) hl hLq (by omega)
      have HL := Lib.hid hl
      obtain ⟨dn, hdn⟩ : ∃ dn, doneB S D = dn := ⟨_, rfl⟩
      rw [hdn] at hcD HF HG
      clear hgo hown hXe hl hLq hdn HX0 HPE
      rcases hor with rfl | ⟨hk, rfl⟩
      all_goals
        go_wp2_with fail
        refine hcD.mono ?_
        rintro e w5 ⟨rfl, rfl⟩
        clear hcD c1
        cases dn
        · go_wp2
          exact HF.out _ (by simp) hB
        · go_wp2_with fail
          refine hcR.mono ?_
          rintro e w6 ⟨r, rfl, hr, hw6⟩
          have hB6 := hB.trans (hw6.mono (by omega))
          cases r
          · go_wp2
            exact HF.out _ (by intro h; exact absurd (hr.2 h.2) (by simp)) hB6
          · go_wp2
            exact HG.out _ trivial (hr.1 trivial) ((HL.out.below hw6 (Nat.le_refl _)).lower (by omega)) hB6
end
end Go.Proofs.Ytmjlfhfadmndhaa.Bu
