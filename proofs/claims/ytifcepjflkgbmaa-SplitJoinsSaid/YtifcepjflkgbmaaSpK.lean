/- The next split of any bytes: the program's, walked. -/
import Derived.Test.YtifcepjflkgbmaaSpX
import Derived.Test.YtifcepjflkgbmaaSpY
import Derived.Test.YtifcepjflkgbmaaSpZb
import Derived.Test.YtifcepjflkgbmaaPacI
namespace Go.Proofs.Ytifcepjflkgbmaa.Sp
open Go.RowKit Pac Lex

def ReadPostP (g : Nat) (X : List (List Int) × ByteArray × Bool) (w : World) (e : Ending) (w' : World) : Prop :=
  ∃ A cp S', e = .returned (.slice A X.1.length cp) ∧ X.1.length ≤ cp ∧ HasLL w' w.heap.size A X.1 ∧ IsBox w' g S' X.2.2 ∧ (X.2.2 = false → S' = X.2.1) ∧ Bar g w w'

/-- Numbers, all of them, whatever goes wrong. -/
def allN : Nat → ByteArray → Bool → List Int × ByteArray × Bool
  | 0, s, d => ([], s, d)
  | m + 1, s, d => (numR s d :: (allN m (numS s d) (numBad s d)).1, (allN m (numS s d) (numBad s d)).2)
def allG (s : ByteArray) (d : Bool) : List Int × ByteArray × Bool := allN (btwR s d 0 8).toNat (numS s d) (btwBad s d 0 8)
def allGs : Nat → ByteArray → Bool → List (List Int) × ByteArray × Bool
  | 0, s, d => ([], s, d)
  | m + 1, s, d => ((allG s d).1 :: (allGs m (allG s d).2.1 (allG s d).2.2).1, (allGs m (allG s d).2.1 (allG s d).2.2).2)
def allSp (s : ByteArray) (d : Bool) : List (List Int) × ByteArray × Bool := allGs (btwR s d 0 8).toNat (numS s d) (btwBad s d 0 8)
theorem numBad_bad (s : ByteArray) : numBad s true = true := rfl
theorem btwBad_bad (s : ByteArray) : btwBad s true 0 8 = true := rfl
theorem allN_bad : ∀ (m : Nat) (s : ByteArray), (allN m s true).2.2 = true
  | 0, s => rfl
  | m + 1, s => allN_bad m (numS s true)
theorem allG_bad (s : ByteArray) : (allG s true).2.2 = true := by
  unfold allG
  rw [btwBad_bad]
  exact allN_bad _ _
theorem allGs_bad : ∀ (m : Nat) (s : ByteArray), (allGs m s true).2.2 = true
  | 0, s => rfl
  | m + 1, s => by
    show (allGs m (allG s true).2.1 (allG s true).2.2).2.2 = true
    rw [allG_bad]
    exact allGs_bad m _
/-- Both go wrong, or both are the same. -/
def Like {α : Type} (a b : α × ByteArray × Bool) : Prop := a.2.2 = b.2.2 ∧ (b.2.2 = false → a = b)
theorem allN_like : ∀ (m : Nat) (s : ByteArray) (d : Bool), Like (allN m s d) (readNs m s d)
  | 0, s, d => ⟨rfl, fun _ => rfl⟩
  | m + 1, s, true => ⟨allN_bad (m + 1) s, fun h => by
      have : (readNs (m + 1) s true).2.2 = true := by
        show (if true = true then _ else _ : List Int × ByteArray × Bool).2.2 = true
        rw [if_pos rfl]
      rw [this] at h
      cases h⟩
  | m + 1, s, false => by
    obtain ⟨h1, h2⟩ := allN_like m (numS s false) (numBad s false)
    have e : readNs (m + 1) s false = (numR s false :: (readNs m (numS s false) (numBad s false)).1, (readNs m (numS s false) (numBad s false)).2) := by
      show (if false = true then _ else _) = _
      rw [if_neg (by simp)]
    rw [e]
    refine ⟨h1, fun h => ?_⟩
    show (numR s false :: (allN m (numS s false) (numBad s false)).1, (allN m (numS s false) (numBad s false)).2) = _
    rw [h2 h]
theorem allG_like (s : ByteArray) (d : Bool) : Like (allG s d) (readG s d) := allN_like _ _ _
theorem allGs_like : ∀ (m : Nat) (s : ByteArray) (d : Bool), Like (allGs m s d) (readGs m s d)
  | 0, s, d => ⟨rfl, fun _ => rfl⟩
  | m + 1, s, true => ⟨allGs_bad (m + 1) s, fun h => by
      have : (readGs (m + 1) s true).2.2 = true := by
        show (if true = true then _ else _ : List (List Int) × ByteArray × Bool).2.2 = true
        rw [if_pos rfl]
      rw [this] at h
      cases h⟩
  | m + 1, s, false => by
    obtain ⟨g1, g2⟩ := allG_like s false
    have e : readGs (m + 1) s false = ((readG s false).1 :: (readGs m (readG s false).2.1 (readG s false).2.2).1, (readGs m (readG s false).2.1 (readG s false).2.2).2) := by
      show (if false = true then _ else _) = _
      rw [if_neg (by simp)]
    have e2 : allGs (m + 1) s false = ((allG s false).1 :: (allGs m (allG s false).2.1 (allG s false).2.2).1, (allGs m (allG s false).2.1 (allG s false).2.2).2) := rfl
    rw [e, e2]
    cases hb : (readG s false).2.2 with
    | true =>
      rw [hb] at g1
      have e3 : ∀ k S, (readGs k S true).2.2 = true := fun k S => by rw [gs_end (Or.inr rfl)]
      refine ⟨?_, fun h => ?_⟩
      · rw [g1]
        exact (allGs_bad m _).trans (e3 _ _).symm
      · have h : (readGs m (readG s false).2.1 true).2.2 = false := h
        rw [e3] at h
        cases h
    | false =>
      have g3 := g2 hb
      rw [g3, hb]
      obtain ⟨h1, h2⟩ := allGs_like m (readG s false).2.1 false
      refine ⟨h1, fun h => ?_⟩
      rw [h2 h]
theorem allSp_like (s : ByteArray) (d : Bool) : Like (allSp s d) (seenSp s d) := allGs_like _ _ _
theorem alln_next {X : List Int × ByteArray × Bool} {L : List Int} {k : Nat} {S : ByteArray} {D : Bool} (hJ : X = (L ++ (allN (k + 1) S D).1, (allN (k + 1) S D).2)) : X = ((L ++ [numR S D]) ++ (allN k (numS S D) (numBad S D)).1, (allN k (numS S D) (numBad S D)).2) := by
  rw [hJ, List.append_assoc]
  rfl
theorem allg_next {X : List (List Int) × ByteArray × Bool} {L : List (List Int)} {k : Nat} {S : ByteArray} {D : Bool} (hJ : X = (L ++ (allGs (k + 1) S D).1, (allGs (k + 1) S D).2)) : X = ((L ++ [(allG S D).1]) ++ (allGs k (allG S D).2.1 (allG S D).2.2).1, (allGs k (allG S D).2.1 (allG S D).2.2).2) := by
  rw [hJ, List.append_assoc]
  rfl
theorem allN_len : ∀ (m : Nat) (s : ByteArray) (d : Bool), (allN m s d).1.length = m ∧ (allN m s d).2.1.size ≤ s.size
  | 0, s, d => ⟨rfl, Nat.le_refl _⟩
  | m + 1, s, d => by
    obtain ⟨h1, h2⟩ := allN_len m (numS s d) (numBad s d)
    exact ⟨congrArg (· + 1) h1, Nat.le_trans h2 (numS_size s d)⟩
theorem allG_len (s : ByteArray) (d : Bool) : (allG s d).1.length ≤ 8 ∧ (allG s d).2.1.size ≤ s.size := by
  obtain ⟨k, hk, hk8⟩ := btw08 s d
  unfold allG
  rw [hk, Int.toNat_natCast]
  obtain ⟨h1, h2⟩ := allN_len k (numS s d) (btwBad s d 0 8)
  exact ⟨by omega, Nat.le_trans h2 (numS_size s d)⟩

def GroupPost (g : Nat) (X : List Int × ByteArray × Bool) (w : World) (e : Ending) (w' : World) : Prop :=
  ∃ sv, e = .returned sv ∧ w'.ownsRow w.heap.size 3 1 sv X.1.length (Li.cellsL cellsI X.1) ∧ IsBox w' g X.2.1 X.2.2 ∧ Bar g w w'
set_option maxRecDepth 20000 in
set_option maxHeartbeats 3200000 in
theorem readGroup_any (g : Nat) (s : ByteArray) (bad : Bool) (w : World) (hb : IsBox w g s bad) (hs : s.size ≤ 9223372036854775807) :
    Calls Try.prog 44 #[.pointer (some ⟨g, 0, none⟩)] w (GroupPost g (allG s bad) w) := by
  obtain ⟨i0, hi, hz0, hz1, hz2⟩ := info_parts infoI
  obtain ⟨X, hX0⟩ : ∃ X, allG s bad = X := ⟨_, rfl⟩
  rw [hX0]
  obtain ⟨post, hpe⟩ : ∃ post, GroupPost g X w = post := ⟨_, rfl⟩
  have HPE := Lib.hid hpe
  rw [hpe]
  have hgw := hb.lt
  obtain ⟨k0, hk0, hk8⟩ := btw08 s bad
  have hJ0 : X = ([] ++ (allN (k0 - 0) (numS s bad) (btwBad s bad 0 8)).1, (allN (k0 - 0) (numS s bad) (btwBad s bad 0 8)).2) := by
    rw [← hX0]
    unfold allG
    rw [hk0, Int.toNat_natCast]
    rfl
  have hcB := boxBetween_any g s bad 0 8 w hb hs
  rw [hk0] at hcB
  have hs1 : (numS s bad).size ≤ 9223372036854775807 := Nat.le_trans (numS_size s bad) hs
  clear hX0 hk0 hb hpe
  generalize numS s bad = S0 at hJ0 hcB hs1
  generalize btwBad s bad 0 8 = D0 at hJ0 hcB
  have HJ0 := Lib.hid hJ0
  clear hJ0
  go_enter Try.func44, Try.ntmps44
  go_wp2_with fail
  refine hcB.mono ?_
  rintro e w1 ⟨rfl, hbx, hB⟩
  clear hcB
  go_wp2
  go_loopw [3, 6] (fun x i wr => ∃ (q : Nat) (S : ByteArray) (D : Bool) (L : List Int) (sv : Value), q ≤ k0 ∧ i = .int .i64 q ∧ x = sv ∧ wr.ownsRow w.heap.size 3 1 sv q (Li.cellsL cellsI L) ∧ IsBox wr g S D ∧ S.size ≤ 9223372036854775807 ∧ Hid (L.length = q ∧ X = (L ++ (allN (k0 - q) S D).1, (allN (k0 - q) S D).2)) ∧ Bar g w wr) (fun _ i _ => k0 - (intOf i).toNat)
  case atStart => exact ⟨0, S0, D0, [], _, Nat.zero_le _, rfl, rfl, World.ownsRow_nil _ _ _ _, hbx, hs1, Lib.hid ⟨rfl, HJ0.out⟩, hB⟩
  case round =>
    clear hbx hB hs1
    obtain ⟨q, S, D, L, sv, hq, rfl, rfl, hown, hbx, hS, hH, hB⟩ := hrel
    have hgs := hB.size
    by_cases hlt : q < k0
    · have i1 : (q : Int) < (k0 : Int) := by omega
      have hcN := boxNum_any g S D wr hbx hS
      have hs2 : (numS S D).size ≤ 9223372036854775807 := Nat.le_trans (numS_size S D) hS
      have hT2 := alln_next (X := X) (L := L) (k := k0 - (q + 1)) (S := S) (D := D) (by rw [show k0 - (q + 1) + 1 = k0 - q by omega]; exact hH.out.2)
      generalize numR S D = n1 at hcN hT2
      generalize numS S D = S2 at hcN hs2 hT2
      generalize numBad S D = D2 at hcN hT2
      have HT2 := Lib.hid hT2
      have HO2 := Lib.hid hown
      clear hT2 hown
      go_wp2_with fail
      refine hcN.mono ?_
      rintro e w3 ⟨rfl, hbx, hBn⟩
      have hown := Li.own_bar HO2.out hBn (by omega)
      have hBw := hB.trans hBn
      have hsz := hBw.size
      have HW := Lib.hid (And.intro (hown.alloc (.cells #[.int .i64 n1] 3)) (And.intro (bar_new hBw (.cells #[.int .i64 n1] 3)) (And.intro (heap_alloc_new w3 (.cells #[.int .i64 n1] 3)) (hbx.alloc (.cells #[.int .i64 n1] 3)))))
      clear hown hBw hBn hcN HO2 hbx hB
      go_wp2_with (at_builtin; go_must (refine wpList_append_own _ rfl _ _ 44 rfl w.heap.size 3 i0 (.int .i64 0) 1 8 Try.underlying44 hi hz0 hz1 hz2 rfl (by decide) u3 q (Li.cellsL cellsI L) rfl HW.out.1 ⟨w3.heap.size, 0, none⟩ 1 1 [.int .i64 n1] rfl rfl (World.news_of_block HW.out.2.2.1) (by simp [Value.oneCell']) (by unfold maxLen; omega) (by omega) HW.out.2.1.size ?_))
      intro v5 y5 hown5 hgrow5 _
      obtain ⟨hownW, hbW, hnW, hxW⟩ := HW.out
      have hBw := bar_grown hbW hgrow5 (fun k hk => (hownW.lt k hk).1)
      have hbx := box_grown hxW hgrow5 (fun k hk => by have := (hownW.lt k hk).1; omega)
      clear hownW hbW hnW hxW hgrow5 HW
      go_wp2
      go_roundw
      case rel =>
        refine ⟨q + 1, S2, D2, L ++ [n1], _, by omega, by go_num, rfl, ?_, hbx, hs2, Lib.hid ⟨by rw [List.length_append, hH.out.1]; rfl, HT2.out⟩, hBw⟩
        rw [Li.cellsL_snoc]
        exact hown5
      case measure => simp [intOf]; omega
    · obtain rfl : q = k0 := by omega
      have hXe : X = (L, S, D) := by
        rw [hH.out.2, Nat.sub_self]
        show (L ++ [], S, D) = _
        rw [List.append_nil]
      have HQ : Hid (post (.returned u3) wr) := Lib.hid (by
        rw [← HPE.out, hXe]
        refine ⟨_, rfl, ?_, hbx, hB⟩
        show World.ownsRow _ _ _ _ _ L.length _
        rw [hH.out.1]
        exact hown)
      clear hown hXe hbx hB
      go_wp2
      exact HQ.out

def GroupsPost (g : Nat) (X : List (List Int) × ByteArray × Bool) (w : World) (e : Ending) (w' : World) : Prop :=
  ∃ sv hs, e = .returned sv ∧ w'.ownsRow w.heap.size 44 1 sv X.1.length (Li.cellsL cellsG hs) ∧ hs.map G.g = X.1 ∧ X.1.length ≤ 8 ∧ (∀ z ∈ hs, In1 w' w.heap.size w.heap.size z ∧ z.g.length ≤ 8) ∧ IsBox w' g X.2.1 X.2.2 ∧ Bar g w w'
set_option maxRecDepth 20000 in
set_option maxHeartbeats 3200000 in
theorem readGroups_any (g : Nat) (s : ByteArray) (bad : Bool) (w : World) (hb : IsBox w g s bad) (hs : s.size ≤ 9223372036854775807) :
    Calls Try.prog 34 #[.pointer (some ⟨g, 0, none⟩)] w (GroupsPost g (allSp s bad) w) := by
  obtain ⟨i2, hi2, hy0, hy1, hy2⟩ := info_parts infoG
  obtain ⟨X, hX0⟩ : ∃ X, allSp s bad = X := ⟨_, rfl⟩
  rw [hX0]
  obtain ⟨post, hpe⟩ : ∃ post, GroupsPost g X w = post := ⟨_, rfl⟩
  have HPE := Lib.hid hpe
  rw [hpe]
  have hgw := hb.lt
  obtain ⟨k0, hk0, hk8⟩ := btw08 s bad
  have hJ0 : X = ([] ++ (allGs (k0 - 0) (numS s bad) (btwBad s bad 0 8)).1, (allGs (k0 - 0) (numS s bad) (btwBad s bad 0 8)).2) := by
    rw [← hX0]
    unfold allSp
    rw [hk0, Int.toNat_natCast]
    rfl
  have hcB := boxBetween_any g s bad 0 8 w hb hs
  rw [hk0] at hcB
  have hs1 : (numS s bad).size ≤ 9223372036854775807 := Nat.le_trans (numS_size s bad) hs
  clear hX0 hk0 hb hpe
  generalize numS s bad = S0 at hJ0 hcB hs1
  generalize btwBad s bad 0 8 = D0 at hJ0 hcB
  have HJ0 := Lib.hid hJ0
  clear hJ0
  go_enter Try.func34, Try.ntmps34
  go_wp2_with fail
  refine hcB.mono ?_
  rintro e w1 ⟨rfl, hbx, hB⟩
  clear hcB
  go_wp2
  go_loopw [3, 6] (fun x i wr => ∃ (q : Nat) (S : ByteArray) (D : Bool) (L : List (List Int)) (sv : Value) (hs : List G), q ≤ k0 ∧ i = .int .i64 q ∧ x = sv ∧ wr.ownsRow w.heap.size 44 1 sv q (Li.cellsL cellsG hs) ∧ IsBox wr g S D ∧ S.size ≤ 9223372036854775807 ∧ Hid (hs.length = q ∧ (∀ z ∈ hs, In1 wr w.heap.size w.heap.size z ∧ z.g.length ≤ 8) ∧ hs.map G.g = L ∧ X = (L ++ (allGs (k0 - q) S D).1, (allGs (k0 - q) S D).2)) ∧ Bar g w wr) (fun _ i _ => k0 - (intOf i).toNat)
  case atStart => exact ⟨0, S0, D0, [], _, [], Nat.zero_le _, rfl, rfl, World.ownsRow_nil _ _ _ _, hbx, hs1, Lib.hid ⟨rfl, fun z hz => by simp at hz, rfl, HJ0.out⟩, hB⟩
  case round =>
    clear hbx hB hs1
    obtain ⟨q, S, D, L, sv, hs, hq, rfl, rfl, hown, hbx, hS, hH, hB⟩ := hrel
    have hgs := hB.size
    by_cases hlt : q < k0
    · have i1 : (q : Int) < (k0 : Int) := by omega
      have hcN := readGroup_any g S D wr hbx hS
      have hT2 := allg_next (X := X) (L := L) (k := k0 - (q + 1)) (S := S) (D := D) (by rw [show k0 - (q + 1) + 1 = k0 - q by omega]; exact hH.out.2.2.2)
      obtain ⟨hl8, hsz⟩ := allG_len S D
      have hs2 : (allG S D).2.1.size ≤ 9223372036854775807 := Nat.le_trans hsz hS
      generalize allG S D = Z at hcN hT2 hl8 hs2
      obtain ⟨Gs, S2, D2⟩ := Z
      have HT2 := Lib.hid hT2
      have HO2 := Lib.hid hown
      clear hT2 hown hsz
      go_wp2_with fail
      refine hcN.mono ?_
      rintro e w3 ⟨sv1, rfl, hown1, hbx, hBn⟩
      have hbx : IsBox w3 g S2 D2 := hbx
      have hl8 : Gs.length ≤ 8 := hl8
      have hs2 : S2.size ≤ 9223372036854775807 := hs2
      have hown1 : w3.ownsRow wr.heap.size 3 1 sv1 Gs.length (Li.cellsL cellsI Gs) := hown1
      have hown := Li.own_bar HO2.out hBn (by omega)
      have hBw := hB.trans hBn
      have hsz := hBw.size
      obtain ⟨A, c, rfl, hcc, hl⟩ := Li.list_of_own cellsI_len hown1 rfl
      have hx1 : In1 w3 w.heap.size w.heap.size ⟨A, c, Gs⟩ := In1.of_own hown1 rfl hgs
      have hI2 : ∀ z ∈ hs, In1 w3 w.heap.size w.heap.size z := fun z hz => (hH.out.2.1 z hz).1.bar hBn (by omega)
      obtain ⟨u, hu⟩ : ∃ u, Gs.length = u := ⟨_, rfl⟩
      rw [hu] at hl8 ⊢
      have hy := (Below.refl w3.heap.size w3).alloc (Nat.le_refl _) (.cells #[.slice A u c] 44)
      have HI : Hid ((∀ z ∈ hs, In1 (w3.alloc (.cells #[.slice A u c] 44)) w.heap.size w.heap.size z) ∧ In1 (w3.alloc (.cells #[.slice A u c] 44)) w.heap.size w.heap.size ⟨A, c, Gs⟩) := Lib.hid ⟨fun z hz => (hI2 z hz).below hy (Nat.le_refl _), hx1.below hy (Nat.le_refl _)⟩
      have HW := Lib.hid (And.intro (hown.alloc (.cells #[.slice A u c] 44)) (And.intro (bar_new hBw (.cells #[.slice A u c] 44)) (And.intro (heap_alloc_new w3 (.cells #[.slice A u c] 44)) (hbx.alloc (.cells #[.slice A u c] 44)))))
      have HU := Lib.hid hu
      clear hown hBw hBn hcN HO2 hbx hB hown1 hl hx1 hI2 hy hu hcc
      go_wp2_with (at_builtin; go_must (refine wpList_append_own _ rfl _ _ 22 rfl w.heap.size 44 i2 (.slice none 0 0) 1 24 Try.underlying22 hi2 hy0 hy1 hy2 rfl (by decide) u3 q (Li.cellsL cellsG hs) rfl HW.out.1 ⟨w3.heap.size, 0, none⟩ 1 1 [.slice A u c] rfl rfl (World.news_of_block HW.out.2.2.1) (by simp [Value.oneCell']) (by unfold maxLen; omega) (by omega) HW.out.2.1.size ?_))
      intro v5 y5 hown5 hgrow5 _
      obtain ⟨hownW, hbW, hnW, hxW⟩ := HW.out
      have hBe := bar_grown hbW hgrow5 (fun k hk => (hownW.lt k hk).1)
      have hbx := box_grown hxW hgrow5 (fun k hk => by have := (hownW.lt k hk).1; omega)
      have hown5 : y5.ownsRow w.heap.size 44 1 v5 (q + 1) (Li.cellsL cellsG hs ++ [.slice A Gs.length c]) := by rw [HU.out]; exact hown5
      have hP := own_push (x := ⟨A, c, Gs⟩) HI.out.1 hownW HI.out.2 hown5 hgrow5
      have HP : Hid (∀ z ∈ hs ++ [(⟨A, c, Gs⟩ : G)], In1 y5 w.heap.size w.heap.size z ∧ z.g.length ≤ 8) := Lib.hid (fun z hz => ⟨hP.2 z hz, by
        rcases List.mem_append.1 hz with hz | hz
        · exact (hH.out.2.1 z hz).2
        · rw [List.mem_singleton] at hz
          subst hz
          show Gs.length ≤ 8
          rw [HU.out]
          omega⟩)
      have hown6 := hP.1
      clear hownW hbW hnW hxW hgrow5 HW hP HI hown5
      go_wp2
      go_roundw
      case rel => exact ⟨q + 1, S2, D2, L ++ [Gs], _, hs ++ [⟨A, c, Gs⟩], by omega, by go_num, rfl, hown6, hbx, hs2, Lib.hid ⟨by rw [List.length_append, hH.out.1]; rfl, HP.out, by rw [List.map_append, hH.out.2.2.1]; rfl, HT2.out⟩, hBe⟩
      case measure => simp [intOf]; omega
    · obtain rfl : q = k0 := by omega
      have hXe : X = (L, S, D) := by
        rw [hH.out.2.2.2, Nat.sub_self]
        show (L ++ [], S, D) = _
        rw [List.append_nil]
      have HQ : Hid (post (.returned u3) wr) := Lib.hid (by
        rw [← HPE.out, hXe]
        have hLq : L.length = q := by rw [← hH.out.2.2.1, List.length_map, hH.out.1]
        refine ⟨_, hs, rfl, ?_, hH.out.2.2.1, ?_, hH.out.2.1, hbx, hB⟩
        · show World.ownsRow _ _ _ _ _ L.length _
          rw [hLq]
          exact hown
        · show L.length ≤ 8
          omega)
      clear hown hXe hbx hB
      go_wp2
      exact HQ.out

theorem ReadPostP.bad {g : Nat} {s : ByteArray} {bad : Bool} {cols : Int} {S : ByteArray} {w w' : World} (h : (seenSp s bad).2.2 = true ∨ rightSp (seenSp s bad).1 cols = false) (hb : IsBox w' g S true) (hB : Bar g w w') : ReadPostP g (readSp s bad cols) w (.returned (.slice none 0 0)) w' := by
  have e : (readSp s bad cols).1 = [] ∧ (readSp s bad cols).2.2 = true := by
    unfold readSp
    rw [if_neg]
    · exact ⟨rfl, rfl⟩
    rintro ⟨h1, n, rfl, h2⟩
    rcases h with h | h
    · rw [h] at h1
      cases h1
    · have h3 := (rightSp_nat (l := (seenSp s bad).1) (n := n)).1 h2
      rw [h] at h3
      cases h3
  refine ⟨none, 0, S, by rw [e.1]; rfl, by rw [e.1]; exact Nat.le_refl _, by rw [e.1]; exact HasLL.nil _ _ _, by rw [e.2]; exact hb, fun h => ?_, hB⟩
  rw [e.2] at h
  cases h
open Classical in
theorem ReadPostP.good {g : Nat} {s : ByteArray} {bad : Bool} {cols : Int} {L : List (List Int)} {S : ByteArray} {w w' : World} {A : Option Addr} {cp : Nat} (hX : seenSp s bad = (L, S, false)) (h : rightSp L cols = true) (hc : L.length ≤ cp) (hl : HasLL w' w.heap.size A L) (hb : IsBox w' g S false) (hB : Bar g w w') : ReadPostP g (readSp s bad cols) w (.returned (.slice A L.length cp)) w' := by
  have e : readSp s bad cols = (L, S, false) := by
    unfold readSp
    rw [hX, if_pos]
    refine ⟨rfl, ?_⟩
    unfold rightSp at h
    exact of_decide_eq_true h
  rw [e]
  exact ⟨A, cp, S, rfl, hc, hl, hb, fun _ => rfl, hB⟩
theorem seen_bad (s : ByteArray) : (seenSp s true).2.2 = true := by rw [← (allSp_like s true).1]; exact allGs_bad _ _

set_option maxRecDepth 20000 in
set_option maxHeartbeats 3200000 in
theorem read_any (g : Nat) (s : ByteArray) (bad : Bool) (cols : Int) (w : World) (hb : IsBox w g s bad) (hs : s.size ≤ 9223372036854775807) (hc0 : -9223372036854775808 ≤ cols) (hc1 : cols ≤ 9223372036854775807) :
    Calls Try.prog 23 #[.pointer (some ⟨g, 0, none⟩), .int .i64 cols] w (ReadPostP g (readSp s bad cols) w) := by
  cases bad with
  | true =>
    have hP := ReadPostP.bad (g := g) (s := s) (bad := true) (cols := cols) (w := w) (w' := w) (Or.inl (seen_bad s)) hb (Bar.refl _ _)
    generalize ReadPostP g (readSp s true cols) w = post at hP ⊢
    have HP := Lib.hid hP
    have c1 := hb.c1
    clear hP hb
    go_enter Try.func23, Try.ntmps23
    go_wp2
    exact HP.out
  | false =>
    have hcG := readGroups_any g s false w hb hs
    obtain ⟨l1, l2⟩ := allSp_like s false
    have hPB := fun (S : ByteArray) (w' : World) h => ReadPostP.bad (g := g) (s := s) (bad := false) (cols := cols) (S := S) (w := w) (w' := w') h
    have hPG := fun (L : List (List Int)) (S : ByteArray) (A : Option Addr) (cp : Nat) (w' : World) h => ReadPostP.good (g := g) (s := s) (bad := false) (cols := cols) (L := L) (S := S) (w := w) (w' := w') (A := A) (cp := cp) h
    generalize ReadPostP g (readSp s false cols) w = post at hPB hPG ⊢
    generalize allSp s false = X at hcG l1 l2
    obtain ⟨L, S, D⟩ := X
    generalize seenSp s false = Y at l1 l2 hPB hPG
    have HL := Lib.hid (And.intro l1 l2)
    have HPB := Lib.hid hPB
    have HPG := Lib.hid hPG
    have c1 := hb.c1
    have hgw := hb.lt
    clear hPB hPG l1 l2 hb
    go_enter Try.func23, Try.ntmps23
    go_wp2_with fail
    refine hcG.mono ?_
    rintro e w1 ⟨sv, hs, rfl, hown, hmap, hl8, hI, hbx, hB⟩
    have hown : w1.ownsRow w.heap.size 44 1 sv L.length (Li.cellsL cellsG hs) := hown
    have hmap : hs.map G.g = L := hmap
    have hl8 : L.length ≤ 8 := hl8
    have hbx : IsBox w1 g S D := hbx
    clear hcG c1
    have hlen : hs.length = L.length := by rw [← hmap, List.length_map]
    obtain ⟨A, c, rfl, hcc, hl⟩ := Li.list_of_own cellsG_len hown hlen
    have hLL : HasLL w1 w.heap.size A L := ⟨hs, hmap, hl, fun x hx => ⟨(hI x hx).1.has, (hI x hx).1.cap⟩⟩
    cases D with
    | true =>
      have HQ := Lib.hid (fun (w' : World) => HPB.out S w' (Or.inl HL.out.1.symm))
      have c1 := hbx.c1
      have f1 := hbx.f 1
      have HS1 := Lib.hid (hbx.set1 (.bool true))
      have HB1 := Lib.hid (hB.setCell 1 (.bool true))
      have k1 := HS1.out.c1
      clear hown hbx hB hLL hI hl hmap
      go_wp2
      exact HQ.out _ HS1.out HB1.out
    | false =>
      have hY : Y = (L, S, false) := (HL.out.2 HL.out.1.symm).symm
      have hcR := right_any A c L cols w.heap.size w1 hLL (by omega) (fun g' hg' => by
        have hg' : g' ∈ hs.map G.g := by rw [show hs.map G.g = L from hmap]; exact hg'
        obtain ⟨z, hz, rfl⟩ := List.mem_map.1 hg'
        have := (hI z hz).2
        omega) hc0 hc1
      have HG := Lib.hid (fun (w' : World) (h : rightSp L cols = true) => HPG.out L S A c w' hY h hcc)
      have HF := Lib.hid (fun (w' : World) (S' : ByteArray) (h : rightSp L cols = false) => HPB.out S' w' (Or.inr (by rw [hY]; exact h)))
      have HLL := Lib.hid hLL
      generalize rightSp L cols = r at hcR HG HF
      generalize L.length = u at hcR HG hl8 hcc ⊢
      have c1 := hbx.c1
      clear hown hLL hI hl hmap hY hlen
      go_wp2_with fail
      refine hcR.mono ?_
      rintro e w2 ⟨rfl, hw2⟩
      have hbx := hbx.below hw2 hbx.lt
      have hB := hB.trans (Bar.of_below g hw2 (Nat.le_refl _))
      have HLL := Lib.hid (HLL.out.below hw2 (Nat.le_refl _))
      clear hw2 hcR c1
      have c1 := hbx.c1
      have f1 := hbx.f 1
      cases r with
      | true =>
        have HS1 := Lib.hid (hbx.set1 (.bool false))
        have HB1 := Lib.hid (hB.setCell 1 (.bool false))
        have HL1 := Lib.hid (HLL.out.bar ((Bar.refl g w2).setCell 1 (.bool false)) (Or.inl hgw))
        have k1 := HS1.out.c1
        clear hbx hB
        go_wp2
        exact HG.out _ (by simp) HL1.out HS1.out HB1.out
      | false =>
        have HS1 := Lib.hid (hbx.set1 (.bool true))
        have HB1 := Lib.hid (hB.setCell 1 (.bool true))
        have k1 := HS1.out.c1
        clear hbx hB
        go_wp2
        exact HF.out _ _ (by simp) HS1.out HB1.out
end Go.Proofs.Ytifcepjflkgbmaa.Sp
