/- The program's bucket and Parse. -/
import Derived.Test.YtmjlfhfadmndhaaBpI
namespace Go.Proofs.Ytmjlfhfadmndhaa.Bu
open Go.RowKit Pac Ls Lex

/-- What was seen: just so as long as all went well. -/
def Seen (X : List E × ByteArray × Bool) (L : List E) (k : Nat) (S : ByteArray) (D : Bool) : Prop :=
  (D = false → X = (L ++ (readEs k S false).1, (readEs k S false).2)) ∧ (D = true → X.2.2 = true)
theorem Seen.of {X : List E × ByteArray × Bool} {L : List E} {k : Nat} {S : ByteArray} {D : Bool} (h : X = (L ++ (readEs k S D).1, (readEs k S D).2)) : Seen X L k S D :=
  ⟨fun e => by subst e; exact h, fun e => by subst e; rw [h, es_end (.inr rfl)]⟩
theorem Seen.next {X : List E × ByteArray × Bool} {L : List E} {k : Nat} {S S1 : ByteArray} {D D1 : Bool} {e : E} (h : Seen X L (k + 1) S D) (hE : D = false → readE S = (e, S1, D1)) (hD : D = true → D1 = true) : Seen X (L ++ [e]) k S1 D1 := by
  cases D with
  | false => exact Seen.of (es_next (h.1 rfl) (hE rfl))
  | true => exact ⟨fun e => (by rw [hD rfl] at e; cases e), fun _ => h.2 rfl⟩
def BktPost (g : Nat) (X : List E × ByteArray × Bool) (w : World) (e : Ending) (w' : World) : Prop :=
  ∃ (A : Option Addr) (n c : Nat) (L : List E) (S : ByteArray) (D : Bool), e = .returned (.slice A n c) ∧ n ≤ c ∧ L.length = n ∧ n ≤ 512 ∧ HasE w' w.heap.size A L ∧ IsBox w' g S D ∧ Seen X L 0 S D ∧ Bar g w w'
section
variable {w : World}
set_option maxRecDepth 20000 in
set_option maxHeartbeats 3200000 in
theorem bucket_any (g : Nat) (s : ByteArray) (hb : IsBox w g s false) (hs : s.size ≤ 1000000000) :
    Calls Try.prog 32 #[.pointer (some ⟨g, 0, none⟩)] w (BktPost g (seenB s) w) := by
  obtain ⟨iE, hiE, hv0, hv1, hv2⟩ := info_parts infoE
  obtain ⟨X, hX0⟩ : ∃ X, seenB s = X := ⟨_, rfl⟩
  obtain ⟨k0, hk0, hk8⟩ := btw0 s false 512
  have hJ0 : Seen X [] k0 (numS s false) (btwBad s false 0 512) := Seen.of (by
    rw [← hX0]
    unfold seenB
    have h : btwR s false 0 512 = (k0 : Int) := hk0
    rw [h, Int.toNat_natCast]
    rfl)
  rw [hX0]
  have hcB := boxBetween_any g s false 0 512 _ hb (by omega)
  rw [show btwR s false 0 512 = (k0 : Int) from hk0] at hcB
  have hs1 : (numS s false).size ≤ 1000000000 := Nat.le_trans (numS_size s false) hs
  have hgl := hb.lt
  clear hX0 hk0 hb
  generalize numS s false = S0 at hJ0 hcB hs1
  generalize btwBad s false 0 512 = D0 at hJ0 hcB
  have HJ0 := Lib.hid hJ0
  clear hJ0
  go_enter Try.func32, Try.ntmps32
  go_wp2_with fail
  refine hcB.mono ?_
  rintro e w1 ⟨rfl, hbx, hB1⟩
  have hGL := Lib.hid hgl
  clear hcB hgl
  go_wp2
  go_loopw [3, 8] (fun x i wr => ∃ (j : Nat) (S : ByteArray) (D : Bool) (L : List E) (sv : Value), j ≤ k0 ∧ i = .int .i64 j ∧ x = sv ∧ wr.ownsRow w.heap.size 30 3 sv j (Li.cellsL cellsE L) ∧ IsBox wr g S D ∧ S.size ≤ 1000000000 ∧ Hid (L.length = j ∧ Seen X L (k0 - j) S D) ∧ Hid (Bar g w wr)) (fun _ i _ => k0 - (intOf i).toNat)
  case atStart => exact ⟨0, S0, D0, [], _, Nat.zero_le _, rfl, rfl, World.ownsRow_nil _ _ _ _, hbx, hs1, Lib.hid ⟨rfl, HJ0.out⟩, Lib.hid hB1⟩
  case round =>
    clear hbx hB1 hs1
    obtain ⟨j, S, D, L, sv, hj, rfl, rfl, hown, hbx, hS, hH, hB⟩ := hrel
    by_cases hlt : j < k0
    · obtain ⟨ek, at0, hcall, hE⟩ := entry_any g S D wr hbx hS
      have hD : D = true → btwBad (txtS S D 61) (txtBad S D 61) 0 511 = true := fun h => by rw [h, txt_bad', btw_bad']
      have hs2 : (numS (txtS S D 61) (txtBad S D 61)).size ≤ 1000000000 := Nat.le_trans (numS_size _ _) (Nat.le_trans (txtS_size S D 61) hS)
      generalize numS (txtS S D 61) (txtBad S D 61) = S2 at hcall hE hs2
      generalize btwBad (txtS S D 61) (txtBad S D 61) 0 511 = D2 at hcall hE hD
      have HN : Hid ((L ++ [(⟨ek, (at0 : Int) / 8, (at0 : Int) % 8⟩ : E)]).length = j + 1 ∧ Seen X (L ++ [(⟨ek, (at0 : Int) / 8, (at0 : Int) % 8⟩ : E)]) (k0 - (j + 1)) S2 D2) := Lib.hid ⟨by rw [List.length_append, hH.out.1]; rfl, by
        have h := hH.out.2
        rw [show k0 - j = k0 - (j + 1) + 1 by omega] at h
        exact h.next hE hD⟩
      have HOW := Lib.hid hown
      have i1 : (j : Int) < (k0 : Int) := by omega
      clear hE hD hown hbx
      go_wp2_with fail
      refine hcall.mono ?_
      rintro e w2 ⟨rfl, hbx, hB2⟩
      have hown2 := Li.own_bar HOW.out hB2 hGL.out
      have hB3 := hB.out.trans hB2
      have hnew := (Below.refl w2.heap.size w2).alloc (Nat.le_refl _) (.cells #[.string ek, .int .i64 ((at0 : Int) / 8), .int .i64 ((at0 : Int) % 8)] 30)
      have HW := Lib.hid (And.intro (hown2.alloc (.cells #[.string ek, .int .i64 ((at0 : Int) / 8), .int .i64 ((at0 : Int) % 8)] 30)) (And.intro (hB3.trans (Bar.of_below g hnew (Nat.le_refl _))) (And.intro (heap_alloc_new w2 (.cells #[.string ek, .int .i64 ((at0 : Int) / 8), .int .i64 ((at0 : Int) % 8)] 30)) (hbx.alloc (.cells #[.string ek, .int .i64 ((at0 : Int) / 8), .int .i64 ((at0 : Int) % 8)] 30)))))
      clear hcall hB2 hown2 hB3 hnew hbx HOW
      go_wp2_with (at_builtin; go_must (refine wpList_append_own _ rfl _ _ 22 rfl w.heap.size 30 iE (.agg #[.string ⟨#[]⟩, .int .i64 0, .int .i64 0]) 3 32 Try.underlying22 hiE hv0 hv1 hv2 rfl (by decide) u3 j (Li.cellsL cellsE L) rfl HW.out.1 ⟨w2.heap.size, 0, none⟩ 1 1 [.string ek, .int .i64 ((at0 : Int) / 8), .int .i64 ((at0 : Int) % 8)] (by go_simp) rfl (World.news_of_block HW.out.2.2.1) (by simp [Value.oneCell']) (by unfold maxLen; omega) (by omega) HW.out.2.1.size ?_))
      intro v5 y5 hown5 hgrow5 _
      obtain ⟨hownW, hbW, _, hxW⟩ := HW.out
      have hx5 := box_grown hxW hgrow5 (fun k hk => Nat.lt_of_lt_of_le hGL.out (hownW.lt k hk).1)
      have hB5 : Hid (Bar g w y5) := Lib.hid ⟨hgrow5.os.trans hbW.os, hgrow5.tape.trans hbW.tape, hgrow5.output.trans hbW.output, Nat.le_trans hbW.size hgrow5.size, fun k hk hkg => (hgrow5.block k (Nat.lt_of_lt_of_le hk hbW.size) (fun e => by have := (hownW.lt k e.symm).1; omega)).trans (hbW.block k hk hkg)⟩
      clear hownW hbW hxW hgrow5 HW
      go_wp2
      go_roundw
      case rel =>
        refine ⟨j + 1, S2, D2, _, _, by omega, by go_num, rfl, ?_, hx5, hs2, HN, hB5⟩
        rw [Li.cellsL_snoc]
        exact hown5
      case measure => simp [intOf]; omega
    · obtain rfl : j = k0 := by omega
      obtain ⟨A, c, rfl, hcc, hl⟩ := Li.list_of_own cellsE_len hown hH.out.1
      have HF : Hid (BktPost g X w (.returned (.slice A j c)) wr) := Lib.hid ⟨A, j, c, L, S, D, rfl, hcc, hH.out.1, hk8, hl, hbx, by have h := hH.out.2; rw [Nat.sub_self] at h; exact h, hB.out⟩
      clear hown hl hbx
      go_wp2
      go_ret
      exact HF.out
theorem ParsePost.bad {s : ByteArray} {w w' : World} (h : (seenB s).2.2 = true) (hB : Below w.heap.size w w') : ParsePost (parseB s) w (.returned (.tuple #[.slice none 0 0, .bool false])) w' := by
  have e : parseB s = none := by
    unfold parseB
    rw [if_neg]
    rintro ⟨h1, _⟩
    rw [h] at h1
    cases h1
  rw [e]
  exact ⟨none, 0, 0, rfl, rfl, Nat.le_refl _, hasE_nil _ _ _, hB⟩
set_option maxRecDepth 20000 in
set_option maxHeartbeats 3200000 in
theorem parse_full (s : ByteArray) (hs : s.size ≤ 1000000000) :
    Calls Try.prog 18 #[.string s] w (ParsePost (parseB s) w) := by
  have hbx := Box2.new w (.string s) (.bool false) 55
  have hB0 := (Below.refl w.heap.size w).alloc (Nat.le_refl _) (.cells #[.string s, .bool false] 55)
  have hcB := bucket_any w.heap.size s hbx hs
  have hlt := hbx.lt
  have HF := Lib.hid (fun (L : List E) (S : ByteArray) (D : Bool) (hX : Seen (seenB s) L 0 S D) (w' : World) (h : ¬ (doneB S D = true ∧ IsB L)) (hb : Below w.heap.size w w') => (show ParsePost (parseB s) w (.returned (.tuple #[.slice none 0 0, .bool false])) w' from by
    cases D with
    | false => exact ParsePost.no (by rw [hX.1 rfl, es_end (.inl rfl)]; simp) h hb
    | true => exact ParsePost.bad (hX.2 rfl) hb))
  have HG := Lib.hid (fun (L : List E) (S : ByteArray) (D : Bool) (hX : Seen (seenB s) L 0 S D) (w' : World) (A : Option Addr) (n cp : Nat) (hd : doneB S D = true) (hb : IsB L) (hn : L.length = n) (hc : n ≤ cp) (hl : HasE w' w.heap.size A L) (hbe : Below w.heap.size w w') => (show ParsePost (parseB s) w (.returned (.tuple #[.slice A n cp, .bool true])) w' from by
    obtain ⟨rfl, _⟩ := done_iff.1 hd
    exact ParsePost.yes (by rw [hX.1 rfl, es_end (.inl rfl)]; simp) hd hb hn hc hl hbe))
  generalize ParsePost (parseB s) w = post at HF HG ⊢
  generalize seenB s = X at hcB HF HG
  clear hbx
  go_enter Try.func18, Try.ntmps18
  go_wp2_with fail
  generalize w.alloc (.cells #[.string s, .bool false] 55) = wa at hB0 hcB hlt ⊢
  refine hcB.mono ?_
  rintro e w1 ⟨A, n, c, L, S, D, rfl, hcc, hn, h512, hl, hbx, hX, hB1⟩
  have hB := hB0.trans (hB1.below (B := w.heap.size) (Nat.le_refl _) (Nat.le_of_lt hlt))
  have hcD := boxDone_any w.heap.size S D w1 hbx
  have hcR := right_any (cp := c) wa.heap.size hl hn hcc (by omega)
  have HF2 := Lib.hid (HF.out L S D hX)
  have HG2 := Lib.hid (fun (w' : World) => HG.out L S D hX w' A n c)
  have HL := Lib.hid (And.intro hl (And.intro hn (And.intro hcc (And.intro hB hlt))))
  obtain ⟨dn, hdn⟩ : ∃ dn, doneB S D = dn := ⟨_, rfl⟩
  rw [hdn] at hcD HF2 HG2
  clear hcB hB0 hB1 hX hl hbx hB hn hlt hdn HF HG
  go_wp2_with fail
  refine hcD.mono ?_
  rintro e w5 ⟨rfl, rfl⟩
  clear hcD
  cases dn
  · have HQ := Lib.hid (HF2.out _ (by simp) HL.out.2.2.2.1)
    go_wp2
    exact HQ.out
  · go_wp2_with fail
    refine hcR.mono ?_
    rintro e w6 ⟨r, rfl, hr, hw6⟩
    have hB6 := HL.out.2.2.2.1.trans (hw6.mono HL.out.2.2.2.1.size)
    cases r
    · have HQ := Lib.hid (HF2.out _ (by intro h; exact absurd (hr.2 h.2) (by simp)) hB6)
      clear hB6 hw6 hr
      go_wp2
      exact HQ.out
    · have HQ := Lib.hid (HG2.out _ trivial (hr.1 rfl) HL.out.2.1 HL.out.2.2.1 ((HL.out.1.below hw6 (Nat.le_refl _)).lower (Nat.le_of_lt HL.out.2.2.2.2)) hB6)
      clear hB6 hw6 hr
      go_wp2
      exact HQ.out
theorem parse_any (s : ByteArray) (hs : s.size ≤ 1000000000) :
    Calls Try.prog 18 #[.string s] w (ParsePost0 (parseB s) w) := (parse_full s hs).mono ParsePost.weak
end
end Go.Proofs.Ytmjlfhfadmndhaa.Bu
