/- Buckets: the document's Find and Drop, walked. -/
import Derived.Test.YtmjlfhfadmndhaaBuD
namespace Go.Proofs.Ytmjlfhfadmndhaa.Bu
open Go.RowKit Pac Ls

section
variable {A : Option Addr} {n cp : Nat} {l : List E} {w : World}
set_option maxRecDepth 20000 in
set_option maxHeartbeats 3200000 in
theorem refFind_any (k : ByteArray) (hl : HasE w 0 A l) (hn : l.length = n) (h9 : n ≤ 100000) :
    Calls Try.prog 15 #[.slice A n cp, .string k] w (FindPost (findL l k.data.toList) w) := by
  have hP := fun (e : E) (W : World) (h : findL l k.data.toList = some e) (hB : Below w.heap.size w W) => (show FindPost (findL l k.data.toList) w (.returned (.tuple #[.agg #[.int .i64 e.t, .int .i64 e.s], .bool true])) W from by rw [h]; exact ⟨rfl, hB⟩)
  have hN := fun (W : World) (h : findL l k.data.toList = none) (hB : Below w.heap.size w W) => (show FindPost (findL l k.data.toList) w (.returned (.tuple #[.agg #[.int .i64 0, .int .i64 0], .bool false])) W from by rw [h]; exact ⟨rfl, hB⟩)
  generalize FindPost (findL l k.data.toList) w = post at hP hN ⊢
  have HP := Lib.hid hP
  have HN := Lib.hid hN
  have hb := (Below.refl w.heap.size w).alloc (Nat.le_refl _) (.cells #[.int .i64 0, .int .i64 0] 28)
  have hx := Box2.new w (.int .i64 0) (.int .i64 0) 28
  have HL := Lib.hid (And.intro (hl.below hb (Nat.le_refl _)) hn)
  clear hP hN hl hn
  go_enter Try.func15, Try.ntmps15
  go_wp2
  generalize w.alloc (.cells #[.int .i64 0, .int .i64 0] 28) = w1 at hb hx HL ⊢
  generalize w.heap.size = g at hb hx HP HN ⊢
  go_loopw [6] (fun i wr => ∃ q : Nat, q ≤ n ∧ i = .int .i64 q ∧ Hid (∀ x ∈ l.take q, x.k ≠ k.data.toList) ∧ w1 = wr) (fun i _ => n - (intOf i).toNat)
  case atStart => exact ⟨0, Nat.zero_le _, rfl, Lib.hid (fun x hx => by simp at hx), rfl⟩
  case round =>
    obtain ⟨q, hq, rfl, hH, rfl⟩ := hrel
    by_cases hlt : q < n
    · have hg := List.getElem?_eq_getElem (l := l) (i := q) (by rw [HL.out.2]; exact hlt)
      generalize (l[q]'(by rw [HL.out.2]; exact hlt)) = e at hg
      obtain ⟨b, o, rfl, _, hlb, d0, d1, d2⟩ := HasE.at HL.out.1 hg
      have HG := Lib.hid hg
      obtain ⟨ek, et, es⟩ := e
      simp only at d0 d1 d2
      have i1 : (q : Int) < (n : Int) := by omega
      have i0 : (0 : Int) ≤ (q : Int) := by omega
      clear hg
      by_cases hk : ek.data.toList = k.data.toList
      · have hbk : (ek.toList == k.toList) = true := by rw [key_beq]; exact decide_eq_true hk
        have HE := Lib.hid (HP.out ⟨ek, et, es⟩ ((w1.setCell ⟨g, 0, none⟩ (.int .i64 et)).setCell ⟨g, 1, none⟩ (.int .i64 es)) (find_first HG.out hk hH.out) ((hb.setCell (p := ⟨g, 0, none⟩) (Nat.le_refl _) _).setCell (p := ⟨g, 1, none⟩) (Nat.le_refl _) _))
        have c0 := hx.c0
        have c1 := hx.c1
        have cf := hx.f
        have hx2 := (hx.set0 (.int .i64 et)).set1 (.int .i64 es)
        clear hk
        go_wp2
        refine bodyPost_ret (results_place rfl _ _ g _ _ rfl hx2.c0 hx2.c1) rfl ?_
        exact HE.out
      · have hbk : (ek.toList == k.toList) = false := by rw [key_beq]; exact decide_eq_false hk
        have HH : Hid (∀ x ∈ l.take (q + 1), x.k ≠ k.data.toList) := Lib.hid (by
          rw [List.take_add_one, HG.out]
          intro x hx
          rcases List.mem_append.1 hx with hx | hx
          · exact hH.out x hx
          · have : x = ⟨ek, et, es⟩ := by simpa using hx
            subst this
            exact hk)
        clear hk
        go_wp2
        go_roundw
        case rel => exact ⟨q + 1, by omega, by go_num, HH, by trivial⟩
        case measure => simp [intOf]; omega
    · obtain rfl : q = n := by omega
      have hnone : findL l k.data.toList = none := find_none.2 fun x hx => hH.out x (by rw [List.take_of_length_le (by rw [HL.out.2]; exact Nat.le_refl _)]; exact hx)
      have HE := Lib.hid (HN.out ((w1.setCell ⟨g, 0, none⟩ (.int .i64 0)).setCell ⟨g, 1, none⟩ (.int .i64 0)) hnone ((hb.setCell (p := ⟨g, 0, none⟩) (Nat.le_refl _) _).setCell (p := ⟨g, 1, none⟩) (Nat.le_refl _) _))
      have c0 := hx.c0
      have c1 := hx.c1
      have cf := hx.f
      have hx2 := (hx.set0 (.int .i64 0)).set1 (.int .i64 0)
      go_wp2
      refine bodyPost_ret (results_place rfl _ _ g _ _ rfl hx2.c0 hx2.c1) rfl ?_
      exact HE.out
set_option maxRecDepth 20000 in
set_option maxHeartbeats 3200000 in
theorem refDrop_any (k : ByteArray) (lo : Nat) (hl : HasE w lo A l) (hn : l.length = n) (h9 : n ≤ 100000) :
    Calls Try.prog 13 #[.slice A n cp, .string k] w (PutPost (dropL l k.data.toList) w) := by
  obtain ⟨iE, hiE, hv0, hv1, hv2⟩ := info_parts infoE
  have HP := Lib.hid (fun (sv : Value) (m : Nat) (W : World) (hown : W.ownsRow w.heap.size 30 3 sv m (Li.cellsL cellsE (dropL l k.data.toList))) (hm : (dropL l k.data.toList).length = m) (hB : Below w.heap.size w W) => put_post hown hm (Nat.le_refl _) hB)
  generalize PutPost (dropL l k.data.toList) w = post at HP ⊢
  have HL := Lib.hid (And.intro hl hn)
  clear hl hn
  go_enter Try.func13, Try.ntmps13
  go_wp2
  go_loopw [5, 6] (fun x i wr => ∃ (q m : Nat) (sv : Value), q ≤ n ∧ m ≤ q ∧ i = .int .i64 q ∧ x = sv ∧ wr.ownsRow w.heap.size 30 3 sv m (Li.cellsL cellsE (dropL (l.take q) k.data.toList)) ∧ Hid ((dropL (l.take q) k.data.toList).length = m) ∧ Below w.heap.size w wr) (fun _ i _ => n - (intOf i).toNat)
  case atStart => exact ⟨0, 0, _, Nat.zero_le _, Nat.le_refl _, rfl, rfl, by simpa [Li.cellsL, dropL] using World.ownsRow_nil _ _ _ _, Lib.hid (by simp [dropL]), Below.refl _ _⟩
  case round =>
    obtain ⟨q, m, sv, hq, hmq, rfl, rfl, hown, hM, hB⟩ := hrel
    by_cases hlt : q < n
    · have hg := List.getElem?_eq_getElem (l := l) (i := q) (by rw [HL.out.2]; exact hlt)
      generalize (l[q]'(by rw [HL.out.2]; exact hlt)) = e at hg
      obtain ⟨b, o, rfl, _, hlb, d0, d1, d2⟩ := HasE.at (HL.out.1.below hB (Nat.le_refl _)) hg
      have HTK : Hid (l.take (q + 1) = l.take q ++ [e]) := Lib.hid (by rw [List.take_add_one, hg]; rfl)
      obtain ⟨ek, et, es⟩ := e
      simp only at d0 d1 d2
      have i1 : (q : Int) < (n : Int) := by omega
      have i0 : (0 : Int) ≤ (q : Int) := by omega
      clear hg
      by_cases hk : ek.data.toList = k.data.toList
      · have hbk : (ek.toList == k.toList) = true := by rw [key_beq]; exact decide_eq_true hk
        have HD : Hid (dropL (l.take (q + 1)) k.data.toList = dropL (l.take q) k.data.toList) := Lib.hid (by rw [HTK.out, drop_snoc, if_pos (show (⟨ek, et, es⟩ : E).k = k.data.toList from hk)])
        clear hk
        go_wp2
        go_roundw
        case rel => exact ⟨q + 1, m, _, by omega, by omega, by go_num, rfl, by rw [HD.out]; exact hown, Lib.hid (by rw [HD.out]; exact hM.out), hB⟩
        case measure => simp [intOf]; omega
      · have hbk : (ek.toList == k.toList) = false := by rw [key_beq]; exact decide_eq_false hk
        have HD : Hid (dropL (l.take (q + 1)) k.data.toList = dropL (l.take q) k.data.toList ++ [⟨ek, et, es⟩]) := Lib.hid (by rw [HTK.out, drop_snoc, if_neg (show ¬ (⟨ek, et, es⟩ : E).k = k.data.toList from hk)])
        have HW := Lib.hid (And.intro (hown.alloc (.cells #[.string ek, .int .i64 et, .int .i64 es] 30)) (And.intro (hB.alloc hB.size (.cells #[.string ek, .int .i64 et, .int .i64 es] 30)) (heap_alloc_new wr (.cells #[.string ek, .int .i64 et, .int .i64 es] 30))))
        clear hk hown hB
        go_wp2_with (at_builtin; go_must (refine wpList_append_own _ rfl _ _ 22 rfl w.heap.size 30 iE (.agg #[.string ⟨#[]⟩, .int .i64 0, .int .i64 0]) 3 32 Try.underlying22 hiE hv0 hv1 hv2 rfl (by decide) u5 m (Li.cellsL cellsE (dropL (l.take q) k.data.toList)) rfl HW.out.1 ⟨wr.heap.size, 0, none⟩ 1 1 [.string ek, .int .i64 et, .int .i64 es] (by go_simp) rfl (World.news_of_block HW.out.2.2) (by simp [Value.oneCell']) (by unfold maxLen; omega) (by omega) HW.out.2.1.size ?_))
        intro v5 y5 hown5 hgrow5 _
        obtain ⟨hownW, hbW, hnW⟩ := HW.out
        have hB5 := hbW.grown hgrow5 hbW.size (fun k hk => (hownW.lt k hk).1)
        clear hownW hbW hnW hgrow5 HW d0 d1 d2
        go_wp2
        go_roundw
        case rel =>
          refine ⟨q + 1, m + 1, _, by omega, by omega, by go_num, rfl, ?_, Lib.hid (by rw [HD.out, List.length_append, hM.out]; rfl), hB5⟩
          rw [HD.out, Li.cellsL_snoc]
          exact hown5
        case measure => simp [intOf]; omega
    · obtain rfl : q = n := by omega
      rw [List.take_of_length_le (by rw [HL.out.2]; exact Nat.le_refl _)] at hown hM
      have HE := Lib.hid (HP.out _ m wr hown hM.out hB)
      clear hown hM
      go_wp2
      exact HE.out
end
end Go.Proofs.Ytmjlfhfadmndhaa.Bu
