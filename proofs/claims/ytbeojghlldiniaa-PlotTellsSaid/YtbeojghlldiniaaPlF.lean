/- PlotAll, walked. -/
import Derived.Test.YtbeojghlldiniaaPlE
namespace Go.Proofs.Ytbeojghlldiniaa.Pl
open Go.RowKit
theorem take_next {α : Type} {l : List α} {q : Nat} {a : α} (h : l[q]? = some a) : l.take (q + 1) = l.take q ++ [a] := by
  obtain ⟨hq, e⟩ := List.getElem?_eq_some_iff.1 h
  rw [List.take_add_one, h]; rfl
section
variable {w : World}
theorem all_no (s : ByteArray) (a0 a1 : Int) (hs : s.size ≠ 200) (hs2 : s.size ≤ 9223372036854775807) :
    Calls Try.prog 6 #[.string s, .agg #[.int .u16 a0, .int .u16 a1]] w fun e w' => e = .returned (.bool true) ∧ Below w.heap.size w w' := by
  have hbox := (Below.refl w.heap.size w).alloc (Nat.le_refl _) (.cells #[.int .u16 a0, .int .u16 a1] 37)
  have d1 : ((s.size : Int) != 200) = true := bne_iff_ne.2 (by omega)
  go_enter Try.func6, Try.ntmps6
  go_wp2_with fail
  refine (awake_any _).mono ?_
  rintro e w1 ⟨rfl, hb1⟩
  go_wp2
  go_ret
  exact ⟨rfl, hbox.trans (hb1.mono hbox.size)⟩
/-- What the pick says, all in one. -/
structure Got (l : List UInt8) (p k : Nat) (r : List Nat) (fn fx : Nat) : Prop where
  len : r.length = k
  ok : ∀ i ∈ r, i < 512 ∧ i / 8 < l.length
  free : ∀ i ∈ r, tk l i = false
  all : (freeL l p).length = fn
  left : (freeL (mks l true r) p).length = fx
  sub : fx + k = fn
  small : fn ≤ 512
  one : pickL (mks l true r) p 1 = none ∧ fx = 0 ∨ ∃ y, pickL (mks l true r) p 1 = some [y] ∧ y ∉ r ∧ 0 < fx
theorem Got.of {l : List UInt8} {p k : Nat} {r : List Nat} (hl : l.length = 200) (h : pickL l p k = some r) : ∃ fn fx, Got l p k r fn fx := by
  have hok : ∀ i ∈ r, i < 512 ∧ i / 8 < l.length := fun i hi => by
    have := (mem_free.1 (pick_mem h hi)).1
    omega
  have hfx := free_pick h hok
  have hkn : k ≤ (freeL l p).length := by
    unfold pickL at h
    split at h
    · assumption
    · cases h
  have hle : (freeL l p).length ≤ 512 := by
    unfold freeL
    refine Nat.le_trans (List.length_filter_le _ _) ?_
    rw [List.length_range]; omega
  have hnot : ∀ y ∈ (freeL l p).drop k, y ∉ r := fun y hy hyr => by
    rw [← hfx] at hy
    have h1 := (mem_free.1 hy).2
    rw [tk_mks hok, if_pos hyr] at h1
    cases h1
  refine ⟨_, _, pick_len h, hok, fun i hi => (mem_free.1 (pick_mem h hi)).2, rfl, rfl, by rw [hfx, List.length_drop]; omega, hle, ?_⟩
  rw [hfx]
  unfold pickL
  rw [hfx]
  cases hd : (freeL l p).drop k with
  | nil => left; exact ⟨by simp, rfl⟩
  | cons y t => right; exact ⟨y, by simp, hnot y (by rw [hd]; simp), by simp⟩
set_option maxRecDepth 20000 in
set_option maxHeartbeats 8000000 in
theorem all_yes (s : ByteArray) (a0 a1 : Nat) (hs : s.size = 200) (h0 : a0 ≤ 65535) (h1 : a1 ≤ 65535) :
    Calls Try.prog 6 #[.string s, .agg #[.int .u16 a0, .int .u16 a1]] w fun e w' => e = .returned (.bool true) ∧ Below w.heap.size w w' := by
  have hbox := Lib.hid ((Below.refl w.heap.size w).alloc (Nat.le_refl _) (.cells #[.int .u16 a0, .int .u16 a1] 37))
  have c0 : (w.alloc (.cells #[.int .u16 a0, .int .u16 a1] 37)).cell? ⟨w.heap.size, 0, none⟩ = some (.int .u16 a0) := by simp
  have c1 : (w.alloc (.cells #[.int .u16 a0, .int .u16 a1] 37)).cell? ⟨w.heap.size, 1, none⟩ = some (.int .u16 a1) := by simp
  obtain ⟨p, hp⟩ : ∃ p, p = a0 % 513 := ⟨_, rfl⟩
  obtain ⟨k, hk⟩ : ∃ k, k = a1 % 60 := ⟨_, rfl⟩
  have HX := Lib.hid (show (a0 : Int) % 513 = (p : Int) ∧ (a1 : Int) % 60 = (k : Int) ∧ p ≤ 512 ∧ k ≤ 60 ∧ a0 ≤ 65535 ∧ a1 ≤ 65535 from ⟨by omega, by omega, by omega, by omega, h0, h1⟩)
  obtain ⟨l, hl⟩ : ∃ l, s.data.toList = l := ⟨_, rfl⟩
  have hll : l.length = 200 := by rw [← hl]; simpa using hs
  have HPk : Hid (∀ (W : World) (x : ByteArray) (m : Nat), x.size = 200 → m ≤ 60 → Calls Try.prog 8 #[.string x, .int .i64 p, .int .i64 m] W (PickPost (pickL x.data.toList p m) W)) := Lib.hid (fun W x m hx hm => by
    have := pick_any (s := x) (n := (p : Int)) (m := (m : Int)) W (by omega) (by omega) (by have := HX.out.2.2.1; omega) (by omega) (by omega)
    rw [Int.toNat_natCast, Int.toNat_natCast] at this
    exact this)
  have HFr : Hid (∀ (W : World) (x : ByteArray), x.size = 200 → Calls Try.prog 14 #[.string x, .int .i64 p] W fun e w' => e = .returned (.int .i64 ((freeL x.data.toList p).length : Nat)) ∧ Below W.heap.size W w') := Lib.hid (fun W x hx => by
    have := free_any (s := x) (n := (p : Int)) W (by omega) (by omega) (by have := HX.out.2.2.1; omega)
    rw [Int.toNat_natCast] at this
    exact this)
  have HMk : Hid (∀ (W : World) (x : ByteArray) (i : Nat) (t : Bool), x.size = 200 → i < 512 → Calls Try.prog 12 #[.string x, .int .i64 i, .bool t] W fun e w' => ∃ y : ByteArray, e = .returned (.string y) ∧ y.data.toList = mk x.data.toList i t ∧ Below W.heap.size W w') := Lib.hid (fun W x i t hx hi =>
    (mark_any t W (by omega) (by omega) (by omega)).mono fun e w' h => ⟨_, h.1, mkB_nat x i t, h.2⟩)
  have d1 : ((s.size : Int) != 200) = false := by rw [hs]; rfl
  have HS := Lib.hid hs
  have HL := Lib.hid (And.intro hl hll)
  clear hs hp hk h0 h1 hl hll
  go_enter Try.func6, Try.ntmps6
  go_wp2_with fail
  go_quiet (fail)
  have v0 : (wrap64 (a0 : Int)).tmod 513 = (p : Int) := by rw [w64 (by omega) (by have := HX.out.2.2.2.2.1; omega), Int.tmod_eq_emod_of_nonneg (by omega)]; exact HX.out.1
  have v1 : (wrap64 (a1 : Int)).tmod 60 = (k : Int) := by rw [w64 (by omega) (by have := HX.out.2.2.2.2.2; omega), Int.tmod_eq_emod_of_nonneg (by omega)]; exact HX.out.2.1
  simp only [v0, v1]
  clear v0 v1 d1 c0 c1
  rename_i nq
  have hB := below_drewN hbox.out nq
  clear hbox
  generalize (w.alloc (.cells #[.int .u16 a0, .int .u16 a1] 37)).drewN nq = w1 at hB ⊢
  go_wp2_with fail
  refine (HPk.out w1 s k HS.out HX.out.2.2.2.1).mono ?_
  rw [HL.out.1]
  rintro e w2 ⟨A, n, cp, rfl, hn, hcp, hN, hb⟩
  have hB := hB.trans (hb.mono hB.size)
  clear hb
  cases ho : pickL l p k with
  | none =>
    clear ho hN hcp hn
    go_wp2_with fail
    refine (awake_any w2).mono ?_
    rintro e y1 ⟨rfl, hb⟩
    have hB := hB.trans (hb.mono hB.size)
    clear hb
    go_wp2_with fail
    go_ret
    exact ⟨rfl, hB⟩
  | some r =>
    obtain ⟨fn, fx, hG⟩ := Got.of HL.out.2 ho
    rw [ho] at hn hN
    simp only [Option.getD_some] at hn hN
    obtain rfl : n = k := by rw [← hn]; exact hG.len
    have HG := Lib.hid hG
    have HN := Lib.hid hN
    have hn60 : n ≤ 60 := HX.out.2.2.2.1
    clear ho hn hN hG
    go_wp2_with fail
    go_loopw [9, 10] (fun a i wr => ∃ (q : Nat) (x : ByteArray), q ≤ n ∧ a = .string x ∧ i = .int .i64 q ∧ Hid (x.data.toList = mks l true (r.take q)) ∧ Hid (HasN wr 0 A r) ∧ Below w.heap.size w wr) (fun _ i _ => n - (intOf i).toNat)
    case atStart => exact ⟨0, s, by omega, rfl, rfl, Lib.hid (by rw [List.take_zero, HL.out.1]; rfl), HN, hB⟩
    case round =>
      clear hB HN
      obtain ⟨q, x, hq, rfl, rfl, HC, HN, hB⟩ := hrel
      have hxs : x.size = 200 := by
        have := congrArg List.length HC.out
        rw [mks_len, HL.out.2] at this
        simpa using this
      by_cases hlt : q < n
      · have hat : r[q]? = some (r[q]'(by rw [HG.out.len]; exact hlt)) := List.getElem?_eq_getElem _
        generalize (r[q]'(by rw [HG.out.len]; exact hlt)) = i at hat
        have hi := HG.out.ok i (List.mem_of_getElem? hat)
        obtain ⟨b, o, rfl, c0⟩ := HasN.at HN.out hat
        have HT := Lib.hid (take_next hat)
        have i0 : (0 : Int) ≤ (q : Int) := by omega
        have i1 : (q : Int) < (n : Int) := by omega
        have HI := Lib.hid hi.1
        have HXS := Lib.hid hxs
        clear hat hi hxs
        go_wp2_with fail
        refine (HMk.out wr x i true HXS.out HI.out).mono ?_
        rintro e y1 ⟨y, rfl, hy, hb⟩
        have hB := hB.trans (hb.mono hB.size)
        have HN := Lib.hid (Li.HasL.below HN.out hb (Nat.le_refl _))
        have HC2 : Hid (y.data.toList = mks l true (r.take (q + 1))) := Lib.hid (by rw [hy, HC.out, HT.out, mks_snoc])
        clear hb hy c0
        go_wp2
        go_roundw
        case rel => exact ⟨q + 1, y, by omega, rfl, by go_num, HC2, HN, hB⟩
        case measure => simp [intOf]; omega
      · obtain rfl : q = n := by omega
        have hfull : r.take q = r := List.take_of_length_le (by rw [HG.out.len]; exact Nat.le_refl _)
        rw [hfull] at HC
        have HXS := Lib.hid hxs
        clear hfull hlt hxs
        go_wp2_with fail
        refine (HPk.out wr x 1 HXS.out (by decide)).mono ?_
        rw [HC.out]
        rintro e w3 ⟨A1, n1, cp1, rfl, hn1, hcp1, hN1, hb⟩
        have hB := hB.trans (hb.mono hB.size)
        have HN := Lib.hid (Li.HasL.below HN.out hb (Nat.le_refl _))
        clear hb
        have hfx : ((fx : Int) == (fn : Int) - (q : Int)) = true := by
          have := HG.out.sub
          simp; omega
        have hfn : (fn : Int) - (q : Int) ≤ 512 := by have := HG.out.small; omega
        have hfn0 : (0 : Int) ≤ (fn : Int) - (q : Int) := by have := HG.out.sub; omega
        have HFX : Hid (((fx : Int) == (fn : Int) - (q : Int)) = true ∧ (fn : Int) - (q : Int) ≤ 512 ∧ (0 : Int) ≤ (fn : Int) - (q : Int)) := Lib.hid ⟨hfx, hfn, hfn0⟩
        clear hfx hfn hfn0
        obtain ⟨more, hmore⟩ : ∃ b, (pickL (mks l true r) p 1).isSome = b := ⟨_, rfl⟩
        have HMo : Hid ((more = decide (0 < fx)) ∧ (more = true → ∃ (y b1 o1 : Nat), n1 = 1 ∧ A1 = some ⟨b1, o1, none⟩ ∧ y ∉ r ∧ w3.cell? ⟨b1, o1, none⟩ = some (.int .i64 y))) := by
          refine Lib.hid ?_
          rcases HG.out.one with ⟨h1, h2⟩ | ⟨y, h1, h2, h3⟩
          · rw [h1] at hmore
            subst hmore
            exact ⟨by rw [h2]; rfl, fun h => by cases h⟩
          · rw [h1] at hmore hn1 hN1
            subst hmore
            refine ⟨by rw [decide_eq_true h3]; rfl, fun _ => ?_⟩
            obtain ⟨b1, o1, e, c⟩ := HasN.at (q := 0) (a := y) hN1 rfl
            exact ⟨y, b1, o1, hn1.symm, e, h2, c⟩
        rw [hmore]
        clear hmore hn1 hcp1 hN1
        have hlt3 := Below.refl w3.heap.size w3
        go_wp2_with fail
        have HW3 := Lib.hid hlt3
        clear hlt3
        go_loopw [13] (fun i wr => ∃ (j : Nat), j ≤ q ∧ i = .int .i64 j ∧ Below w3.heap.size w3 wr) (fun i _ => q - (intOf i).toNat)
        case atStart => exact ⟨0, by omega, rfl, HW3.out⟩
        case round =>
          obtain ⟨j, hj, rfl, hBw⟩ := hrel
          by_cases hgo : j < q ∧ more = true
          · obtain ⟨hjq, rfl⟩ := hgo
            obtain ⟨y, b1, o1, rfl, rfl, hyr, cy⟩ := HMo.out.2 rfl
            have cy' := (hBw.cell (p := ⟨b1, o1, none⟩) (World.block_lt_of_cell? _ _ cy)).trans cy
            have hat : r[j]? = some (r[j]'(by rw [HG.out.len]; exact hjq)) := List.getElem?_eq_getElem _
            generalize (r[j]'(by rw [HG.out.len]; exact hjq)) = i at hat
            obtain ⟨b, o, rfl, c0⟩ := HasN.at HN.out hat
            have c0' := (hBw.cell (p := ⟨b, o + j, none⟩) (World.block_lt_of_cell? _ _ c0)).trans c0
            have hne : ((y : Int) == (i : Int)) = false := beq_eq_false_iff_ne.2 (fun e => hyr (by
              have : y = i := by omega
              rw [this]; exact List.mem_of_getElem? hat))
            have i0 : (0 : Int) ≤ (j : Int) := by omega
            have i1 : (j : Int) < (q : Int) := by omega
            have HBn := Lib.hid hBw
            have HJ := Lib.hid hjq
            clear hat hyr cy c0 hBw
            go_wp2_with fail
            go_quiet (fail)
            rename Nat => nn
            have hBn := below_drewN HBn.out nn
            clear cy' c0'
            go_wp2
            go_roundw
            case rel => exact ⟨j + 1, by have := HJ.out; omega, by go_num, hBn⟩
            case measure => have := HJ.out; simp [intOf]; omega
          · have hcase : Hid (decide (j < q) = false ∨ (decide (j < q) = true ∧ more = false)) := Lib.hid (by
              by_cases h : j < q
              · right; exact ⟨decide_eq_true h, by cases more; rfl; exact absurd ⟨h, rfl⟩ hgo⟩
              · left; exact decide_eq_false h)
            have hB := hB.trans (hBw.mono hB.size)
            have HN := Lib.hid (Li.HasL.below HN.out hBw (Nat.le_refl _))
            clear hBw HW3
            have HMm := Lib.hid HMo.out.1
            clear HMo hgo
            rcases hcase.out with d1 | ⟨d1, rfl⟩
            all_goals
              go_wp2_with fail
              clear d1
              go_loopw [14, 15] (fun a i wr => ∃ (j : Nat) (y : ByteArray), j ≤ q ∧ a = .string y ∧ i = .int .i64 j ∧ Hid (y.data.toList = mks (mks l true r) false (r.take j)) ∧ Hid (HasN wr 0 A r) ∧ Below w.heap.size w wr) (fun _ i _ => q - (intOf i).toNat)
              case atStart => exact ⟨0, x, by omega, rfl, rfl, Lib.hid (by rw [List.take_zero, HC.out]; rfl), HN, hB⟩
              case round =>
                clear hB HN
                obtain ⟨j, y, hj, rfl, rfl, HY, HN, hB⟩ := hrel
                have hys : y.size = 200 := by
                  have := congrArg List.length HY.out
                  rw [mks_len, mks_len, HL.out.2] at this
                  simpa using this
                by_cases hlt : j < q
                · have hat : r[j]? = some (r[j]'(by rw [HG.out.len]; exact hlt)) := List.getElem?_eq_getElem _
                  generalize (r[j]'(by rw [HG.out.len]; exact hlt)) = i at hat
                  have hi := HG.out.ok i (List.mem_of_getElem? hat)
                  obtain ⟨b, o, rfl, c0⟩ := HasN.at HN.out hat
                  have HT := Lib.hid (take_next hat)
                  have i0 : (0 : Int) ≤ (j : Int) := by omega
                  have i1 : (j : Int) < (q : Int) := by omega
                  have HI := Lib.hid hi.1
                  have HYS := Lib.hid hys
                  clear hat hi hys
                  go_wp2_with fail
                  refine (HMk.out _ y i false HYS.out HI.out).mono ?_
                  rintro e y1 ⟨z, rfl, hz, hb⟩
                  have hB := hB.trans (hb.mono hB.size)
                  have HN := Lib.hid (Li.HasL.below HN.out hb (Nat.le_refl _))
                  have HC2 : Hid (z.data.toList = mks (mks l true r) false (r.take (j + 1))) := Lib.hid (by rw [hz, HY.out, HT.out, mks_snoc])
                  clear hb hz c0
                  go_wp2
                  go_roundw
                  case rel => exact ⟨j + 1, z, by omega, rfl, by go_num, HC2, HN, hB⟩
                  case measure => simp [intOf]; omega
                · obtain rfl : j = q := by omega
                  have hfull : r.take j = r := List.take_of_length_le (by rw [HG.out.len]; exact Nat.le_refl _)
                  have hys : y = s := ByteArray.ext (Array.toList_inj.1 (by
                    rw [HY.out, hfull, mks_back HG.out.ok HG.out.free, HL.out.1]))
                  subst hys
                  have f1 : (freeL x.data.toList p).length = fx := by rw [HC.out]; exact HG.out.left
                  have f2 : (freeL y.data.toList p).length = fn := by rw [HL.out.1]; exact HG.out.all
                  have HF1 : Hid (∀ W : World, Calls Try.prog 14 #[.string x, .int .i64 p] W fun e w' => e = .returned (.int .i64 (fx : Nat)) ∧ Below W.heap.size W w') := Lib.hid (fun W => by
                    have := HFr.out W x HXS.out
                    rwa [f1] at this)
                  have HF2 : Hid (∀ W : World, Calls Try.prog 14 #[.string y, .int .i64 p] W fun e w' => e = .returned (.int .i64 (fn : Nat)) ∧ Below W.heap.size W w') := Lib.hid (fun W => by
                    have := HFr.out W y HS.out
                    rwa [f2] at this)
                  have g1 := HFX.out.1
                  have g2 := HFX.out.2.1
                  have g3 := HFX.out.2.2
                  have g4 : (y.toList == y.toList) = true := beq_self_eq_true _
                  clear hlt hys f1 f2 hfull
                  go_wp2_with fail
                  refine (awake_any _).mono ?_
                  rintro e y1 ⟨rfl, hb⟩
                  have hB := hB.trans (hb.mono hB.size)
                  clear hb
                  go_wp2_with fail
                  refine (HF1.out y1).mono ?_
                  rintro e y2 ⟨rfl, hb⟩
                  have hB := hB.trans (hb.mono hB.size)
                  clear hb
                  go_wp2_with fail
                  refine (HF2.out y2).mono ?_
                  rintro e y3 ⟨rfl, hb⟩
                  have hB := hB.trans (hb.mono hB.size)
                  clear hb
                  go_wp2_with fail
                  refine (HF1.out y3).mono ?_
                  rintro e y4 ⟨rfl, hb⟩
                  have hB := hB.trans (hb.mono hB.size)
                  clear hb
                  have e9 := HMm.out.symm
                  go_wp2_with fail
                  go_ret
                  exact ⟨rfl, hB⟩
end
end Go.Proofs.Ytbeojghlldiniaa.Pl
