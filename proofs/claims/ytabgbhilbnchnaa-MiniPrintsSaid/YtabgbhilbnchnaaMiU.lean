/- A group without any cell, a cell's bytes, a cell of bytes: the program's, walked. -/
import Derived.Test.YtabgbhilbnchnaaMiS
namespace Go.Proofs.Ytabgbhilbnchnaa.Mi
open Go.RowKit Pac Va Sc Ro Lex Go.Proofs.Ytabgbhilbnchnaa.Or

theorem made_rows : (madeCells #[.slice none 0 0] 8).toList = List.replicate 8 (.slice none 0 0) := toList_madeCells_one _ _
/-- Rows that nobody else's. -/
def EmptyF (m : Nat) (w : World) (e : Ending) (w' : World) : Prop :=
  ∃ os : List (Li.OG V), e = .returned (.slice (some ⟨w.heap.size, 0, none⟩) 8 8) ∧ os.map Li.OG.l = emptyM m ∧ w'.ownsRow w.heap.size 34 1 (.slice (some ⟨w.heap.size, 0, none⟩) 8 8) 8 (os.map Li.OG.v) ∧ Li.FreeG cellsV 3 36 w' w.heap.size os ∧ Below w.heap.size w w'
theorem rest_set (l : List Value) (z x : Value) {q : Nat} (hq : q < 8) (hl : l.length = q) : (l ++ List.replicate (8 - q) z).set q x = (l ++ [x]) ++ List.replicate (8 - (q + 1)) z := by
  rw [List.set_append_right _ _ (by omega), hl, Nat.sub_self, show 8 - q = (8 - (q + 1)) + 1 by omega, List.replicate_succ, List.set_cons_zero]
  simp

set_option maxRecDepth 20000 in
set_option maxHeartbeats 3200000 in
theorem emptyF_any (A2 : Option Addr) (cp2 m : Nat) (w : World) (hm : m ≤ 1000000) :
    Calls Try.prog 12 #[.slice A2 m cp2] w (EmptyF m w) := by
  obtain ⟨i0, hi, hz0, hz1, hz2⟩ := info_parts infoV
  obtain ⟨i2, hi2, hy0, hy1, hy2⟩ := info_parts infoRow
  have hPG := fun (w' : World) (os : List (Li.OG V)) (hown : w'.ownsRow w.heap.size 34 1 (.slice (some ⟨w.heap.size, 0, none⟩) 8 8) 8 (os.map Li.OG.v)) (hF : Li.FreeG cellsV 3 36 w' w.heap.size os) (e : os.map Li.OG.l = emptyM m) (hB : Below w.heap.size w w') =>
    (show EmptyF m w (.returned (.slice (some ⟨w.heap.size, 0, none⟩) 8 8)) w' from ⟨os, rfl, e, hown, hF, hB⟩)
  generalize EmptyF m w = post at hPG ⊢
  have HPG := Lib.hid hPG
  clear hPG
  go_enter Try.func12, Try.ntmps12
  go_wp2_with (at_make; go_must (refine wpList_make_full _ rfl _ _ 26 rfl w.heap.size 34 i2 (.slice none 0 0) 1 Try.underlying26 hi2 hy0 hy1 _ _ _ _ 8 rfl rfl rfl rfl (by rw [hy2]; omega) (by unfold maxLen; omega) (Nat.le_refl _) ?_))
  intro w1 hown1 hgrow1
  have hb1 : Below w.heap.size w w1 := (Below.refl _ _).grown hgrow1 (Nat.le_refl _) (fun k hk => by cases hk)
  rw [made_rows] at hown1
  clear hgrow1
  go_wp2
  go_loopw [8] (fun i wr => ∃ (q : Nat) (os : List (Li.OG V)), q ≤ 8 ∧ i = .int .i64 q ∧ wr.ownsRow w.heap.size 34 1 (.slice (some ⟨w.heap.size, 0, none⟩) 8 8) 8 (os.map Li.OG.v ++ List.replicate (8 - q) (.slice none 0 0)) ∧ Hid (os.length = q ∧ os.map Li.OG.l = List.replicate q (List.replicate m vZ) ∧ Li.FreeG cellsV 3 36 wr w.heap.size os) ∧ Below w.heap.size w wr) (fun i _ => 8 - (intOf i).toNat)
  case atStart => exact ⟨0, [], Nat.zero_le _, rfl, hown1, Lib.hid ⟨rfl, rfl, Li.FreeG.nil _ _ _ _ _⟩, hb1⟩
  case round =>
    clear hown1 hb1
    obtain ⟨q, os, hq, rfl, hown, hH, hB⟩ := hrel
    by_cases hlt : q < 8
    · have i1 : (q : Int) < 8 := by omega
      have i0' : (0 : Int) ≤ (q : Int) := by omega
      go_wp2_with (at_make; go_must (refine wpList_make_full _ rfl _ _ 34 rfl wr.heap.size 36 i0 (.agg #[.int .i64 0, .int .i64 0, .string ⟨#[]⟩]) 3 Try.underlying34 hi hz0 hz1 _ _ _ _ m rfl rfl rfl rfl (by rw [hz2]; omega) (by unfold maxLen; omega) (Nat.le_refl _) ?_))
      intro w1 hown1 hgrow1
      rw [made_vals] at hown1
      have hy1 : Below wr.heap.size wr w1 := (Below.refl _ _).grown hgrow1 (Nat.le_refl _) (fun k hk => by cases hk)
      have hownR := Li.own_below hown hy1 (Nat.le_refl _)
      have hF : Li.FreeG cellsV 3 36 w1 w.heap.size (os ++ [⟨wr.heap.size, m, List.replicate m vZ⟩]) := (hH.out.2.2.below hy1 (Nat.le_refl _)).push (x := ⟨wr.heap.size, m, List.replicate m vZ⟩) (by
        unfold Li.OG.v
        show World.ownsRow w1 w.heap.size 36 3 (.slice (some ⟨wr.heap.size, 0, none⟩) (List.replicate m vZ).length m) (List.replicate m vZ).length _
        rw [List.length_replicate]
        exact Li.own_base hown1 hB.size) (fun x hx => by
        have := (hH.out.2.2.lt hx).2
        show x.b ≠ wr.heap.size
        omega)
      obtain ⟨hlen, hls, _⟩ := hH.out
      have hmv : (os.map Li.OG.v).length = q := by rw [List.length_map, hlen]
      have s1 := hownR.cellAt q (by omega)
      have s2 := hownR.frozenAt q
      have hat : (os.map Li.OG.v ++ List.replicate (8 - q) (Value.slice none 0 0))[q]? = some (.slice none 0 0) := by
        rw [List.getElem?_append_right (by omega), hmv, Nat.sub_self, List.getElem?_replicate, if_pos (by omega)]
      rw [hat] at s1
      have hst := hownR.stored q (.slice (some ⟨wr.heap.size, 0, none⟩) m m)
      rw [rest_set _ _ _ hlt hmv] at hst
      have hF2 := hF.grown hownR (by decide) hst.2
      have HX : Hid ((os ++ [(⟨wr.heap.size, m, List.replicate m vZ⟩ : Li.OG V)]).length = q + 1 ∧ (os ++ [(⟨wr.heap.size, m, List.replicate m vZ⟩ : Li.OG V)]).map Li.OG.l = List.replicate (q + 1) (List.replicate m vZ) ∧ Li.FreeG cellsV 3 36 (w1.setCell ⟨w.heap.size, q, none⟩ (.slice (some ⟨wr.heap.size, 0, none⟩) m m)) w.heap.size (os ++ [⟨wr.heap.size, m, List.replicate m vZ⟩])) :=
        Lib.hid ⟨by rw [List.length_append, hlen]; rfl, by rw [List.map_append, hls, empty_snoc]; rfl, hF2⟩
      have hnv : (os ++ [(⟨wr.heap.size, m, List.replicate m vZ⟩ : Li.OG V)]).map Li.OG.v = os.map Li.OG.v ++ [.slice (some ⟨wr.heap.size, 0, none⟩) m m] := by
        rw [List.map_append]
        show _ ++ [Value.slice _ (List.replicate m vZ).length _] = _
        rw [List.length_replicate]
      rw [← hnv] at hst
      have HST := Lib.hid (And.intro hst.1 ((hB.trans (hy1.mono hB.size)).grown hst.2 (Nat.le_trans hB.size hy1.size) (fun k hk => (hownR.lt k hk).1)))
      clear hown hown1 hgrow1 hy1 hownR hF hlen hls hmv hat hst hF2 hnv hB
      go_wp2
      clear s1 s2
      go_roundw
      case rel => exact ⟨q + 1, _, by omega, by go_num, HST.out.1, HX, HST.out.2⟩
      case measure => simp [intOf]; omega
    · obtain rfl : q = 8 := by omega
      have HQ := Lib.hid (HPG.out wr os (by simpa using hown) hH.out.2.2 hH.out.2.1 hB)
      clear hown
      go_wp2
      exact HQ.out

set_option maxRecDepth 20000 in
set_option maxHeartbeats 3200000 in
theorem printCell_any (k : Int) (v : V) (h : Nat) (w : World) (hc : CellOk (k, v)) (hh : h ≤ 1000000) :
    Calls Try.prog 22 #[.int .i64 k, v.v, .int .i64 (h : Int)] w (BytesPost (one k v h) w) := by
  obtain ⟨vk, vn, vs⟩ := v
  have hx := Sc.Box3.new w (.int .i64 vk) (.int .i64 vn) (.string vs) 36
  have hnew := (Below.refl w.heap.size w).alloc (Nat.le_refl _) (.cells #[.int .i64 vk, .int .i64 vn, .string vs] 36)
  show Calls Try.prog 22 #[.int .i64 k, .agg #[.int .i64 vk, .int .i64 vn, .string vs], .int .i64 (h : Int)] w _
  generalize hw1 : w.alloc (.cells #[.int .i64 vk, .int .i64 vn, .string vs] 36) = w1 at hx hnew
  have c1 := hx.c1
  have c2 := hx.c2
  have hv := right_sz hc.r
  simp only at hv
  have ho := hc.ok
  rcases hc.k with hk | hk | hk
  · simp only at hk
    subst hk
    have hp := printNum_any vn w1 ho.n0 ho.n1
    have HPG := Lib.hid (fun (b c : Nat) (w' : World) (hl : ∀ (j : Nat) (u : Value), (nums (be 8 (vn % 18446744073709551616).toNat))[j]? = some u → w'.cell? ((⟨b, 0, none⟩ : Addr).add j) = some u) (hB : Below w.heap.size w w') => (show BytesPost (one 1 ⟨vk, vn, vs⟩ h) w (.returned (.slice (some ⟨b, 0, none⟩) 8 c)) w' from by
      rw [one_1]
      exact ⟨b, c, by rw [be_len], hl, hB⟩))
    generalize BytesPost (one 1 ⟨vk, vn, vs⟩ h) w = post at HPG ⊢
    clear ho hc hv
    go_enter Try.func22, Try.ntmps22
    go_wp2_with fail
    refine hp.mono ?_
    rintro e w2 ⟨b, c, rfl, hl, hy⟩
    rw [be_len]
    have HQ := Lib.hid (HPG.out b c w2 hl (hnew.trans (hy.mono hnew.size)))
    clear hp hl hy
    go_wp2
    exact HQ.out
  · simp only at hk
    subst hk
    obtain ⟨d, hd⟩ : ∃ d : UInt8, d = UInt8.ofNat (vn % 256).toNat := ⟨_, rfl⟩
    have ed : vn % 256 = (d.toNat : Int) := by rw [hd, ofNat_toNat _ (by omega)]; omega
    have HQ : Hid (BytesPost (one 2 ⟨vk, vn, vs⟩ h) w (.returned (.slice (some ⟨w1.heap.size, 0, none⟩) 1 1)) (w1.alloc (.cells #[.int .u8 (d.toNat : Int)] 5))) := Lib.hid (by
      have e1 : one 2 ⟨vk, vn, vs⟩ h = [d] := by rw [one_2, hd]
      rw [e1]
      exact BytesPost.block (l := [d]) (heap_alloc_new w1 _) rfl (hnew.alloc hnew.size _))
    generalize BytesPost (one 2 ⟨vk, vn, vs⟩ h) w = post at HQ ⊢
    clear ho hc hv hd
    go_enter Try.func22, Try.ntmps22
    go_wp2
    exact HQ.out
  · simp only at hk
    subst hk
    by_cases hvs : vs.size = 0
    · have evs := empty_of hvs
      subst evs
      have HQ : Hid (BytesPost (one 3 ⟨vk, vn, ⟨#[]⟩⟩ h) w (.returned (.slice (some ⟨w1.heap.size, 0, none⟩) 3 3)) (w1.alloc (.cells #[.int .u8 0, .int .u8 0, .int .u8 0] 5))) := Lib.hid (by
        have e1 : one 3 ⟨vk, vn, ⟨#[]⟩⟩ h = [0, 0, 0] := by
          rw [one_3]
          have h0 : (⟨#[]⟩ : ByteArray).size = 0 := rfl
          simp only [h0, if_true]
          rfl
        rw [e1]
        exact BytesPost.block (l := [0, 0, 0]) (heap_alloc_new w1 _) rfl (hnew.alloc hnew.size _))
      generalize BytesPost (one 3 ⟨vk, vn, ⟨#[]⟩⟩ h) w = post at HQ ⊢
      clear ho hc hv
      go_enter Try.func22, Try.ntmps22
      go_wp2
      exact HQ.out
    · obtain ⟨x, hx1⟩ : ∃ x : UInt8, x = UInt8.ofNat (h / 256) := ⟨_, rfl⟩
      obtain ⟨y, hy1⟩ : ∃ y : UInt8, y = UInt8.ofNat h := ⟨_, rfl⟩
      obtain ⟨z, hz1⟩ : ∃ z : UInt8, z = UInt8.ofNat vs.size := ⟨_, rfl⟩
      have ex : (h : Int) / 256 % 256 = (x.toNat : Int) := by
        have : x.toNat = h / 256 % 256 := by rw [hx1]; simp
        omega
      have ey : (h : Int) % 256 = (y.toNat : Int) := by rw [hy1]; simp
      have ez : (vs.size : Int) = (z.toNat : Int) := by rw [hz1, ofNat_toNat _ (by omega)]
      have HQ : Hid (BytesPost (one 3 ⟨vk, vn, vs⟩ h) w (.returned (.slice (some ⟨w1.heap.size, 0, none⟩) 3 3)) (w1.alloc (.cells #[.int .u8 ((h : Int) / 256 % 256), .int .u8 ((h : Int) % 256), .int .u8 (vs.size : Int)] 5))) := Lib.hid (by
        rw [ex, ey, ez]
        have e1 : one 3 ⟨vk, vn, vs⟩ h = [x, y, z] := by
          rw [one_3, if_neg (by simpa using hvs), hx1, hy1, hz1]
        rw [e1]
        exact BytesPost.block (l := [x, y, z]) (heap_alloc_new w1 _) rfl (hnew.alloc hnew.size _))
      generalize BytesPost (one 3 ⟨vk, vn, vs⟩ h) w = post at HQ ⊢
      have hv0 : vs.toList.isEmpty = false := by
        cases e : vs.toList.isEmpty with
        | false => rfl
        | true =>
          refine absurd ?_ hvs
          have := List.isEmpty_iff.1 e
          rw [ByteArray.toList_eq] at this
          have h1 : vs.data.toList.length = vs.size := by simp
          rw [← h1, this]
          rfl
      clear ho hc hx1 hy1 hz1 ex ey ez
      go_enter Try.func22, Try.ntmps22
      go_wp2
      exact HQ.out

/-- A cell out of bytes. -/
def readC (k : Int) (f h : ByteArray) : V :=
  if k = 1 then ⟨1, num8 f, ⟨#[]⟩⟩ else if k = 2 then ⟨2, ((f.data.toList[0]?.getD 0).toNat : Int), ⟨#[]⟩⟩ else ⟨3, 0, h.extract 0 (min (f.data.toList[2]?.getD 0).toNat h.size)⟩
theorem readC_1 (f h : ByteArray) : readC 1 f h = ⟨1, num8 f, ⟨#[]⟩⟩ := rfl
theorem readC_2 (f h : ByteArray) : readC 2 f h = ⟨2, ((f.data.toList[0]?.getD 0).toNat : Int), ⟨#[]⟩⟩ := rfl
theorem readC_3 (f h : ByteArray) : readC 3 f h = ⟨3, 0, h.extract 0 (min (f.data.toList[2]?.getD 0).toNat h.size)⟩ := rfl
set_option maxRecDepth 20000 in
set_option maxHeartbeats 3200000 in
theorem readCell_any (k : Int) (f h : ByteArray) (w : World) (hk : k = 1 ∨ k = 2 ∨ k = 3) (hf : oneW k ≤ f.size) (hf2 : f.size ≤ 1000000) (hh : h.size ≤ 1000000) :
    Calls Try.prog 26 #[.int .i64 k, .string f, .string h] w fun e w' => e = .returned (readC k f h).v ∧ Below w.heap.size w w' := by
  have hnew := (Below.refl w.heap.size w).alloc (Nat.le_refl _) (.cells #[.int .i64 0, .int .i64 0, .string ⟨#[]⟩] 36)
  have hx := Sc.Box3.new w (.int .i64 0) (.int .i64 0) (.string ⟨#[]⟩) 36
  generalize hw1 : w.alloc (.cells #[.int .i64 0, .int .i64 0, .string ⟨#[]⟩] 36) = w1 at hx hnew
  have c0 := hx.c0
  have c1 := hx.c1
  have c2 := hx.c2
  have cf := hx.f
  rcases hk with rfl | rfl | rfl
  · have hc := readNum_any f w1 hf hf2
    rw [readC_1]
    generalize num8 f = n at hc ⊢
    go_enter Try.func26, Try.ntmps26
    go_wp2_with fail
    refine hc.mono ?_
    rintro e w2 ⟨rfl, rfl⟩
    have hX := ((hx.set0 (.int .i64 1)).set1 (.int .i64 n)).set2 (.string ⟨#[]⟩)
    have hB := ((hnew.setCell (p := ⟨w.heap.size, 0, none⟩) (Nat.le_refl _) (.int .i64 1)).setCell (p := ⟨w.heap.size, 1, none⟩) (Nat.le_refl _) (.int .i64 n)).setCell (p := ⟨w.heap.size, 2, none⟩) (Nat.le_refl _) (.string ⟨#[]⟩)
    have HX := Lib.hid (And.intro hX hB)
    clear hc hX hB
    go_wp2
    refine bodyPost_ret (results_three rfl _ _ w.heap.size _ _ _ rfl HX.out.1.c0 HX.out.1.c1 HX.out.1.c2) rfl ?_
    exact ⟨rfl, HX.out.2⟩
  · rw [readC_2]
    have hf0 : 0 < f.size := hf
    have hb := byte_at hf0
    have hb8 := f[0].toNat_lt
    have e1 : wrap64 (f[0].toNat : Int) = (f[0].toNat : Int) := by unfold wrap64; omega
    rw [hb, Option.getD_some]
    have hX := ((hx.set0 (.int .i64 2)).set1 (.int .i64 (f[0].toNat : Int))).set2 (.string ⟨#[]⟩)
    have hB := ((hnew.setCell (p := ⟨w.heap.size, 0, none⟩) (Nat.le_refl _) (.int .i64 2)).setCell (p := ⟨w.heap.size, 1, none⟩) (Nat.le_refl _) (.int .i64 (f[0].toNat : Int))).setCell (p := ⟨w.heap.size, 2, none⟩) (Nat.le_refl _) (.string ⟨#[]⟩)
    have HX := Lib.hid (And.intro hX hB)
    clear hX hB hb hb8
    go_enter Try.func26, Try.ntmps26
    go_wp2
    refine bodyPost_ret (results_three rfl _ _ w.heap.size _ _ _ rfl HX.out.1.c0 HX.out.1.c1 HX.out.1.c2) rfl ?_
    exact ⟨rfl, HX.out.2⟩
  · rw [readC_3]
    have hf0 : 2 < f.size := hf
    have hb := byte_at hf0
    have hb8 := f[2].toNat_lt
    obtain ⟨y, hy⟩ : ∃ y : Nat, f[2].toNat = y := ⟨_, rfl⟩
    have e1 : wrap64 (f[2].toNat : Int) = (y : Int) := by rw [hy]; unfold wrap64; omega
    rw [hb, Option.getD_some, hy]
    have y0 : (0 : Int) ≤ (y : Int) := by omega
    by_cases hle : y ≤ h.size
    · have y1 : (y : Int) ≤ (h.size : Int) := by omega
      rw [Nat.min_eq_left hle]
      have hX := ((hx.set0 (.int .i64 3)).set1 (.int .i64 0)).set2 (.string (h.extract 0 y))
      have hB := ((hnew.setCell (p := ⟨w.heap.size, 0, none⟩) (Nat.le_refl _) (.int .i64 3)).setCell (p := ⟨w.heap.size, 1, none⟩) (Nat.le_refl _) (.int .i64 0)).setCell (p := ⟨w.heap.size, 2, none⟩) (Nat.le_refl _) (.string (h.extract 0 y))
      have HX := Lib.hid (And.intro hX hB)
      clear hX hB hb hb8 hy
      go_enter Try.func26, Try.ntmps26
      go_wp2
      refine bodyPost_ret (results_three rfl _ _ w.heap.size _ _ _ rfl HX.out.1.c0 HX.out.1.c1 HX.out.1.c2) rfl ?_
      exact ⟨rfl, HX.out.2⟩
    · have y1 : ¬ (y : Int) ≤ (h.size : Int) := by omega
      rw [Nat.min_eq_right (by omega)]
      have hext : h.extract 0 h.size = h := by
        apply bytesEq'
        rw [ByteArray.data_extract, Array.toList_extract, List.extract_eq_take_drop, List.drop_zero, Nat.sub_zero]
        exact List.take_of_length_le (by simp)
      rw [hext]
      have hX := ((hx.set0 (.int .i64 3)).set1 (.int .i64 0)).set2 (.string h)
      have hB := ((hnew.setCell (p := ⟨w.heap.size, 0, none⟩) (Nat.le_refl _) (.int .i64 3)).setCell (p := ⟨w.heap.size, 1, none⟩) (Nat.le_refl _) (.int .i64 0)).setCell (p := ⟨w.heap.size, 2, none⟩) (Nat.le_refl _) (.string h)
      have HX := Lib.hid (And.intro hX hB)
      clear hX hB hb hb8 hy
      go_enter Try.func26, Try.ntmps26
      go_wp2
      refine bodyPost_ret (results_three rfl _ _ w.heap.size _ _ _ rfl HX.out.1.c0 HX.out.1.c1 HX.out.1.c2) rfl ?_
      exact ⟨rfl, HX.out.2⟩
end Go.Proofs.Ytabgbhilbnchnaa.Mi
