/- Frames: the document's examples, walked. -/
import Derived.Test.YtiacdpfodhggmaaDoorFrN
namespace Go.Proofs.YtiacdpfodhggmaaDoor.Fr
open Go.RowKit Tal Lf
theorem info_partsF {n : TypeId} {z : Option Value} {s b : Nat} (h : (Tryd.prog.info? n).map (fun i => (i.zero, i.size, i.bytes)) = some (z, s, b)) : ∃ i, Tryd.prog.info? n = some i ∧ i.zero = z ∧ i.size = s ∧ i.bytes = b := by
  cases hi : Tryd.prog.info? n with
  | none => rw [hi] at h; cases h
  | some i =>
    rw [hi] at h
    simp only [Option.map_some, Option.some.injEq, Prod.mk.injEq] at h
    exact ⟨i, rfl, h.1, h.2.1, h.2.2⟩
theorem infoU8F : (Tryd.prog.info? 5).map (fun i => (i.zero, i.size, i.bytes)) = some (some (.int .u8 0), 1, 1) := by kernel_rfl
theorem strOf_zerosF (n : Nat) : strOfNums (List.replicate n 0) = zeros n := by
  unfold strOfNums zeros
  congr 1
  rw [List.map_replicate]
  rfl
/-- Noughts in new memory, as a text. -/
theorem noughts_new {w w2 : World} (t : Nat) (hown : w2.ownsRow w.heap.size 5 1 (.slice (some ⟨w.heap.size, 0, none⟩) t t) t (madeCells (Value.int IntKind.u8 0).cells (t * 1)).toList) (hgrow : w.grownBy w2 none) :
    Below w.heap.size w w2 ∧ (convert 26 9 (.slice (some ⟨w.heap.size, 0, none⟩) t t)).run Tryd.prog w2 = .ok (.string (zeros t)) w2 := by
  refine ⟨(Below.refl _ _).grown hgrow (Nat.le_refl _) (fun k hk => by cases hk), ?_⟩
  have hcv := run_convert_bytes_arg (P := Tryd.prog) w2 26 5 Tryd.underlying26 Tryd.underlying5 w.heap.size 0 t t (List.replicate t 0) (by simp) (fun i hi => by
    rw [Nat.zero_add, hown.cellAt i (by omega)]
    show (madeCells #[Value.int IntKind.u8 0] (t * 1)).toList[i]? = _
    rw [toList_madeCells_one, Nat.mul_one]
    simp [hi]) 9 Tryd.underlying9
  rwa [strOf_zerosF] at hcv
def abF : ByteArray := ⟨#[97, 98]⟩ ++ zeros 198
theorem abF_size : abF.size = 200 := by unfold abF; rw [ByteArray.size_append, zeros_size]; rfl
def fr : F := ⟨3, 1, false, 7, abF⟩
def cm : F := ⟨3, 2, true, 1, ⟨#[]⟩⟩
theorem fr_right : RightF fr := ⟨by decide, by decide, by decide, by decide, by decide, by decide, fun h => (by cases h), fun _ => abF_size⟩
theorem cm_right : RightF cm := ⟨by decide, by decide, by decide, by decide, by decide, by decide, fun _ => rfl, fun h => (by cases h)⟩
theorem fr_head : (frameB fr).data.toList.take 18 = [76, 79, 71, 80, 0, 0, 0, 3, 0, 0, 0, 1, 0, 0, 0, 7, 97, 98] := by
  rw [frameB_data fr_right.small, List.take_append_of_le_length (by rw [bodyF_len fr_right.small]; decide)]
  have e : bodyF fr = [76, 79, 71, 80, 0, 0, 0, 3, 0, 0, 0, 1, 0, 0, 0, 7, 97, 98] ++ ((zeros 198).data.toList ++ List.replicate (236 - fr.d.size) 0) := by
    unfold bodyF
    show _ ++ (_ ++ (_ ++ (_ ++ (abF.data.toList ++ _)))) = _
    unfold abF
    rw [ByteArray.data_append, Array.toList_append]
    rfl
  rw [e]
  rfl
theorem cm_head : (frameB cm).data.toList.take 4 = [76, 79, 71, 67] := by
  rw [frameB_data cm_right.small, List.take_append_of_le_length (by rw [bodyF_len cm_right.small]; decide)]
  rfl
theorem zeros_first (n : Nat) (h : 0 < n) : (zeros n).data.toList.take 1 = [0] := by
  obtain ⟨m, rfl⟩ : ∃ m, n = m + 1 := ⟨n - 1, by omega⟩
  simp [zeros, List.replicate_succ]
theorem noughts_none : parseF (zeros 256) = none := by
  cases hp : parseF (zeros 256) with
  | none => rfl
  | some g =>
    obtain ⟨h1, h2⟩ := parse_iff.1 hp
    have h3 : (zeros 256).data.toList.take 1 = (frameB g).data.toList.take 1 := congrArg (fun b : ByteArray => b.data.toList.take 1) h2
    rw [frameB_data h1.small, List.take_append_of_le_length (by rw [bodyF_len h1.small]; decide)] at h3
    have e : (bodyF g).take 1 = [76] := rfl
    rw [e, show (zeros 256).data.toList.take 1 = [0] from zeros_first 256 (by decide)] at h3
    cases h3
set_option maxRecDepth 100000 in
set_option maxHeartbeats 3200000 in
theorem awake_any (w : World) (ht : Tab w) : Calls Tryd.prog 13 #[] w fun e w' => e = .returned (.bool true) ∧ Below w.heap.size w w' := by
  obtain ⟨i0, hi, hz0, hz1, hz2⟩ := info_partsF infoU8F
  have HT := Lib.hid ht
  clear ht
  go_enter Tryd.func13, Tryd.ntmps13
  go_wp2_with
    (at_make
     go_must (refine wpList_make_full _ rfl _ _ 26 rfl (w.heap.size) 5 i0 _ 1 Tryd.underlying26 hi hz0 hz1 _ _ _ _ 198 rfl rfl rfl rfl (by rw [hz2]; decide) (by unfold maxLen; decide) (by simp) ?_)
     intro w1 hown hgrow
     obtain ⟨hb1, hcv⟩ := noughts_new 198 hown hgrow
     clear hown hgrow
     have HD := Lib.hid (show ByteArray.mk #[97, 98] ++ zeros 198 = abF from rfl)
     have hrl := zeros_size 198
     generalize zeros 198 = r at hcv HD hrl
     generalize hd : ByteArray.mk #[97, 98] ++ r = d at HD)
  have hdd := HD.out
  subst hdd
  clear hcv hrl hd HD
  have hB := hb1
  have hn : Below w1.heap.size w1 (w1.alloc (.cells #[.int .i64 3, .int .i64 1, .bool false, .int .i64 7, .string abF] 36)) := (Below.refl w1.heap.size w1).alloc (Nat.le_refl _) _
  have hf : BoxF (w1.alloc (.cells #[.int .i64 3, .int .i64 1, .bool false, .int .i64 7, .string abF] 36)) w1.heap.size fr := BoxF.new w1 fr 36
  have hB := hB.trans (hn.mono hB.size)
  have hz : (w1.alloc (.cells #[.int .i64 3, .int .i64 1, .bool false, .int .i64 7, .string abF] 36)).heap.size = w1.heap.size + 1 := by simp
  generalize w1.alloc (.cells #[.int .i64 3, .int .i64 1, .bool false, .int .i64 7, .string abF] 36) = w2 at hf hB hn hz ⊢
  generalize w1.heap.size = gf at hf hz ⊢
  clear hn hb1
  have hn : Below w2.heap.size w2 (w2.alloc (.cells #[.int .i64 3, .int .i64 2, .bool true, .int .i64 1, .string ⟨#[]⟩] 36)) := (Below.refl w2.heap.size w2).alloc (Nat.le_refl _) _
  have hc : BoxF (w2.alloc (.cells #[.int .i64 3, .int .i64 2, .bool true, .int .i64 1, .string ⟨#[]⟩] 36)) w2.heap.size cm := BoxF.new w2 cm 36
  have hf := hf.below hn hf.lt
  have hB := hB.trans (hn.mono hB.size)
  generalize w2.alloc (.cells #[.int .i64 3, .int .i64 2, .bool true, .int .i64 1, .string ⟨#[]⟩] 36) = w3 at hf hc hB ⊢
  rw [hz] at hc
  clear hn
  obtain ⟨x, hx⟩ : ∃ x, frameB fr = x := ⟨_, rfl⟩
  obtain ⟨y, hy⟩ : ∃ y, frameB cm = y := ⟨_, rfl⟩
  have hxs : x.size = 256 := hx ▸ frameB_size fr_right.small
  have hys : y.size = 256 := hy ▸ frameB_size cm_right.small
  have hpf : ∀ W, Tab W → Calls Tryd.prog 18 #[.agg #[.int .i64 3, .int .i64 1, .bool false, .int .i64 7, .string abF]] W fun e w' => e = .returned (.string x) ∧ Below W.heap.size W w' := fun W h => hx ▸ print_any fr W h fr_right
  have hpc : ∀ W, Tab W → Calls Tryd.prog 18 #[.agg #[.int .i64 3, .int .i64 2, .bool true, .int .i64 1, .string ⟨#[]⟩]] W fun e w' => e = .returned (.string y) ∧ Below W.heap.size W w' := fun W h => hy ▸ print_any cm W h cm_right
  have hqf : ∀ W, Tab W → Calls Tryd.prog 15 #[.string x] W fun e w' => e = .returned (.tuple #[.agg #[.int .i64 3, .int .i64 1, .bool false, .int .i64 7, .string abF], .bool true]) ∧ Below W.heap.size W w' := fun W h => by
    have := parse_any x W h (by omega)
    rw [← hx, parse_own fr_right] at this
    rw [← hx]
    exact this
  have hqc : ∀ W, Tab W → Calls Tryd.prog 15 #[.string y] W fun e w' => e = .returned (.tuple #[.agg #[.int .i64 3, .int .i64 2, .bool true, .int .i64 1, .string ⟨#[]⟩], .bool true]) ∧ Below W.heap.size W w' := fun W h => by
    have := parse_any y W h (by omega)
    rw [← hy, parse_own cm_right] at this
    rw [← hy]
    exact this
  have hqz : ∀ W, Tab W → Calls Tryd.prog 15 #[.string (zeros 256)] W fun e w' => e = .returned (.tuple #[.agg #[.int .i64 0, .int .i64 0, .bool false, .int .i64 0, .string ⟨#[]⟩], .bool false]) ∧ Below W.heap.size W w' := fun W h => by
    have := parse_any (zeros 256) W h (by rw [zeros_size]; decide)
    rw [noughts_none] at this
    exact this
  have hrr : ∀ (b : Bool) (f : F) (W : World), (b = true ↔ RightF f) → Calls Tryd.prog 14 #[.agg (cellsF f)] W fun e w' => e = .returned (.bool b) ∧ Below W.heap.size W w' := fun b f W h => (right_any f W).mono (by
    rintro e w' ⟨b', rfl, hb, hv⟩
    exact ⟨by rw [Bool.eq_iff_iff.2 (hb.trans h.symm)], hv⟩)
  have hrf : ∀ W, Calls Tryd.prog 14 #[.agg #[.int .i64 3, .int .i64 1, .bool false, .int .i64 7, .string abF]] W fun e w' => e = .returned (.bool true) ∧ Below W.heap.size W w' := fun W => hrr true fr W ⟨fun _ => fr_right, fun _ => rfl⟩
  have hrc : ∀ W, Calls Tryd.prog 14 #[.agg #[.int .i64 3, .int .i64 2, .bool true, .int .i64 1, .string ⟨#[]⟩]] W fun e w' => e = .returned (.bool true) ∧ Below W.heap.size W w' := fun W => hrr true cm W ⟨fun _ => cm_right, fun _ => rfl⟩
  have hr1 : ∀ W, Calls Tryd.prog 14 #[.agg #[.int .i64 1, .int .i64 0, .bool false, .int .i64 0, .string ⟨#[]⟩]] W fun e w' => e = .returned (.bool false) ∧ Below W.heap.size W w' := fun W => hrr false ⟨1, 0, false, 0, ⟨#[]⟩⟩ W ⟨fun h => (by cases h), fun h => absurd (h.dp rfl) (by decide)⟩
  have hr2 : ∀ W, Calls Tryd.prog 14 #[.agg #[.int .i64 0, .int .i64 0, .bool true, .int .i64 0, .string ⟨#[]⟩]] W fun e w' => e = .returned (.bool false) ∧ Below W.heap.size W w' := fun W => hrr false ⟨0, 0, true, 0, ⟨#[]⟩⟩ W ⟨fun h => (by cases h), fun h => absurd h.e0 (by decide)⟩
  have HH := Lib.hid (And.intro (hx ▸ fr_head : x.data.toList.take 18 = _) (hy ▸ cm_head : y.data.toList.take 4 = _))
  clear hx hy hrr
  refine (hpf _ (HT.out.below hB)).mono ?_
  rintro e w4 ⟨rfl, hv⟩
  have hf := hf.below hv hf.lt
  have hc := hc.below hv hc.lt
  have hB := hB.trans (hv.mono hB.size)
  clear hv
  go_wp2_with fail
  refine (hqf _ (HT.out.below hB)).mono ?_
  rintro e w5 ⟨rfl, hv⟩
  have hf := hf.below hv hf.lt
  have hc := hc.below hv hc.lt
  have hB := hB.trans (hv.mono hB.size)
  clear hv
  have hn : Below w5.heap.size w5 (w5.alloc (.cells #[.int .i64 3, .int .i64 1, .bool false, .int .i64 7, .string abF] 36)) := (Below.refl w5.heap.size w5).alloc (Nat.le_refl _) _
  have h3 : BoxF (w5.alloc (.cells #[.int .i64 3, .int .i64 1, .bool false, .int .i64 7, .string abF] 36)) w5.heap.size fr := BoxF.new w5 fr 36
  have hf := hf.below hn hf.lt
  have hc := hc.below hn hc.lt
  have hB := hB.trans (hn.mono hB.size)
  clear hn
  obtain ⟨g3, hgg3⟩ : ∃ x, w5.heap.size = x := ⟨_, rfl⟩
  rw [hgg3] at h3
  generalize hww6 : w5.alloc (.cells #[.int .i64 3, .int .i64 1, .bool false, .int .i64 7, .string abF] 36) = w6 at hf hc h3 hB
  have hc0 := hc.c0
  have hc1 := hc.c1
  have hc2 := hc.c2
  have hc3 := hc.c3
  have hc4 := hc.c4
  go_wp2_with fail
  clear hww6 hgg3
  clear hc0 hc1 hc2 hc3 hc4
  refine (hpc _ (HT.out.below hB)).mono ?_
  rintro e w7 ⟨rfl, hv⟩
  have hf := hf.below hv hf.lt
  have hc := hc.below hv hc.lt
  have h3 := h3.below hv h3.lt
  have hB := hB.trans (hv.mono hB.size)
  clear hv
  go_wp2_with fail
  refine (hqc _ (HT.out.below hB)).mono ?_
  rintro e w8 ⟨rfl, hv⟩
  have hf := hf.below hv hf.lt
  have hc := hc.below hv hc.lt
  have h3 := h3.below hv h3.lt
  have hB := hB.trans (hv.mono hB.size)
  clear hv
  go_upto_region 5 with fail
  have hn : Below w8.heap.size w8 (w8.alloc (.cells #[.int .i64 3, .int .i64 2, .bool true, .int .i64 1, .string ⟨#[]⟩] 36)) := (Below.refl w8.heap.size w8).alloc (Nat.le_refl _) _
  have h5 : BoxF (w8.alloc (.cells #[.int .i64 3, .int .i64 2, .bool true, .int .i64 1, .string ⟨#[]⟩] 36)) w8.heap.size cm := BoxF.new w8 cm 36
  have hf := hf.below hn hf.lt
  have hc := hc.below hn hc.lt
  have h3 := h3.below hn h3.lt
  have hB := hB.trans (hn.mono hB.size)
  clear hn
  generalize w8.alloc (.cells #[.int .i64 3, .int .i64 2, .bool true, .int .i64 1, .string ⟨#[]⟩] 36) = w9 at hf hc h3 h5 hB ⊢
  generalize w8.heap.size = g5 at h5 ⊢
  go_wp2_with
    (at_make
     go_must (refine wpList_make_full _ rfl _ _ 26 rfl (w9.heap.size) 5 i0 _ 1 Tryd.underlying26 hi hz0 hz1 _ _ _ _ 256 rfl rfl rfl rfl (by rw [hz2]; decide) (by unfold maxLen; decide) (by simp) ?_)
     intro w10 hown hgrow
     obtain ⟨hv, hcv⟩ := noughts_new 256 hown hgrow
     have hf := hf.below hv hf.lt
     have hc := hc.below hv hc.lt
     have h3 := h3.below hv h3.lt
     have h5 := h5.below hv h5.lt
     have hB := hB.trans (hv.mono hB.size)
     clear hown hgrow hv
     generalize zeros 256 = r2 at hcv hqz)
  clear hcv
  refine (hqz _ (HT.out.below hB)).mono ?_
  rintro e w11 ⟨rfl, hv⟩
  have hf := hf.below hv hf.lt
  have hc := hc.below hv hc.lt
  have h3 := h3.below hv h3.lt
  have h5 := h5.below hv h5.lt
  have hB := hB.trans (hv.mono hB.size)
  clear hv
  go_upto_region 6 with fail
  have hn : Below w11.heap.size w11 (w11.alloc (.cells #[.int .i64 0, .int .i64 0, .bool false, .int .i64 0, .string ⟨#[]⟩] 36)) := (Below.refl w11.heap.size w11).alloc (Nat.le_refl _) _
  have hf := hf.below hn hf.lt
  have hc := hc.below hn hc.lt
  have h3 := h3.below hn h3.lt
  have h5 := h5.below hn h5.lt
  have hB := hB.trans (hn.mono hB.size)
  clear hn
  generalize w11.alloc (.cells #[.int .i64 0, .int .i64 0, .bool false, .int .i64 0, .string ⟨#[]⟩] 36) = w12 at hf hc h3 h5 hB ⊢
  have s1 : (y.size : Int) = 256 := by rw [hys]; rfl
  have s0 : ((y.size : Int) == 256) = true := by rw [hys]; rfl
  have x1 : (18 : Int) ≤ (x.size : Int) := by rw [hxs]; decide
  have y1 : (4 : Int) ≤ (y.size : Int) := by rw [hys]; decide
  have s3 : ((x.extract 0 18).toList == [76, 79, 71, 80, 0, 0, 0, 3, 0, 0, 0, 1, 0, 0, 0, 7, 97, 98]) = true := by
    rw [Lib.extract_toList, List.drop_zero, HH.out.1]; rfl
  have s4 : ((y.extract 0 4).toList == [76, 79, 71, 67]) = true := by
    rw [Lib.extract_toList, List.drop_zero, HH.out.2]; rfl
  have s5 : (abF.toList == abF.toList) = true := beq_self_eq_true _
  have hf0 := hf.c0
  have hf1 := hf.c1
  have hf2 := hf.c2
  have hf3 := hf.c3
  have hf4 := hf.c4
  have hc0 := hc.c0
  have hc1 := hc.c1
  have hc2 := hc.c2
  have hc3 := hc.c3
  have hc4 := hc.c4
  have h30 := h3.c0
  have h31 := h3.c1
  have h32 := h3.c2
  have h33 := h3.c3
  have h34 := h3.c4
  have h50 := h5.c0
  have h51 := h5.c1
  have h52 := h5.c2
  have h53 := h5.c3
  have h54 := h5.c4
  go_wp2_with fail
  clear hf0 hf1 hf2 hf3 hf4 hc0 hc1 hc2 hc3 hc4 h30 h31 h32 h33 h34 h50 h51 h52 h53 h54
  refine (hrf _).mono ?_
  rintro e w13 ⟨rfl, hv⟩
  have hf := hf.below hv hf.lt
  have hc := hc.below hv hc.lt
  have h3 := h3.below hv h3.lt
  have h5 := h5.below hv h5.lt
  have hB := hB.trans (hv.mono hB.size)
  clear hv
  have hf0 := hf.c0
  have hf1 := hf.c1
  have hf2 := hf.c2
  have hf3 := hf.c3
  have hf4 := hf.c4
  have hc0 := hc.c0
  have hc1 := hc.c1
  have hc2 := hc.c2
  have hc3 := hc.c3
  have hc4 := hc.c4
  have h30 := h3.c0
  have h31 := h3.c1
  have h32 := h3.c2
  have h33 := h3.c3
  have h34 := h3.c4
  have h50 := h5.c0
  have h51 := h5.c1
  have h52 := h5.c2
  have h53 := h5.c3
  have h54 := h5.c4
  go_wp2_with fail
  clear hf0 hf1 hf2 hf3 hf4 hc0 hc1 hc2 hc3 hc4 h30 h31 h32 h33 h34 h50 h51 h52 h53 h54
  refine (hrc _).mono ?_
  rintro e w14 ⟨rfl, hv⟩
  have hf := hf.below hv hf.lt
  have hc := hc.below hv hc.lt
  have h3 := h3.below hv h3.lt
  have h5 := h5.below hv h5.lt
  have hB := hB.trans (hv.mono hB.size)
  clear hv
  have hf0 := hf.c0
  have hf1 := hf.c1
  have hf2 := hf.c2
  have hf3 := hf.c3
  have hf4 := hf.c4
  have hc0 := hc.c0
  have hc1 := hc.c1
  have hc2 := hc.c2
  have hc3 := hc.c3
  have hc4 := hc.c4
  have h30 := h3.c0
  have h31 := h3.c1
  have h32 := h3.c2
  have h33 := h3.c3
  have h34 := h3.c4
  have h50 := h5.c0
  have h51 := h5.c1
  have h52 := h5.c2
  have h53 := h5.c3
  have h54 := h5.c4
  go_wp2_with fail
  clear hf0 hf1 hf2 hf3 hf4 hc0 hc1 hc2 hc3 hc4 h30 h31 h32 h33 h34 h50 h51 h52 h53 h54
  refine (hr1 _).mono ?_
  rintro e w15 ⟨rfl, hv⟩
  have hf := hf.below hv hf.lt
  have hc := hc.below hv hc.lt
  have h3 := h3.below hv h3.lt
  have h5 := h5.below hv h5.lt
  have hB := hB.trans (hv.mono hB.size)
  clear hv
  have hf0 := hf.c0
  have hf1 := hf.c1
  have hf2 := hf.c2
  have hf3 := hf.c3
  have hf4 := hf.c4
  have hc0 := hc.c0
  have hc1 := hc.c1
  have hc2 := hc.c2
  have hc3 := hc.c3
  have hc4 := hc.c4
  have h30 := h3.c0
  have h31 := h3.c1
  have h32 := h3.c2
  have h33 := h3.c3
  have h34 := h3.c4
  have h50 := h5.c0
  have h51 := h5.c1
  have h52 := h5.c2
  have h53 := h5.c3
  have h54 := h5.c4
  go_wp2_with fail
  clear hf0 hf1 hf2 hf3 hf4 hc0 hc1 hc2 hc3 hc4 h30 h31 h32 h33 h34 h50 h51 h52 h53 h54
  refine (hr2 _).mono ?_
  rintro e w16 ⟨rfl, hv⟩
  have hf := hf.below hv hf.lt
  have hc := hc.below hv hc.lt
  have h3 := h3.below hv h3.lt
  have h5 := h5.below hv h5.lt
  have hB := hB.trans (hv.mono hB.size)
  clear hv
  have hf0 := hf.c0
  have hf1 := hf.c1
  have hf2 := hf.c2
  have hf3 := hf.c3
  have hf4 := hf.c4
  have hc0 := hc.c0
  have hc1 := hc.c1
  have hc2 := hc.c2
  have hc3 := hc.c3
  have hc4 := hc.c4
  have h30 := h3.c0
  have h31 := h3.c1
  have h32 := h3.c2
  have h33 := h3.c3
  have h34 := h3.c4
  have h50 := h5.c0
  have h51 := h5.c1
  have h52 := h5.c2
  have h53 := h5.c3
  have h54 := h5.c4
  go_wp2_with fail
  clear hf0 hf1 hf2 hf3 hf4 hc0 hc1 hc2 hc3 hc4 h30 h31 h32 h33 h34 h50 h51 h52 h53 h54
  refine (hpf _ (HT.out.below hB)).mono ?_
  rintro e w17 ⟨rfl, hv⟩
  have hf := hf.below hv hf.lt
  have hc := hc.below hv hc.lt
  have h3 := h3.below hv h3.lt
  have h5 := h5.below hv h5.lt
  have hB := hB.trans (hv.mono hB.size)
  clear hv
  have hf0 := hf.c0
  have hf1 := hf.c1
  have hf2 := hf.c2
  have hf3 := hf.c3
  have hf4 := hf.c4
  have hc0 := hc.c0
  have hc1 := hc.c1
  have hc2 := hc.c2
  have hc3 := hc.c3
  have hc4 := hc.c4
  have h30 := h3.c0
  have h31 := h3.c1
  have h32 := h3.c2
  have h33 := h3.c3
  have h34 := h3.c4
  have h50 := h5.c0
  have h51 := h5.c1
  have h52 := h5.c2
  have h53 := h5.c3
  have h54 := h5.c4
  go_wp2_with fail
  clear hf0 hf1 hf2 hf3 hf4 hc0 hc1 hc2 hc3 hc4 h30 h31 h32 h33 h34 h50 h51 h52 h53 h54
  refine (hpc _ (HT.out.below hB)).mono ?_
  rintro e w18 ⟨rfl, hv⟩
  have hf := hf.below hv hf.lt
  have hc := hc.below hv hc.lt
  have h3 := h3.below hv h3.lt
  have h5 := h5.below hv h5.lt
  have hB := hB.trans (hv.mono hB.size)
  clear hv
  have hf0 := hf.c0
  have hf1 := hf.c1
  have hf2 := hf.c2
  have hf3 := hf.c3
  have hf4 := hf.c4
  have hc0 := hc.c0
  have hc1 := hc.c1
  have hc2 := hc.c2
  have hc3 := hc.c3
  have hc4 := hc.c4
  have h30 := h3.c0
  have h31 := h3.c1
  have h32 := h3.c2
  have h33 := h3.c3
  have h34 := h3.c4
  have h50 := h5.c0
  have h51 := h5.c1
  have h52 := h5.c2
  have h53 := h5.c3
  have h54 := h5.c4
  go_wp2_with fail
  clear hf0 hf1 hf2 hf3 hf4 hc0 hc1 hc2 hc3 hc4 h30 h31 h32 h33 h34 h50 h51 h52 h53 h54
  refine (hpc _ (HT.out.below hB)).mono ?_
  rintro e w19 ⟨rfl, hv⟩
  have hf := hf.below hv hf.lt
  have hc := hc.below hv hc.lt
  have h3 := h3.below hv h3.lt
  have h5 := h5.below hv h5.lt
  have hB := hB.trans (hv.mono hB.size)
  clear hv
  have HB := Lib.hid hB
  clear hB hf hc h3 h5
  go_wp2
  go_ret
  exact ⟨rfl, HB.out⟩
end Go.Proofs.YtiacdpfodhggmaaDoor.Fr
