/- The document's examples, walked. -/
import Derived.Test.YtiacdpfodhggmaaDoorLfB
namespace Go.Proofs.YtiacdpfodhggmaaDoor.Lf
open Go.RowKit Tal
theorem info_partsF {n : TypeId} {z : Option Value} {s b : Nat} (h : (Tryd.prog.info? n).map (fun i => (i.zero, i.size, i.bytes)) = some (z, s, b)) : ∃ i, Tryd.prog.info? n = some i ∧ i.zero = z ∧ i.size = s ∧ i.bytes = b := by
  cases hi : Tryd.prog.info? n with
  | none => rw [hi] at h; cases h
  | some i =>
    rw [hi] at h
    simp only [Option.map_some, Option.some.injEq, Prod.mk.injEq] at h
    exact ⟨i, rfl, h.1, h.2.1, h.2.2⟩
theorem infoU8F : (Tryd.prog.info? 5).map (fun i => (i.zero, i.size, i.bytes)) = some (some (.int .u8 0), 1, 1) := by kernel_rfl
theorem strOf_zerosF (n : Nat) : strOfNums (List.replicate n 0) = zeros n := by
  unfold strOfNums zeros
  congr 1
  rw [List.map_replicate]
  rfl
/-- Noughts in new memory, as a text. -/
theorem noughts_new {w w2 : World} (t : Nat) (hown : w2.ownsRow w.heap.size 5 1 (.slice (some ⟨w.heap.size, 0, none⟩) t t) t (madeCells (Value.int IntKind.u8 0).cells (t * 1)).toList) (hgrow : w.grownBy w2 none) :
    Below w.heap.size w w2 ∧ (convert 26 9 (.slice (some ⟨w.heap.size, 0, none⟩) t t)).run Tryd.prog w2 = .ok (.string (zeros t)) w2 := by
  refine ⟨(Below.refl _ _).grown hgrow (Nat.le_refl _) (fun k hk => by cases hk), ?_⟩
  have hcv := run_convert_bytes_arg (P := Tryd.prog) w2 26 5 Tryd.underlying26 Tryd.underlying5 w.heap.size 0 t t (List.replicate t 0) (by simp) (fun i hi => by
    rw [Nat.zero_add, hown.cellAt i (by omega)]
    show (madeCells #[Value.int IntKind.u8 0] (t * 1)).toList[i]? = _
    rw [toList_madeCells_one, Nat.mul_one]
    simp [hi]) 9 Tryd.underlying9
  rwa [strOf_zerosF] at hcv
def abcB : ByteArray := ⟨#[97, 98, 99]⟩ ++ zeros 197
theorem abcB_size : abcB.size = 200 := by unfold abcB; rw [ByteArray.size_append, zeros_size]; rfl
theorem zeros_first (n : Nat) (h : 0 < n) : (zeros n).data.toList.take 1 = [0] := by
  obtain ⟨m, rfl⟩ : ∃ m, n = m + 1 := ⟨n - 1, by omega⟩
  simp [zeros, List.replicate_succ]
theorem abc_head : (leafB 5 abcB).data.toList.take 12 = [80, 65, 71, 69, 0, 0, 0, 5, 97, 98, 99, 0] := by
  rw [leafB_data abcB_size, List.take_append_of_le_length (by rw [bodyL_len abcB_size]; decide)]
  unfold bodyL
  rw [List.take_append_of_le_length (by rw [List.length_append, hdl, dl abcB_size]; decide)]
  decide
set_option maxRecDepth 100000 in
set_option maxHeartbeats 1000000 in
theorem awake_any (w : World) (ht : Tab w) : Calls Tryd.prog 9 #[] w fun e w' => e = .returned (.bool true) ∧ Below w.heap.size w w' := by
  obtain ⟨i0, hi, hz0, hz1, hz2⟩ := info_partsF infoU8F
  have HT := Lib.hid ht
  clear ht
  go_enter Tryd.func9, Tryd.ntmps9
  go_wp2_with
    (at_make
     go_must (refine wpList_make_full _ rfl _ _ 26 rfl (w.heap.size) 5 i0 _ 1 Tryd.underlying26 hi hz0 hz1 _ _ _ _ 197 rfl rfl rfl rfl (by rw [hz2]; decide) (by unfold maxLen; decide) (by simp) ?_)
     intro w1 hown hgrow
     obtain ⟨hb1, hcv⟩ := noughts_new 197 hown hgrow
     have HZ := Lib.hid (show ByteArray.mk #[97, 98, 99] ++ zeros 197 = abcB from rfl)
     have hrl := zeros_size 197
     clear hown hgrow
     generalize zeros 197 = r at hcv HZ hrl)
  rw [HZ.out]
  clear hcv HZ hrl
  have HT1 := Lib.hid (HT.out.below hb1)
  have HA := Lib.hid (And.intro (leafB_size (no := 5) abcB_size) (And.intro abc_head (And.intro (parse_own (no := 5) abcB_size) (parse_other (n2 := 6) abcB_size (show 5 < 4294967296 by decide) (by decide)))))
  have hp1 := print_any 5 abcB w1 HT1.out (by decide) abcB_size
  generalize leafB 5 abcB = x at HA hp1
  have hp2 : ∀ w2, Tab w2 → Calls Tryd.prog 11 #[.string x, .int .i64 5] w2 fun e w' => e = .returned (.tuple #[.string abcB, .bool true]) ∧ Below w2.heap.size w2 w' := fun w2 ht => by
    have := parse_any x 5 w2 ht (by decide) (by rw [HA.out.1]; decide)
    rw [HA.out.2.2.1] at this
    exact this
  have hp3 : ∀ w2, Tab w2 → Calls Tryd.prog 11 #[.string x, .int .i64 6] w2 fun e w' => e = .returned (.tuple #[.string ⟨#[]⟩, .bool false]) ∧ Below w2.heap.size w2 w' := fun w2 ht => by
    have := parse_any x 6 w2 ht (by decide) (by rw [HA.out.1]; decide)
    rw [HA.out.2.2.2, if_neg (by decide)] at this
    exact this
  have hp4 : ∀ w2, Tab w2 → Calls Tryd.prog 11 #[.string (zeros 256), .int .i64 0] w2 fun e w' => e = .returned (.tuple #[.string ⟨#[]⟩, .bool false]) ∧ Below w2.heap.size w2 w' := fun w2 ht => by
    have := parse_any (zeros 256) 0 w2 ht (by decide) (by rw [zeros_size]; decide)
    rw [parse_noughts (zeros_size 256) (zeros_first 256 (by decide))] at this
    exact this
  have HP2 := Lib.hid hp2
  have HP3 := Lib.hid hp3
  have HP4 := Lib.hid hp4
  clear hp2 hp3 hp4
  have z0 := abcB_size
  generalize abcB = d at hp1 HP2 z0 HA
  go_wp2_with fail
  refine hp1.mono ?_
  clear hp1
  rintro e w2 ⟨rfl, hb2⟩
  have hB2 := hb1.trans (hb2.mono hb1.size)
  clear hb2
  have HT2 := Lib.hid (HT.out.below hB2)
  go_wp2_with fail
  refine (HP2.out w2 HT2.out).mono ?_
  rintro e w3 ⟨rfl, hb3⟩
  have hB3 := hB2.trans (hb3.mono hB2.size)
  clear hb3
  have HT3 := Lib.hid (HT.out.below hB3)
  go_wp2_with fail
  refine (HP3.out w3 HT3.out).mono ?_
  rintro e w4 ⟨rfl, hb4⟩
  have hB4 := hB3.trans (hb4.mono hB3.size)
  clear hb4
  have HT4 := Lib.hid (HT.out.below hB4)
  go_wp2_with
    (at_make
     go_must (refine wpList_make_full _ rfl _ _ 26 rfl (w4.heap.size) 5 i0 _ 1 Tryd.underlying26 hi hz0 hz1 _ _ _ _ 256 rfl rfl rfl rfl (by rw [hz2]; decide) (by unfold maxLen; decide) (by simp) ?_)
     intro w5 hown hgrow
     obtain ⟨hb5, hcv⟩ := noughts_new 256 hown hgrow
     have hB5 := hB4.trans (hb5.mono hB4.size)
     clear hown hgrow hb5
     generalize zeros 256 = r at hcv HP4)
  clear hcv
  have HT5 := Lib.hid (HT.out.below hB5)
  go_wp2_with fail
  refine (HP4.out w5 HT5.out).mono ?_
  rintro e w6 ⟨rfl, hb6⟩
  have hB6 := hB5.trans (hb6.mono hB5.size)
  clear hb6
  have s1 : ((x.size : Int) == 256) = true := by rw [HA.out.1]; rfl
  have s2 : (x.size : Int) = 256 := by rw [HA.out.1]; rfl
  have s3 : ((x.extract 0 12).toList == [80, 65, 71, 69, 0, 0, 0, 5, 97, 98, 99, 0]) = true := by
    rw [Lib.extract_toList, List.drop_zero, HA.out.2.1]; rfl
  have s4 : (d.toList == d.toList) = true := beq_self_eq_true _
  go_wp2_with fail
  have z2 := zeros_size 200
  have z3 : Hid (∀ h : 7 < (zeros 200).size, (zeros 200)[7]'h = 0) := Lib.hid (fun h => by
    have : (zeros 200).data[7]? = some 0 := by simp [zeros]
    exact Option.some.inj ((Array.getElem?_eq_getElem h).symm.trans this))
  have HK : Hid (∀ w : World, Calls Tryd.prog 12 #[] w fun e w' => e = .returned (.string (zeros 200)) ∧ Below w.heap.size w w') := Lib.hid (fun w => blank_any w)
  generalize zeros 200 = b at z2 z3 HK
  have y2 : ((b.size : Int) == 200) = true := by rw [z2]; rfl
  have y3 : (7 : Int) < (b.size : Int) := by rw [z2]; decide
  refine (HK.out w6).mono ?_
  rintro e w7 ⟨rfl, hb7⟩
  have hB7 := hB6.trans (hb7.mono hB6.size)
  clear hb7
  go_wp2_with fail
  refine (HK.out w7).mono ?_
  rintro e w8 ⟨rfl, hb8⟩
  have hB8 := hB7.trans (hb8.mono hB7.size)
  clear hb8
  have y4 : (7 : Nat) < b.size := by omega
  have y5 : b[7] = 0 := z3.out y4
  go_wp2_with fail
  go_ret
  exact ⟨rfl, hB8⟩
end Go.Proofs.YtiacdpfodhggmaaDoor.Lf
