/- The document's noughts, seal and numbers, walked (for heads). -/
import Derived.Test.YtdbemkdfndjakaaDoorHdB
import Derived.Test.YtdbemkdfndjakaaDoorFrO
namespace Go.Proofs.YtdbemkdfndjakaaDoor.Hd
open Go.RowKit Tal Lf Fr
theorem info_partsF {n : TypeId} {z : Option Value} {s b : Nat} (h : (Tryd.prog.info? n).map (fun i => (i.zero, i.size, i.bytes)) = some (z, s, b)) : ∃ i, Tryd.prog.info? n = some i ∧ i.zero = z ∧ i.size = s ∧ i.bytes = b := by
  cases hi : Tryd.prog.info? n with
  | none => rw [hi] at h; cases h
  | some i =>
    rw [hi] at h
    simp only [Option.map_some, Option.some.injEq, Prod.mk.injEq] at h
    exact ⟨i, rfl, h.1, h.2.1, h.2.2⟩
theorem infoU8F : (Tryd.prog.info? 5).map (fun i => (i.zero, i.size, i.bytes)) = some (some (.int .u8 0), 1, 1) := by kernel_rfl
theorem strOf_zerosF (n : Nat) : strOfNums (List.replicate n 0) = zeros n := by
  unfold strOfNums zeros
  congr 1
  rw [List.map_replicate]
  rfl
/-- Noughts in new memory, as a text. -/
theorem noughts_new {w w2 : World} (t : Nat) (hown : w2.ownsRow w.heap.size 5 1 (.slice (some ⟨w.heap.size, 0, none⟩) t t) t (madeCells (Value.int IntKind.u8 0).cells (t * 1)).toList) (hgrow : w.grownBy w2 none) :
    Below w.heap.size w w2 ∧ (convert 42 9 (.slice (some ⟨w.heap.size, 0, none⟩) t t)).run Tryd.prog w2 = .ok (.string (zeros t)) w2 := by
  refine ⟨(Below.refl _ _).grown hgrow (Nat.le_refl _) (fun k hk => by cases hk), ?_⟩
  have hcv := run_convert_bytes_arg (P := Tryd.prog) w2 42 5 Tryd.underlying42 Tryd.underlying5 w.heap.size 0 t t (List.replicate t 0) (by simp) (fun i hi => by
    rw [Nat.zero_add, hown.cellAt i (by omega)]
    show (madeCells #[Value.int IntKind.u8 0] (t * 1)).toList[i]? = _
    rw [toList_madeCells_one, Nat.mul_one]
    simp [hi]) 9 Tryd.underlying9
  rwa [strOf_zerosF] at hcv
set_option maxRecDepth 20000 in
set_option maxHeartbeats 1600000 in
theorem refSealed_any (s : ByteArray) (w : World) (hs : s.size ≤ 252) :
    Calls Tryd.prog 35 #[.string s, .int .i64 256] w fun e w' => e = .returned (.string (sealed s 256)) ∧ Below w.heap.size w w' := by
  obtain ⟨i0, hi, hz0, hz1, hz2⟩ := info_partsF infoU8F
  have d2 : decide ((252 : Int) < (s.size : Int)) = false := by simp; omega
  obtain ⟨t, htt⟩ : ∃ t : Nat, 252 - s.size = t := ⟨_, rfl⟩
  have e1 : (252 : Int) - (s.size : Int) = (t : Int) := by omega
  have htl : t ≤ 252 := by omega
  have HZ : Hid (sealed s 256 = (s ++ zeros t) ++ prt (crc (s ++ zeros t).data.toList)) := by
    rw [← htt]
    exact Lib.hid rfl
  have HD : Hid ((s ++ zeros t).size = 252) := Lib.hid (by rw [ByteArray.size_append, zeros_size]; omega)
  go_enter Tryd.func35, Tryd.ntmps35
  go_wp2_with
    (at_make
     go_must (refine wpList_make_full _ rfl _ _ 42 rfl (w.heap.size) 5 i0 _ 1 Tryd.underlying42 hi hz0 hz1 _ _ _ _ t rfl rfl rfl rfl (by rw [hz2]; omega) (by unfold maxLen; omega) (by simp) ?_)
     intro w1 hown hgrow
     obtain ⟨hb1, hcv⟩ := noughts_new t hown hgrow
     clear hown hgrow
     have hrl : s.size + (zeros t).size ≤ 600 := by rw [zeros_size]; omega
     generalize zeros t = r at hcv HD HZ hrl)
  clear hcv
  generalize s ++ r = q at HD HZ ⊢
  have hq := HD.out
  refine (refOf_any q _ (by omega)).mono ?_
  rintro e w2 ⟨rfl, rfl⟩
  generalize hc : crc q.data.toList = c at HZ ⊢
  have hcl : c < 4294967296 := by rw [← hc]; exact crc_lt _
  clear hc
  have hcv := convP c w2 hcl
  have hps := prt_size c
  generalize hp : prt c = pc at hps hcv HZ
  have HP := Lib.hid hp
  clear hp
  have hps2 : pc.size ≤ 4 := by omega
  have hqs : q.size ≤ 600 := by omega
  clear hps hq
  go_wp2
  go_ret
  refine ⟨?_, hb1.trans (((Below.refl _ _).alloc (Nat.le_refl _) _).mono hb1.size)⟩
  rw [HZ.out]
  rfl
section
variable {s : ByteArray}
set_option maxHeartbeats 1000000 in
theorem num_any (w : World) (hs : 4 ≤ s.size) :
    Calls Tryd.prog 31 #[.string s] w fun e w' => e = .returned (.int .i64 (nm s.data.toList : Nat)) ∧ Below w.heap.size w w' := by
  have hn := nm_at (s := s) (k := 0) (by omega)
  rw [List.drop_zero] at hn
  rw [hn]
  simp only [Nat.zero_add]
  have h0 := (s[0]'(by omega)).toNat_lt
  have h1 := (s[1]'(by omega)).toNat_lt
  have h2 := (s[2]'(by omega)).toNat_lt
  have h3 := (s[3]'(by omega)).toNat_lt
  have i0 : (0 : Int) < (s.size : Int) := by omega
  have i1 : (1 : Int) < (s.size : Int) := by omega
  have i2 : (2 : Int) < (s.size : Int) := by omega
  have i3 : (3 : Int) < (s.size : Int) := by omega
  have n0 : 0 < s.size := by omega
  have HO : Hid (((s[0]'(by omega)).toNat : Int) * 16777216 + ((s[1]'(by omega)).toNat : Int) * 65536 + ((s[2]'(by omega)).toNat : Int) * 256 + ((s[3]'(by omega)).toNat : Int) = (((s[0]'(by omega)).toNat * 16777216 + (s[1]'(by omega)).toNat * 65536 + (s[2]'(by omega)).toNat * 256 + (s[3]'(by omega)).toNat : Nat) : Int)) := Lib.hid (by omega)
  go_enter Tryd.func31, Tryd.ntmps31
  go_wp2
  go_quiet (fail)
  have hd := below_drewN (Below.refl w.heap.size w) nq
  go_wp2
  go_ret
  exact ⟨by rw [← HO.out]; rfl, hd⟩
set_option maxHeartbeats 400000 in
theorem four_any (x : Nat) (w : World) (hx : x < 4294967296) :
    Calls Tryd.prog 36 #[.int .i64 x] w fun e w' => e = .returned (.string (prt x)) ∧ Below w.heap.size w w' := by
  have hcv := convP x w hx
  go_enter Tryd.func36, Tryd.ntmps36
  go_wp2
  go_ret
  exact ⟨rfl, (Below.refl _ _).alloc (Nat.le_refl _) _⟩
end
end Go.Proofs.YtdbemkdfndjakaaDoor.Hd
