/- Bytes sealed: these, noughts, and the sum of both, walked. -/
import Derived.Test.YtdbemkdfndjakaaDoorMgT
import Derived.Test.YtdbemkdfndjakaaDoorShelf
namespace Go.Proofs.YtdbemkdfndjakaaDoor.Tal
open Go.RowKit Go.Shelf

theorem repeatL_one (c : Nat) : Lib.repeatL [0] c = List.replicate c 0 := by
  induction c with
  | zero => rfl
  | succ c ih => simp [Lib.repeatL, ih, List.replicate_succ]

/-- So many noughts. -/
def zeros (n : Nat) : ByteArray := ⟨(List.replicate n 0).toArray⟩
theorem zeros_size (n : Nat) : (zeros n).size = n := by
  show (List.replicate n (0 : UInt8)).toArray.size = _
  rw [List.size_toArray, List.length_replicate]

theorem noughts_any (k : Int) (w : World) (h0 : 0 ≤ k) (h1 : k ≤ 2147483647) :
    Calls Tryd.prog 44 #[.string ⟨#[0]⟩, .int .i64 k] w fun e w' => e = .returned (.string (zeros k.toNat)) ∧ Below w.heap.size w w' := by
  obtain ⟨n, rfl⟩ := Int.eq_ofNat_of_zero_le h0
  refine (Tryd.strings_Repeat ⟨#[0]⟩ n w (by omega) (by show 1 * n ≤ _; omega)).mono ?_
  rintro e w' ⟨rfl, hb⟩
  refine ⟨?_, hb⟩
  have e0 : (ByteArray.mk #[0]).data.toList = [0] := rfl
  rw [e0, repeatL_one, Int.toNat_natCast]
  rfl

/-- Bytes, and noughts up to so many in all. -/
def body (s : ByteArray) (n : Nat) : ByteArray := s ++ zeros (n - s.size)
def sealed (s : ByteArray) (n : Nat) : ByteArray := body s (n - 4) ++ prt (crc (body s (n - 4)).data.toList)
theorem body_size (s : ByteArray) (n : Nat) (h : s.size ≤ n) : (body s n).size = n := by
  unfold body
  rw [ByteArray.size_append, zeros_size]
  omega

set_option maxHeartbeats 400000 in
theorem sealed_any (s : ByteArray) (z : Int) (w : World) (ht : Tab w) (hz : z ≤ 2147483647) (h : (s.size : Int) + 4 ≤ z) :
    Calls Tryd.prog 33 #[.string s, .int .i64 z] w fun e w' => e = .returned (.string (sealed s z.toNat)) ∧ Below w.heap.size w w' := by
  have d1 : decide (z < 4) = false := by simp; omega
  have d2 : decide (2147483647 < z) = false := by simp; omega
  have d3 : decide (z - 4 < (s.size : Int)) = false := by simp; omega
  have HT := Lib.hid ht
  clear ht
  have HB : Hid (body s (z.toNat - 4) = s ++ zeros (z - 4 - (s.size : Int)).toNat) := by
    unfold body
    rw [show z.toNat - 4 - s.size = (z - 4 - (s.size : Int)).toNat by omega]
    exact Lib.hid rfl
  have HS := Lib.hid (body_size s (z.toNat - 4) (by omega))
  go_enter Tryd.func33, Tryd.ntmps33
  go_wp2_with fail
  refine (noughts_any _ _ (by omega) (by omega)).mono ?_
  rintro e w1 ⟨rfl, hb1⟩
  have hl : s.size + (zeros (z - 4 - (s.size : Int)).toNat).size ≤ 2147483647 := by rw [zeros_size]; omega
  generalize hr : zeros (z - 4 - (s.size : Int)).toNat = r at HB hl ⊢
  clear hr
  go_wp2_with fail
  generalize hq : s ++ r = q at HB ⊢
  have hql : q.size ≤ 2147483647 := by rw [← hq, ByteArray.size_append]; exact hl
  clear hq
  refine (of_any q _ (by omega) (HT.out.below hb1)).mono ?_
  rintro e w2 ⟨rfl, rfl⟩
  generalize hc : crc q.data.toList = c
  have HC := Lib.hid hc
  have hcl : c < 4294967296 := by rw [← hc]; exact crc_lt _
  clear hc
  go_wp2_with fail
  refine (printed_any c _ hcl).mono ?_
  rintro e w3 ⟨rfl, hb3⟩
  have hps := prt_size c
  generalize hp : prt c = pc at hps ⊢
  have HP := Lib.hid hp
  clear hp
  have hps2 : pc.size ≤ 4 := by omega
  clear hps
  go_wp2_with fail
  go_ret
  refine ⟨?_, hb1.trans (hb3.mono hb1.size)⟩
  unfold sealed
  rw [HB.out, HC.out, HP.out]
  rfl
end Go.Proofs.YtdbemkdfndjakaaDoor.Tal
