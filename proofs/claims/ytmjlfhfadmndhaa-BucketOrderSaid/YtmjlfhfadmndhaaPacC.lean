/- A number's bytes, walked. -/
import Derived.Test.YtmjlfhfadmndhaaPacB
import Derived.Laws.BytesArg
import Derived.OwnWalk
namespace Go.Proofs.Ytmjlfhfadmndhaa.Pac
open Go.RowKit

def encB (u : Nat) : ByteArray := ⟨(enc u).toArray⟩
def bys (p : List UInt8) : List Int := p.map fun b => (b.toNat : Int)
theorem bys_snoc (p : List UInt8) (b : UInt8) : bys (p ++ [b]) = bys p ++ [(b.toNat : Int)] := by simp [bys]
theorem bys_len (p : List UInt8) : (bys p).length = p.length := by simp [bys]
theorem strOf_bys (p : List UInt8) : strOfNums (bys p) = ⟨p.toArray⟩ := by
  unfold strOfNums bys
  rw [List.map_map]
  congr 2
  apply List.map_id''
  intro b
  simp
theorem info5 : (Try.prog.info? 5).map (fun i => (i.zero, i.size, i.bytes)) = some (some (.int .u8 0), 1, 1) := by kernel_rfl
theorem orMore (u : Nat) : bits .or .u8 ((u : Int) % 256) 128 = ((UInt8.ofNat (u % 128 + 128)).toNat : Int) := by
  rw [show (u : Int) % 256 = ((u % 256 : Nat) : Int) by omega, show (128 : Int) = ((128 : Nat) : Int) from rfl, u8_or_nat _ _ (by omega) (by omega), ofNat_toNat _ (by omega)]
  congr 1
  have e : u % 256 = u % 256 / 128 * 128 + u % 128 := by omega
  have h2 : (u % 256 / 128 * 128 + u % 128) = (u % 256 / 128 * 128) ||| (u % 128) := (nat_join 7 _ _ (by omega) (by omega)).symm
  rw [e, h2, Nat.or_assoc, Nat.or_comm (u % 128) 128, ← Nat.or_assoc]
  have h3 : u % 256 / 128 * 128 ||| 128 = 128 := by
    have : u % 256 / 128 = 0 ∨ u % 256 / 128 = 1 := by omega
    rcases this with h | h <;> rw [h] <;> decide
  rw [h3, nat_join 7 128 (u % 128) (by decide) (by omega)]
  omega

set_option maxRecDepth 20000 in
set_option maxHeartbeats 400000 in
theorem num_any (n : Int) (w : World) (h0 : -9223372036854775808 ≤ n) (h1 : n ≤ 9223372036854775807) :
    Calls Try.prog 37 #[.int .i64 n] w fun e w' => e = .returned (.string (encB (zig n))) ∧ Below w.heap.size w w' := by
  obtain ⟨i0, hi, hz0, hz1, hz2⟩ := info_parts info5
  go_enter Try.func37, Try.ntmps37
  go_wp2_with fail
  refine (folded_any n w h0 h1).mono ?_
  rintro e w1 ⟨rfl, rfl⟩
  have hz := zig_lt n h0 h1
  generalize hzz : zig n = z at hz ⊢
  have HZ := Lib.hid hzz
  clear hzz
  go_wp2_with fail
  go_loopw [3, 4] (fun v x wr => ∃ (p : List UInt8) (f u : Nat), v = .int .u64 u ∧ p.length + f = 9 ∧ u < 18446744073709551616 ∧ Hid (u < 128 ^ (f + 1) ∧ enc z = p ++ encF (f + 1) u) ∧
      wr.ownsRow w.heap.size 5 1 x p.length ((bys p).map (Value.int .u8)) ∧ Below w.heap.size w wr)
    (fun v _ _ => (intOf v).toNat)
  case atStart => exact ⟨[], 9, z, rfl, rfl, hz, Lib.hid ⟨lt_pow10 hz, rfl⟩, World.ownsRow_nil _ _ _ _, Below.refl _ _⟩
  case round =>
    obtain ⟨p, f, u, rfl, hpf, hu, hH, hown, hB⟩ := hrel
    have hbs := hB.size
    have hl : (bys p).length = p.length := bys_len p
    by_cases hlt : 128 ≤ u
    · have e1 := orMore u
      generalize hc : UInt8.ofNat (u % 128 + 128) = c at e1
      have HC := Lib.hid hc
      clear hc
      go_wp2_with (at_builtin; refine wpList_append_own _ rfl _ _ 23 rfl w.heap.size 5 i0 (.int .u8 0) 1 1 Try.underlying23 hi hz0 hz1 hz2 rfl (by decide) _ _ _ rfl (hown.alloc _) ⟨wr.heap.size, 0, none⟩ 1 1 [.int .u8 (c.toNat : Int)] rfl rfl ?c1 ?c2 ?c3 ?c4 ?c5 ?_)
      case c1 =>
        intro j x hj
        match j, hj with
        | 0, hj => simp at hj; subst hj; simp [Addr.add]
      case c2 => intro x hx; simp at hx; subst hx; rfl
      case c3 => unfold maxLen; omega
      case c4 => omega
      case c5 => simp; omega
      intro v' w1 hown' hgrow _
      have R : w1.ownsRow w.heap.size 5 1 v' (p ++ [c]).length ((bys (p ++ [c])).map (Value.int .u8)) ∧ Below w.heap.size w w1 :=
        ⟨by simpa [bys_snoc] using hown', (hB.alloc (by omega) _).grown hgrow (by simp; omega) (fun j hj => by have := (hown.lt j hj).1; omega)⟩
      clear hown' hgrow hown hB
      go_wp2
      go_roundw
      case rel =>
        cases f with
        | zero => exact absurd hH.out.1 (by omega)
        | succ f =>
          refine ⟨p ++ [c], f, u / 128, by go_num, by simp; omega, by omega, Lib.hid ⟨?_, ?_⟩, R.1, R.2⟩
          · have := hH.out.1
            rw [Nat.pow_succ] at this
            exact Nat.div_lt_of_lt_mul (by omega)
          · rw [hH.out.2, ← HC.out, List.append_assoc]
            congr 1
            rw [encF, if_neg (by omega)]
            rfl
      case measure => simp [intOf]; omega
    · have HC : Hid ((u : Int) = ((UInt8.ofNat u).toNat : Int)) := Lib.hid (by rw [ofNat_toNat _ (by omega)])
      generalize hc : UInt8.ofNat u = c at HC
      have HD := Lib.hid hc
      clear hc
      go_wp2_with (at_builtin; refine wpList_append_own _ rfl _ _ 23 rfl w.heap.size 5 i0 (.int .u8 0) 1 1 Try.underlying23 hi hz0 hz1 hz2 rfl (by decide) _ _ _ rfl (hown.alloc _) ⟨wr.heap.size, 0, none⟩ 1 1 [.int .u8 (c.toNat : Int)] rfl rfl ?d1 ?d2 ?d3 ?d4 ?d5 ?_)
      case d1 =>
        intro j x hj
        match j, hj with
        | 0, hj => simp at hj; subst hj; simp [Addr.add, HC.out]
      case d2 => intro x hx; simp at hx; subst hx; rfl
      case d3 => unfold maxLen; omega
      case d4 => omega
      case d5 => simp; omega
      intro v' w1 hown' hgrow _
      have R : w1.ownsRow w.heap.size 5 1 v' (p ++ [c]).length ((bys (p ++ [c])).map (Value.int .u8)) ∧ Below w.heap.size w w1 :=
        ⟨by simpa [bys_snoc] using hown', (hB.alloc (by omega) _).grown hgrow (by simp; omega) (fun j hj => by have := (hown.lt j hj).1; omega)⟩
      clear hown' hgrow hown hB
      have hcv : (convert 23 9 v').run Try.prog w1 = .ok (.string ⟨(p ++ [c]).toArray⟩) w1 := by
        obtain ⟨hown0, _⟩ := R
        have hown1 := hown0
        obtain ⟨_, hcase⟩ := hown0
        rcases hcase with ⟨_, h0⟩ | ⟨g, cap', cur, rfl, _, _, _, _, _, _⟩
        · simp at h0
        · rw [run_convert_bytes_arg (P := Try.prog) w1 23 5 Try.underlying23 Try.underlying5 g 0 _ cap' (bys (p ++ [c])) (bys_len _) (fun i hi => by
            rw [Nat.zero_add, hown1.cellAt i (by omega)]
            have : i < (bys (p ++ [c])).length := by rw [bys_len]; exact hi
            simp [List.getD, List.getElem?_eq_getElem this]) 9 Try.underlying9, strOf_bys]
      go_wp2
      go_ret
      refine ⟨?_, R.2⟩
      unfold encB
      rw [HZ.out, hH.out.2, encF, if_pos (by omega), HD.out]
      rfl

theorem oneByte (w : World) (c : UInt8) : (convert 23 9 (.slice (some ⟨w.heap.size, 0, none⟩) 1 1)).run Try.prog (w.alloc (.cells #[.int .u8 (c.toNat : Int)] 5)) = .ok (.string ⟨#[c]⟩) (w.alloc (.cells #[.int .u8 (c.toNat : Int)] 5)) := by
  have := run_convert_bytes_arg (P := Try.prog) (w.alloc (.cells #[.int .u8 (c.toNat : Int)] 5)) 23 5 Try.underlying23 Try.underlying5 w.heap.size 0 1 1 [(c.toNat : Int)] rfl (by
    intro i hi
    match i, hi with
    | 0, _ => simp) 9 Try.underlying9
  rw [this]
  have h := strOf_bys [c]
  unfold bys at h
  simp only [List.map_cons, List.map_nil] at h
  rw [h]
end Go.Proofs.Ytmjlfhfadmndhaa.Pac
