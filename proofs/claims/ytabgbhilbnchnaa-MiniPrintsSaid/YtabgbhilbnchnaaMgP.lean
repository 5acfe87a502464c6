/- Texts PacA, PacB, PacC, PacD, PacE, PacF, PacG, PacH, PacK, PacL, PacW, one behind the other. -/
import Derived.Laws.BitsAllLaws
import Derived.Test.YtabgbhilbnchnaaProg
import Derived.WalkKit
import Derived.WalkSpells
import Derived.WalkLawsBesides
import Derived.Lib.Hide
import Derived.IntWalk
import Derived.Deep.DeepCutAuto
import Derived.Deep.DeepFit
import Derived.Deep.CutBlock
import Derived.Deep.QuietTactic
import Derived.BigQuiet
import Derived.Outline
import Derived.WalkSmall
import Derived.Laws.BytesArg
import Derived.OwnWalk
import Derived.Deep.RegionWith
import Derived.Deep.RegionHeld3
import Derived.Lib.Strings
import Derived.Deep.MidRow
import Derived.OrdersHeld
/- Numbers by seven bits in each byte, plainly: written, read, one form each. No program. -/
namespace Go.Proofs.Ytabgbhilbnchnaa.Pac

/-- The number of a number: 0, -1, 1, -2, 2 .. are 0, 1, 2, 3, 4 .. -/
def zig (n : Int) : Nat := if 0 ≤ n then (2 * n).toNat else (-2 * n - 1).toNat
def unzig (u : Nat) : Int := if u % 2 = 0 then (u / 2 : Nat) else -((u / 2 : Nat) : Int) - 1
theorem unzig_zig (n : Int) : unzig (zig n) = n := by
  unfold zig unzig
  split <;> split <;> omega
theorem zig_unzig (u : Nat) : zig (unzig u) = u := by
  unfold zig unzig
  split <;> split <;> omega
theorem zig_inj {n m : Int} (h : zig n = zig m) : n = m := by rw [← unzig_zig n, h, unzig_zig]
theorem zig_lt (n : Int) (h0 : -9223372036854775808 ≤ n) (h1 : n ≤ 9223372036854775807) : zig n < 18446744073709551616 := by
  unfold zig
  split <;> omega
theorem unzig_range (u : Nat) (h : u < 18446744073709551616) : -9223372036854775808 ≤ unzig u ∧ unzig u ≤ 9223372036854775807 := by
  unfold unzig
  split <;> omega
/-- What is nearer to 0 has the smaller number. -/
theorem zig_half (n : Int) : zig (n.tdiv 2) ≤ zig n := by
  unfold zig
  have h1 : 0 ≤ n → n.tdiv 2 = n / 2 := fun h => Int.tdiv_eq_ediv_of_nonneg h
  have h2 : n < 0 → n.tdiv 2 = -((-n) / 2) := fun h => by
    have := Int.neg_tdiv (-n) 2
    rw [Int.neg_neg] at this
    rw [this, Int.tdiv_eq_ediv_of_nonneg (by omega)]
  by_cases h : 0 ≤ n
  · rw [h1 h, if_pos (by omega), if_pos h]
    omega
  · rw [h2 (by omega), if_neg h]
    split <;> omega

def encF : Nat → Nat → List UInt8
  | 0, _ => []
  | f + 1, u => if u < 128 then [UInt8.ofNat u] else UInt8.ofNat (u % 128 + 128) :: encF f (u / 128)
def decF : Nat → List UInt8 → Option (Nat × List UInt8)
  | 0, _ => none
  | _ + 1, [] => none
  | f + 1, b :: r => if b.toNat < 128 then some (b.toNat, r) else
      match decF f r with
      | none => none
      | some (v, r') => if v = 0 then none else some (b.toNat - 128 + 128 * v, r')
/-- The bytes of a number below 2^64. -/
def enc (u : Nat) : List UInt8 := encF 10 u
theorem encF_pos (f u : Nat) : 1 ≤ (encF (f + 1) u).length := by
  simp only [encF]
  split <;> simp
theorem encF_len (f u : Nat) : (encF f u).length ≤ f := by
  induction f generalizing u with
  | zero => simp [encF]
  | succ f ih =>
    simp only [encF]
    split
    · simp
    · have := ih (u / 128)
      simp; omega
theorem encF_mono (f u v : Nat) (h : u ≤ v) : (encF f u).length ≤ (encF f v).length := by
  induction f generalizing u v with
  | zero => simp [encF]
  | succ f ih =>
    simp only [encF]
    split
    · split
      · simp
      · simp
    · split
      · omega
      · have := ih (u / 128) (v / 128) (by omega)
        simp; omega
theorem ofNat_toNat (n : Nat) (h : n < 256) : (UInt8.ofNat n).toNat = n := by simp; omega
theorem dec_enc (f u : Nat) (r : List UInt8) (h : u < 128 ^ f) (hf : 1 ≤ f) : decF f (encF f u ++ r) = some (u, r) := by
  induction f generalizing u with
  | zero => omega
  | succ f ih =>
    simp only [encF]
    split
    · rename_i hu
      simp only [List.cons_append, List.nil_append, decF]
      rw [ofNat_toNat u (by omega), if_pos hu]
    · rename_i hu
      have hf1 : 1 ≤ f := by
        rcases Nat.eq_zero_or_pos f with h0 | h0
        · subst h0; simp at h; omega
        · exact h0
      have hlt : u / 128 < 128 ^ f := by
        rw [Nat.pow_succ] at h
        exact Nat.div_lt_of_lt_mul (by omega)
      simp only [List.cons_append, decF]
      rw [ofNat_toNat (u % 128 + 128) (by omega), if_neg (by omega), ih (u / 128) hlt hf1]
      simp only
      rw [if_neg (by omega)]
      congr 2
      omega
theorem enc_dec (f u : Nat) (s r : List UInt8) (h : decF f s = some (u, r)) : s = encF f u ++ r ∧ u < 128 ^ f := by
  induction f generalizing u s r with
  | zero => simp [decF] at h
  | succ f ih =>
    cases s with
    | nil => simp [decF] at h
    | cons b s =>
      simp only [decF] at h
      have hb : b.toNat < 256 := b.toNat_lt
      split at h
      · rename_i hb1
        simp only [Option.some.injEq, Prod.mk.injEq] at h
        obtain ⟨rfl, rfl⟩ := h
        have hp : 1 ≤ 128 ^ f := Nat.pos_of_ne_zero (by simp)
        refine ⟨?_, by rw [Nat.pow_succ]; omega⟩
        simp only [encF]
        rw [if_pos hb1]
        simp
      · rename_i hb1
        cases hd : decF f s with
        | none => rw [hd] at h; cases h
        | some p =>
          obtain ⟨v, r'⟩ := p
          rw [hd] at h
          simp only at h
          split at h
          · cases h
          · rename_i hv
            simp only [Option.some.injEq, Prod.mk.injEq] at h
            obtain ⟨rfl, rfl⟩ := h
            obtain ⟨rfl, hlt⟩ := ih v s r' hd
            refine ⟨?_, by rw [Nat.pow_succ]; omega⟩
            have e1 : (b.toNat - 128 + 128 * v) % 128 + 128 = b.toNat := by omega
            have e2 : (b.toNat - 128 + 128 * v) / 128 = v := by omega
            simp only [encF]
            rw [if_neg (by omega), e1, e2]
            simp
theorem enc_apart (f u v : Nat) (r s : List UInt8) (hu : u < 128 ^ f) (hv : v < 128 ^ f) (hf : 1 ≤ f) (h : encF f u ++ r = encF f v ++ s) : u = v ∧ r = s := by
  have h1 := dec_enc f u r hu hf
  rw [h, dec_enc f v s hv hf] at h1
  simp only [Option.some.injEq, Prod.mk.injEq] at h1
  exact ⟨h1.1.symm, h1.2.symm⟩
theorem lt_pow10 {u : Nat} (h : u < 18446744073709551616) : u < 128 ^ 10 := by
  have : (128 : Nat) ^ 10 = 1180591620717411303424 := by decide
  omega
end Go.Proofs.Ytabgbhilbnchnaa.Pac

/- Folded and unfolded numbers, walked; what the walks ask of bits. -/
namespace Go.Proofs.Ytabgbhilbnchnaa.Pac
open Go.RowKit

theorem wrapU (x : Int) : IntKind.u64.wrap x = x % 18446744073709551616 := by simp [IntKind.wrap, IntKind.bits, IntKind.signed]
theorem xorAll (x : Nat) (hx : x < 18446744073709551616) : 18446744073709551615 ^^^ x = 18446744073709551615 - x := by
  have h := BitVec.toNat_not (x := BitVec.ofNat 64 x)
  have h2 : BitVec.toNat (BitVec.allOnes 64 ^^^ BitVec.ofNat 64 x) = 18446744073709551615 ^^^ x := by
    rw [BitVec.toNat_xor, BitVec.toNat_allOnes, BitVec.toNat_ofNat, Nat.mod_eq_of_lt (by omega)]
  rw [BitVec.allOnes_xor, h, BitVec.toNat_ofNat, Nat.mod_eq_of_lt (by omega)] at h2
  omega
theorem notU (x : Nat) (hx : x < 18446744073709551616) : bits .xor .u64 IntKind.u64.max (x : Int) = ((18446744073709551615 - x : Nat) : Int) := by
  rw [show IntKind.u64.max = ((18446744073709551615 : Nat) : Int) from by decide, u64_xor_nat _ _ (by omega) hx, xorAll x hx]
theorem orOne (x : Nat) (hx : x < 9223372036854775808) : bits .or .u64 ((2 * x : Nat) : Int) 1 = ((2 * x + 1 : Nat) : Int) := by
  rw [show (1 : Int) = ((1 : Nat) : Int) from rfl, u64_or_nat _ _ (by omega) (by omega), nat_join 1 _ _ (by omega) (by omega)]
theorem andOne (x : Nat) (hx : x < 18446744073709551616) : bits .and .u64 (x : Int) 1 = ((x % 2 : Nat) : Int) := by
  rw [show (1 : Int) = ((1 : Nat) : Int) from rfl, u64_and_nat _ _ hx (by omega), nat_mask1]
theorem notI (x : Nat) (hx : x < 9223372036854775808) : bits .xor .i64 (-1) (x : Int) = -(x : Int) - 1 := by
  have hb : BitVec.ofInt 64 (x : Int) = BitVec.ofNat 64 x := by
    apply BitVec.eq_of_toNat_eq
    simp
  have h1 : BitVec.ofInt 64 (-1) = 18446744073709551615#64 := by decide
  have h2 : (18446744073709551615#64 ^^^ BitVec.ofNat 64 x).toNat = 18446744073709551615 - x := by
    rw [BitVec.toNat_xor, BitVec.toNat_ofNat, BitVec.toNat_ofNat, Nat.mod_eq_of_lt (by omega), Nat.mod_eq_of_lt (by omega), xorAll x (by omega)]
  show IntKind.i64.wrap (((BitVec.ofInt 64 (-1) ^^^ BitVec.ofInt 64 (x : Int)).toNat : Nat) : Int) = _
  rw [hb, h1, h2, IntKind.wrap_i64]
  omega
theorem zig_neg (n : Int) (h0 : -9223372036854775808 ≤ n) (h1 : n < 0) :
    bits .or .u64 (IntKind.u64.wrap (bits .xor .u64 IntKind.u64.max (IntKind.u64.wrap n) * 2)) 1 = (zig n : Int) := by
  have e1 : IntKind.u64.wrap n = (((n + 18446744073709551616).toNat : Nat) : Int) := by rw [wrapU]; omega
  rw [e1, notU _ (by omega)]
  have e2 : IntKind.u64.wrap (((18446744073709551615 - (n + 18446744073709551616).toNat : Nat) : Int) * 2) = ((2 * (-n - 1).toNat : Nat) : Int) := by rw [wrapU]; omega
  rw [e2, orOne _ (by omega)]
  unfold zig
  rw [if_neg (by omega)]
  omega
theorem zig_pos (n : Int) (h : 0 ≤ n) : n * 2 = (zig n : Int) := by
  unfold zig
  rw [if_pos h]
  omega

end Go.Proofs.Ytabgbhilbnchnaa.Pac

/- A number's bytes, walked. -/
namespace Go.Proofs.Ytabgbhilbnchnaa.Pac
open Go.RowKit

def encB (u : Nat) : ByteArray := ⟨(enc u).toArray⟩
def bys (p : List UInt8) : List Int := p.map fun b => (b.toNat : Int)
theorem bys_snoc (p : List UInt8) (b : UInt8) : bys (p ++ [b]) = bys p ++ [(b.toNat : Int)] := by simp [bys]
theorem bys_len (p : List UInt8) : (bys p).length = p.length := by simp [bys]
theorem strOf_bys (p : List UInt8) : strOfNums (bys p) = ⟨p.toArray⟩ := by
  unfold strOfNums bys
  rw [List.map_map]
  congr 2
  apply List.map_id''
  intro b
  simp
theorem info5 : (Try.prog.info? 5).map (fun i => (i.zero, i.size, i.bytes)) = some (some (.int .u8 0), 1, 1) := by kernel_rfl
theorem orMore (u : Nat) : bits .or .u8 ((u : Int) % 256) 128 = ((UInt8.ofNat (u % 128 + 128)).toNat : Int) := by
  rw [show (u : Int) % 256 = ((u % 256 : Nat) : Int) by omega, show (128 : Int) = ((128 : Nat) : Int) from rfl, u8_or_nat _ _ (by omega) (by omega), ofNat_toNat _ (by omega)]
  congr 1
  have e : u % 256 = u % 256 / 128 * 128 + u % 128 := by omega
  have h2 : (u % 256 / 128 * 128 + u % 128) = (u % 256 / 128 * 128) ||| (u % 128) := (nat_join 7 _ _ (by omega) (by omega)).symm
  rw [e, h2, Nat.or_assoc, Nat.or_comm (u % 128) 128, ← Nat.or_assoc]
  have h3 : u % 256 / 128 * 128 ||| 128 = 128 := by
    have : u % 256 / 128 = 0 ∨ u % 256 / 128 = 1 := by omega
    rcases this with h | h <;> rw [h] <;> decide
  rw [h3, nat_join 7 128 (u % 128) (by decide) (by omega)]
  omega

theorem oneByte (w : World) (c : UInt8) : (convert 47 9 (.slice (some ⟨w.heap.size, 0, none⟩) 1 1)).run Try.prog (w.alloc (.cells #[.int .u8 (c.toNat : Int)] 5)) = .ok (.string ⟨#[c]⟩) (w.alloc (.cells #[.int .u8 (c.toNat : Int)] 5)) := by
  have := run_convert_bytes_arg (P := Try.prog) (w.alloc (.cells #[.int .u8 (c.toNat : Int)] 5)) 47 5 Try.underlying47 Try.underlying5 w.heap.size 0 1 1 [(c.toNat : Int)] rfl (by
    intro i hi
    match i, hi with
    | 0, _ => simp) 9 Try.underlying9
  rw [this]
  have h := strOf_bys [c]
  unfold bys at h
  simp only [List.map_cons, List.map_nil] at h
  rw [h]
end Go.Proofs.Ytabgbhilbnchnaa.Pac

/- The number that bytes begin with, plainly. No program. -/
namespace Go.Proofs.Ytabgbhilbnchnaa.Pac
open Go.RowKit

def val : List UInt8 → Nat
  | [] => 0
  | b :: r => b.toNat % 128 + 128 * val r
theorem val_snoc (l : List UInt8) (b : UInt8) : val (l ++ [b]) = val l + b.toNat % 128 * 128 ^ l.length := by
  induction l with
  | nil => simp [val]
  | cons a l ih =>
    simp only [List.cons_append, val, ih, List.length_cons, Nat.pow_succ]
    generalize 128 ^ l.length = q
    rw [Nat.mul_add, Nat.add_assoc]
    congr 2
    rw [Nat.mul_comm 128, Nat.mul_assoc]
theorem val_lt (l : List UInt8) : val l < 128 ^ l.length := by
  induction l with
  | nil => simp [val]
  | cons a l ih =>
    simp only [val, List.length_cons, Nat.pow_succ]
    omega
/-- A form has its end where the first small byte is, and tells its number. -/
theorem enc_shape (f u : Nat) (h : u < 128 ^ f) (hf : 1 ≤ f) : ∃ q b, encF f u = q ++ [b] ∧ b.toNat < 128 ∧ (∀ x ∈ q, 128 ≤ x.toNat) ∧ val (encF f u) = u := by
  induction f generalizing u with
  | zero => omega
  | succ f ih =>
    simp only [encF]
    split
    · rename_i hu
      refine ⟨[], UInt8.ofNat u, rfl, by rw [ofNat_toNat _ (by omega)]; exact hu, by simp, ?_⟩
      simp only [val]
      rw [ofNat_toNat _ (by omega)]
      omega
    · rename_i hu
      have hf1 : 1 ≤ f := by
        rcases Nat.eq_zero_or_pos f with h0 | h0
        · subst h0; simp at h; omega
        · exact h0
      have hlt : u / 128 < 128 ^ f := by
        rw [Nat.pow_succ] at h
        exact Nat.div_lt_of_lt_mul (by omega)
      obtain ⟨q, b, e, hb, hq, hv⟩ := ih (u / 128) hlt hf1
      refine ⟨UInt8.ofNat (u % 128 + 128) :: q, b, by rw [e]; rfl, hb, ?_, ?_⟩
      · intro x hx
        rcases List.mem_cons.1 hx with rfl | hx
        · rw [ofNat_toNat _ (by omega)]; omega
        · exact hq x hx
      · simp only [val]
        rw [hv, ofNat_toNat _ (by omega)]
        omega
theorem first_small {q q' r r' : List UInt8} {b b' : UInt8} (hq : ∀ x ∈ q, 128 ≤ x.toNat) (hb : b.toNat < 128) (hq' : ∀ x ∈ q', 128 ≤ x.toNat) (hb' : b'.toNat < 128)
    (h : q ++ b :: r = q' ++ b' :: r') : q = q' ∧ b = b' ∧ r = r' := by
  induction q generalizing q' with
  | nil =>
    cases q' with
    | nil => simp at h; exact ⟨rfl, h⟩
    | cons x q' =>
      simp at h
      have := hq' x (by simp)
      rw [← h.1] at this
      omega
  | cons a q ih =>
    cases q' with
    | nil =>
      simp at h
      have := hq a (by simp)
      rw [h.1] at this
      omega
    | cons x q' =>
      simp only [List.cons_append, List.cons.injEq] at h
      obtain ⟨h1, h2, h3⟩ := ih (fun y hy => hq y (by simp [hy])) (fun y hy => hq' y (by simp [hy])) h.2
      exact ⟨by rw [h.1, h1], h2, h3⟩

/-- The number that bytes begin with, and what stands behind. -/
def rdN (l : List UInt8) : Option (Nat × List UInt8) :=
  match decF 10 l with
  | some (u, r) => if u < 18446744073709551616 then some (u, r) else none
  | none => none
theorem rdN_some {l r : List UInt8} {u : Nat} (h : rdN l = some (u, r)) : l = enc u ++ r ∧ u < 18446744073709551616 := by
  unfold rdN at h
  split at h
  · rename_i u' r' hd
    split at h
    · rename_i hu
      simp only [Option.some.injEq, Prod.mk.injEq] at h
      obtain ⟨rfl, rfl⟩ := h
      exact ⟨(enc_dec 10 _ _ _ hd).1, hu⟩
    · cases h
  · cases h
theorem rdN_enc (u : Nat) (r : List UInt8) (hu : u < 18446744073709551616) : rdN (enc u ++ r) = some (u, r) := by
  unfold rdN enc
  rw [dec_enc 10 u r (lt_pow10 hu) (by omega)]
  simp [hu]
theorem rdN_yes {l : List UInt8} {u k : Nat} (hu : u < 18446744073709551616) (h : enc u = l.take k) : rdN l = some (u, l.drop k) := by
  have := rdN_enc u (l.drop k) hu
  rwa [h, List.take_append_drop] at this
theorem rdN_no {l : List UInt8} {u k : Nat} {b : UInt8} (hk : l.take (k + 1) = l.take k ++ [b]) (hq : ∀ x ∈ l.take k, 128 ≤ x.toNat) (hb : b.toNat < 128) (hu : u = val (l.take (k + 1)) % 18446744073709551616)
    (h : enc u ≠ l.take (k + 1)) : rdN l = none := by
  rcases hr : rdN l with _ | ⟨v, r⟩
  · rfl
  · exfalso
    obtain ⟨e, hv⟩ := rdN_some hr
    obtain ⟨q, c, e2, hc, hq2, hval⟩ := enc_shape 10 v (lt_pow10 hv) (by omega)
    have e3 : l.take k ++ b :: l.drop (k + 1) = q ++ c :: r := by
      have h1 : l.take k ++ b :: l.drop (k + 1) = l := by
        have := List.take_append_drop (k + 1) l
        rw [hk] at this
        simpa using this
      rw [h1, e]
      unfold enc
      rw [e2]
      simp
    obtain ⟨h1, h2, _⟩ := first_small hq hb hq2 hc e3
    apply h
    rw [hu, hk, h1, h2, ← e2, hval, Nat.mod_eq_of_lt hv]
    rfl
theorem rdN_end {l : List UInt8} (hq : ∀ x ∈ l.take 10, 128 ≤ x.toNat) : rdN l = none := by
  rcases hr : rdN l with _ | ⟨v, r⟩
  · rfl
  · exfalso
    obtain ⟨e, hv⟩ := rdN_some hr
    obtain ⟨q, c, e2, hc, hq2, _⟩ := enc_shape 10 v (lt_pow10 hv) (by omega)
    have hl : (encF 10 v).length ≤ 10 := encF_len 10 v
    have : c ∈ l.take 10 := by
      rw [e]
      unfold enc
      rw [e2]
      rw [e2] at hl
      rw [List.take_append]
      apply List.mem_append_left
      rw [List.take_of_length_le hl]
      simp
    have := hq c this
    omega

theorem orStep (k u c : Nat) (hk : k ≤ 9) (hu : u < 128 ^ k) (hc : c < 256) :
    bits .or .u64 (u : Int) (IntKind.u64.wrap (IntKind.u64.wrap (bits .andNot .u8 (c : Int) 128) * 2 ^ (k * 7))) = (((u + c % 128 * 128 ^ k) % 18446744073709551616 : Nat) : Int) := by
  have e1 : bits .andNot .u8 (c : Int) 128 = ((c % 128 : Nat) : Int) := by
    rw [show (128 : Int) = ((128 : Nat) : Int) from rfl, u8_andNot_nat _ _ hc (by omega), nat_mask7]
  have e2 : IntKind.u64.wrap ((c % 128 : Nat) : Int) = ((c % 128 : Nat) : Int) := by rw [wrapU]; omega
  rw [e1, e2]
  have e3 : IntKind.u64.wrap (((c % 128 : Nat) : Int) * 2 ^ (k * 7)) = ((c % 128 * 128 ^ k % 18446744073709551616 : Nat) : Int) := by
    rw [wrapU]
    have : (2 : Int) ^ (k * 7) = ((128 ^ k : Nat) : Int) := by
      rw [Nat.mul_comm, Int.pow_mul]
      simp
    rw [this]
    simp
  rw [e3]
  have hp : 128 ^ k ∣ 18446744073709551616 ∧ 128 ^ k = 2 ^ (7 * k) ∧ 128 ^ k ≤ 9223372036854775808 := by
    refine ⟨?_, by rw [Nat.pow_mul], ?_⟩
    · have : k = 0 ∨ k = 1 ∨ k = 2 ∨ k = 3 ∨ k = 4 ∨ k = 5 ∨ k = 6 ∨ k = 7 ∨ k = 8 ∨ k = 9 := by omega
      rcases this with rfl | rfl | rfl | rfl | rfl | rfl | rfl | rfl | rfl | rfl <;> decide
    · have : k = 0 ∨ k = 1 ∨ k = 2 ∨ k = 3 ∨ k = 4 ∨ k = 5 ∨ k = 6 ∨ k = 7 ∨ k = 8 ∨ k = 9 := by omega
      rcases this with rfl | rfl | rfl | rfl | rfl | rfl | rfl | rfl | rfl | rfl <;> decide
  obtain ⟨⟨t, ht⟩, h2, h3⟩ := hp
  rw [u64_or_nat _ _ (by omega) (by omega), Nat.or_comm]
  generalize hq : 128 ^ k = q at *
  have hy : c % 128 * q % 18446744073709551616 = q * (c % 128 % t) := by
    rw [ht, Nat.mul_comm (c % 128) q, Nat.mul_mod_mul_left]
  have hq0 : 0 < q := by omega
  have ht0 : 0 < t := by
    rcases Nat.eq_zero_or_pos t with h | h
    · subst h; omega
    · exact h
  have hlt : q * (c % 128 % t) + u < 18446744073709551616 := by
    have h4 : c % 128 % t + 1 ≤ t := Nat.mod_lt _ ht0
    have h5 : q * (c % 128 % t + 1) ≤ q * t := Nat.mul_le_mul_left q h4
    rw [Nat.mul_add] at h5
    omega
  rw [hy, nat_join (7 * k) _ _ (by rw [← h2]; exact Nat.mul_mod_right _ _) (by rw [← h2]; exact hu)]
  congr 1
  generalize q * (c % 128 % t) = y at hlt hy
  generalize c % 128 * q = p at hy
  omega
end Go.Proofs.Ytabgbhilbnchnaa.Pac

/- The number that bytes begin with, walked. -/
namespace Go.Proofs.Ytabgbhilbnchnaa.Pac
open Go.RowKit

def rdB (s : ByteArray) : Int × Nat :=
  match rdN s.data.toList with
  | some (u, r) => (unzig u, s.size - r.length)
  | none => (0, 0)

end Go.Proofs.Ytabgbhilbnchnaa.Pac

/- Boxes in memory; what reading does to one, plainly; a Box's Num, walked. -/
namespace Go.Proofs.Ytabgbhilbnchnaa.Pac
open Go.RowKit

/-- A variable of two cells. -/
structure Box2 (w : World) (g : Nat) (v0 v1 : Value) : Prop where
  c0 : w.cell? ⟨g, 0, none⟩ = some v0
  c1 : w.cell? ⟨g, 1, none⟩ = some v1
  f : ∀ i, w.frozen? ⟨g, i, none⟩ = false
/-- All blocks that were there, but one, are as they were. -/
structure Bar (g : Nat) (w w' : World) : Prop where
  os : w'.os = w.os
  tape : w'.tape = w.tape
  output : w'.output = w.output
  size : w.heap.size ≤ w'.heap.size
  block : ∀ k, k < w.heap.size → k ≠ g → w'.heap[k]? = w.heap[k]?
theorem Bar.refl (g : Nat) (w : World) : Bar g w w := ⟨rfl, rfl, rfl, Nat.le_refl _, fun _ _ _ => rfl⟩
theorem Bar.trans {g : Nat} {a b c : World} (h : Bar g a b) (k : Bar g b c) : Bar g a c :=
  ⟨k.os.trans h.os, k.tape.trans h.tape, k.output.trans h.output, Nat.le_trans h.size k.size, fun j hj hne => (k.block j (Nat.lt_of_lt_of_le hj h.size) hne).trans (h.block j hj hne)⟩
theorem Bar.setCell {g : Nat} {a w : World} (h : Bar g a w) (i : Nat) (u : Value) : Bar g a (w.setCell ⟨g, i, none⟩ u) :=
  ⟨h.os, h.tape, h.output, by simpa using h.size, fun k hk hne => (Below.heap_setCell w ⟨g, i, none⟩ u k hne).trans (h.block k hk hne)⟩
theorem Bar.drew {g : Nat} {a w : World} (h : Bar g a w) : Bar g a w.drew := ⟨h.os, h.tape, h.output, h.size, h.block⟩
theorem Bar.of_below (g : Nat) {B : Nat} {w w' : World} (h : Below B w w') (hB : w.heap.size ≤ B) : Bar g w w' :=
  ⟨h.os, h.tape, h.output, h.size, fun k hk _ => h.block k (Nat.lt_of_lt_of_le hk hB)⟩
theorem Bar.below {g B : Nat} {w w' : World} (h : Bar g w w') (hB : B ≤ g) (hw : B ≤ w.heap.size) : Below B w w' :=
  ⟨h.os, h.tape, h.output, h.size, fun k hk => h.block k (Nat.lt_of_lt_of_le hk hw) (by omega)⟩
theorem Bar.cell {g : Nat} {w w' : World} (h : Bar g w w') {p : Addr} (hlt : p.block < w.heap.size) (hp : p.block ≠ g) : w'.cell? p = w.cell? p := World.cell?_of_block (w := w) (h.block p.block hlt hp)
theorem Bar.frozen {g : Nat} {w w' : World} (h : Bar g w w') {p : Addr} (hlt : p.block < w.heap.size) (hp : p.block ≠ g) : w'.frozen? p = w.frozen? p := World.frozen?_of_block (w := w) (h.block p.block hlt hp)
theorem Box2.lt {w : World} {g : Nat} {v0 v1 : Value} (h : Box2 w g v0 v1) : g < w.heap.size := World.block_lt_of_cell? w _ h.c0
theorem Box2.bar {g g' : Nat} {w w' : World} {v0 v1 : Value} (h : Box2 w g v0 v1) (hb : Bar g' w w') (hne : g ≠ g') : Box2 w' g v0 v1 :=
  ⟨(hb.cell h.lt hne).trans h.c0, (hb.cell h.lt hne).trans h.c1, fun i => (hb.frozen h.lt hne).trans (h.f i)⟩
theorem Box2.below {g B : Nat} {w w' : World} {v0 v1 : Value} (h : Box2 w g v0 v1) (hb : Below B w w') (hB : g < B) : Box2 w' g v0 v1 :=
  ⟨(hb.cell (p := ⟨g, 0, none⟩) hB).trans h.c0, (hb.cell (p := ⟨g, 1, none⟩) hB).trans h.c1, fun i => (hb.frozen (p := ⟨g, i, none⟩) hB).trans (h.f i)⟩
theorem Box2.new (w : World) (v0 v1 : Value) (t : TypeId) : Box2 (w.alloc (.cells #[v0, v1] t)) w.heap.size v0 v1 := by
  constructor <;> simp [go_sem]
theorem Box2.alloc {g : Nat} {w : World} {v0 v1 : Value} (h : Box2 w g v0 v1) (o : Obj) : Box2 (w.alloc o) g v0 v1 :=
  h.below ((Below.refl (g + 1) w).alloc h.lt o) (by omega)
theorem Box2.drew {g : Nat} {w : World} {v0 v1 : Value} (h : Box2 w g v0 v1) : Box2 w.drew g v0 v1 := h.below ((Below.refl (g + 1) w).drew) (by omega)
theorem Box2.set0 {g : Nat} {w : World} {v0 v1 : Value} (h : Box2 w g v0 v1) (u : Value) : Box2 (w.setCell ⟨g, 0, none⟩ u) g u v1 :=
  ⟨World.cell?_setCell_same _ _ _ h.c0, (World.cell?_setCell_other w _ _ u (fun e => by injection e with e1 e2; exact absurd e2 (by decide))).trans h.c1, fun i => by simp [h.f]⟩
theorem Box2.set1 {g : Nat} {w : World} {v0 v1 : Value} (h : Box2 w g v0 v1) (u : Value) : Box2 (w.setCell ⟨g, 1, none⟩ u) g v0 u :=
  ⟨(World.cell?_setCell_other w _ _ u (fun e => by injection e with e1 e2; exact absurd e2 (by decide))).trans h.c0, World.cell?_setCell_same _ _ _ h.c1, fun i => by simp [h.f]⟩

/-- Box g holds the bytes s, and is bad or not. -/
abbrev IsBox (w : World) (g : Nat) (s : ByteArray) (bad : Bool) : Prop := Box2 w g (.string s) (.bool bad)

def numR (s : ByteArray) (bad : Bool) : Int := if bad then 0 else (rdB s).1
def numS (s : ByteArray) (bad : Bool) : ByteArray := if bad then s else s.extract (rdB s).2 s.size
def numBad (s : ByteArray) (bad : Bool) : Bool := if bad then true else (((rdB s).2 : Int) == 0)

theorem rdB_le (s : ByteArray) : (rdB s).2 ≤ s.size := by
  unfold rdB
  split
  · exact Nat.sub_le _ _
  · exact Nat.zero_le _
theorem rdB_range (s : ByteArray) : -9223372036854775808 ≤ (rdB s).1 ∧ (rdB s).1 ≤ 9223372036854775807 := by
  unfold rdB
  split
  · rename_i u r h
    exact unzig_range u (rdN_some h).2
  · exact ⟨by decide, by decide⟩
theorem numS_size (s : ByteArray) (bad : Bool) : (numS s bad).size ≤ s.size := by
  unfold numS
  split
  · exact Nat.le_refl _
  · rw [ByteArray.size_extract]; omega
theorem numR_range (s : ByteArray) (bad : Bool) : -9223372036854775808 ≤ numR s bad ∧ numR s bad ≤ 9223372036854775807 := by
  unfold numR
  split
  · exact ⟨by decide, by decide⟩
  · exact rdB_range s

def btwBad (s : ByteArray) (bad : Bool) (lo hi : Int) : Bool := numBad s bad || decide (numR s bad < lo) || decide (hi < numR s bad)
def btwR (s : ByteArray) (bad : Bool) (lo hi : Int) : Int := if btwBad s bad lo hi then 0 else numR s bad
theorem btwR_range (s : ByteArray) (bad : Bool) (lo hi : Int) : -9223372036854775808 ≤ btwR s bad lo hi ∧ btwR s bad lo hi ≤ 9223372036854775807 := by
  unfold btwR
  split
  · exact ⟨by decide, by decide⟩
  · exact numR_range s bad

def doneB (s : ByteArray) (bad : Bool) : Bool := if bad then false else s.toList.isEmpty
end Go.Proofs.Ytabgbhilbnchnaa.Pac

/- A Box's Text; a text's bytes; walked. -/
namespace Go.Proofs.Ytabgbhilbnchnaa.Pac
open Go.RowKit

theorem encB_size (u : Nat) : 1 ≤ (encB u).size ∧ (encB u).size ≤ 10 := by
  unfold encB
  show 1 ≤ (enc u).toArray.size ∧ (enc u).toArray.size ≤ 10
  rw [List.size_toArray]
  exact ⟨encF_pos 9 u, encF_len 10 u⟩

def txtBad (s : ByteArray) (bad : Bool) (most : Int) : Bool := btwBad s bad 0 most || decide (((numS s bad).size : Int) < btwR s bad 0 most)
def txtR (s : ByteArray) (bad : Bool) (most : Int) : ByteArray := if txtBad s bad most then ⟨#[]⟩ else (numS s bad).extract 0 (btwR s bad 0 most).toNat
def txtS (s : ByteArray) (bad : Bool) (most : Int) : ByteArray := if txtBad s bad most then numS s bad else (numS s bad).extract (btwR s bad 0 most).toNat (numS s bad).size
theorem btwR_pos (s : ByteArray) (bad : Bool) (lo hi : Int) (h : 0 ≤ lo) : 0 ≤ btwR s bad lo hi := by
  unfold btwR
  split
  · exact Int.le_refl _
  · rename_i hb
    unfold btwBad at hb
    simp at hb
    omega
theorem txtS_size (s : ByteArray) (bad : Bool) (most : Int) : (txtS s bad most).size ≤ s.size := by
  have := numS_size s bad
  unfold txtS
  split
  · exact this
  · rw [ByteArray.size_extract]; omega

/-- A text's bytes. -/
def txtB (s : ByteArray) : ByteArray := encB (zig s.size) ++ s
end Go.Proofs.Ytabgbhilbnchnaa.Pac

/- The document's own Box and Text, walked. -/
namespace Go.Proofs.Ytabgbhilbnchnaa.Pac
open Go.RowKit

theorem refZig_neg (n : Int) (h0 : -9223372036854775808 ≤ n) (h1 : n < 0) :
    bits .xor .u64 IntKind.u64.max (IntKind.u64.wrap (IntKind.u64.wrap n * 2)) = (zig n : Int) := by
  have e1 : IntKind.u64.wrap (IntKind.u64.wrap n * 2) = ((2 * n + 18446744073709551616).toNat : Int) := by rw [wrapU, wrapU]; omega
  rw [e1, notU _ (by omega)]
  unfold zig
  rw [if_neg (by omega)]
  omega
theorem rdB_yes {s : ByteArray} {v k : Nat} (h : rdN s.data.toList = some (v, s.data.toList.drop (k + 1))) (hk : k < s.size) : rdB s = (unzig v, k + 1) := by
  unfold rdB
  rw [h]
  have : s.size - (List.drop (k + 1) s.data.toList).length = k + 1 := by
    rw [List.length_drop, Array.length_toList]
    show s.size - (s.size - (k + 1)) = k + 1
    omega
  simp only [this]
theorem rdB_no {s : ByteArray} (h : rdN s.data.toList = none) : rdB s = (0, 0) := by
  unfold rdB
  rw [h]
theorem bytesEq {a b : ByteArray} (h : a.data.toList = b.data.toList) : a = b := ByteArray.ext (Array.toList_inj.1 h)
theorem extract_all (s : ByteArray) : s.extract 0 s.size = s := by
  apply bytesEq
  rw [← ByteArray.toList_eq, Lib.extract_toList, List.drop_zero, Nat.sub_zero]
  exact List.take_of_length_le (by rw [Array.length_toList]; exact Nat.le_refl _)
theorem num_yes {s : ByteArray} {v k : Nat} (h : rdB s = (unzig v, k + 1)) : numR s false = unzig v ∧ numS s false = s.extract (k + 1) s.size ∧ numBad s false = false := by
  unfold numR numS numBad
  rw [h]
  refine ⟨rfl, rfl, ?_⟩
  simp only [Bool.false_eq_true, if_false]
  exact beq_eq_false_iff_ne.2 (by omega)
theorem num_no {s : ByteArray} (h : rdB s = (0, 0)) : numR s false = 0 ∧ numS s false = s ∧ numBad s false = true := by
  unfold numR numS numBad
  rw [h]
  exact ⟨rfl, extract_all s, rfl⟩
theorem orStep' (k u c : Nat) (hk : k ≤ 9) (hu : u < 128 ^ k) (hc : c < 256) :
    bits .or .u64 (u : Int) (IntKind.u64.wrap (IntKind.u64.wrap (bits .and .u8 (c : Int) 127) * 2 ^ (7 * k))) = (((u + c % 128 * 128 ^ k) % 18446744073709551616 : Nat) : Int) := by
  have e1 : bits .andNot .u8 (c : Int) 128 = ((c % 128 : Nat) : Int) := by
    rw [show (128 : Int) = ((128 : Nat) : Int) from rfl, u8_andNot_nat _ _ hc (by omega), nat_mask7]
  have e2 : bits .and .u8 (c : Int) 127 = ((c % 128 : Nat) : Int) := by
    rw [show (127 : Int) = ((127 : Nat) : Int) from rfl, u8_and_nat _ _ hc (by omega), nat_mask7]
  have h := orStep k u c hk hu hc
  rw [e1] at h
  rw [e2, Nat.mul_comm 7 k, h]
theorem par (v : Nat) (hv : v < 18446744073709551616) : (v % 2 = 0 ∧ (bits .and .u64 (v : Int) 1 == 1) = false ∧ (v : Int) / 2 = unzig v) ∨ (v % 2 = 1 ∧ (bits .and .u64 (v : Int) 1 == 1) = true ∧ bits .xor .i64 (-1) ((v : Int) / 2) = unzig v) := by
  have h : v % 2 = 0 ∨ v % 2 = 1 := by omega
  rcases h with h | h
  · refine Or.inl ⟨h, by rw [andOne v hv, h]; rfl, ?_⟩
    unfold unzig
    rw [if_pos h]
    omega
  · refine Or.inr ⟨h, by rw [andOne v hv, h]; rfl, ?_⟩
    unfold unzig
    rw [if_neg (by omega), show (v : Int) / 2 = ((v / 2 : Nat) : Int) by omega, notI _ (by omega)]

end Go.Proofs.Ytabgbhilbnchnaa.Pac

/- Numbers and texts, there and back, plainly. -/
namespace Go.Proofs.Ytabgbhilbnchnaa.Pac
open Go.RowKit

theorem bytesEq' {a b : ByteArray} (h : a.data.toList = b.data.toList) : a = b := ByteArray.ext (Array.toList_inj.1 h)
theorem encB_list (u : Nat) : (encB u).data.toList = enc u := by simp [encB]
theorem app_list (a b : ByteArray) : (a ++ b).data.toList = a.data.toList ++ b.data.toList := by rw [ByteArray.data_append, Array.toList_append]
theorem len_list (a : ByteArray) : a.data.toList.length = a.size := Array.length_toList
theorem app_assoc (a b c : ByteArray) : a ++ b ++ c = a ++ (b ++ c) := bytesEq' (by rw [app_list, app_list, app_list, app_list, List.append_assoc])
theorem drop_app (a b : ByteArray) : (a ++ b).extract a.size (a ++ b).size = b := by
  apply bytesEq'
  rw [← ByteArray.toList_eq, Lib.extract_toList, app_list, List.drop_left' (len_list a), ByteArray.size_append]
  exact List.take_of_length_le (by rw [len_list]; omega)
theorem take_app (a b : ByteArray) : (a ++ b).extract 0 a.size = a := by
  apply bytesEq'
  rw [← ByteArray.toList_eq, Lib.extract_toList, app_list, List.drop_zero, Nat.sub_zero, List.take_left' (len_list a)]
theorem rdB_enc (u : Nat) (r : ByteArray) (hu : u < 18446744073709551616) : rdB (encB u ++ r) = (unzig u, (encB u).size) := by
  unfold rdB
  rw [app_list, encB_list, rdN_enc u _ hu]
  simp only [len_list, ByteArray.size_append]
  rw [Nat.add_sub_cancel]
theorem num_enc (n : Int) (r : ByteArray) (h0 : -9223372036854775808 ≤ n) (h1 : n ≤ 9223372036854775807) :
    numR (encB (zig n) ++ r) false = n ∧ numS (encB (zig n) ++ r) false = r ∧ numBad (encB (zig n) ++ r) false = false := by
  have h := rdB_enc (zig n) r (zig_lt n h0 h1)
  have hz := (encB_size (zig n)).1
  unfold numR numS numBad
  simp only [Bool.false_eq_true, if_false]
  rw [h]
  refine ⟨unzig_zig n, drop_app _ _, ?_⟩
  exact beq_eq_false_iff_ne.2 (by simp only; omega)
theorem text_enc (s r : ByteArray) (most : Int) (hs : s.size ≤ 2147483647) (hm : (s.size : Int) ≤ most) :
    txtR (txtB s ++ r) false most = s ∧ txtS (txtB s ++ r) false most = r ∧ txtBad (txtB s ++ r) false most = false := by
  have e : txtB s ++ r = encB (zig (s.size : Int)) ++ (s ++ r) := app_assoc _ _ _
  obtain ⟨h1, h2, h3⟩ := num_enc (s.size : Int) (s ++ r) (by omega) (by omega)
  have hb : btwBad (txtB s ++ r) false 0 most = false := by
    unfold btwBad
    rw [e, h1, h3]
    simp
    omega
  have hr : btwR (txtB s ++ r) false 0 most = (s.size : Int) := by
    unfold btwR
    rw [hb, e, h1]
    rfl
  have ht : txtBad (txtB s ++ r) false most = false := by
    unfold txtBad
    rw [hb, hr, e, h2, ByteArray.size_append]
    simp
    omega
  unfold txtR txtS
  rw [ht, hr, e, h2]
  exact ⟨by simpa using take_app s r, by simpa using drop_app s r, rfl⟩
/-- A number that lies in its bounds, read between them. -/
theorem btw_enc (n lo hi : Int) (r : ByteArray) (h0 : -9223372036854775808 ≤ n) (h1 : n ≤ 9223372036854775807) (hl : lo ≤ n) (hh : n ≤ hi) :
    btwR (encB (zig n) ++ r) false lo hi = n ∧ numS (encB (zig n) ++ r) false = r ∧ btwBad (encB (zig n) ++ r) false lo hi = false := by
  obtain ⟨e1, e2, e3⟩ := num_enc n r h0 h1
  have hb : btwBad (encB (zig n) ++ r) false lo hi = false := by
    unfold btwBad
    rw [e1, e3]
    simp
    omega
  unfold btwR
  rw [hb, e1, e2]
  exact ⟨rfl, rfl, rfl⟩
end Go.Proofs.Ytabgbhilbnchnaa.Pac

/- What is read is written just so, plainly. -/
namespace Go.Proofs.Ytabgbhilbnchnaa.Pac
open Go.RowKit

theorem split_at (s : ByteArray) (k : Nat) (h : k ≤ s.size) : s = s.extract 0 k ++ s.extract k s.size := by
  apply bytesEq'
  rw [app_list, ← ByteArray.toList_eq (s.extract 0 k), ← ByteArray.toList_eq (s.extract k s.size), Lib.extract_toList, Lib.extract_toList, List.drop_zero, Nat.sub_zero]
  have hl := len_list s
  rw [List.take_of_length_le (l := s.data.toList.drop k) (by rw [List.length_drop]; omega), List.take_append_drop]
theorem extract_size (s : ByteArray) (k : Nat) (h : k ≤ s.size) : (s.extract 0 k).size = k := by
  rw [ByteArray.size_extract]
  omega
theorem num_dec {s : ByteArray} (h : numBad s false = false) : s = encB (zig (numR s false)) ++ numS s false := by
  have hle := rdB_le s
  unfold numBad numR numS at *
  simp only [Bool.false_eq_true, if_false] at *
  unfold rdB at *
  rcases hr : rdN s.data.toList with _ | ⟨u, r⟩
  · rw [hr] at h
    simp at h
  · rw [hr] at h hle
    simp only at h hle ⊢
    obtain ⟨e, hu⟩ := rdN_some hr
    have hl := len_list s
    have hl2 : s.size = (enc u).length + r.length := by rw [← hl, e, List.length_append]
    rw [zig_unzig]
    have e1 : s.size - r.length = (enc u).length := by omega
    rw [e1]
    have e2 : s.extract 0 (enc u).length = encB u := by
      apply bytesEq'
      rw [← ByteArray.toList_eq, Lib.extract_toList, List.drop_zero, Nat.sub_zero, e, List.take_left' rfl, encB_list]
    have := split_at s (enc u).length (by omega)
    rw [e2] at this
    exact this
theorem btw_dec {s : ByteArray} {lo hi : Int} (h : btwBad s false lo hi = false) : s = encB (zig (btwR s false lo hi)) ++ numS s false ∧ lo ≤ btwR s false lo hi ∧ btwR s false lo hi ≤ hi ∧ numBad s false = false := by
  have hb := h
  unfold btwBad at h
  simp only [Bool.or_eq_false_iff, decide_eq_false_iff_not] at h
  unfold btwR
  rw [hb]
  simp only [Bool.false_eq_true, if_false]
  exact ⟨num_dec h.1.1, by omega, by omega, h.1.1⟩
theorem txt_dec {s : ByteArray} {most : Int} (h : txtBad s false most = false) : s = txtB (txtR s false most) ++ txtS s false most ∧ ((txtR s false most).size : Int) ≤ most := by
  have hb := h
  unfold txtBad at h
  simp only [Bool.or_eq_false_iff, decide_eq_false_iff_not] at h
  obtain ⟨e, h0, h1, _⟩ := btw_dec h.1
  obtain ⟨k, hk⟩ := Int.eq_ofNat_of_zero_le h0
  rw [hk] at h e h1
  have hle : k ≤ (numS s false).size := by omega
  unfold txtR txtS
  rw [hb, hk]
  simp only [Bool.false_eq_true, if_false, Int.toNat_natCast]
  have hz := extract_size (numS s false) k hle
  refine ⟨?_, by rw [hz]; exact h1⟩
  unfold txtB
  rw [hz, app_assoc, ← split_at (numS s false) k hle]
  exact e
end Go.Proofs.Ytabgbhilbnchnaa.Pac

/- A region that draws its order, with calls that write: walked once, in the order of the text, if each operation that is no call yields its value in every world that meets what is held then. No program. -/
namespace Go.Proofs.Ytabgbhilbnchnaa.Lex
open Go

/-- In this order: each may come up, apart from all that is left; a call comes up alone. -/
def lexH (ops : Array Oper) (calls : List Nat) : List Nat → Array Bool → Bool
  | [], listed => Region.ready .any ops listed == []
  | k :: l, listed => (if calls.contains k then Region.ready .any ops listed == [k] else (Region.free .any ops listed k && (Region.ready .any ops listed).contains k)) && lexH ops calls l (listed.setIfInBounds k true)

def walkH (P : Program) (ops : Array Oper) (Q : Exit → Act → World → Prop) (calls : List Nat) : List Nat → (World → Prop) → Act → World → Prop
  | [], _, a, w => Q .normal a w
  | k :: l, S, a, w => ∀ o, ops[k]? = some o →
      if calls.contains k = true then
        (if Region.wanted o (yielded ops a.tmps) = true then Oper.wp P o a w (fun a' w' => ∃ S' : World → Prop, (∀ w, S' w → S w) ∧ S' w' ∧ walkH P ops Q calls l S' a' w') Q
         else walkH P ops Q calls l S (a.put o.dst undef) w)
      else ∃ v, YieldsIf P ops S o v a ∧ walkH P ops Q calls l S (a.put o.dst v) w

section
variable {P : Program} {ops : Array Oper} {Q : Exit → Act → World → Prop} {calls : List Nat}

theorem turn {md : Region.Mode} {S S' : World → Prop} (h : ∀ w, S' w → S w) : ∀ (n : Nat) (listed : Array Bool) (a : Act) (w : World), wpAnyH P md ops Q S' n listed a w → wpAnyH P md ops Q S n listed a w
  | 0, _, _, _, k => k
  | n + 1, _, _, _, k => ⟨k.1, fun i hi => wpOp_mono (fun a' w' k' => ⟨h _ k'.1, turn h n _ a' w' k'.2⟩) (k.2 i hi)⟩

theorem of_walk (hs : Region.noSelect ops = true) (hQ : ∀ c a d v w, Q (.panic c) (a.put d v) w → Q (.panic c) a w) :
    ∀ (l : List Nat) (S : World → Prop) (listed : Array Bool) (a : Act) (w : World), (∀ k ∈ l, k < ops.size) → lexH ops calls l listed = true → S w → walkH P ops Q calls l S a w → wpAnyH P .any ops Q S l.length listed a w
  | [], S, listed, a, w, _, hL, _, h => by
    simp only [lexH, beq_iff_eq] at hL
    exact ⟨hL, h⟩
  | k :: l, S, listed, a, w, hk, hL, hS, h => by
    have hlt : k < ops.size := hk k (by simp)
    have hk' : ∀ j ∈ l, j < ops.size := fun j hj => hk j (by simp [hj])
    have ho : ops[k]? = some ops[k] := Array.getElem?_eq_getElem hlt
    have h' := h _ ho
    simp only [lexH, Bool.and_eq_true] at hL
    obtain ⟨h1, h2⟩ := hL
    cases hc : calls.contains k with
    | true =>
      rw [hc, if_pos rfl] at h1
      rw [if_pos hc] at h'
      have hr : Region.ready .any ops listed = [k] := by simpa using h1
      refine wpAnyH_all hr (by simp) fun i hi => ?_
      obtain rfl : i = k := by simpa using hi
      unfold wpOp
      rw [ho]
      show if Region.wanted ops[i] (yielded ops a.tmps) = true then _ else _
      by_cases hw : Region.wanted ops[i] (yielded ops a.tmps) = true
      · rw [if_pos hw] at h' ⊢
        refine Or.inl (Oper.wp_mono (fun a' w' hh => ?_) h')
        obtain ⟨S', hSS, hS', hh⟩ := hh
        exact ⟨hSS _ hS', turn hSS _ _ _ _ (of_walk hs hQ l S' _ a' w' hk' h2 hS' hh)⟩
      · rw [if_neg hw] at h' ⊢
        exact ⟨hS, of_walk hs hQ l S _ _ w hk' h2 hS h'⟩
    | false =>
      rw [hc, if_neg (by simp), Bool.and_eq_true] at h1
      rw [if_neg (by rw [hc]; simp)] at h'
      obtain ⟨v, hy, hh⟩ := h'
      exact wpAnyH_take ho hs h1.1 h1.2 (fun c a w => hQ c a _ _ w) hy hS (of_walk hs hQ l S _ _ w hk' h2 hS hh)

theorem region_lex {id : Nat} {l : Array Oper} {a : Act} {w : World} (ord : List Nat) (S : World → Prop) (he : l = ops) (hm : P.follows .mixedOrders = true) (hs : Region.noSelect ops = true)
    (hn : ord.length = ops.size) (hk : ord.all (fun k => decide (k < ops.size)) = true) (hL : lexH ops calls ord (Array.replicate ops.size false) = true) (hS : S w.drew) (h : walkH P ops (NoPanic Q) calls ord S a w.drew) : (Code.region id l true).wp P Q a w := by
  subst he
  refine wp_region_noPanic (wp_region_held_drew (S := S) hm hS fun _ => ?_)
  rw [← hn]
  exact of_walk hs (fun _ _ _ _ _ h => h) ord S _ a _ (fun k h => by simpa using List.all_eq_true.1 hk k h) (by rw [hn]; exact hL) hS h

variable {l : List Nat} {k : Nat} {S : World → Prop} {o : Oper} {a : Act} {w : World}
theorem step_take (v : Value) (ho : ops[k]? = some o) (hc : calls.contains k = false) (hw : Region.wanted o (yielded ops a.tmps) = true)
    (hv : ∀ w, S w → (execOp a.eval o).run P w = .ok (.value v) w) (h : walkH P ops Q calls l S (a.put o.dst v) w) : walkH P ops Q calls (k :: l) S a w := by
  intro o' ho'
  obtain rfl : o' = o := Option.some.inj (ho'.symm.trans ho)
  rw [if_neg (by rw [hc]; simp)]
  exact ⟨v, Or.inl ⟨hw, hv⟩, h⟩
theorem step_skip (ho : ops[k]? = some o) (hw : Region.wanted o (yielded ops a.tmps) = false)
    (h : walkH P ops Q calls l S (a.put o.dst undef) w) : walkH P ops Q calls (k :: l) S a w := by
  intro o' ho'
  obtain rfl : o' = o := Option.some.inj (ho'.symm.trans ho)
  by_cases hc : calls.contains k = true
  · rw [if_pos hc, if_neg (by rw [hw]; simp)]
    exact h
  · rw [if_neg hc]
    exact ⟨undef, Or.inr ⟨hw, rfl⟩, h⟩
theorem step_call (ho : ops[k]? = some o) (hc : calls.contains k = true) (hw : Region.wanted o (yielded ops a.tmps) = true)
    (h : ∀ K : Act → World → Prop, Shut (∀ (S' : World → Prop) a' w', (∀ w, S' w → S w) → S' w' → walkH P ops Q calls l S' a' w' → K a' w') → Oper.wp P o a w K Q) : walkH P ops Q calls (k :: l) S a w := by
  intro o' ho'
  obtain rfl : o' = o := Option.some.inj (ho'.symm.trans ho)
  rw [if_pos hc, if_pos hw]
  exact h _ fun S' a' w' h1 h2 h3 => ⟨S', h1, h2, h3⟩
theorem want_none {y : Nat → Option Bool} (h : o.guard = none) : Region.wanted o y = true := by
  unfold Region.wanted
  rw [h]
theorem want_some {g d : Nat} {b b' : Bool} {og : Oper} (h : o.guard = some (g, b)) (hg : ops[g]? = some og) (hd : og.dst = some d) (ha : a.tmps[d]? = some (.bool b')) {r : Bool} (hr : (b' == b) = r) : Region.wanted o (yielded ops a.tmps) = r := by
  subst hr
  unfold Region.wanted yielded
  rw [h]
  simp only [hg, Option.bind_some, hd, ha]
  rfl
end
end Go.Proofs.Ytabgbhilbnchnaa.Lex
