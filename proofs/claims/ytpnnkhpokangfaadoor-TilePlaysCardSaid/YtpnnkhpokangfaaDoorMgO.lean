/- Texts OrA, OrB, OrC, one behind the other. -/
import Derived.Test.YtpnnkhpokangfaaDoorVaL
import Derived.Test.YtpnnkhpokangfaaDoorVaJ
/- Keys that stand in their values' order, plainly. No program. -/
namespace Go.Proofs.YtpnnkhpokangfaaDoor.Or
open Go.RowKit Pac Va

/-- A number's bytes, the highest first. -/
def be : Nat → Nat → List UInt8
 | 0, _ => []
 | f + 1, u => UInt8.ofNat (u / 256 ^ f) :: be f (u % 256 ^ f)
theorem be_len : ∀ (f u : Nat), (be f u).length = f
 | 0, _ => rfl
 | f + 1, u => by simp [be, be_len f]
theorem head_lt {f u : Nat} (h : u < 256 ^ (f + 1)) : u / 256 ^ f < 256 := by
 rw [Nat.pow_succ] at h
 exact Nat.div_lt_of_lt_mul h
theorem be_less : ∀ (f u v : Nat), u < 256 ^ f → v < 256 ^ f → (Op.bytesLess (be f u) (be f v) = true ↔ u < v)
 | 0, u, v, hu, hv => by
  simp at hu hv
  subst hu hv
  simp [be, Op.bytesLess]
 | f + 1, u, v, hu, hv => by
  have hq : 0 < 256 ^ f := Nat.pow_pos (by omega)
  have ih := be_less f (u % 256 ^ f) (v % 256 ^ f) (Nat.mod_lt _ hq) (Nat.mod_lt _ hq)
  have h1 := head_lt hu
  have h2 := head_lt hv
  have d1 := Nat.div_add_mod u (256 ^ f)
  have d2 := Nat.div_add_mod v (256 ^ f)
  have m1 := Nat.mod_lt u hq
  have m2 := Nat.mod_lt v hq
  simp only [be]
  rw [less_cons, ofNat_toNat _ h1, ofNat_toNat _ h2, ih]
  have he : UInt8.ofNat (u / 256 ^ f) = UInt8.ofNat (v / 256 ^ f) ↔ u / 256 ^ f = v / 256 ^ f := by
   constructor
   ·intro h
    have := congrArg UInt8.toNat h
    rwa [ofNat_toNat _ h1, ofNat_toNat _ h2] at this
   ·intro h
    rw [h]
  rw [he]
  generalize 256 ^ f = q at *
  generalize u / q = a at *
  generalize v / q = b at *
  constructor
  ·rintro (h | ⟨rfl, h⟩)
   ·have : q * (a + 1) ≤ q * b := Nat.mul_le_mul_left q h
    rw [Nat.mul_add] at this
    omega
   ·omega
  ·intro h
   rcases Nat.lt_trichotomy a b with h' | h' | h'
   ·exact Or.inl h'
   ·subst h'
    exact Or.inr ⟨rfl, by omega⟩
   ·exfalso
    have : q * (b + 1) ≤ q * a := Nat.mul_le_mul_left q h'
    rw [Nat.mul_add] at this
    omega
theorem be_inj {f u v : Nat} (hu : u < 256 ^ f) (hv : v < 256 ^ f) (h : be f u = be f v) : u = v := by
 have a := be_less f u v hu hv
 have b := be_less f v u hv hu
 rw [h, less_irrefl] at a
 rw [h, less_irrefl] at b
 simp at a b
 omega
theorem p8 : (256 : Nat) ^ 8 = 18446744073709551616 := by decide
end Go.Proofs.YtpnnkhpokangfaaDoor.Or

/- A key's number: the document's, and the program's, walked. -/
namespace Go.Proofs.YtpnnkhpokangfaaDoor.Or
open Go.RowKit Pac Va

end Go.Proofs.YtpnnkhpokangfaaDoor.Or

/- A value's key: the document's, walked. -/
namespace Go.Proofs.YtpnnkhpokangfaaDoor.Or
open Go.RowKit Pac Va

/-- The first q of a number's bytes behind its kind. -/
def partB (c : UInt8) (u q : Nat) : ByteArray := ⟨(c :: (be 8 u).take q).toArray⟩
theorem be_at : ∀ (f u q : Nat), u < 256 ^ f → q < f → (be f u)[q]? = some (UInt8.ofNat (u / 256 ^ (f - 1 - q) % 256))
 | 0, _, _, _, hq => absurd hq (Nat.not_lt_zero _)
 | f + 1, u, 0, hu, _ => by
  have h1 := head_lt hu
  show some (UInt8.ofNat (u / 256 ^ f)) = _
  rw [show f + 1 - 1 - 0 = f by omega, Nat.mod_eq_of_lt h1]
 | f + 1, u, q + 1, hu, hq => by
  show (be f (u % 256 ^ f))[q]? = _
  have hp : 0 < 256 ^ f := Nat.pow_pos (by omega)
  rw [be_at f (u % 256 ^ f) q (Nat.mod_lt _ hp) (by omega)]
  have e : f + 1 - 1 - (q + 1) = f - 1 - q := by omega
  rw [e]
  have hf : 256 ^ f = 256 ^ (f - 1 - q) * 256 ^ (q + 1) := by rw [← Nat.pow_add]; congr 1; omega
  rw [hf, Nat.mod_mul_right_div_self]
  congr 2
  rw [Nat.pow_succ, Nat.mul_comm, Nat.mod_mul_right_mod]
theorem part_step (c : UInt8) (u q : Nat) (hu : u < 18446744073709551616) (hq : q < 8) : ∃ d : UInt8, (u : Int) / 2 ^ (8 * (7 - q)) % 256 = (d.toNat : Int) ∧ partB c u q ++ ⟨#[d]⟩ = partB c u (q + 1) := by
 refine ⟨UInt8.ofNat (u / 256 ^ (7 - q) % 256), ?_, ?_⟩
 ·rw [ofNat_toNat _ (by omega)]
  have : (2 : Int) ^ (8 * (7 - q)) = ((256 ^ (7 - q) : Nat) : Int) := by
   rw [Int.pow_mul]
   simp
  rw [this]
  omega
 ·have e := be_at 8 u q (by rw [p8]; exact hu) hq
  apply bytesEq'
  unfold partB
  rw [app_list]
  show c :: (be 8 u).take q ++ [_] = c :: (be 8 u).take (q + 1)
  rw [List.take_add_one, e]
  rfl
end Go.Proofs.YtpnnkhpokangfaaDoor.Or
