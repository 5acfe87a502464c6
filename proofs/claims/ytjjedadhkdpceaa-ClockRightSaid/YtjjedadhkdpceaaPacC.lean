/- A number's bytes, walked. -/
import Derived.Test.YtjjedadhkdpceaaPacB
import Derived.Laws.BytesArg
import Derived.OwnWalk
namespace Go.Proofs.Ytjjedadhkdpceaa.Pac
open Go.RowKit

def encB (u : Nat) : ByteArray := ⟨(enc u).toArray⟩
def bys (p : List UInt8) : List Int := p.map fun b => (b.toNat : Int)
theorem bys_snoc (p : List UInt8) (b : UInt8) : bys (p ++ [b]) = bys p ++ [(b.toNat : Int)] := by simp [bys]
theorem bys_len (p : List UInt8) : (bys p).length = p.length := by simp [bys]
theorem strOf_bys (p : List UInt8) : strOfNums (bys p) = ⟨p.toArray⟩ := by
  unfold strOfNums bys
  rw [List.map_map]
  congr 2
  apply List.map_id''
  intro b
  simp
theorem info5 : (Try.prog.info? 5).map (fun i => (i.zero, i.size, i.bytes)) = some (some (.int .u8 0), 1, 1) := by kernel_rfl
theorem orMore (u : Nat) : bits .or .u8 ((u : Int) % 256) 128 = ((UInt8.ofNat (u % 128 + 128)).toNat : Int) := by
  rw [show (u : Int) % 256 = ((u % 256 : Nat) : Int) by omega, show (128 : Int) = ((128 : Nat) : Int) from rfl, u8_or_nat _ _ (by omega) (by omega), ofNat_toNat _ (by omega)]
  congr 1
  have e : u % 256 = u % 256 / 128 * 128 + u % 128 := by omega
  have h2 : (u % 256 / 128 * 128 + u % 128) = (u % 256 / 128 * 128) ||| (u % 128) := (nat_join 7 _ _ (by omega) (by omega)).symm
  rw [e, h2, Nat.or_assoc, Nat.or_comm (u % 128) 128, ← Nat.or_assoc]
  have h3 : u % 256 / 128 * 128 ||| 128 = 128 := by
    have : u % 256 / 128 = 0 ∨ u % 256 / 128 = 1 := by omega
    rcases this with h | h <;> rw [h] <;> decide
  rw [h3, nat_join 7 128 (u % 128) (by decide) (by omega)]
  omega

end Go.Proofs.Ytjjedadhkdpceaa.Pac
