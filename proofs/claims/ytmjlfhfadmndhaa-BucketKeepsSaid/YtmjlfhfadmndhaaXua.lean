/- The operations of a condition, each by its number. -/
import Derived.Test.YtmjlfhfadmndhaaPacW
import Derived.Test.YtmjlfhfadmndhaaProg
import Derived.KernelRfl
namespace Go.Proofs.Ytmjlfhfadmndhaa.Bu
open Lex

noncomputable def bpops : Array Oper := #[{ dst := some 14, op := Op.move (Operand.tmp 3), type := 9, pos := "ref.go:63", after := #[], guard := none },
  { dst := some 15, op := Op.move (Operand.tmp 0), type := 22, pos := "ref.go:63", after := #[], guard := none },
  { dst := some 16, op := Op.move (Operand.tmp 4), type := 3, pos := "ref.go:63", after := #[], guard := none },
  { dst := some 17, op := Op.indexAddr 22 (Operand.tmp 15) (Operand.tmp 16), type := 0, pos := "ref.go:63", after := #[{ on := 1, ground := Ground.data }, { on := 2, ground := Ground.data }], guard := none },
  { dst := some 18, op := Op.fieldAddr 30 (Operand.tmp 17) 0, type := 0, pos := "ref.go:63", after := #[{ on := 3, ground := Ground.data }], guard := none },
  { dst := some 19, op := Op.load 9 (Operand.tmp 18), type := 9, pos := "ref.go:63", after := #[{ on := 4, ground := Ground.data }], guard := none },
  { dst := some 20, op := Op.call { callee := Callee.value (Operand.func 41), args := #[Operand.tmp 19], argTypes := #[9] }, type := 9, pos := "ref.go:63", after := #[{ on := 5, ground := Ground.data }], guard := none },
  { dst := some 21, op := Op.binOp BinOp.add 9 (Operand.tmp 14) (Operand.tmp 20) 9, type := 9, pos := "ref.go:63", after := #[{ on := 0, ground := Ground.data }, { on := 6, ground := Ground.data }], guard := none },
  { dst := some 22, op := Op.move (Operand.tmp 0), type := 22, pos := "ref.go:63", after := #[], guard := none },
  { dst := some 23, op := Op.move (Operand.tmp 4), type := 3, pos := "ref.go:63", after := #[], guard := none },
  { dst := some 24, op := Op.indexAddr 22 (Operand.tmp 22) (Operand.tmp 23), type := 0, pos := "ref.go:63", after := #[{ on := 8, ground := Ground.data }, { on := 9, ground := Ground.data }], guard := none },
  { dst := some 25, op := Op.fieldAddr 30 (Operand.tmp 24) 1, type := 0, pos := "ref.go:63", after := #[{ on := 10, ground := Ground.data }], guard := none },
  { dst := some 26, op := Op.fieldAddr 28 (Operand.tmp 25) 0, type := 0, pos := "ref.go:63", after := #[{ on := 11, ground := Ground.data }], guard := none },
  { dst := some 27, op := Op.load 3 (Operand.tmp 26), type := 3, pos := "ref.go:63", after := #[{ on := 12, ground := Ground.data }], guard := none },
  { dst := some 28, op := Op.binOp BinOp.mul 3 (Operand.tmp 27) (Operand.const (Value.int IntKind.i64 8)) 3, type := 3, pos := "ref.go:63", after := #[{ on := 13, ground := Ground.data }], guard := none },
  { dst := some 29, op := Op.move (Operand.tmp 0), type := 22, pos := "ref.go:63", after := #[], guard := none },
  { dst := some 30, op := Op.move (Operand.tmp 4), type := 3, pos := "ref.go:63", after := #[], guard := none },
  { dst := some 31, op := Op.indexAddr 22 (Operand.tmp 29) (Operand.tmp 30), type := 0, pos := "ref.go:63", after := #[{ on := 15, ground := Ground.data }, { on := 16, ground := Ground.data }], guard := none },
  { dst := some 32, op := Op.fieldAddr 30 (Operand.tmp 31) 1, type := 0, pos := "ref.go:63", after := #[{ on := 17, ground := Ground.data }], guard := none },
  { dst := some 33, op := Op.fieldAddr 28 (Operand.tmp 32) 1, type := 0, pos := "ref.go:63", after := #[{ on := 18, ground := Ground.data }], guard := none },
  { dst := some 34, op := Op.load 3 (Operand.tmp 33), type := 3, pos := "ref.go:63", after := #[{ on := 19, ground := Ground.data }], guard := none },
  { dst := some 35, op := Op.binOp BinOp.add 3 (Operand.tmp 28) (Operand.tmp 34) 3, type := 3, pos := "ref.go:63", after := #[{ on := 14, ground := Ground.data }, { on := 20, ground := Ground.data }], guard := none },
  { dst := some 36, op := Op.call { callee := Callee.value (Operand.func 40), args := #[Operand.tmp 35], argTypes := #[3] }, type := 9, pos := "ref.go:63", after := #[{ on := 21, ground := Ground.data }, { on := 6, ground := Ground.chain }], guard := none },
  { dst := some 37, op := Op.binOp BinOp.add 9 (Operand.tmp 21) (Operand.tmp 36) 9, type := 9, pos := "ref.go:63", after := #[{ on := 7, ground := Ground.data }, { on := 22, ground := Ground.data }], guard := none },
  { dst := some 3, op := Op.assign (Operand.tmp 37), type := 9, pos := "ref.go:63", after := #[{ on := 23, ground := Ground.data }, { on := 22, ground := Ground.chain }, { on := 0, ground := Ground.phase }, { on := 1, ground := Ground.phase }, { on := 2, ground := Ground.phase }, { on := 3, ground := Ground.phase }, { on := 4, ground := Ground.phase }, { on := 5, ground := Ground.phase }, { on := 6, ground := Ground.phase }, { on := 7, ground := Ground.phase }, { on := 8, ground := Ground.phase }, { on := 9, ground := Ground.phase }, { on := 10, ground := Ground.phase }, { on := 11, ground := Ground.phase }, { on := 12, ground := Ground.phase }, { on := 13, ground := Ground.phase }, { on := 14, ground := Ground.phase }, { on := 15, ground := Ground.phase }, { on := 16, ground := Ground.phase }, { on := 17, ground := Ground.phase }, { on := 18, ground := Ground.phase }, { on := 19, ground := Ground.phase }, { on := 20, ground := Ground.phase }, { on := 21, ground := Ground.phase }, { on := 22, ground := Ground.phase }, { on := 23, ground := Ground.phase }], guard := none }]
def bpcalls : List Nat := [6, 22]
def bpord : List Nat := [0, 1, 2, 3, 4, 5, 8, 9, 10, 11, 12, 13, 14, 15, 16, 17, 18, 19, 20, 21, 6, 7, 22, 23, 24]
theorem bpsel : Region.noSelect bpops = true := by kernel_rfl
theorem bplex : lexH bpops bpcalls bpord (Array.replicate bpops.size false) = true := by kernel_rfl
theorem bp0 : bpops[0]? = some { dst := some 14, op := Op.move (Operand.tmp 3), type := 9, pos := "ref.go:63", after := #[], guard := none } := by kernel_rfl
theorem bp1 : bpops[1]? = some { dst := some 15, op := Op.move (Operand.tmp 0), type := 22, pos := "ref.go:63", after := #[], guard := none } := by kernel_rfl
theorem bp2 : bpops[2]? = some { dst := some 16, op := Op.move (Operand.tmp 4), type := 3, pos := "ref.go:63", after := #[], guard := none } := by kernel_rfl
theorem bp3 : bpops[3]? = some { dst := some 17, op := Op.indexAddr 22 (Operand.tmp 15) (Operand.tmp 16), type := 0, pos := "ref.go:63", after := #[{ on := 1, ground := Ground.data }, { on := 2, ground := Ground.data }], guard := none } := by kernel_rfl
theorem bp4 : bpops[4]? = some { dst := some 18, op := Op.fieldAddr 30 (Operand.tmp 17) 0, type := 0, pos := "ref.go:63", after := #[{ on := 3, ground := Ground.data }], guard := none } := by kernel_rfl
theorem bp5 : bpops[5]? = some { dst := some 19, op := Op.load 9 (Operand.tmp 18), type := 9, pos := "ref.go:63", after := #[{ on := 4, ground := Ground.data }], guard := none } := by kernel_rfl
theorem bp6 : bpops[6]? = some { dst := some 20, op := Op.call { callee := Callee.value (Operand.func 41), args := #[Operand.tmp 19], argTypes := #[9] }, type := 9, pos := "ref.go:63", after := #[{ on := 5, ground := Ground.data }], guard := none } := by kernel_rfl
theorem bp7 : bpops[7]? = some { dst := some 21, op := Op.binOp BinOp.add 9 (Operand.tmp 14) (Operand.tmp 20) 9, type := 9, pos := "ref.go:63", after := #[{ on := 0, ground := Ground.data }, { on := 6, ground := Ground.data }], guard := none } := by kernel_rfl
theorem bp8 : bpops[8]? = some { dst := some 22, op := Op.move (Operand.tmp 0), type := 22, pos := "ref.go:63", after := #[], guard := none } := by kernel_rfl
theorem bp9 : bpops[9]? = some { dst := some 23, op := Op.move (Operand.tmp 4), type := 3, pos := "ref.go:63", after := #[], guard := none } := by kernel_rfl
theorem bp10 : bpops[10]? = some { dst := some 24, op := Op.indexAddr 22 (Operand.tmp 22) (Operand.tmp 23), type := 0, pos := "ref.go:63", after := #[{ on := 8, ground := Ground.data }, { on := 9, ground := Ground.data }], guard := none } := by kernel_rfl
theorem bp11 : bpops[11]? = some { dst := some 25, op := Op.fieldAddr 30 (Operand.tmp 24) 1, type := 0, pos := "ref.go:63", after := #[{ on := 10, ground := Ground.data }], guard := none } := by kernel_rfl
theorem bp12 : bpops[12]? = some { dst := some 26, op := Op.fieldAddr 28 (Operand.tmp 25) 0, type := 0, pos := "ref.go:63", after := #[{ on := 11, ground := Ground.data }], guard := none } := by kernel_rfl
theorem bp13 : bpops[13]? = some { dst := some 27, op := Op.load 3 (Operand.tmp 26), type := 3, pos := "ref.go:63", after := #[{ on := 12, ground := Ground.data }], guard := none } := by kernel_rfl
theorem bp14 : bpops[14]? = some { dst := some 28, op := Op.binOp BinOp.mul 3 (Operand.tmp 27) (Operand.const (Value.int IntKind.i64 8)) 3, type := 3, pos := "ref.go:63", after := #[{ on := 13, ground := Ground.data }], guard := none } := by kernel_rfl
theorem bp15 : bpops[15]? = some { dst := some 29, op := Op.move (Operand.tmp 0), type := 22, pos := "ref.go:63", after := #[], guard := none } := by kernel_rfl
theorem bp16 : bpops[16]? = some { dst := some 30, op := Op.move (Operand.tmp 4), type := 3, pos := "ref.go:63", after := #[], guard := none } := by kernel_rfl
theorem bp17 : bpops[17]? = some { dst := some 31, op := Op.indexAddr 22 (Operand.tmp 29) (Operand.tmp 30), type := 0, pos := "ref.go:63", after := #[{ on := 15, ground := Ground.data }, { on := 16, ground := Ground.data }], guard := none } := by kernel_rfl
theorem bp18 : bpops[18]? = some { dst := some 32, op := Op.fieldAddr 30 (Operand.tmp 31) 1, type := 0, pos := "ref.go:63", after := #[{ on := 17, ground := Ground.data }], guard := none } := by kernel_rfl
theorem bp19 : bpops[19]? = some { dst := some 33, op := Op.fieldAddr 28 (Operand.tmp 32) 1, type := 0, pos := "ref.go:63", after := #[{ on := 18, ground := Ground.data }], guard := none } := by kernel_rfl
theorem bp20 : bpops[20]? = some { dst := some 34, op := Op.load 3 (Operand.tmp 33), type := 3, pos := "ref.go:63", after := #[{ on := 19, ground := Ground.data }], guard := none } := by kernel_rfl
theorem bp21 : bpops[21]? = some { dst := some 35, op := Op.binOp BinOp.add 3 (Operand.tmp 28) (Operand.tmp 34) 3, type := 3, pos := "ref.go:63", after := #[{ on := 14, ground := Ground.data }, { on := 20, ground := Ground.data }], guard := none } := by kernel_rfl
theorem bp22 : bpops[22]? = some { dst := some 36, op := Op.call { callee := Callee.value (Operand.func 40), args := #[Operand.tmp 35], argTypes := #[3] }, type := 9, pos := "ref.go:63", after := #[{ on := 21, ground := Ground.data }, { on := 6, ground := Ground.chain }], guard := none } := by kernel_rfl
theorem bp23 : bpops[23]? = some { dst := some 37, op := Op.binOp BinOp.add 9 (Operand.tmp 21) (Operand.tmp 36) 9, type := 9, pos := "ref.go:63", after := #[{ on := 7, ground := Ground.data }, { on := 22, ground := Ground.data }], guard := none } := by kernel_rfl
theorem bp24 : bpops[24]? = some { dst := some 3, op := Op.assign (Operand.tmp 37), type := 9, pos := "ref.go:63", after := #[{ on := 23, ground := Ground.data }, { on := 22, ground := Ground.chain }, { on := 0, ground := Ground.phase }, { on := 1, ground := Ground.phase }, { on := 2, ground := Ground.phase }, { on := 3, ground := Ground.phase }, { on := 4, ground := Ground.phase }, { on := 5, ground := Ground.phase }, { on := 6, ground := Ground.phase }, { on := 7, ground := Ground.phase }, { on := 8, ground := Ground.phase }, { on := 9, ground := Ground.phase }, { on := 10, ground := Ground.phase }, { on := 11, ground := Ground.phase }, { on := 12, ground := Ground.phase }, { on := 13, ground := Ground.phase }, { on := 14, ground := Ground.phase }, { on := 15, ground := Ground.phase }, { on := 16, ground := Ground.phase }, { on := 17, ground := Ground.phase }, { on := 18, ground := Ground.phase }, { on := 19, ground := Ground.phase }, { on := 20, ground := Ground.phase }, { on := 21, ground := Ground.phase }, { on := 22, ground := Ground.phase }, { on := 23, ground := Ground.phase }], guard := none } := by kernel_rfl
end Go.Proofs.Ytmjlfhfadmndhaa.Bu
