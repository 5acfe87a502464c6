/- The operations of a condition, each by its number. -/
import Derived.Test.YtjjedadhkdpceaaPacW
import Derived.Test.YtjjedadhkdpceaaProg
import Derived.KernelRfl
namespace Go.Proofs.Ytjjedadhkdpceaa.Cl
open Lex

noncomputable def crops : Array Oper := #[{ dst := some 11, op := Op.fieldAddr 24 (Operand.tmp 1) 0, type := 0, pos := "ref.go:84", after := #[], guard := none },
  { dst := some 12, op := Op.load 22 (Operand.tmp 11), type := 22, pos := "ref.go:84", after := #[{ on := 0, ground := Ground.data }], guard := none },
  { dst := some 13, op := Op.move (Operand.tmp 3), type := 3, pos := "ref.go:84", after := #[], guard := none },
  { dst := some 14, op := Op.indexAddr 22 (Operand.tmp 12) (Operand.tmp 13), type := 0, pos := "ref.go:84", after := #[{ on := 1, ground := Ground.data }, { on := 2, ground := Ground.data }], guard := none },
  { dst := some 15, op := Op.fieldAddr 36 (Operand.tmp 14) 2, type := 0, pos := "ref.go:84", after := #[{ on := 3, ground := Ground.data }], guard := none },
  { dst := some 16, op := Op.load 3 (Operand.tmp 15), type := 3, pos := "ref.go:84", after := #[{ on := 4, ground := Ground.data }], guard := none },
  { dst := some 17, op := Op.binOp BinOp.lss 3 (Operand.tmp 16) (Operand.const (Value.int IntKind.i64 0)) 3, type := 4, pos := "ref.go:84", after := #[{ on := 5, ground := Ground.data }], guard := none },
  { dst := some 18, op := Op.move (Operand.tmp 17), type := 4, pos := "ref.go:84", after := #[{ on := 6, ground := Ground.data }], guard := none },
  { dst := some 19, op := Op.load 24 (Operand.tmp 1), type := 24, pos := "ref.go:84", after := #[{ on := 7, ground := Ground.guard }], guard := some (7, false) },
  { dst := some 20, op := Op.fieldAddr 24 (Operand.tmp 1) 0, type := 0, pos := "ref.go:84", after := #[{ on := 7, ground := Ground.guard }], guard := some (7, false) },
  { dst := some 21, op := Op.load 22 (Operand.tmp 20), type := 22, pos := "ref.go:84", after := #[{ on := 9, ground := Ground.data }, { on := 7, ground := Ground.guard }], guard := some (7, false) },
  { dst := some 22, op := Op.move (Operand.tmp 3), type := 3, pos := "ref.go:84", after := #[{ on := 7, ground := Ground.guard }], guard := some (7, false) },
  { dst := some 23, op := Op.indexAddr 22 (Operand.tmp 21) (Operand.tmp 22), type := 0, pos := "ref.go:84", after := #[{ on := 10, ground := Ground.data }, { on := 11, ground := Ground.data }, { on := 7, ground := Ground.guard }], guard := some (7, false) },
  { dst := some 24, op := Op.fieldAddr 36 (Operand.tmp 23) 0, type := 0, pos := "ref.go:84", after := #[{ on := 12, ground := Ground.data }, { on := 7, ground := Ground.guard }], guard := some (7, false) },
  { dst := some 25, op := Op.fieldAddr 32 (Operand.tmp 24) 0, type := 0, pos := "ref.go:84", after := #[{ on := 13, ground := Ground.data }, { on := 7, ground := Ground.guard }], guard := some (7, false) },
  { dst := some 26, op := Op.load 3 (Operand.tmp 25), type := 3, pos := "ref.go:84", after := #[{ on := 14, ground := Ground.data }, { on := 7, ground := Ground.guard }], guard := some (7, false) },
  { dst := some 27, op := Op.call { callee := Callee.value (Operand.func 17), args := #[Operand.tmp 19, Operand.tmp 26], argTypes := #[24, 3] }, type := 3, pos := "ref.go:84", after := #[{ on := 8, ground := Ground.data }, { on := 15, ground := Ground.data }, { on := 7, ground := Ground.chain }, { on := 7, ground := Ground.guard }], guard := some (7, false) },
  { dst := some 28, op := Op.move (Operand.tmp 3), type := 3, pos := "ref.go:84", after := #[{ on := 7, ground := Ground.guard }], guard := some (7, false) },
  { dst := some 29, op := Op.binOp BinOp.neq 3 (Operand.tmp 27) (Operand.tmp 28) 3, type := 4, pos := "ref.go:84", after := #[{ on := 16, ground := Ground.data }, { on := 17, ground := Ground.data }, { on := 7, ground := Ground.guard }], guard := some (7, false) },
  { dst := some 30, op := Op.pick (Operand.tmp 18) (Operand.const (Value.bool true)) (Operand.tmp 29), type := 4, pos := "ref.go:84", after := #[{ on := 7, ground := Ground.data }, { on := 18, ground := Ground.data }], guard := none }]
def crcalls : List Nat := [16]
def crord : List Nat := [0, 1, 2, 3, 4, 5, 6, 7, 8, 9, 10, 11, 12, 13, 14, 15, 17, 16, 18, 19]
theorem crsel : Region.noSelect crops = true := by kernel_rfl
theorem crlex : lexH crops crcalls crord (Array.replicate crops.size false) = true := by kernel_rfl
theorem cr0 : crops[0]? = some { dst := some 11, op := Op.fieldAddr 24 (Operand.tmp 1) 0, type := 0, pos := "ref.go:84", after := #[], guard := none } := by kernel_rfl
theorem cr1 : crops[1]? = some { dst := some 12, op := Op.load 22 (Operand.tmp 11), type := 22, pos := "ref.go:84", after := #[{ on := 0, ground := Ground.data }], guard := none } := by kernel_rfl
theorem cr2 : crops[2]? = some { dst := some 13, op := Op.move (Operand.tmp 3), type := 3, pos := "ref.go:84", after := #[], guard := none } := by kernel_rfl
theorem cr3 : crops[3]? = some { dst := some 14, op := Op.indexAddr 22 (Operand.tmp 12) (Operand.tmp 13), type := 0, pos := "ref.go:84", after := #[{ on := 1, ground := Ground.data }, { on := 2, ground := Ground.data }], guard := none } := by kernel_rfl
theorem cr4 : crops[4]? = some { dst := some 15, op := Op.fieldAddr 36 (Operand.tmp 14) 2, type := 0, pos := "ref.go:84", after := #[{ on := 3, ground := Ground.data }], guard := none } := by kernel_rfl
theorem cr5 : crops[5]? = some { dst := some 16, op := Op.load 3 (Operand.tmp 15), type := 3, pos := "ref.go:84", after := #[{ on := 4, ground := Ground.data }], guard := none } := by kernel_rfl
theorem cr6 : crops[6]? = some { dst := some 17, op := Op.binOp BinOp.lss 3 (Operand.tmp 16) (Operand.const (Value.int IntKind.i64 0)) 3, type := 4, pos := "ref.go:84", after := #[{ on := 5, ground := Ground.data }], guard := none } := by kernel_rfl
theorem cr7 : crops[7]? = some { dst := some 18, op := Op.move (Operand.tmp 17), type := 4, pos := "ref.go:84", after := #[{ on := 6, ground := Ground.data }], guard := none } := by kernel_rfl
theorem cr8 : crops[8]? = some { dst := some 19, op := Op.load 24 (Operand.tmp 1), type := 24, pos := "ref.go:84", after := #[{ on := 7, ground := Ground.guard }], guard := some (7, false) } := by kernel_rfl
theorem cr9 : crops[9]? = some { dst := some 20, op := Op.fieldAddr 24 (Operand.tmp 1) 0, type := 0, pos := "ref.go:84", after := #[{ on := 7, ground := Ground.guard }], guard := some (7, false) } := by kernel_rfl
theorem cr10 : crops[10]? = some { dst := some 21, op := Op.load 22 (Operand.tmp 20), type := 22, pos := "ref.go:84", after := #[{ on := 9, ground := Ground.data }, { on := 7, ground := Ground.guard }], guard := some (7, false) } := by kernel_rfl
theorem cr11 : crops[11]? = some { dst := some 22, op := Op.move (Operand.tmp 3), type := 3, pos := "ref.go:84", after := #[{ on := 7, ground := Ground.guard }], guard := some (7, false) } := by kernel_rfl
theorem cr12 : crops[12]? = some { dst := some 23, op := Op.indexAddr 22 (Operand.tmp 21) (Operand.tmp 22), type := 0, pos := "ref.go:84", after := #[{ on := 10, ground := Ground.data }, { on := 11, ground := Ground.data }, { on := 7, ground := Ground.guard }], guard := some (7, false) } := by kernel_rfl
theorem cr13 : crops[13]? = some { dst := some 24, op := Op.fieldAddr 36 (Operand.tmp 23) 0, type := 0, pos := "ref.go:84", after := #[{ on := 12, ground := Ground.data }, { on := 7, ground := Ground.guard }], guard := some (7, false) } := by kernel_rfl
theorem cr14 : crops[14]? = some { dst := some 25, op := Op.fieldAddr 32 (Operand.tmp 24) 0, type := 0, pos := "ref.go:84", after := #[{ on := 13, ground := Ground.data }, { on := 7, ground := Ground.guard }], guard := some (7, false) } := by kernel_rfl
theorem cr15 : crops[15]? = some { dst := some 26, op := Op.load 3 (Operand.tmp 25), type := 3, pos := "ref.go:84", after := #[{ on := 14, ground := Ground.data }, { on := 7, ground := Ground.guard }], guard := some (7, false) } := by kernel_rfl
theorem cr16 : crops[16]? = some { dst := some 27, op := Op.call { callee := Callee.value (Operand.func 17), args := #[Operand.tmp 19, Operand.tmp 26], argTypes := #[24, 3] }, type := 3, pos := "ref.go:84", after := #[{ on := 8, ground := Ground.data }, { on := 15, ground := Ground.data }, { on := 7, ground := Ground.chain }, { on := 7, ground := Ground.guard }], guard := some (7, false) } := by kernel_rfl
theorem cr17 : crops[17]? = some { dst := some 28, op := Op.move (Operand.tmp 3), type := 3, pos := "ref.go:84", after := #[{ on := 7, ground := Ground.guard }], guard := some (7, false) } := by kernel_rfl
theorem cr18 : crops[18]? = some { dst := some 29, op := Op.binOp BinOp.neq 3 (Operand.tmp 27) (Operand.tmp 28) 3, type := 4, pos := "ref.go:84", after := #[{ on := 16, ground := Ground.data }, { on := 17, ground := Ground.data }, { on := 7, ground := Ground.guard }], guard := some (7, false) } := by kernel_rfl
theorem cr19 : crops[19]? = some { dst := some 30, op := Op.pick (Operand.tmp 18) (Operand.const (Value.bool true)) (Operand.tmp 29), type := 4, pos := "ref.go:84", after := #[{ on := 7, ground := Ground.data }, { on := 18, ground := Ground.data }], guard := none } := by kernel_rfl
end Go.Proofs.Ytjjedadhkdpceaa.Cl
