/- The operations of a condition, each by its number. -/
import Derived.Test.YtajoklimdlalhaaPacW
import Derived.Test.YtajoklimdlalhaaProg
import Derived.KernelRfl
namespace Go.Proofs.Ytajoklimdlalhaa.Sc
open Lex

noncomputable def xrops : Array Oper := #[{ dst := some 29, op := Op.load 41 (Operand.tmp 4), type := 41, pos := "schema.go:20", after := #[], guard := none },
  { dst := some 30, op := Op.call { callee := Callee.value (Operand.func 19), args := #[Operand.tmp 29], argTypes := #[41] }, type := 4, pos := "schema.go:20", after := #[{ on := 0, ground := Ground.data }], guard := none },
  { dst := some 31, op := Op.unOp UnOp.not 4 (Operand.tmp 30), type := 4, pos := "schema.go:20", after := #[{ on := 1, ground := Ground.data }], guard := none },
  { dst := some 32, op := Op.move (Operand.tmp 31), type := 4, pos := "schema.go:20", after := #[{ on := 2, ground := Ground.data }, { on := 1, ground := Ground.chain }], guard := none },
  { dst := some 33, op := Op.fieldAddr 24 (Operand.tmp 1) 1, type := 0, pos := "schema.go:20", after := #[{ on := 3, ground := Ground.guard }], guard := some (3, false) },
  { dst := some 34, op := Op.load 22 (Operand.tmp 33), type := 22, pos := "schema.go:20", after := #[{ on := 4, ground := Ground.data }, { on := 3, ground := Ground.guard }], guard := some (3, false) },
  { dst := some 35, op := Op.move (Operand.tmp 3), type := 3, pos := "schema.go:20", after := #[{ on := 3, ground := Ground.guard }], guard := some (3, false) },
  { dst := some 36, op := Op.slice 22 (Operand.tmp 34) none (some (Operand.tmp 35)) none, type := 22, pos := "schema.go:20", after := #[{ on := 5, ground := Ground.data }, { on := 6, ground := Ground.data }, { on := 3, ground := Ground.guard }], guard := some (3, false) },
  { dst := some 37, op := Op.fieldAddr 41 (Operand.tmp 4) 0, type := 0, pos := "schema.go:20", after := #[{ on := 3, ground := Ground.guard }], guard := some (3, false) },
  { dst := some 38, op := Op.load 9 (Operand.tmp 37), type := 9, pos := "schema.go:20", after := #[{ on := 8, ground := Ground.data }, { on := 3, ground := Ground.guard }], guard := some (3, false) },
  { dst := some 39, op := Op.call { callee := Callee.value (Operand.func 20), args := #[Operand.tmp 36, Operand.tmp 38], argTypes := #[22, 9] }, type := 4, pos := "schema.go:20", after := #[{ on := 7, ground := Ground.data }, { on := 9, ground := Ground.data }, { on := 3, ground := Ground.chain }, { on := 3, ground := Ground.guard }], guard := some (3, false) },
  { dst := some 40, op := Op.pick (Operand.tmp 32) (Operand.const (Value.bool true)) (Operand.tmp 39), type := 4, pos := "schema.go:20", after := #[{ on := 3, ground := Ground.data }, { on := 10, ground := Ground.data }], guard := none }]
def xrcalls : List Nat := [1, 10]
def xrord : List Nat := [0, 1, 2, 3, 4, 5, 6, 7, 8, 9, 10, 11]
theorem xrsel : Region.noSelect xrops = true := by kernel_rfl
theorem xrlex : lexH xrops xrcalls xrord (Array.replicate xrops.size false) = true := by kernel_rfl
theorem xr0 : xrops[0]? = some { dst := some 29, op := Op.load 41 (Operand.tmp 4), type := 41, pos := "schema.go:20", after := #[], guard := none } := by kernel_rfl
theorem xr1 : xrops[1]? = some { dst := some 30, op := Op.call { callee := Callee.value (Operand.func 19), args := #[Operand.tmp 29], argTypes := #[41] }, type := 4, pos := "schema.go:20", after := #[{ on := 0, ground := Ground.data }], guard := none } := by kernel_rfl
theorem xr2 : xrops[2]? = some { dst := some 31, op := Op.unOp UnOp.not 4 (Operand.tmp 30), type := 4, pos := "schema.go:20", after := #[{ on := 1, ground := Ground.data }], guard := none } := by kernel_rfl
theorem xr3 : xrops[3]? = some { dst := some 32, op := Op.move (Operand.tmp 31), type := 4, pos := "schema.go:20", after := #[{ on := 2, ground := Ground.data }, { on := 1, ground := Ground.chain }], guard := none } := by kernel_rfl
theorem xr4 : xrops[4]? = some { dst := some 33, op := Op.fieldAddr 24 (Operand.tmp 1) 1, type := 0, pos := "schema.go:20", after := #[{ on := 3, ground := Ground.guard }], guard := some (3, false) } := by kernel_rfl
theorem xr5 : xrops[5]? = some { dst := some 34, op := Op.load 22 (Operand.tmp 33), type := 22, pos := "schema.go:20", after := #[{ on := 4, ground := Ground.data }, { on := 3, ground := Ground.guard }], guard := some (3, false) } := by kernel_rfl
theorem xr6 : xrops[6]? = some { dst := some 35, op := Op.move (Operand.tmp 3), type := 3, pos := "schema.go:20", after := #[{ on := 3, ground := Ground.guard }], guard := some (3, false) } := by kernel_rfl
theorem xr7 : xrops[7]? = some { dst := some 36, op := Op.slice 22 (Operand.tmp 34) none (some (Operand.tmp 35)) none, type := 22, pos := "schema.go:20", after := #[{ on := 5, ground := Ground.data }, { on := 6, ground := Ground.data }, { on := 3, ground := Ground.guard }], guard := some (3, false) } := by kernel_rfl
theorem xr8 : xrops[8]? = some { dst := some 37, op := Op.fieldAddr 41 (Operand.tmp 4) 0, type := 0, pos := "schema.go:20", after := #[{ on := 3, ground := Ground.guard }], guard := some (3, false) } := by kernel_rfl
theorem xr9 : xrops[9]? = some { dst := some 38, op := Op.load 9 (Operand.tmp 37), type := 9, pos := "schema.go:20", after := #[{ on := 8, ground := Ground.data }, { on := 3, ground := Ground.guard }], guard := some (3, false) } := by kernel_rfl
theorem xr10 : xrops[10]? = some { dst := some 39, op := Op.call { callee := Callee.value (Operand.func 20), args := #[Operand.tmp 36, Operand.tmp 38], argTypes := #[22, 9] }, type := 4, pos := "schema.go:20", after := #[{ on := 7, ground := Ground.data }, { on := 9, ground := Ground.data }, { on := 3, ground := Ground.chain }, { on := 3, ground := Ground.guard }], guard := some (3, false) } := by kernel_rfl
theorem xr11 : xrops[11]? = some { dst := some 40, op := Op.pick (Operand.tmp 32) (Operand.const (Value.bool true)) (Operand.tmp 39), type := 4, pos := "schema.go:20", after := #[{ on := 3, ground := Ground.data }, { on := 10, ground := Ground.data }], guard := none } := by kernel_rfl
end Go.Proofs.Ytajoklimdlalhaa.Sc
