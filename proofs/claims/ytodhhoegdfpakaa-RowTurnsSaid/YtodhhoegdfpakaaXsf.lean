/- The operations of a condition, each by its number. -/
import Derived.Test.YtodhhoegdfpakaaPacW
import Derived.Test.YtodhhoegdfpakaaProg
import Derived.KernelRfl
namespace Go.Proofs.Ytodhhoegdfpakaa.Ro
open Lex

noncomputable def xjops : Array Oper := #[{ dst := some 22, op := Op.load 32 (Operand.tmp 6), type := 32, pos := "row.go:30", after := #[], guard := none },
  { dst := some 23, op := Op.move (Operand.tmp 1), type := 25, pos := "row.go:30", after := #[], guard := none },
  { dst := some 24, op := Op.move (Operand.tmp 5), type := 3, pos := "row.go:30", after := #[], guard := none },
  { dst := some 25, op := Op.indexAddr 25 (Operand.tmp 23) (Operand.tmp 24), type := 0, pos := "row.go:30", after := #[{ on := 1, ground := Ground.data }, { on := 2, ground := Ground.data }], guard := none },
  { dst := some 26, op := Op.load 34 (Operand.tmp 25), type := 34, pos := "row.go:30", after := #[{ on := 3, ground := Ground.data }], guard := none },
  { dst := some 27, op := Op.call { callee := Callee.value (Operand.func 9), args := #[Operand.tmp 22, Operand.tmp 26], argTypes := #[32, 34] }, type := 29, pos := "row.go:30", after := #[{ on := 0, ground := Ground.data }, { on := 4, ground := Ground.data }], guard := none },
  { dst := some 7, op := Op.assign (Operand.tmp 27), type := 29, pos := "row.go:30", after := #[{ on := 5, ground := Ground.data }, { on := 5, ground := Ground.chain }, { on := 0, ground := Ground.phase }, { on := 1, ground := Ground.phase }, { on := 2, ground := Ground.phase }, { on := 3, ground := Ground.phase }, { on := 4, ground := Ground.phase }, { on := 5, ground := Ground.phase }], guard := none }]
def xjcalls : List Nat := [5]
def xjord : List Nat := [0, 1, 2, 3, 4, 5, 6]
theorem xjsel : Region.noSelect xjops = true := by kernel_rfl
theorem xjlex : lexH xjops xjcalls xjord (Array.replicate xjops.size false) = true := by kernel_rfl
theorem xj0 : xjops[0]? = some { dst := some 22, op := Op.load 32 (Operand.tmp 6), type := 32, pos := "row.go:30", after := #[], guard := none } := by kernel_rfl
theorem xj1 : xjops[1]? = some { dst := some 23, op := Op.move (Operand.tmp 1), type := 25, pos := "row.go:30", after := #[], guard := none } := by kernel_rfl
theorem xj2 : xjops[2]? = some { dst := some 24, op := Op.move (Operand.tmp 5), type := 3, pos := "row.go:30", after := #[], guard := none } := by kernel_rfl
theorem xj3 : xjops[3]? = some { dst := some 25, op := Op.indexAddr 25 (Operand.tmp 23) (Operand.tmp 24), type := 0, pos := "row.go:30", after := #[{ on := 1, ground := Ground.data }, { on := 2, ground := Ground.data }], guard := none } := by kernel_rfl
theorem xj4 : xjops[4]? = some { dst := some 26, op := Op.load 34 (Operand.tmp 25), type := 34, pos := "row.go:30", after := #[{ on := 3, ground := Ground.data }], guard := none } := by kernel_rfl
theorem xj5 : xjops[5]? = some { dst := some 27, op := Op.call { callee := Callee.value (Operand.func 9), args := #[Operand.tmp 22, Operand.tmp 26], argTypes := #[32, 34] }, type := 29, pos := "row.go:30", after := #[{ on := 0, ground := Ground.data }, { on := 4, ground := Ground.data }], guard := none } := by kernel_rfl
theorem xj6 : xjops[6]? = some { dst := some 7, op := Op.assign (Operand.tmp 27), type := 29, pos := "row.go:30", after := #[{ on := 5, ground := Ground.data }, { on := 5, ground := Ground.chain }, { on := 0, ground := Ground.phase }, { on := 1, ground := Ground.phase }, { on := 2, ground := Ground.phase }, { on := 3, ground := Ground.phase }, { on := 4, ground := Ground.phase }, { on := 5, ground := Ground.phase }], guard := none } := by kernel_rfl
end Go.Proofs.Ytodhhoegdfpakaa.Ro
