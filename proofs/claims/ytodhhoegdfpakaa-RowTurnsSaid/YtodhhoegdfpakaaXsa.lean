/- The operations of a condition, each by its number. -/
import Derived.Test.YtodhhoegdfpakaaPacW
import Derived.Test.YtodhhoegdfpakaaProg
import Derived.KernelRfl
namespace Go.Proofs.Ytodhhoegdfpakaa.Ro
open Lex

noncomputable def xkops : Array Oper := #[{ dst := some 19, op := Op.fieldAddr 24 (Operand.tmp 2) 1, type := 0, pos := "ref.go:28", after := #[], guard := none },
  { dst := some 20, op := Op.load 22 (Operand.tmp 19), type := 22, pos := "ref.go:28", after := #[{ on := 0, ground := Ground.data }], guard := none },
  { dst := some 21, op := Op.move (Operand.tmp 5), type := 3, pos := "ref.go:28", after := #[], guard := none },
  { dst := some 22, op := Op.indexAddr 22 (Operand.tmp 20) (Operand.tmp 21), type := 0, pos := "ref.go:28", after := #[{ on := 1, ground := Ground.data }, { on := 2, ground := Ground.data }], guard := none },
  { dst := some 23, op := Op.load 32 (Operand.tmp 22), type := 32, pos := "ref.go:28", after := #[{ on := 3, ground := Ground.data }], guard := none },
  { dst := some 24, op := Op.move (Operand.tmp 1), type := 25, pos := "ref.go:28", after := #[], guard := none },
  { dst := some 25, op := Op.move (Operand.tmp 5), type := 3, pos := "ref.go:28", after := #[], guard := none },
  { dst := some 26, op := Op.indexAddr 25 (Operand.tmp 24) (Operand.tmp 25), type := 0, pos := "ref.go:28", after := #[{ on := 5, ground := Ground.data }, { on := 6, ground := Ground.data }], guard := none },
  { dst := some 27, op := Op.load 34 (Operand.tmp 26), type := 34, pos := "ref.go:28", after := #[{ on := 7, ground := Ground.data }], guard := none },
  { dst := some 28, op := Op.call { callee := Callee.value (Operand.func 10), args := #[Operand.tmp 23, Operand.tmp 27], argTypes := #[32, 34] }, type := 29, pos := "ref.go:28", after := #[{ on := 4, ground := Ground.data }, { on := 8, ground := Ground.data }], guard := none },
  { dst := some 6, op := Op.assign (Operand.tmp 28), type := 29, pos := "ref.go:28", after := #[{ on := 9, ground := Ground.data }, { on := 9, ground := Ground.chain }, { on := 0, ground := Ground.phase }, { on := 1, ground := Ground.phase }, { on := 2, ground := Ground.phase }, { on := 3, ground := Ground.phase }, { on := 4, ground := Ground.phase }, { on := 5, ground := Ground.phase }, { on := 6, ground := Ground.phase }, { on := 7, ground := Ground.phase }, { on := 8, ground := Ground.phase }, { on := 9, ground := Ground.phase }], guard := none }]
def xkcalls : List Nat := [9]
def xkord : List Nat := [0, 1, 2, 3, 4, 5, 6, 7, 8, 9, 10]
theorem xksel : Region.noSelect xkops = true := by kernel_rfl
theorem xklex : lexH xkops xkcalls xkord (Array.replicate xkops.size false) = true := by kernel_rfl
theorem xk0 : xkops[0]? = some { dst := some 19, op := Op.fieldAddr 24 (Operand.tmp 2) 1, type := 0, pos := "ref.go:28", after := #[], guard := none } := by kernel_rfl
theorem xk1 : xkops[1]? = some { dst := some 20, op := Op.load 22 (Operand.tmp 19), type := 22, pos := "ref.go:28", after := #[{ on := 0, ground := Ground.data }], guard := none } := by kernel_rfl
theorem xk2 : xkops[2]? = some { dst := some 21, op := Op.move (Operand.tmp 5), type := 3, pos := "ref.go:28", after := #[], guard := none } := by kernel_rfl
theorem xk3 : xkops[3]? = some { dst := some 22, op := Op.indexAddr 22 (Operand.tmp 20) (Operand.tmp 21), type := 0, pos := "ref.go:28", after := #[{ on := 1, ground := Ground.data }, { on := 2, ground := Ground.data }], guard := none } := by kernel_rfl
theorem xk4 : xkops[4]? = some { dst := some 23, op := Op.load 32 (Operand.tmp 22), type := 32, pos := "ref.go:28", after := #[{ on := 3, ground := Ground.data }], guard := none } := by kernel_rfl
theorem xk5 : xkops[5]? = some { dst := some 24, op := Op.move (Operand.tmp 1), type := 25, pos := "ref.go:28", after := #[], guard := none } := by kernel_rfl
theorem xk6 : xkops[6]? = some { dst := some 25, op := Op.move (Operand.tmp 5), type := 3, pos := "ref.go:28", after := #[], guard := none } := by kernel_rfl
theorem xk7 : xkops[7]? = some { dst := some 26, op := Op.indexAddr 25 (Operand.tmp 24) (Operand.tmp 25), type := 0, pos := "ref.go:28", after := #[{ on := 5, ground := Ground.data }, { on := 6, ground := Ground.data }], guard := none } := by kernel_rfl
theorem xk8 : xkops[8]? = some { dst := some 27, op := Op.load 34 (Operand.tmp 26), type := 34, pos := "ref.go:28", after := #[{ on := 7, ground := Ground.data }], guard := none } := by kernel_rfl
theorem xk9 : xkops[9]? = some { dst := some 28, op := Op.call { callee := Callee.value (Operand.func 10), args := #[Operand.tmp 23, Operand.tmp 27], argTypes := #[32, 34] }, type := 29, pos := "ref.go:28", after := #[{ on := 4, ground := Ground.data }, { on := 8, ground := Ground.data }], guard := none } := by kernel_rfl
theorem xk10 : xkops[10]? = some { dst := some 6, op := Op.assign (Operand.tmp 28), type := 29, pos := "ref.go:28", after := #[{ on := 9, ground := Ground.data }, { on := 9, ground := Ground.chain }, { on := 0, ground := Ground.phase }, { on := 1, ground := Ground.phase }, { on := 2, ground := Ground.phase }, { on := 3, ground := Ground.phase }, { on := 4, ground := Ground.phase }, { on := 5, ground := Ground.phase }, { on := 6, ground := Ground.phase }, { on := 7, ground := Ground.phase }, { on := 8, ground := Ground.phase }, { on := 9, ground := Ground.phase }], guard := none } := by kernel_rfl
end Go.Proofs.Ytodhhoegdfpakaa.Ro
