/- The operations of a condition, each by its number. -/
import Derived.Test.YtajoklimdlalhaaPacW
import Derived.Test.YtajoklimdlalhaaProg
import Derived.KernelRfl
namespace Go.Proofs.Ytajoklimdlalhaa.Sc
open Lex

noncomputable def xqops : Array Oper := #[{ dst := some 6, op := Op.fieldAddr 24 (Operand.tmp 1) 0, type := 0, pos := "ref.go:40", after := #[], guard := none },
  { dst := some 7, op := Op.load 9 (Operand.tmp 6), type := 9, pos := "ref.go:40", after := #[{ on := 0, ground := Ground.data }], guard := none },
  { dst := some 8, op := Op.call { callee := Callee.value (Operand.func 27), args := #[Operand.tmp 7], argTypes := #[9] }, type := 9, pos := "ref.go:40", after := #[{ on := 1, ground := Ground.data }], guard := none },
  { dst := some 9, op := Op.fieldAddr 24 (Operand.tmp 1) 1, type := 0, pos := "ref.go:40", after := #[], guard := none },
  { dst := some 10, op := Op.load 22 (Operand.tmp 9), type := 22, pos := "ref.go:40", after := #[{ on := 3, ground := Ground.data }], guard := none },
  { dst := some 11, op := Op.call { callee := Callee.builtin Builtin.len, args := #[Operand.tmp 10], argTypes := #[22] }, type := 3, pos := "ref.go:40", after := #[{ on := 4, ground := Ground.data }], guard := none },
  { dst := some 12, op := Op.call { callee := Callee.value (Operand.func 28), args := #[Operand.tmp 11], argTypes := #[3] }, type := 9, pos := "ref.go:40", after := #[{ on := 5, ground := Ground.data }, { on := 2, ground := Ground.chain }], guard := none },
  { dst := some 13, op := Op.binOp BinOp.add 9 (Operand.tmp 8) (Operand.tmp 12) 9, type := 9, pos := "ref.go:40", after := #[{ on := 2, ground := Ground.data }, { on := 6, ground := Ground.data }], guard := none },
  { dst := some 3, op := Op.assign (Operand.tmp 13), type := 9, pos := "ref.go:40", after := #[{ on := 7, ground := Ground.data }, { on := 6, ground := Ground.chain }, { on := 0, ground := Ground.phase }, { on := 1, ground := Ground.phase }, { on := 2, ground := Ground.phase }, { on := 3, ground := Ground.phase }, { on := 4, ground := Ground.phase }, { on := 5, ground := Ground.phase }, { on := 6, ground := Ground.phase }, { on := 7, ground := Ground.phase }], guard := none }]
def xqcalls : List Nat := [2, 6]
def xqord : List Nat := [0, 1, 3, 4, 5, 2, 6, 7, 8]
theorem xqsel : Region.noSelect xqops = true := by kernel_rfl
theorem xqlex : lexH xqops xqcalls xqord (Array.replicate xqops.size false) = true := by kernel_rfl
theorem xq0 : xqops[0]? = some { dst := some 6, op := Op.fieldAddr 24 (Operand.tmp 1) 0, type := 0, pos := "ref.go:40", after := #[], guard := none } := by kernel_rfl
theorem xq1 : xqops[1]? = some { dst := some 7, op := Op.load 9 (Operand.tmp 6), type := 9, pos := "ref.go:40", after := #[{ on := 0, ground := Ground.data }], guard := none } := by kernel_rfl
theorem xq2 : xqops[2]? = some { dst := some 8, op := Op.call { callee := Callee.value (Operand.func 27), args := #[Operand.tmp 7], argTypes := #[9] }, type := 9, pos := "ref.go:40", after := #[{ on := 1, ground := Ground.data }], guard := none } := by kernel_rfl
theorem xq3 : xqops[3]? = some { dst := some 9, op := Op.fieldAddr 24 (Operand.tmp 1) 1, type := 0, pos := "ref.go:40", after := #[], guard := none } := by kernel_rfl
theorem xq4 : xqops[4]? = some { dst := some 10, op := Op.load 22 (Operand.tmp 9), type := 22, pos := "ref.go:40", after := #[{ on := 3, ground := Ground.data }], guard := none } := by kernel_rfl
theorem xq5 : xqops[5]? = some { dst := some 11, op := Op.call { callee := Callee.builtin Builtin.len, args := #[Operand.tmp 10], argTypes := #[22] }, type := 3, pos := "ref.go:40", after := #[{ on := 4, ground := Ground.data }], guard := none } := by kernel_rfl
theorem xq6 : xqops[6]? = some { dst := some 12, op := Op.call { callee := Callee.value (Operand.func 28), args := #[Operand.tmp 11], argTypes := #[3] }, type := 9, pos := "ref.go:40", after := #[{ on := 5, ground := Ground.data }, { on := 2, ground := Ground.chain }], guard := none } := by kernel_rfl
theorem xq7 : xqops[7]? = some { dst := some 13, op := Op.binOp BinOp.add 9 (Operand.tmp 8) (Operand.tmp 12) 9, type := 9, pos := "ref.go:40", after := #[{ on := 2, ground := Ground.data }, { on := 6, ground := Ground.data }], guard := none } := by kernel_rfl
theorem xq8 : xqops[8]? = some { dst := some 3, op := Op.assign (Operand.tmp 13), type := 9, pos := "ref.go:40", after := #[{ on := 7, ground := Ground.data }, { on := 6, ground := Ground.chain }, { on := 0, ground := Ground.phase }, { on := 1, ground := Ground.phase }, { on := 2, ground := Ground.phase }, { on := 3, ground := Ground.phase }, { on := 4, ground := Ground.phase }, { on := 5, ground := Ground.phase }, { on := 6, ground := Ground.phase }, { on := 7, ground := Ground.phase }], guard := none } := by kernel_rfl
end Go.Proofs.Ytajoklimdlalhaa.Sc
