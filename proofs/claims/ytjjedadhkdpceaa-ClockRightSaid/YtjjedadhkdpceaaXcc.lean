/- The operations of a condition, each by its number. -/
import Derived.Test.YtjjedadhkdpceaaPacW
import Derived.Test.YtjjedadhkdpceaaProg
import Derived.KernelRfl
namespace Go.Proofs.Ytjjedadhkdpceaa.Cl
open Lex

noncomputable def clops : Array Oper := #[{ dst := some 8, op := Op.call { callee := Callee.value (Operand.func 6), args := #[], argTypes := #[] }, type := 4, pos := "law.go:86", after := #[], guard := none },
  { dst := some 9, op := Op.move (Operand.tmp 8), type := 4, pos := "law.go:86", after := #[{ on := 0, ground := Ground.data }, { on := 0, ground := Ground.chain }], guard := none },
  { dst := some 10, op := Op.load 24 (Operand.tmp 1), type := 24, pos := "law.go:86", after := #[{ on := 1, ground := Ground.guard }], guard := some (1, true) },
  { dst := some 11, op := Op.call { callee := Callee.value (Operand.func 7), args := #[Operand.tmp 10], argTypes := #[24] }, type := 4, pos := "law.go:86", after := #[{ on := 2, ground := Ground.data }, { on := 1, ground := Ground.chain }, { on := 1, ground := Ground.guard }], guard := some (1, true) },
  { dst := some 12, op := Op.load 24 (Operand.tmp 1), type := 24, pos := "law.go:86", after := #[{ on := 1, ground := Ground.guard }], guard := some (1, true) },
  { dst := some 13, op := Op.call { callee := Callee.value (Operand.func 8), args := #[Operand.tmp 12], argTypes := #[24] }, type := 4, pos := "law.go:86", after := #[{ on := 4, ground := Ground.data }, { on := 3, ground := Ground.chain }, { on := 1, ground := Ground.guard }], guard := some (1, true) },
  { dst := some 14, op := Op.binOp BinOp.eql 4 (Operand.tmp 11) (Operand.tmp 13) 4, type := 4, pos := "law.go:86", after := #[{ on := 3, ground := Ground.data }, { on := 5, ground := Ground.data }, { on := 1, ground := Ground.guard }], guard := some (1, true) },
  { dst := some 15, op := Op.pick (Operand.tmp 9) (Operand.tmp 14) (Operand.const (Value.bool false)), type := 4, pos := "law.go:86", after := #[{ on := 1, ground := Ground.data }, { on := 6, ground := Ground.data }], guard := none },
  { dst := some 2, op := Op.assign (Operand.tmp 15), type := 4, pos := "law.go:86", after := #[{ on := 7, ground := Ground.data }, { on := 5, ground := Ground.chain }, { on := 0, ground := Ground.phase }, { on := 1, ground := Ground.phase }, { on := 2, ground := Ground.phase }, { on := 3, ground := Ground.phase }, { on := 4, ground := Ground.phase }, { on := 5, ground := Ground.phase }, { on := 6, ground := Ground.phase }, { on := 7, ground := Ground.phase }], guard := none }]
def clcalls : List Nat := [0, 3, 5]
def clord : List Nat := [0, 1, 2, 4, 3, 5, 6, 7, 8]
theorem clsel : Region.noSelect clops = true := by kernel_rfl
theorem cllex : lexH clops clcalls clord (Array.replicate clops.size false) = true := by kernel_rfl
theorem cl0 : clops[0]? = some { dst := some 8, op := Op.call { callee := Callee.value (Operand.func 6), args := #[], argTypes := #[] }, type := 4, pos := "law.go:86", after := #[], guard := none } := by kernel_rfl
theorem cl1 : clops[1]? = some { dst := some 9, op := Op.move (Operand.tmp 8), type := 4, pos := "law.go:86", after := #[{ on := 0, ground := Ground.data }, { on := 0, ground := Ground.chain }], guard := none } := by kernel_rfl
theorem cl2 : clops[2]? = some { dst := some 10, op := Op.load 24 (Operand.tmp 1), type := 24, pos := "law.go:86", after := #[{ on := 1, ground := Ground.guard }], guard := some (1, true) } := by kernel_rfl
theorem cl3 : clops[3]? = some { dst := some 11, op := Op.call { callee := Callee.value (Operand.func 7), args := #[Operand.tmp 10], argTypes := #[24] }, type := 4, pos := "law.go:86", after := #[{ on := 2, ground := Ground.data }, { on := 1, ground := Ground.chain }, { on := 1, ground := Ground.guard }], guard := some (1, true) } := by kernel_rfl
theorem cl4 : clops[4]? = some { dst := some 12, op := Op.load 24 (Operand.tmp 1), type := 24, pos := "law.go:86", after := #[{ on := 1, ground := Ground.guard }], guard := some (1, true) } := by kernel_rfl
theorem cl5 : clops[5]? = some { dst := some 13, op := Op.call { callee := Callee.value (Operand.func 8), args := #[Operand.tmp 12], argTypes := #[24] }, type := 4, pos := "law.go:86", after := #[{ on := 4, ground := Ground.data }, { on := 3, ground := Ground.chain }, { on := 1, ground := Ground.guard }], guard := some (1, true) } := by kernel_rfl
theorem cl6 : clops[6]? = some { dst := some 14, op := Op.binOp BinOp.eql 4 (Operand.tmp 11) (Operand.tmp 13) 4, type := 4, pos := "law.go:86", after := #[{ on := 3, ground := Ground.data }, { on := 5, ground := Ground.data }, { on := 1, ground := Ground.guard }], guard := some (1, true) } := by kernel_rfl
theorem cl7 : clops[7]? = some { dst := some 15, op := Op.pick (Operand.tmp 9) (Operand.tmp 14) (Operand.const (Value.bool false)), type := 4, pos := "law.go:86", after := #[{ on := 1, ground := Ground.data }, { on := 6, ground := Ground.data }], guard := none } := by kernel_rfl
theorem cl8 : clops[8]? = some { dst := some 2, op := Op.assign (Operand.tmp 15), type := 4, pos := "law.go:86", after := #[{ on := 7, ground := Ground.data }, { on := 5, ground := Ground.chain }, { on := 0, ground := Ground.phase }, { on := 1, ground := Ground.phase }, { on := 2, ground := Ground.phase }, { on := 3, ground := Ground.phase }, { on := 4, ground := Ground.phase }, { on := 5, ground := Ground.phase }, { on := 6, ground := Ground.phase }, { on := 7, ground := Ground.phase }], guard := none } := by kernel_rfl
end Go.Proofs.Ytjjedadhkdpceaa.Cl
