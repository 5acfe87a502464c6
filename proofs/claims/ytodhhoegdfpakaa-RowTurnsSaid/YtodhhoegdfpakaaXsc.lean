/- The operations of a condition, each by its number. -/
import Derived.Test.YtodhhoegdfpakaaPacW
import Derived.Test.YtodhhoegdfpakaaProg
import Derived.KernelRfl
namespace Go.Proofs.Ytodhhoegdfpakaa.Ro
open Lex

noncomputable def xeops : Array Oper := #[{ dst := some 37, op := Op.fieldAddr 24 (Operand.tmp 2) 1, type := 0, pos := "law.go:53", after := #[], guard := none },
  { dst := some 38, op := Op.load 22 (Operand.tmp 37), type := 22, pos := "law.go:53", after := #[{ on := 0, ground := Ground.data }], guard := none },
  { dst := some 39, op := Op.move (Operand.tmp 6), type := 3, pos := "law.go:53", after := #[], guard := none },
  { dst := some 40, op := Op.indexAddr 22 (Operand.tmp 38) (Operand.tmp 39), type := 0, pos := "law.go:53", after := #[{ on := 1, ground := Ground.data }, { on := 2, ground := Ground.data }], guard := none },
  { dst := some 41, op := Op.load 32 (Operand.tmp 40), type := 32, pos := "law.go:53", after := #[{ on := 3, ground := Ground.data }], guard := none },
  { dst := some 42, op := Op.move (Operand.tmp 1), type := 25, pos := "law.go:53", after := #[], guard := none },
  { dst := some 43, op := Op.move (Operand.tmp 6), type := 3, pos := "law.go:53", after := #[], guard := none },
  { dst := some 44, op := Op.indexAddr 25 (Operand.tmp 42) (Operand.tmp 43), type := 0, pos := "law.go:53", after := #[{ on := 5, ground := Ground.data }, { on := 6, ground := Ground.data }], guard := none },
  { dst := some 45, op := Op.load 34 (Operand.tmp 44), type := 34, pos := "law.go:53", after := #[{ on := 7, ground := Ground.data }], guard := none },
  { dst := some 46, op := Op.call { callee := Callee.value (Operand.func 9), args := #[Operand.tmp 41, Operand.tmp 45], argTypes := #[32, 34] }, type := 29, pos := "law.go:53", after := #[{ on := 4, ground := Ground.data }, { on := 8, ground := Ground.data }], guard := none },
  { dst := some 47, op := Op.binOp BinOp.eql 29 (Operand.tmp 46) (Operand.const (Value.int IntKind.i64 0)) 29, type := 4, pos := "law.go:53", after := #[{ on := 9, ground := Ground.data }], guard := none },
  { dst := some 5, op := Op.assign (Operand.tmp 47), type := 4, pos := "law.go:53", after := #[{ on := 10, ground := Ground.data }, { on := 9, ground := Ground.chain }, { on := 0, ground := Ground.phase }, { on := 1, ground := Ground.phase }, { on := 2, ground := Ground.phase }, { on := 3, ground := Ground.phase }, { on := 4, ground := Ground.phase }, { on := 5, ground := Ground.phase }, { on := 6, ground := Ground.phase }, { on := 7, ground := Ground.phase }, { on := 8, ground := Ground.phase }, { on := 9, ground := Ground.phase }, { on := 10, ground := Ground.phase }], guard := none }]
def xecalls : List Nat := [9]
def xeord : List Nat := [0, 1, 2, 3, 4, 5, 6, 7, 8, 9, 10, 11]
theorem xesel : Region.noSelect xeops = true := by kernel_rfl
theorem xelex : lexH xeops xecalls xeord (Array.replicate xeops.size false) = true := by kernel_rfl
theorem xe0 : xeops[0]? = some { dst := some 37, op := Op.fieldAddr 24 (Operand.tmp 2) 1, type := 0, pos := "law.go:53", after := #[], guard := none } := by kernel_rfl
theorem xe1 : xeops[1]? = some { dst := some 38, op := Op.load 22 (Operand.tmp 37), type := 22, pos := "law.go:53", after := #[{ on := 0, ground := Ground.data }], guard := none } := by kernel_rfl
theorem xe2 : xeops[2]? = some { dst := some 39, op := Op.move (Operand.tmp 6), type := 3, pos := "law.go:53", after := #[], guard := none } := by kernel_rfl
theorem xe3 : xeops[3]? = some { dst := some 40, op := Op.indexAddr 22 (Operand.tmp 38) (Operand.tmp 39), type := 0, pos := "law.go:53", after := #[{ on := 1, ground := Ground.data }, { on := 2, ground := Ground.data }], guard := none } := by kernel_rfl
theorem xe4 : xeops[4]? = some { dst := some 41, op := Op.load 32 (Operand.tmp 40), type := 32, pos := "law.go:53", after := #[{ on := 3, ground := Ground.data }], guard := none } := by kernel_rfl
theorem xe5 : xeops[5]? = some { dst := some 42, op := Op.move (Operand.tmp 1), type := 25, pos := "law.go:53", after := #[], guard := none } := by kernel_rfl
theorem xe6 : xeops[6]? = some { dst := some 43, op := Op.move (Operand.tmp 6), type := 3, pos := "law.go:53", after := #[], guard := none } := by kernel_rfl
theorem xe7 : xeops[7]? = some { dst := some 44, op := Op.indexAddr 25 (Operand.tmp 42) (Operand.tmp 43), type := 0, pos := "law.go:53", after := #[{ on := 5, ground := Ground.data }, { on := 6, ground := Ground.data }], guard := none } := by kernel_rfl
theorem xe8 : xeops[8]? = some { dst := some 45, op := Op.load 34 (Operand.tmp 44), type := 34, pos := "law.go:53", after := #[{ on := 7, ground := Ground.data }], guard := none } := by kernel_rfl
theorem xe9 : xeops[9]? = some { dst := some 46, op := Op.call { callee := Callee.value (Operand.func 9), args := #[Operand.tmp 41, Operand.tmp 45], argTypes := #[32, 34] }, type := 29, pos := "law.go:53", after := #[{ on := 4, ground := Ground.data }, { on := 8, ground := Ground.data }], guard := none } := by kernel_rfl
theorem xe10 : xeops[10]? = some { dst := some 47, op := Op.binOp BinOp.eql 29 (Operand.tmp 46) (Operand.const (Value.int IntKind.i64 0)) 29, type := 4, pos := "law.go:53", after := #[{ on := 9, ground := Ground.data }], guard := none } := by kernel_rfl
theorem xe11 : xeops[11]? = some { dst := some 5, op := Op.assign (Operand.tmp 47), type := 4, pos := "law.go:53", after := #[{ on := 10, ground := Ground.data }, { on := 9, ground := Ground.chain }, { on := 0, ground := Ground.phase }, { on := 1, ground := Ground.phase }, { on := 2, ground := Ground.phase }, { on := 3, ground := Ground.phase }, { on := 4, ground := Ground.phase }, { on := 5, ground := Ground.phase }, { on := 6, ground := Ground.phase }, { on := 7, ground := Ground.phase }, { on := 8, ground := Ground.phase }, { on := 9, ground := Ground.phase }, { on := 10, ground := Ground.phase }], guard := none } := by kernel_rfl
end Go.Proofs.Ytodhhoegdfpakaa.Ro
