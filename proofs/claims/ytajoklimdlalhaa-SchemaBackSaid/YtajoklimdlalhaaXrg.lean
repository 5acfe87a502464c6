/- The operations of a condition, each by its number. -/
import Derived.Test.YtajoklimdlalhaaPacW
import Derived.Test.YtajoklimdlalhaaProg
import Derived.KernelRfl
namespace Go.Proofs.Ytajoklimdlalhaa.Sc
open Lex

noncomputable def xbops : Array Oper := #[{ dst := some 30, op := Op.move (Operand.tmp 7), type := 28, pos := "law.go:63", after := #[], guard := none },
  { dst := some 31, op := Op.nilCheck (Operand.tmp 30), type := 0, pos := "law.go:63", after := #[{ on := 0, ground := Ground.data }], guard := none },
  { dst := some 32, op := Op.fieldAddr 30 (Operand.tmp 31) 1, type := 0, pos := "law.go:63", after := #[{ on := 1, ground := Ground.data }], guard := none },
  { dst := some 33, op := Op.load 4 (Operand.tmp 32), type := 4, pos := "law.go:63", after := #[{ on := 2, ground := Ground.data }], guard := none },
  { dst := some 34, op := Op.unOp UnOp.not 4 (Operand.tmp 33), type := 4, pos := "law.go:63", after := #[{ on := 3, ground := Ground.data }], guard := none },
  { dst := some 35, op := Op.move (Operand.tmp 34), type := 4, pos := "law.go:63", after := #[{ on := 4, ground := Ground.data }], guard := none },
  { dst := some 36, op := Op.load 24 (Operand.tmp 8), type := 24, pos := "law.go:63", after := #[{ on := 5, ground := Ground.guard }], guard := some (5, true) },
  { dst := some 37, op := Op.call { callee := Callee.value (Operand.func 9), args := #[Operand.tmp 36], argTypes := #[24] }, type := 4, pos := "law.go:63", after := #[{ on := 6, ground := Ground.data }, { on := 5, ground := Ground.chain }, { on := 5, ground := Ground.guard }], guard := some (5, true) },
  { dst := some 38, op := Op.unOp UnOp.not 4 (Operand.tmp 37), type := 4, pos := "law.go:63", after := #[{ on := 7, ground := Ground.data }, { on := 5, ground := Ground.guard }], guard := some (5, true) },
  { dst := some 39, op := Op.move (Operand.tmp 38), type := 4, pos := "law.go:63", after := #[{ on := 8, ground := Ground.data }, { on := 7, ground := Ground.chain }, { on := 5, ground := Ground.guard }], guard := some (5, true) },
  { dst := some 40, op := Op.load 24 (Operand.tmp 8), type := 24, pos := "law.go:63", after := #[{ on := 9, ground := Ground.guard }], guard := some (9, false) },
  { dst := some 41, op := Op.call { callee := Callee.value (Operand.func 11), args := #[Operand.tmp 40], argTypes := #[24] }, type := 9, pos := "law.go:63", after := #[{ on := 10, ground := Ground.data }, { on := 9, ground := Ground.chain }, { on := 9, ground := Ground.guard }], guard := some (9, false) },
  { dst := some 42, op := Op.move (Operand.tmp 1), type := 9, pos := "law.go:63", after := #[{ on := 9, ground := Ground.guard }], guard := some (9, false) },
  { dst := some 43, op := Op.move (Operand.tmp 1), type := 9, pos := "law.go:63", after := #[{ on := 9, ground := Ground.guard }], guard := some (9, false) },
  { dst := some 44, op := Op.call { callee := Callee.builtin Builtin.len, args := #[Operand.tmp 43], argTypes := #[9] }, type := 3, pos := "law.go:63", after := #[{ on := 13, ground := Ground.data }, { on := 9, ground := Ground.guard }], guard := some (9, false) },
  { dst := some 45, op := Op.move (Operand.tmp 7), type := 28, pos := "law.go:63", after := #[{ on := 9, ground := Ground.guard }], guard := some (9, false) },
  { dst := some 46, op := Op.nilCheck (Operand.tmp 45), type := 0, pos := "law.go:63", after := #[{ on := 15, ground := Ground.data }, { on := 9, ground := Ground.guard }], guard := some (9, false) },
  { dst := some 47, op := Op.fieldAddr 30 (Operand.tmp 46) 0, type := 0, pos := "law.go:63", after := #[{ on := 16, ground := Ground.data }, { on := 9, ground := Ground.guard }], guard := some (9, false) },
  { dst := some 48, op := Op.load 9 (Operand.tmp 47), type := 9, pos := "law.go:63", after := #[{ on := 17, ground := Ground.data }, { on := 9, ground := Ground.guard }], guard := some (9, false) },
  { dst := some 49, op := Op.call { callee := Callee.builtin Builtin.len, args := #[Operand.tmp 48], argTypes := #[9] }, type := 3, pos := "law.go:63", after := #[{ on := 18, ground := Ground.data }, { on := 9, ground := Ground.guard }], guard := some (9, false) },
  { dst := some 50, op := Op.binOp BinOp.sub 3 (Operand.tmp 44) (Operand.tmp 49) 3, type := 3, pos := "law.go:63", after := #[{ on := 14, ground := Ground.data }, { on := 19, ground := Ground.data }, { on := 9, ground := Ground.guard }], guard := some (9, false) },
  { dst := some 51, op := Op.slice 9 (Operand.tmp 42) none (some (Operand.tmp 50)) none, type := 9, pos := "law.go:63", after := #[{ on := 12, ground := Ground.data }, { on := 20, ground := Ground.data }, { on := 9, ground := Ground.guard }], guard := some (9, false) },
  { dst := some 52, op := Op.binOp BinOp.neq 9 (Operand.tmp 41) (Operand.tmp 51) 9, type := 4, pos := "law.go:63", after := #[{ on := 11, ground := Ground.data }, { on := 21, ground := Ground.data }, { on := 9, ground := Ground.guard }], guard := some (9, false) },
  { dst := some 53, op := Op.pick (Operand.tmp 39) (Operand.const (Value.bool true)) (Operand.tmp 52), type := 4, pos := "law.go:63", after := #[{ on := 9, ground := Ground.data }, { on := 22, ground := Ground.data }, { on := 5, ground := Ground.guard }], guard := some (5, true) },
  { dst := some 54, op := Op.pick (Operand.tmp 35) (Operand.tmp 53) (Operand.const (Value.bool false)), type := 4, pos := "law.go:63", after := #[{ on := 5, ground := Ground.data }, { on := 23, ground := Ground.data }], guard := none }]
def xbcalls : List Nat := [7, 11]
def xbord : List Nat := [0, 1, 2, 3, 4, 5, 6, 7, 8, 9, 10, 12, 13, 14, 15, 16, 17, 18, 19, 20, 21, 11, 22, 23, 24]
theorem xbsel : Region.noSelect xbops = true := by kernel_rfl
theorem xblex : lexH xbops xbcalls xbord (Array.replicate xbops.size false) = true := by kernel_rfl
theorem xb0 : xbops[0]? = some { dst := some 30, op := Op.move (Operand.tmp 7), type := 28, pos := "law.go:63", after := #[], guard := none } := by kernel_rfl
theorem xb1 : xbops[1]? = some { dst := some 31, op := Op.nilCheck (Operand.tmp 30), type := 0, pos := "law.go:63", after := #[{ on := 0, ground := Ground.data }], guard := none } := by kernel_rfl
theorem xb2 : xbops[2]? = some { dst := some 32, op := Op.fieldAddr 30 (Operand.tmp 31) 1, type := 0, pos := "law.go:63", after := #[{ on := 1, ground := Ground.data }], guard := none } := by kernel_rfl
theorem xb3 : xbops[3]? = some { dst := some 33, op := Op.load 4 (Operand.tmp 32), type := 4, pos := "law.go:63", after := #[{ on := 2, ground := Ground.data }], guard := none } := by kernel_rfl
theorem xb4 : xbops[4]? = some { dst := some 34, op := Op.unOp UnOp.not 4 (Operand.tmp 33), type := 4, pos := "law.go:63", after := #[{ on := 3, ground := Ground.data }], guard := none } := by kernel_rfl
theorem xb5 : xbops[5]? = some { dst := some 35, op := Op.move (Operand.tmp 34), type := 4, pos := "law.go:63", after := #[{ on := 4, ground := Ground.data }], guard := none } := by kernel_rfl
theorem xb6 : xbops[6]? = some { dst := some 36, op := Op.load 24 (Operand.tmp 8), type := 24, pos := "law.go:63", after := #[{ on := 5, ground := Ground.guard }], guard := some (5, true) } := by kernel_rfl
theorem xb7 : xbops[7]? = some { dst := some 37, op := Op.call { callee := Callee.value (Operand.func 9), args := #[Operand.tmp 36], argTypes := #[24] }, type := 4, pos := "law.go:63", after := #[{ on := 6, ground := Ground.data }, { on := 5, ground := Ground.chain }, { on := 5, ground := Ground.guard }], guard := some (5, true) } := by kernel_rfl
theorem xb8 : xbops[8]? = some { dst := some 38, op := Op.unOp UnOp.not 4 (Operand.tmp 37), type := 4, pos := "law.go:63", after := #[{ on := 7, ground := Ground.data }, { on := 5, ground := Ground.guard }], guard := some (5, true) } := by kernel_rfl
theorem xb9 : xbops[9]? = some { dst := some 39, op := Op.move (Operand.tmp 38), type := 4, pos := "law.go:63", after := #[{ on := 8, ground := Ground.data }, { on := 7, ground := Ground.chain }, { on := 5, ground := Ground.guard }], guard := some (5, true) } := by kernel_rfl
theorem xb10 : xbops[10]? = some { dst := some 40, op := Op.load 24 (Operand.tmp 8), type := 24, pos := "law.go:63", after := #[{ on := 9, ground := Ground.guard }], guard := some (9, false) } := by kernel_rfl
theorem xb11 : xbops[11]? = some { dst := some 41, op := Op.call { callee := Callee.value (Operand.func 11), args := #[Operand.tmp 40], argTypes := #[24] }, type := 9, pos := "law.go:63", after := #[{ on := 10, ground := Ground.data }, { on := 9, ground := Ground.chain }, { on := 9, ground := Ground.guard }], guard := some (9, false) } := by kernel_rfl
theorem xb12 : xbops[12]? = some { dst := some 42, op := Op.move (Operand.tmp 1), type := 9, pos := "law.go:63", after := #[{ on := 9, ground := Ground.guard }], guard := some (9, false) } := by kernel_rfl
theorem xb13 : xbops[13]? = some { dst := some 43, op := Op.move (Operand.tmp 1), type := 9, pos := "law.go:63", after := #[{ on := 9, ground := Ground.guard }], guard := some (9, false) } := by kernel_rfl
theorem xb14 : xbops[14]? = some { dst := some 44, op := Op.call { callee := Callee.builtin Builtin.len, args := #[Operand.tmp 43], argTypes := #[9] }, type := 3, pos := "law.go:63", after := #[{ on := 13, ground := Ground.data }, { on := 9, ground := Ground.guard }], guard := some (9, false) } := by kernel_rfl
theorem xb15 : xbops[15]? = some { dst := some 45, op := Op.move (Operand.tmp 7), type := 28, pos := "law.go:63", after := #[{ on := 9, ground := Ground.guard }], guard := some (9, false) } := by kernel_rfl
theorem xb16 : xbops[16]? = some { dst := some 46, op := Op.nilCheck (Operand.tmp 45), type := 0, pos := "law.go:63", after := #[{ on := 15, ground := Ground.data }, { on := 9, ground := Ground.guard }], guard := some (9, false) } := by kernel_rfl
theorem xb17 : xbops[17]? = some { dst := some 47, op := Op.fieldAddr 30 (Operand.tmp 46) 0, type := 0, pos := "law.go:63", after := #[{ on := 16, ground := Ground.data }, { on := 9, ground := Ground.guard }], guard := some (9, false) } := by kernel_rfl
theorem xb18 : xbops[18]? = some { dst := some 48, op := Op.load 9 (Operand.tmp 47), type := 9, pos := "law.go:63", after := #[{ on := 17, ground := Ground.data }, { on := 9, ground := Ground.guard }], guard := some (9, false) } := by kernel_rfl
theorem xb19 : xbops[19]? = some { dst := some 49, op := Op.call { callee := Callee.builtin Builtin.len, args := #[Operand.tmp 48], argTypes := #[9] }, type := 3, pos := "law.go:63", after := #[{ on := 18, ground := Ground.data }, { on := 9, ground := Ground.guard }], guard := some (9, false) } := by kernel_rfl
theorem xb20 : xbops[20]? = some { dst := some 50, op := Op.binOp BinOp.sub 3 (Operand.tmp 44) (Operand.tmp 49) 3, type := 3, pos := "law.go:63", after := #[{ on := 14, ground := Ground.data }, { on := 19, ground := Ground.data }, { on := 9, ground := Ground.guard }], guard := some (9, false) } := by kernel_rfl
theorem xb21 : xbops[21]? = some { dst := some 51, op := Op.slice 9 (Operand.tmp 42) none (some (Operand.tmp 50)) none, type := 9, pos := "law.go:63", after := #[{ on := 12, ground := Ground.data }, { on := 20, ground := Ground.data }, { on := 9, ground := Ground.guard }], guard := some (9, false) } := by kernel_rfl
theorem xb22 : xbops[22]? = some { dst := some 52, op := Op.binOp BinOp.neq 9 (Operand.tmp 41) (Operand.tmp 51) 9, type := 4, pos := "law.go:63", after := #[{ on := 11, ground := Ground.data }, { on := 21, ground := Ground.data }, { on := 9, ground := Ground.guard }], guard := some (9, false) } := by kernel_rfl
theorem xb23 : xbops[23]? = some { dst := some 53, op := Op.pick (Operand.tmp 39) (Operand.const (Value.bool true)) (Operand.tmp 52), type := 4, pos := "law.go:63", after := #[{ on := 9, ground := Ground.data }, { on := 22, ground := Ground.data }, { on := 5, ground := Ground.guard }], guard := some (5, true) } := by kernel_rfl
theorem xb24 : xbops[24]? = some { dst := some 54, op := Op.pick (Operand.tmp 35) (Operand.tmp 53) (Operand.const (Value.bool false)), type := 4, pos := "law.go:63", after := #[{ on := 5, ground := Ground.data }, { on := 23, ground := Ground.data }], guard := none } := by kernel_rfl
end Go.Proofs.Ytajoklimdlalhaa.Sc
