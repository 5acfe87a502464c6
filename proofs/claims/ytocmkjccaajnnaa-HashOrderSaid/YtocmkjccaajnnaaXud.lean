/- The operations of a condition, each by its number. -/
import Derived.Test.YtocmkjccaajnnaaMgP
import Derived.Test.YtocmkjccaajnnaaProg
import Derived.KernelRfl
namespace Go.Proofs.Ytocmkjccaajnnaa.Bu
open Lex

noncomputable def brops : Array Oper := #[{ dst := some 18, op := Op.load 51 (Operand.tmp 4), type := 51, pos := "bucket.go:47", after := #[], guard := none },
  { dst := some 19, op := Op.call { callee := Callee.value (Operand.func 53), args := #[Operand.tmp 18], argTypes := #[51] }, type := 4, pos := "bucket.go:47", after := #[{ on := 0, ground := Ground.data }], guard := none },
  { dst := some 20, op := Op.unOp UnOp.not 4 (Operand.tmp 19), type := 4, pos := "bucket.go:47", after := #[{ on := 1, ground := Ground.data }], guard := none },
  { dst := some 21, op := Op.move (Operand.tmp 20), type := 4, pos := "bucket.go:47", after := #[{ on := 2, ground := Ground.data }, { on := 1, ground := Ground.chain }], guard := none },
  { dst := some 22, op := Op.move (Operand.tmp 3), type := 3, pos := "bucket.go:47", after := #[{ on := 3, ground := Ground.guard }], guard := some (3, false) },
  { dst := some 23, op := Op.binOp BinOp.gtr 3 (Operand.tmp 22) (Operand.const (Value.int IntKind.i64 0)) 3, type := 4, pos := "bucket.go:47", after := #[{ on := 4, ground := Ground.data }, { on := 3, ground := Ground.guard }], guard := some (3, false) },
  { dst := some 24, op := Op.move (Operand.tmp 23), type := 4, pos := "bucket.go:47", after := #[{ on := 5, ground := Ground.data }, { on := 3, ground := Ground.chain }, { on := 3, ground := Ground.guard }], guard := some (3, false) },
  { dst := some 25, op := Op.fieldAddr 51 (Operand.tmp 4) 0, type := 0, pos := "bucket.go:47", after := #[{ on := 6, ground := Ground.guard }], guard := some (6, true) },
  { dst := some 26, op := Op.load 9 (Operand.tmp 25), type := 9, pos := "bucket.go:47", after := #[{ on := 7, ground := Ground.data }, { on := 6, ground := Ground.guard }], guard := some (6, true) },
  { dst := some 27, op := Op.move (Operand.tmp 0), type := 42, pos := "bucket.go:47", after := #[{ on := 6, ground := Ground.guard }], guard := some (6, true) },
  { dst := some 28, op := Op.move (Operand.tmp 3), type := 3, pos := "bucket.go:47", after := #[{ on := 6, ground := Ground.guard }], guard := some (6, true) },
  { dst := some 29, op := Op.binOp BinOp.sub 3 (Operand.tmp 28) (Operand.const (Value.int IntKind.i64 1)) 3, type := 3, pos := "bucket.go:47", after := #[{ on := 10, ground := Ground.data }, { on := 6, ground := Ground.guard }], guard := some (6, true) },
  { dst := some 30, op := Op.indexAddr 42 (Operand.tmp 27) (Operand.tmp 29), type := 0, pos := "bucket.go:47", after := #[{ on := 9, ground := Ground.data }, { on := 11, ground := Ground.data }, { on := 6, ground := Ground.guard }], guard := some (6, true) },
  { dst := some 31, op := Op.fieldAddr 51 (Operand.tmp 30) 0, type := 0, pos := "bucket.go:47", after := #[{ on := 12, ground := Ground.data }, { on := 6, ground := Ground.guard }], guard := some (6, true) },
  { dst := some 32, op := Op.load 9 (Operand.tmp 31), type := 9, pos := "bucket.go:47", after := #[{ on := 13, ground := Ground.data }, { on := 6, ground := Ground.guard }], guard := some (6, true) },
  { dst := some 33, op := Op.binOp BinOp.leq 9 (Operand.tmp 26) (Operand.tmp 32) 9, type := 4, pos := "bucket.go:47", after := #[{ on := 8, ground := Ground.data }, { on := 14, ground := Ground.data }, { on := 6, ground := Ground.guard }], guard := some (6, true) },
  { dst := some 34, op := Op.pick (Operand.tmp 24) (Operand.tmp 33) (Operand.const (Value.bool false)), type := 4, pos := "bucket.go:47", after := #[{ on := 6, ground := Ground.data }, { on := 15, ground := Ground.data }, { on := 3, ground := Ground.guard }], guard := some (3, false) },
  { dst := some 35, op := Op.pick (Operand.tmp 21) (Operand.const (Value.bool true)) (Operand.tmp 34), type := 4, pos := "bucket.go:47", after := #[{ on := 3, ground := Ground.data }, { on := 16, ground := Ground.data }], guard := none }]
def brcalls : List Nat := [1]
def brord : List Nat := [0, 1, 2, 3, 4, 5, 6, 7, 8, 9, 10, 11, 12, 13, 14, 15, 16, 17]
theorem brsel : Region.noSelect brops = true := by kernel_rfl
theorem brlex : lexH brops brcalls brord (Array.replicate brops.size false) = true := by kernel_rfl
theorem br0 : brops[0]? = some { dst := some 18, op := Op.load 51 (Operand.tmp 4), type := 51, pos := "bucket.go:47", after := #[], guard := none } := by kernel_rfl
theorem br1 : brops[1]? = some { dst := some 19, op := Op.call { callee := Callee.value (Operand.func 53), args := #[Operand.tmp 18], argTypes := #[51] }, type := 4, pos := "bucket.go:47", after := #[{ on := 0, ground := Ground.data }], guard := none } := by kernel_rfl
theorem br2 : brops[2]? = some { dst := some 20, op := Op.unOp UnOp.not 4 (Operand.tmp 19), type := 4, pos := "bucket.go:47", after := #[{ on := 1, ground := Ground.data }], guard := none } := by kernel_rfl
theorem br3 : brops[3]? = some { dst := some 21, op := Op.move (Operand.tmp 20), type := 4, pos := "bucket.go:47", after := #[{ on := 2, ground := Ground.data }, { on := 1, ground := Ground.chain }], guard := none } := by kernel_rfl
theorem br4 : brops[4]? = some { dst := some 22, op := Op.move (Operand.tmp 3), type := 3, pos := "bucket.go:47", after := #[{ on := 3, ground := Ground.guard }], guard := some (3, false) } := by kernel_rfl
theorem br5 : brops[5]? = some { dst := some 23, op := Op.binOp BinOp.gtr 3 (Operand.tmp 22) (Operand.const (Value.int IntKind.i64 0)) 3, type := 4, pos := "bucket.go:47", after := #[{ on := 4, ground := Ground.data }, { on := 3, ground := Ground.guard }], guard := some (3, false) } := by kernel_rfl
theorem br6 : brops[6]? = some { dst := some 24, op := Op.move (Operand.tmp 23), type := 4, pos := "bucket.go:47", after := #[{ on := 5, ground := Ground.data }, { on := 3, ground := Ground.chain }, { on := 3, ground := Ground.guard }], guard := some (3, false) } := by kernel_rfl
theorem br7 : brops[7]? = some { dst := some 25, op := Op.fieldAddr 51 (Operand.tmp 4) 0, type := 0, pos := "bucket.go:47", after := #[{ on := 6, ground := Ground.guard }], guard := some (6, true) } := by kernel_rfl
theorem br8 : brops[8]? = some { dst := some 26, op := Op.load 9 (Operand.tmp 25), type := 9, pos := "bucket.go:47", after := #[{ on := 7, ground := Ground.data }, { on := 6, ground := Ground.guard }], guard := some (6, true) } := by kernel_rfl
theorem br9 : brops[9]? = some { dst := some 27, op := Op.move (Operand.tmp 0), type := 42, pos := "bucket.go:47", after := #[{ on := 6, ground := Ground.guard }], guard := some (6, true) } := by kernel_rfl
theorem br10 : brops[10]? = some { dst := some 28, op := Op.move (Operand.tmp 3), type := 3, pos := "bucket.go:47", after := #[{ on := 6, ground := Ground.guard }], guard := some (6, true) } := by kernel_rfl
theorem br11 : brops[11]? = some { dst := some 29, op := Op.binOp BinOp.sub 3 (Operand.tmp 28) (Operand.const (Value.int IntKind.i64 1)) 3, type := 3, pos := "bucket.go:47", after := #[{ on := 10, ground := Ground.data }, { on := 6, ground := Ground.guard }], guard := some (6, true) } := by kernel_rfl
theorem br12 : brops[12]? = some { dst := some 30, op := Op.indexAddr 42 (Operand.tmp 27) (Operand.tmp 29), type := 0, pos := "bucket.go:47", after := #[{ on := 9, ground := Ground.data }, { on := 11, ground := Ground.data }, { on := 6, ground := Ground.guard }], guard := some (6, true) } := by kernel_rfl
theorem br13 : brops[13]? = some { dst := some 31, op := Op.fieldAddr 51 (Operand.tmp 30) 0, type := 0, pos := "bucket.go:47", after := #[{ on := 12, ground := Ground.data }, { on := 6, ground := Ground.guard }], guard := some (6, true) } := by kernel_rfl
theorem br14 : brops[14]? = some { dst := some 32, op := Op.load 9 (Operand.tmp 31), type := 9, pos := "bucket.go:47", after := #[{ on := 13, ground := Ground.data }, { on := 6, ground := Ground.guard }], guard := some (6, true) } := by kernel_rfl
theorem br15 : brops[15]? = some { dst := some 33, op := Op.binOp BinOp.leq 9 (Operand.tmp 26) (Operand.tmp 32) 9, type := 4, pos := "bucket.go:47", after := #[{ on := 8, ground := Ground.data }, { on := 14, ground := Ground.data }, { on := 6, ground := Ground.guard }], guard := some (6, true) } := by kernel_rfl
theorem br16 : brops[16]? = some { dst := some 34, op := Op.pick (Operand.tmp 24) (Operand.tmp 33) (Operand.const (Value.bool false)), type := 4, pos := "bucket.go:47", after := #[{ on := 6, ground := Ground.data }, { on := 15, ground := Ground.data }, { on := 3, ground := Ground.guard }], guard := some (3, false) } := by kernel_rfl
theorem br17 : brops[17]? = some { dst := some 35, op := Op.pick (Operand.tmp 21) (Operand.const (Value.bool true)) (Operand.tmp 34), type := 4, pos := "bucket.go:47", after := #[{ on := 3, ground := Ground.data }, { on := 16, ground := Ground.data }], guard := none } := by kernel_rfl
end Go.Proofs.Ytocmkjccaajnnaa.Bu
