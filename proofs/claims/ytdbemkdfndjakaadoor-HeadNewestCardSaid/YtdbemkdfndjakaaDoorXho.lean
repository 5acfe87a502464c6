/- The operations of drawn regions, each by its number; the trees of their orders. -/
import Derived.Test.YtdbemkdfndjakaaDoorMgW
import Derived.Test.YtdbemkdfndjakaaDoorProg
import Derived.KernelRfl
namespace Go.Proofs.YtdbemkdfndjakaaDoor.Hd
open Lex

noncomputable def htnops : Array Oper := #[{ dst := some 23, op := Op.move (Operand.tmp 0), type := 33, pos := "law.go:50", after := #[], guard := none },
  { dst := some 24, op := Op.call { callee := Callee.value (Operand.func 21), args := #[Operand.tmp 23], argTypes := #[33] }, type := 39, pos := "law.go:50", after := #[{ on := 0, ground := Ground.data }], guard := none },
  { dst := some 25, op := Op.indexAddr 35 (Operand.tmp 5) (Operand.const (Value.int IntKind.i64 0)), type := 0, pos := "law.go:50", after := #[], guard := none },
  { dst := some 26, op := Op.load 34 (Operand.tmp 25), type := 34, pos := "law.go:50", after := #[{ on := 2, ground := Ground.data }], guard := none },
  { dst := some 27, op := Op.binOp BinOp.rem 34 (Operand.tmp 26) (Operand.const (Value.int IntKind.u16 6)) 34, type := 34, pos := "law.go:50", after := #[{ on := 3, ground := Ground.data }], guard := none },
  { dst := some 28, op := Op.convert 34 3 (Operand.tmp 27), type := 3, pos := "law.go:50", after := #[{ on := 4, ground := Ground.data }], guard := none },
  { dst := some 29, op := Op.binOp BinOp.sub 3 (Operand.tmp 28) (Operand.const (Value.int IntKind.i64 1)) 3, type := 3, pos := "law.go:50", after := #[{ on := 5, ground := Ground.data }], guard := none },
  { dst := some 30, op := Op.call { callee := Callee.value (Operand.func 20), args := #[Operand.tmp 24, Operand.tmp 29], argTypes := #[39, 3] }, type := 39, pos := "law.go:50", after := #[{ on := 1, ground := Ground.data }, { on := 6, ground := Ground.data }, { on := 1, ground := Ground.chain }], guard := none },
  { dst := some 7, op := Op.alloc 39, type := 0, pos := "law.go:50", after := #[], guard := none },
  { dst := none, op := Op.store 39 (Operand.tmp 7) (Operand.tmp 30), type := 0, pos := "law.go:50", after := #[{ on := 8, ground := Ground.data }, { on := 7, ground := Ground.data }, { on := 7, ground := Ground.chain }, { on := 0, ground := Ground.phase }, { on := 1, ground := Ground.phase }, { on := 2, ground := Ground.phase }, { on := 3, ground := Ground.phase }, { on := 4, ground := Ground.phase }, { on := 5, ground := Ground.phase }, { on := 6, ground := Ground.phase }, { on := 7, ground := Ground.phase }, { on := 8, ground := Ground.phase }], guard := none }]
def htntree : Tr := (.op 0 (.op 2 (.op 3 (.op 4 (.op 5 (.op 6 (.alt 1 (.alt 7 (.alt 8 (.alt 9 .fin .fin) .fin) (.alt 8 (.alt 7 (.alt 9 .fin .fin) .fin) .fin)) (.alt 8 (.alt 1 (.alt 7 (.alt 9 .fin .fin) .fin) .fin) .fin))))))))
theorem htnsel : Region.noSelect htnops = true := by kernel_rfl
theorem htnlex : lexT htnops htnops.size [] htntree (Array.replicate htnops.size false) = true := by kernel_rfl
theorem htn0 : htnops[0]? = some { dst := some 23, op := Op.move (Operand.tmp 0), type := 33, pos := "law.go:50", after := #[], guard := none } := by kernel_rfl
theorem htn1 : htnops[1]? = some { dst := some 24, op := Op.call { callee := Callee.value (Operand.func 21), args := #[Operand.tmp 23], argTypes := #[33] }, type := 39, pos := "law.go:50", after := #[{ on := 0, ground := Ground.data }], guard := none } := by kernel_rfl
theorem htn2 : htnops[2]? = some { dst := some 25, op := Op.indexAddr 35 (Operand.tmp 5) (Operand.const (Value.int IntKind.i64 0)), type := 0, pos := "law.go:50", after := #[], guard := none } := by kernel_rfl
theorem htn3 : htnops[3]? = some { dst := some 26, op := Op.load 34 (Operand.tmp 25), type := 34, pos := "law.go:50", after := #[{ on := 2, ground := Ground.data }], guard := none } := by kernel_rfl
theorem htn4 : htnops[4]? = some { dst := some 27, op := Op.binOp BinOp.rem 34 (Operand.tmp 26) (Operand.const (Value.int IntKind.u16 6)) 34, type := 34, pos := "law.go:50", after := #[{ on := 3, ground := Ground.data }], guard := none } := by kernel_rfl
theorem htn5 : htnops[5]? = some { dst := some 28, op := Op.convert 34 3 (Operand.tmp 27), type := 3, pos := "law.go:50", after := #[{ on := 4, ground := Ground.data }], guard := none } := by kernel_rfl
theorem htn6 : htnops[6]? = some { dst := some 29, op := Op.binOp BinOp.sub 3 (Operand.tmp 28) (Operand.const (Value.int IntKind.i64 1)) 3, type := 3, pos := "law.go:50", after := #[{ on := 5, ground := Ground.data }], guard := none } := by kernel_rfl
theorem htn7 : htnops[7]? = some { dst := some 30, op := Op.call { callee := Callee.value (Operand.func 20), args := #[Operand.tmp 24, Operand.tmp 29], argTypes := #[39, 3] }, type := 39, pos := "law.go:50", after := #[{ on := 1, ground := Ground.data }, { on := 6, ground := Ground.data }, { on := 1, ground := Ground.chain }], guard := none } := by kernel_rfl
theorem htn8 : htnops[8]? = some { dst := some 7, op := Op.alloc 39, type := 0, pos := "law.go:50", after := #[], guard := none } := by kernel_rfl
theorem htn9 : htnops[9]? = some { dst := none, op := Op.store 39 (Operand.tmp 7) (Operand.tmp 30), type := 0, pos := "law.go:50", after := #[{ on := 8, ground := Ground.data }, { on := 7, ground := Ground.data }, { on := 7, ground := Ground.chain }, { on := 0, ground := Ground.phase }, { on := 1, ground := Ground.phase }, { on := 2, ground := Ground.phase }, { on := 3, ground := Ground.phase }, { on := 4, ground := Ground.phase }, { on := 5, ground := Ground.phase }, { on := 6, ground := Ground.phase }, { on := 7, ground := Ground.phase }, { on := 8, ground := Ground.phase }], guard := none } := by kernel_rfl
end Go.Proofs.YtdbemkdfndjakaaDoor.Hd
