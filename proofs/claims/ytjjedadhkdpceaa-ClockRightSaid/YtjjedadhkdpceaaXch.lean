/- The operations of a condition, each by its number. -/
import Derived.Test.YtjjedadhkdpceaaLeD
import Derived.Test.YtjjedadhkdpceaaPacW
import Derived.Test.YtjjedadhkdpceaaProg
import Derived.KernelRfl
namespace Go.Proofs.Ytjjedadhkdpceaa.Cl
open Lex

noncomputable def czops : Array Oper := #[{ dst := some 27, op := Op.load 24 (Operand.tmp 5), type := 24, pos := "law.go:129", after := #[], guard := none },
  { dst := some 28, op := Op.move (Operand.tmp 0), type := 27, pos := "law.go:129", after := #[], guard := none },
  { dst := some 29, op := Op.move (Operand.tmp 6), type := 3, pos := "law.go:129", after := #[], guard := none },
  { dst := some 30, op := Op.indexAddr 27 (Operand.tmp 28) (Operand.tmp 29), type := 0, pos := "law.go:129", after := #[{ on := 1, ground := Ground.data }, { on := 2, ground := Ground.data }], guard := none },
  { dst := some 31, op := Op.load 34 (Operand.tmp 30), type := 34, pos := "law.go:129", after := #[{ on := 3, ground := Ground.data }], guard := none },
  { dst := some 32, op := Op.call { callee := Callee.value (Operand.func 10), args := #[Operand.tmp 27, Operand.tmp 31], argTypes := #[24, 34] }, type := 29, pos := "law.go:129", after := #[{ on := 0, ground := Ground.data }, { on := 4, ground := Ground.data }], guard := none },
  { dst := some 26, op := Op.move (Operand.tmp 32), type := 29, pos := "law.go:129", after := #[{ on := 5, ground := Ground.data }], guard := none }]
def czcalls : List Nat := [5]
def czord : List Nat := [0, 1, 2, 3, 4, 5, 6]
theorem czsel : Region.noSelect czops = true := by kernel_rfl
theorem czlex : lexH czops czcalls czord (Array.replicate czops.size false) = true := by kernel_rfl
noncomputable def czraw : Array Oper := #[{ dst := some 27, op := Op.load 24 (Operand.tmp 5), type := 24, pos := "law.go:129", after := #[], guard := none },
  { dst := some 28, op := Op.move (Operand.tmp 0), type := 27, pos := "law.go:129", after := #[], guard := none },
  { dst := some 29, op := Op.move (Operand.tmp 6), type := 3, pos := "law.go:129", after := #[], guard := none },
  { dst := some 30, op := Op.indexAddr 27 (Operand.tmp 28) (Operand.tmp 29), type := 0, pos := "law.go:129", after := #[{ on := 1, ground := Ground.data }, { on := 2, ground := Ground.data }], guard := none },
  { dst := some 31, op := Op.load 34 (Operand.tmp 30), type := 34, pos := "law.go:129", after := #[{ on := 3, ground := Ground.data }], guard := none },
  { dst := some 32, op := Op.call { callee := Callee.value (Operand.func 10), args := #[Operand.tmp 27, Operand.tmp 31], argTypes := #[24, 34] }, type := 29, pos := "law.go:129", after := #[{ on := 0, ground := Ground.data }, { on := 4, ground := Ground.data }], guard := none },
  { dst := some 26, op := Op.move (Operand.tmp 32), type := 29, pos := "law.go:129", after := #[{ on := 5, ground := Ground.data }], guard := none },
  { dst := some 33, op := Op.extract (Operand.tmp 26) 0, type := 24, pos := "law.go:129", after := #[{ on := 6, ground := Ground.data }], guard := none },
  { dst := some 34, op := Op.extract (Operand.tmp 26) 1, type := 9, pos := "law.go:129", after := #[{ on := 6, ground := Ground.data }, { on := 10, ground := Ground.gcOnly Departure.lateStores }], guard := none },
  { dst := some 35, op := Op.extract (Operand.tmp 26) 2, type := 4, pos := "law.go:129", after := #[{ on := 6, ground := Ground.data }, { on := 10, ground := Ground.gcOnly Departure.lateStores }], guard := none },
  { dst := none, op := Op.store 24 (Operand.tmp 5) (Operand.tmp 33), type := 0, pos := "law.go:129", after := #[{ on := 7, ground := Ground.data }, { on := 5, ground := Ground.chain }, { on := 0, ground := Ground.phase }, { on := 1, ground := Ground.phase }, { on := 2, ground := Ground.phase }, { on := 3, ground := Ground.phase }, { on := 4, ground := Ground.phase }, { on := 5, ground := Ground.phase }, { on := 6, ground := Ground.phase }, { on := 7, ground := Ground.phase }, { on := 8, ground := Ground.textOnly Departure.lateStores }, { on := 9, ground := Ground.textOnly Departure.lateStores }], guard := none }]
theorem czcut : czops = czraw.extract 0 7 := by kernel_rfl
theorem czsize : czraw.size = 11 := by kernel_rfl
theorem czrsel : Region.noSelect czraw = true := by kernel_rfl
theorem cztlex : lexH czraw [10] [7, 8, 9, 10] (extL (Array.replicate 7 true) czraw.size) = true := by kernel_rfl
theorem czt7 : czraw[7]? = some { dst := some 33, op := Op.extract (Operand.tmp 26) 0, type := 24, pos := "law.go:129", after := #[{ on := 6, ground := Ground.data }], guard := none } := by kernel_rfl
theorem czt8 : czraw[8]? = some { dst := some 34, op := Op.extract (Operand.tmp 26) 1, type := 9, pos := "law.go:129", after := #[{ on := 6, ground := Ground.data }, { on := 10, ground := Ground.gcOnly Departure.lateStores }], guard := none } := by kernel_rfl
theorem czt9 : czraw[9]? = some { dst := some 35, op := Op.extract (Operand.tmp 26) 2, type := 4, pos := "law.go:129", after := #[{ on := 6, ground := Ground.data }, { on := 10, ground := Ground.gcOnly Departure.lateStores }], guard := none } := by kernel_rfl
theorem czt10 : czraw[10]? = some { dst := none, op := Op.store 24 (Operand.tmp 5) (Operand.tmp 33), type := 0, pos := "law.go:129", after := #[{ on := 7, ground := Ground.data }, { on := 5, ground := Ground.chain }, { on := 0, ground := Ground.phase }, { on := 1, ground := Ground.phase }, { on := 2, ground := Ground.phase }, { on := 3, ground := Ground.phase }, { on := 4, ground := Ground.phase }, { on := 5, ground := Ground.phase }, { on := 6, ground := Ground.phase }, { on := 7, ground := Ground.phase }, { on := 8, ground := Ground.textOnly Departure.lateStores }, { on := 9, ground := Ground.textOnly Departure.lateStores }], guard := none } := by kernel_rfl
theorem cz0 : czops[0]? = some { dst := some 27, op := Op.load 24 (Operand.tmp 5), type := 24, pos := "law.go:129", after := #[], guard := none } := by kernel_rfl
theorem cz1 : czops[1]? = some { dst := some 28, op := Op.move (Operand.tmp 0), type := 27, pos := "law.go:129", after := #[], guard := none } := by kernel_rfl
theorem cz2 : czops[2]? = some { dst := some 29, op := Op.move (Operand.tmp 6), type := 3, pos := "law.go:129", after := #[], guard := none } := by kernel_rfl
theorem cz3 : czops[3]? = some { dst := some 30, op := Op.indexAddr 27 (Operand.tmp 28) (Operand.tmp 29), type := 0, pos := "law.go:129", after := #[{ on := 1, ground := Ground.data }, { on := 2, ground := Ground.data }], guard := none } := by kernel_rfl
theorem cz4 : czops[4]? = some { dst := some 31, op := Op.load 34 (Operand.tmp 30), type := 34, pos := "law.go:129", after := #[{ on := 3, ground := Ground.data }], guard := none } := by kernel_rfl
theorem cz5 : czops[5]? = some { dst := some 32, op := Op.call { callee := Callee.value (Operand.func 10), args := #[Operand.tmp 27, Operand.tmp 31], argTypes := #[24, 34] }, type := 29, pos := "law.go:129", after := #[{ on := 0, ground := Ground.data }, { on := 4, ground := Ground.data }], guard := none } := by kernel_rfl
theorem cz6 : czops[6]? = some { dst := some 26, op := Op.move (Operand.tmp 32), type := 29, pos := "law.go:129", after := #[{ on := 5, ground := Ground.data }], guard := none } := by kernel_rfl
end Go.Proofs.Ytjjedadhkdpceaa.Cl
