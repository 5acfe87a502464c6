/- The operations of a condition, each by its number. -/
import Derived.Test.YtajoklimdlalhaaPacW
import Derived.Test.YtajoklimdlalhaaProg
import Derived.KernelRfl
namespace Go.Proofs.Ytajoklimdlalhaa.Sc
open Lex

noncomputable def xzops : Array Oper := #[{ dst := some 30, op := Op.load 24 (Operand.tmp 3), type := 24, pos := "law.go:79", after := #[], guard := none },
  { dst := some 31, op := Op.call { callee := Callee.value (Operand.func 11), args := #[Operand.tmp 30], argTypes := #[24] }, type := 9, pos := "law.go:79", after := #[{ on := 0, ground := Ground.data }], guard := none },
  { dst := some 32, op := Op.load 24 (Operand.tmp 4), type := 24, pos := "law.go:79", after := #[], guard := none },
  { dst := some 33, op := Op.call { callee := Callee.value (Operand.func 11), args := #[Operand.tmp 32], argTypes := #[24] }, type := 9, pos := "law.go:79", after := #[{ on := 2, ground := Ground.data }, { on := 1, ground := Ground.chain }], guard := none },
  { dst := some 7, op := Op.assign (Operand.tmp 31), type := 9, pos := "law.go:79", after := #[{ on := 1, ground := Ground.data }, { on := 3, ground := Ground.chain }, { on := 0, ground := Ground.phase }, { on := 1, ground := Ground.phase }, { on := 2, ground := Ground.textOnly Departure.lateStores }, { on := 3, ground := Ground.textOnly Departure.lateStoresUnsure }], guard := none },
  { dst := some 8, op := Op.assign (Operand.tmp 33), type := 9, pos := "law.go:79", after := #[{ on := 3, ground := Ground.data }, { on := 4, ground := Ground.chain }, { on := 0, ground := Ground.phase }, { on := 1, ground := Ground.phase }, { on := 2, ground := Ground.phase }, { on := 3, ground := Ground.phase }, { on := 4, ground := Ground.phase }], guard := none }]
def xzcalls : List Nat := [1, 3]
def xzord : List Nat := [0, 2, 1, 3, 4, 5]
theorem xzsel : Region.noSelect xzops = true := by kernel_rfl
theorem xzlex : lexH xzops xzcalls xzord (Array.replicate xzops.size false) = true := by kernel_rfl
theorem xz0 : xzops[0]? = some { dst := some 30, op := Op.load 24 (Operand.tmp 3), type := 24, pos := "law.go:79", after := #[], guard := none } := by kernel_rfl
theorem xz1 : xzops[1]? = some { dst := some 31, op := Op.call { callee := Callee.value (Operand.func 11), args := #[Operand.tmp 30], argTypes := #[24] }, type := 9, pos := "law.go:79", after := #[{ on := 0, ground := Ground.data }], guard := none } := by kernel_rfl
theorem xz2 : xzops[2]? = some { dst := some 32, op := Op.load 24 (Operand.tmp 4), type := 24, pos := "law.go:79", after := #[], guard := none } := by kernel_rfl
theorem xz3 : xzops[3]? = some { dst := some 33, op := Op.call { callee := Callee.value (Operand.func 11), args := #[Operand.tmp 32], argTypes := #[24] }, type := 9, pos := "law.go:79", after := #[{ on := 2, ground := Ground.data }, { on := 1, ground := Ground.chain }], guard := none } := by kernel_rfl
theorem xz4 : xzops[4]? = some { dst := some 7, op := Op.assign (Operand.tmp 31), type := 9, pos := "law.go:79", after := #[{ on := 1, ground := Ground.data }, { on := 3, ground := Ground.chain }, { on := 0, ground := Ground.phase }, { on := 1, ground := Ground.phase }, { on := 2, ground := Ground.textOnly Departure.lateStores }, { on := 3, ground := Ground.textOnly Departure.lateStoresUnsure }], guard := none } := by kernel_rfl
theorem xz5 : xzops[5]? = some { dst := some 8, op := Op.assign (Operand.tmp 33), type := 9, pos := "law.go:79", after := #[{ on := 3, ground := Ground.data }, { on := 4, ground := Ground.chain }, { on := 0, ground := Ground.phase }, { on := 1, ground := Ground.phase }, { on := 2, ground := Ground.phase }, { on := 3, ground := Ground.phase }, { on := 4, ground := Ground.phase }], guard := none } := by kernel_rfl
end Go.Proofs.Ytajoklimdlalhaa.Sc
