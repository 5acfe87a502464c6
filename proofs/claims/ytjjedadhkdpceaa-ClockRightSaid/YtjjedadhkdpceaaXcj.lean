/- The operations of drawn regions, each by its number; the trees of their orders. -/
import Derived.Test.YtjjedadhkdpceaaLeE
import Derived.Test.YtjjedadhkdpceaaTreW
import Derived.Test.YtjjedadhkdpceaaProg
import Derived.KernelRfl
namespace Go.Proofs.Ytjjedadhkdpceaa.Cl
open Lex

noncomputable def pqops : Array Oper := #[{ dst := some 30, op := Op.fieldAddr 24 (Operand.tmp 2) 0, type := 0, pos := "clock.go:37", after := #[], guard := none },
  { dst := some 31, op := Op.load 22 (Operand.tmp 30), type := 22, pos := "clock.go:37", after := #[{ on := 0, ground := Ground.data }], guard := none },
  { dst := some 32, op := Op.call { callee := Callee.value (Operand.func 21), args := #[Operand.tmp 31], argTypes := #[22] }, type := 22, pos := "clock.go:37", after := #[{ on := 1, ground := Ground.data }], guard := none },
  { dst := some 33, op := Op.load 36 (Operand.tmp 5), type := 36, pos := "clock.go:37", after := #[], guard := none },
  { dst := some 34, op := Op.buildSlice 22 1 #[(0, Operand.tmp 33)], type := 22, pos := "clock.go:37", after := #[{ on := 3, ground := Ground.data }], guard := none }]
def pqtree : Tr := (.op 0 (.op 1 (.op 3 (.alt 2 (.alt 4 .fin .fin) (.alt 4 (.alt 2 .fin .fin) .fin)))))
theorem pqsel : Region.noSelect pqops = true := by kernel_rfl
theorem pqlex : lexT pqops pqops.size [] pqtree (Array.replicate pqops.size false) = true := by kernel_rfl
theorem pq0 : pqops[0]? = some { dst := some 30, op := Op.fieldAddr 24 (Operand.tmp 2) 0, type := 0, pos := "clock.go:37", after := #[], guard := none } := by kernel_rfl
theorem pq1 : pqops[1]? = some { dst := some 31, op := Op.load 22 (Operand.tmp 30), type := 22, pos := "clock.go:37", after := #[{ on := 0, ground := Ground.data }], guard := none } := by kernel_rfl
theorem pq2 : pqops[2]? = some { dst := some 32, op := Op.call { callee := Callee.value (Operand.func 21), args := #[Operand.tmp 31], argTypes := #[22] }, type := 22, pos := "clock.go:37", after := #[{ on := 1, ground := Ground.data }], guard := none } := by kernel_rfl
theorem pq3 : pqops[3]? = some { dst := some 33, op := Op.load 36 (Operand.tmp 5), type := 36, pos := "clock.go:37", after := #[], guard := none } := by kernel_rfl
theorem pq4 : pqops[4]? = some { dst := some 34, op := Op.buildSlice 22 1 #[(0, Operand.tmp 33)], type := 22, pos := "clock.go:37", after := #[{ on := 3, ground := Ground.data }], guard := none } := by kernel_rfl
noncomputable def pqraw : Array Oper := #[{ dst := some 30, op := Op.fieldAddr 24 (Operand.tmp 2) 0, type := 0, pos := "clock.go:37", after := #[], guard := none },
  { dst := some 31, op := Op.load 22 (Operand.tmp 30), type := 22, pos := "clock.go:37", after := #[{ on := 0, ground := Ground.data }], guard := none },
  { dst := some 32, op := Op.call { callee := Callee.value (Operand.func 21), args := #[Operand.tmp 31], argTypes := #[22] }, type := 22, pos := "clock.go:37", after := #[{ on := 1, ground := Ground.data }], guard := none },
  { dst := some 33, op := Op.load 36 (Operand.tmp 5), type := 36, pos := "clock.go:37", after := #[], guard := none },
  { dst := some 34, op := Op.buildSlice 22 1 #[(0, Operand.tmp 33)], type := 22, pos := "clock.go:37", after := #[{ on := 3, ground := Ground.data }], guard := none },
  { dst := some 35, op := Op.call { callee := Callee.builtin Builtin.append, args := #[Operand.tmp 32, Operand.tmp 34], argTypes := #[22, 22] }, type := 22, pos := "clock.go:37", after := #[{ on := 2, ground := Ground.data }, { on := 4, ground := Ground.data }, { on := 2, ground := Ground.chain }], guard := none },
  { dst := some 36, op := Op.fieldAddr 24 (Operand.tmp 2) 0, type := 0, pos := "clock.go:37", after := #[{ on := 0, ground := Ground.phase }, { on := 1, ground := Ground.phase }, { on := 2, ground := Ground.phase }, { on := 3, ground := Ground.phase }, { on := 4, ground := Ground.phase }, { on := 5, ground := Ground.phase }], guard := none },
  { dst := none, op := Op.store 22 (Operand.tmp 36) (Operand.tmp 35), type := 0, pos := "clock.go:37", after := #[{ on := 6, ground := Ground.data }, { on := 5, ground := Ground.data }, { on := 5, ground := Ground.chain }, { on := 0, ground := Ground.phase }, { on := 1, ground := Ground.phase }, { on := 2, ground := Ground.phase }, { on := 3, ground := Ground.phase }, { on := 4, ground := Ground.phase }, { on := 5, ground := Ground.phase }], guard := none }]
theorem pqcut : pqops = pqraw.extract 0 5 := by kernel_rfl
theorem pqsize : pqraw.size = 8 := by kernel_rfl
theorem pqrsel : Region.noSelect pqraw = true := by kernel_rfl
theorem pqtlex : lexH pqraw [5, 7] [5, 6, 7] (extL (Array.replicate 5 true) pqraw.size) = true := by kernel_rfl
theorem pqt5 : pqraw[5]? = some { dst := some 35, op := Op.call { callee := Callee.builtin Builtin.append, args := #[Operand.tmp 32, Operand.tmp 34], argTypes := #[22, 22] }, type := 22, pos := "clock.go:37", after := #[{ on := 2, ground := Ground.data }, { on := 4, ground := Ground.data }, { on := 2, ground := Ground.chain }], guard := none } := by kernel_rfl
theorem pqt6 : pqraw[6]? = some { dst := some 36, op := Op.fieldAddr 24 (Operand.tmp 2) 0, type := 0, pos := "clock.go:37", after := #[{ on := 0, ground := Ground.phase }, { on := 1, ground := Ground.phase }, { on := 2, ground := Ground.phase }, { on := 3, ground := Ground.phase }, { on := 4, ground := Ground.phase }, { on := 5, ground := Ground.phase }], guard := none } := by kernel_rfl
theorem pqt7 : pqraw[7]? = some { dst := none, op := Op.store 22 (Operand.tmp 36) (Operand.tmp 35), type := 0, pos := "clock.go:37", after := #[{ on := 6, ground := Ground.data }, { on := 5, ground := Ground.data }, { on := 5, ground := Ground.chain }, { on := 0, ground := Ground.phase }, { on := 1, ground := Ground.phase }, { on := 2, ground := Ground.phase }, { on := 3, ground := Ground.phase }, { on := 4, ground := Ground.phase }, { on := 5, ground := Ground.phase }], guard := none } := by kernel_rfl
end Go.Proofs.Ytjjedadhkdpceaa.Cl
