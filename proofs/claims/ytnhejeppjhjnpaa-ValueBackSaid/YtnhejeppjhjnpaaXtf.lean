/- The operations of a condition, each by its number. -/
import Derived.Test.YtnhejeppjhjnpaaPacW
import Derived.Test.YtnhejeppjhjnpaaProg
import Derived.KernelRfl
namespace Go.Proofs.Ytnhejeppjhjnpaa.Va
open Lex

noncomputable def tfops : Array Oper := #[{ dst := some 5, op := Op.fieldAddr 23 (Operand.tmp 2) 0, type := 0, pos := "value.go:28", after := #[], guard := none },
  { dst := some 6, op := Op.load 3 (Operand.tmp 5), type := 3, pos := "value.go:28", after := #[{ on := 0, ground := Ground.data }], guard := none },
  { dst := some 7, op := Op.fieldAddr 23 (Operand.tmp 3) 0, type := 0, pos := "value.go:28", after := #[], guard := none },
  { dst := some 8, op := Op.load 3 (Operand.tmp 7), type := 3, pos := "value.go:28", after := #[{ on := 2, ground := Ground.data }], guard := none },
  { dst := some 9, op := Op.call { callee := Callee.value (Operand.func 19), args := #[Operand.tmp 6, Operand.tmp 8], argTypes := #[3, 3] }, type := 3, pos := "value.go:28", after := #[{ on := 1, ground := Ground.data }, { on := 3, ground := Ground.data }], guard := none },
  { dst := some 10, op := Op.fieldAddr 23 (Operand.tmp 2) 1, type := 0, pos := "value.go:28", after := #[], guard := none },
  { dst := some 11, op := Op.load 3 (Operand.tmp 10), type := 3, pos := "value.go:28", after := #[{ on := 5, ground := Ground.data }], guard := none },
  { dst := some 12, op := Op.fieldAddr 23 (Operand.tmp 3) 1, type := 0, pos := "value.go:28", after := #[], guard := none },
  { dst := some 13, op := Op.load 3 (Operand.tmp 12), type := 3, pos := "value.go:28", after := #[{ on := 7, ground := Ground.data }], guard := none },
  { dst := some 14, op := Op.call { callee := Callee.value (Operand.func 19), args := #[Operand.tmp 11, Operand.tmp 13], argTypes := #[3, 3] }, type := 3, pos := "value.go:28", after := #[{ on := 6, ground := Ground.data }, { on := 8, ground := Ground.data }, { on := 4, ground := Ground.chain }], guard := none },
  { dst := some 15, op := Op.fieldAddr 23 (Operand.tmp 2) 2, type := 0, pos := "value.go:28", after := #[], guard := none },
  { dst := some 16, op := Op.load 9 (Operand.tmp 15), type := 9, pos := "value.go:28", after := #[{ on := 10, ground := Ground.data }], guard := none },
  { dst := some 17, op := Op.fieldAddr 23 (Operand.tmp 3) 2, type := 0, pos := "value.go:28", after := #[], guard := none },
  { dst := some 18, op := Op.load 9 (Operand.tmp 17), type := 9, pos := "value.go:28", after := #[{ on := 12, ground := Ground.data }], guard := none },
  { dst := some 19, op := Op.call { callee := Callee.value (Operand.func 20), args := #[Operand.tmp 16, Operand.tmp 18], argTypes := #[9, 9] }, type := 3, pos := "value.go:28", after := #[{ on := 11, ground := Ground.data }, { on := 13, ground := Ground.data }, { on := 9, ground := Ground.chain }], guard := none },
  { dst := some 20, op := Op.buildSlice 47 3 #[(0, Operand.tmp 9), (1, Operand.tmp 14), (2, Operand.tmp 19)], type := 47, pos := "value.go:28", after := #[{ on := 4, ground := Ground.data }, { on := 9, ground := Ground.data }, { on := 14, ground := Ground.data }], guard := none },
  { dst := some 21, op := Op.call { callee := Callee.value (Operand.func 18), args := #[Operand.tmp 20], argTypes := #[47] }, type := 3, pos := "value.go:28", after := #[{ on := 15, ground := Ground.data }, { on := 14, ground := Ground.chain }], guard := none },
  { dst := some 4, op := Op.assign (Operand.tmp 21), type := 3, pos := "value.go:28", after := #[{ on := 16, ground := Ground.data }, { on := 16, ground := Ground.chain }, { on := 0, ground := Ground.phase }, { on := 1, ground := Ground.phase }, { on := 2, ground := Ground.phase }, { on := 3, ground := Ground.phase }, { on := 4, ground := Ground.phase }, { on := 5, ground := Ground.phase }, { on := 6, ground := Ground.phase }, { on := 7, ground := Ground.phase }, { on := 8, ground := Ground.phase }, { on := 9, ground := Ground.phase }, { on := 10, ground := Ground.phase }, { on := 11, ground := Ground.phase }, { on := 12, ground := Ground.phase }, { on := 13, ground := Ground.phase }, { on := 14, ground := Ground.phase }, { on := 15, ground := Ground.phase }, { on := 16, ground := Ground.phase }], guard := none }]
def tfcalls : List Nat := [4, 9, 14, 15, 16]
def tford : List Nat := [0, 1, 2, 3, 5, 6, 7, 8, 10, 11, 12, 13, 4, 9, 14, 15, 16, 17]
theorem tfsel : Region.noSelect tfops = true := by kernel_rfl
theorem tflex : lexH tfops tfcalls tford (Array.replicate tfops.size false) = true := by kernel_rfl
theorem tf0 : tfops[0]? = some { dst := some 5, op := Op.fieldAddr 23 (Operand.tmp 2) 0, type := 0, pos := "value.go:28", after := #[], guard := none } := by kernel_rfl
theorem tf1 : tfops[1]? = some { dst := some 6, op := Op.load 3 (Operand.tmp 5), type := 3, pos := "value.go:28", after := #[{ on := 0, ground := Ground.data }], guard := none } := by kernel_rfl
theorem tf2 : tfops[2]? = some { dst := some 7, op := Op.fieldAddr 23 (Operand.tmp 3) 0, type := 0, pos := "value.go:28", after := #[], guard := none } := by kernel_rfl
theorem tf3 : tfops[3]? = some { dst := some 8, op := Op.load 3 (Operand.tmp 7), type := 3, pos := "value.go:28", after := #[{ on := 2, ground := Ground.data }], guard := none } := by kernel_rfl
theorem tf4 : tfops[4]? = some { dst := some 9, op := Op.call { callee := Callee.value (Operand.func 19), args := #[Operand.tmp 6, Operand.tmp 8], argTypes := #[3, 3] }, type := 3, pos := "value.go:28", after := #[{ on := 1, ground := Ground.data }, { on := 3, ground := Ground.data }], guard := none } := by kernel_rfl
theorem tf5 : tfops[5]? = some { dst := some 10, op := Op.fieldAddr 23 (Operand.tmp 2) 1, type := 0, pos := "value.go:28", after := #[], guard := none } := by kernel_rfl
theorem tf6 : tfops[6]? = some { dst := some 11, op := Op.load 3 (Operand.tmp 10), type := 3, pos := "value.go:28", after := #[{ on := 5, ground := Ground.data }], guard := none } := by kernel_rfl
theorem tf7 : tfops[7]? = some { dst := some 12, op := Op.fieldAddr 23 (Operand.tmp 3) 1, type := 0, pos := "value.go:28", after := #[], guard := none } := by kernel_rfl
theorem tf8 : tfops[8]? = some { dst := some 13, op := Op.load 3 (Operand.tmp 12), type := 3, pos := "value.go:28", after := #[{ on := 7, ground := Ground.data }], guard := none } := by kernel_rfl
theorem tf9 : tfops[9]? = some { dst := some 14, op := Op.call { callee := Callee.value (Operand.func 19), args := #[Operand.tmp 11, Operand.tmp 13], argTypes := #[3, 3] }, type := 3, pos := "value.go:28", after := #[{ on := 6, ground := Ground.data }, { on := 8, ground := Ground.data }, { on := 4, ground := Ground.chain }], guard := none } := by kernel_rfl
theorem tf10 : tfops[10]? = some { dst := some 15, op := Op.fieldAddr 23 (Operand.tmp 2) 2, type := 0, pos := "value.go:28", after := #[], guard := none } := by kernel_rfl
theorem tf11 : tfops[11]? = some { dst := some 16, op := Op.load 9 (Operand.tmp 15), type := 9, pos := "value.go:28", after := #[{ on := 10, ground := Ground.data }], guard := none } := by kernel_rfl
theorem tf12 : tfops[12]? = some { dst := some 17, op := Op.fieldAddr 23 (Operand.tmp 3) 2, type := 0, pos := "value.go:28", after := #[], guard := none } := by kernel_rfl
theorem tf13 : tfops[13]? = some { dst := some 18, op := Op.load 9 (Operand.tmp 17), type := 9, pos := "value.go:28", after := #[{ on := 12, ground := Ground.data }], guard := none } := by kernel_rfl
theorem tf14 : tfops[14]? = some { dst := some 19, op := Op.call { callee := Callee.value (Operand.func 20), args := #[Operand.tmp 16, Operand.tmp 18], argTypes := #[9, 9] }, type := 3, pos := "value.go:28", after := #[{ on := 11, ground := Ground.data }, { on := 13, ground := Ground.data }, { on := 9, ground := Ground.chain }], guard := none } := by kernel_rfl
theorem tf15 : tfops[15]? = some { dst := some 20, op := Op.buildSlice 47 3 #[(0, Operand.tmp 9), (1, Operand.tmp 14), (2, Operand.tmp 19)], type := 47, pos := "value.go:28", after := #[{ on := 4, ground := Ground.data }, { on := 9, ground := Ground.data }, { on := 14, ground := Ground.data }], guard := none } := by kernel_rfl
theorem tf16 : tfops[16]? = some { dst := some 21, op := Op.call { callee := Callee.value (Operand.func 18), args := #[Operand.tmp 20], argTypes := #[47] }, type := 3, pos := "value.go:28", after := #[{ on := 15, ground := Ground.data }, { on := 14, ground := Ground.chain }], guard := none } := by kernel_rfl
theorem tf17 : tfops[17]? = some { dst := some 4, op := Op.assign (Operand.tmp 21), type := 3, pos := "value.go:28", after := #[{ on := 16, ground := Ground.data }, { on := 16, ground := Ground.chain }, { on := 0, ground := Ground.phase }, { on := 1, ground := Ground.phase }, { on := 2, ground := Ground.phase }, { on := 3, ground := Ground.phase }, { on := 4, ground := Ground.phase }, { on := 5, ground := Ground.phase }, { on := 6, ground := Ground.phase }, { on := 7, ground := Ground.phase }, { on := 8, ground := Ground.phase }, { on := 9, ground := Ground.phase }, { on := 10, ground := Ground.phase }, { on := 11, ground := Ground.phase }, { on := 12, ground := Ground.phase }, { on := 13, ground := Ground.phase }, { on := 14, ground := Ground.phase }, { on := 15, ground := Ground.phase }, { on := 16, ground := Ground.phase }], guard := none } := by kernel_rfl
end Go.Proofs.Ytnhejeppjhjnpaa.Va
