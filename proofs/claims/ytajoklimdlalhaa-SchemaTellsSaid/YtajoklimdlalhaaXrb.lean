/- The operations of a condition, each by its number. -/
import Derived.Test.YtajoklimdlalhaaPacW
import Derived.Test.YtajoklimdlalhaaProg
import Derived.KernelRfl
namespace Go.Proofs.Ytajoklimdlalhaa.Sc
open Lex

noncomputable def xcops : Array Oper := #[{ dst := some 3, op := Op.fieldAddr 41 (Operand.tmp 1) 0, type := 0, pos := "schema.go:71", after := #[], guard := none },
  { dst := some 4, op := Op.load 9 (Operand.tmp 3), type := 9, pos := "schema.go:71", after := #[{ on := 0, ground := Ground.data }], guard := none },
  { dst := some 5, op := Op.call { callee := Callee.value (Operand.func 23), args := #[Operand.tmp 4], argTypes := #[9] }, type := 9, pos := "schema.go:71", after := #[{ on := 1, ground := Ground.data }], guard := none },
  { dst := some 6, op := Op.load 41 (Operand.tmp 1), type := 41, pos := "schema.go:71", after := #[], guard := none },
  { dst := some 7, op := Op.call { callee := Callee.value (Operand.func 34), args := #[Operand.tmp 6], argTypes := #[41] }, type := 3, pos := "schema.go:71", after := #[{ on := 3, ground := Ground.data }, { on := 2, ground := Ground.chain }], guard := none },
  { dst := some 8, op := Op.call { callee := Callee.value (Operand.func 24), args := #[Operand.tmp 7], argTypes := #[3] }, type := 9, pos := "schema.go:71", after := #[{ on := 4, ground := Ground.data }, { on := 4, ground := Ground.chain }], guard := none },
  { dst := some 9, op := Op.buildSlice 47 2 #[(0, Operand.tmp 5), (1, Operand.tmp 8)], type := 47, pos := "schema.go:71", after := #[{ on := 2, ground := Ground.data }, { on := 5, ground := Ground.data }], guard := none },
  { dst := some 10, op := Op.call { callee := Callee.value (Operand.func 26), args := #[Operand.tmp 9], argTypes := #[47] }, type := 9, pos := "schema.go:71", after := #[{ on := 6, ground := Ground.data }, { on := 5, ground := Ground.chain }], guard := none },
  { dst := some 2, op := Op.assign (Operand.tmp 10), type := 9, pos := "schema.go:71", after := #[{ on := 7, ground := Ground.data }, { on := 7, ground := Ground.chain }, { on := 0, ground := Ground.phase }, { on := 1, ground := Ground.phase }, { on := 2, ground := Ground.phase }, { on := 3, ground := Ground.phase }, { on := 4, ground := Ground.phase }, { on := 5, ground := Ground.phase }, { on := 6, ground := Ground.phase }, { on := 7, ground := Ground.phase }], guard := none }]
def xccalls : List Nat := [2, 4, 5, 6, 7]
def xcord : List Nat := [0, 1, 3, 2, 4, 5, 6, 7, 8]
theorem xcsel : Region.noSelect xcops = true := by kernel_rfl
theorem xclex : lexH xcops xccalls xcord (Array.replicate xcops.size false) = true := by kernel_rfl
theorem xc0 : xcops[0]? = some { dst := some 3, op := Op.fieldAddr 41 (Operand.tmp 1) 0, type := 0, pos := "schema.go:71", after := #[], guard := none } := by kernel_rfl
theorem xc1 : xcops[1]? = some { dst := some 4, op := Op.load 9 (Operand.tmp 3), type := 9, pos := "schema.go:71", after := #[{ on := 0, ground := Ground.data }], guard := none } := by kernel_rfl
theorem xc2 : xcops[2]? = some { dst := some 5, op := Op.call { callee := Callee.value (Operand.func 23), args := #[Operand.tmp 4], argTypes := #[9] }, type := 9, pos := "schema.go:71", after := #[{ on := 1, ground := Ground.data }], guard := none } := by kernel_rfl
theorem xc3 : xcops[3]? = some { dst := some 6, op := Op.load 41 (Operand.tmp 1), type := 41, pos := "schema.go:71", after := #[], guard := none } := by kernel_rfl
theorem xc4 : xcops[4]? = some { dst := some 7, op := Op.call { callee := Callee.value (Operand.func 34), args := #[Operand.tmp 6], argTypes := #[41] }, type := 3, pos := "schema.go:71", after := #[{ on := 3, ground := Ground.data }, { on := 2, ground := Ground.chain }], guard := none } := by kernel_rfl
theorem xc5 : xcops[5]? = some { dst := some 8, op := Op.call { callee := Callee.value (Operand.func 24), args := #[Operand.tmp 7], argTypes := #[3] }, type := 9, pos := "schema.go:71", after := #[{ on := 4, ground := Ground.data }, { on := 4, ground := Ground.chain }], guard := none } := by kernel_rfl
theorem xc6 : xcops[6]? = some { dst := some 9, op := Op.buildSlice 47 2 #[(0, Operand.tmp 5), (1, Operand.tmp 8)], type := 47, pos := "schema.go:71", after := #[{ on := 2, ground := Ground.data }, { on := 5, ground := Ground.data }], guard := none } := by kernel_rfl
theorem xc7 : xcops[7]? = some { dst := some 10, op := Op.call { callee := Callee.value (Operand.func 26), args := #[Operand.tmp 9], argTypes := #[47] }, type := 9, pos := "schema.go:71", after := #[{ on := 6, ground := Ground.data }, { on := 5, ground := Ground.chain }], guard := none } := by kernel_rfl
theorem xc8 : xcops[8]? = some { dst := some 2, op := Op.assign (Operand.tmp 10), type := 9, pos := "schema.go:71", after := #[{ on := 7, ground := Ground.data }, { on := 7, ground := Ground.chain }, { on := 0, ground := Ground.phase }, { on := 1, ground := Ground.phase }, { on := 2, ground := Ground.phase }, { on := 3, ground := Ground.phase }, { on := 4, ground := Ground.phase }, { on := 5, ground := Ground.phase }, { on := 6, ground := Ground.phase }, { on := 7, ground := Ground.phase }], guard := none } := by kernel_rfl
noncomputable def xpops : Array Oper := #[{ dst := some 6, op := Op.fieldAddr 24 (Operand.tmp 1) 0, type := 0, pos := "schema.go:62", after := #[], guard := none },
  { dst := some 7, op := Op.load 9 (Operand.tmp 6), type := 9, pos := "schema.go:62", after := #[{ on := 0, ground := Ground.data }], guard := none },
  { dst := some 8, op := Op.call { callee := Callee.value (Operand.func 23), args := #[Operand.tmp 7], argTypes := #[9] }, type := 9, pos := "schema.go:62", after := #[{ on := 1, ground := Ground.data }], guard := none },
  { dst := some 9, op := Op.fieldAddr 24 (Operand.tmp 1) 1, type := 0, pos := "schema.go:62", after := #[], guard := none },
  { dst := some 10, op := Op.load 22 (Operand.tmp 9), type := 22, pos := "schema.go:62", after := #[{ on := 3, ground := Ground.data }], guard := none },
  { dst := some 11, op := Op.call { callee := Callee.builtin Builtin.len, args := #[Operand.tmp 10], argTypes := #[22] }, type := 3, pos := "schema.go:62", after := #[{ on := 4, ground := Ground.data }], guard := none },
  { dst := some 12, op := Op.call { callee := Callee.value (Operand.func 24), args := #[Operand.tmp 11], argTypes := #[3] }, type := 9, pos := "schema.go:62", after := #[{ on := 5, ground := Ground.data }, { on := 2, ground := Ground.chain }], guard := none },
  { dst := some 13, op := Op.buildSlice 47 2 #[(0, Operand.tmp 8), (1, Operand.tmp 12)], type := 47, pos := "schema.go:62", after := #[{ on := 2, ground := Ground.data }, { on := 6, ground := Ground.data }], guard := none },
  { dst := some 3, op := Op.assign (Operand.tmp 13), type := 47, pos := "schema.go:62", after := #[{ on := 7, ground := Ground.data }, { on := 6, ground := Ground.chain }, { on := 0, ground := Ground.phase }, { on := 1, ground := Ground.phase }, { on := 2, ground := Ground.phase }, { on := 3, ground := Ground.phase }, { on := 4, ground := Ground.phase }, { on := 5, ground := Ground.phase }, { on := 6, ground := Ground.phase }, { on := 7, ground := Ground.phase }], guard := none }]
def xpcalls : List Nat := [2, 6, 7]
def xpord : List Nat := [0, 1, 3, 4, 5, 2, 6, 7, 8]
theorem xpsel : Region.noSelect xpops = true := by kernel_rfl
theorem xplex : lexH xpops xpcalls xpord (Array.replicate xpops.size false) = true := by kernel_rfl
theorem xp0 : xpops[0]? = some { dst := some 6, op := Op.fieldAddr 24 (Operand.tmp 1) 0, type := 0, pos := "schema.go:62", after := #[], guard := none } := by kernel_rfl
theorem xp1 : xpops[1]? = some { dst := some 7, op := Op.load 9 (Operand.tmp 6), type := 9, pos := "schema.go:62", after := #[{ on := 0, ground := Ground.data }], guard := none } := by kernel_rfl
theorem xp2 : xpops[2]? = some { dst := some 8, op := Op.call { callee := Callee.value (Operand.func 23), args := #[Operand.tmp 7], argTypes := #[9] }, type := 9, pos := "schema.go:62", after := #[{ on := 1, ground := Ground.data }], guard := none } := by kernel_rfl
theorem xp3 : xpops[3]? = some { dst := some 9, op := Op.fieldAddr 24 (Operand.tmp 1) 1, type := 0, pos := "schema.go:62", after := #[], guard := none } := by kernel_rfl
theorem xp4 : xpops[4]? = some { dst := some 10, op := Op.load 22 (Operand.tmp 9), type := 22, pos := "schema.go:62", after := #[{ on := 3, ground := Ground.data }], guard := none } := by kernel_rfl
theorem xp5 : xpops[5]? = some { dst := some 11, op := Op.call { callee := Callee.builtin Builtin.len, args := #[Operand.tmp 10], argTypes := #[22] }, type := 3, pos := "schema.go:62", after := #[{ on := 4, ground := Ground.data }], guard := none } := by kernel_rfl
theorem xp6 : xpops[6]? = some { dst := some 12, op := Op.call { callee := Callee.value (Operand.func 24), args := #[Operand.tmp 11], argTypes := #[3] }, type := 9, pos := "schema.go:62", after := #[{ on := 5, ground := Ground.data }, { on := 2, ground := Ground.chain }], guard := none } := by kernel_rfl
theorem xp7 : xpops[7]? = some { dst := some 13, op := Op.buildSlice 47 2 #[(0, Operand.tmp 8), (1, Operand.tmp 12)], type := 47, pos := "schema.go:62", after := #[{ on := 2, ground := Ground.data }, { on := 6, ground := Ground.data }], guard := none } := by kernel_rfl
theorem xp8 : xpops[8]? = some { dst := some 3, op := Op.assign (Operand.tmp 13), type := 47, pos := "schema.go:62", after := #[{ on := 7, ground := Ground.data }, { on := 6, ground := Ground.chain }, { on := 0, ground := Ground.phase }, { on := 1, ground := Ground.phase }, { on := 2, ground := Ground.phase }, { on := 3, ground := Ground.phase }, { on := 4, ground := Ground.phase }, { on := 5, ground := Ground.phase }, { on := 6, ground := Ground.phase }, { on := 7, ground := Ground.phase }], guard := none } := by kernel_rfl
end Go.Proofs.Ytajoklimdlalhaa.Sc
