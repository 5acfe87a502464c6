/- Texts Xhp, Xhq, Xhr, Xuo, one behind the other. -/
import Derived.Test.YtocmkjccaajnnaaMgE
import Derived.Test.YtocmkjccaajnnaaMgP
import Derived.Test.YtocmkjccaajnnaaProg
import Derived.KernelRfl
/- The operations of a condition, each by its number. -/
namespace Go.Proofs.Ytocmkjccaajnnaa.Ha
open Lex

noncomputable def qgops : Array Oper := #[{ dst := some 10, op := Op.fieldAddr 27 (Operand.tmp 2) 2, type := 0, pos := "hash.go:74", after := #[], guard := none },
  { dst := some 11, op := Op.load 25 (Operand.tmp 10), type := 25, pos := "hash.go:74", after := #[{ on := 0, ground := Ground.data }], guard := none },
  { dst := some 12, op := Op.fieldAddr 27 (Operand.tmp 2) 0, type := 0, pos := "hash.go:74", after := #[], guard := none },
  { dst := some 13, op := Op.load 3 (Operand.tmp 12), type := 3, pos := "hash.go:74", after := #[{ on := 2, ground := Ground.data }], guard := none },
  { dst := some 14, op := Op.fieldAddr 27 (Operand.tmp 2) 1, type := 0, pos := "hash.go:74", after := #[], guard := none },
  { dst := some 15, op := Op.load 3 (Operand.tmp 14), type := 3, pos := "hash.go:74", after := #[{ on := 4, ground := Ground.data }], guard := none },
  { dst := some 16, op := Op.move (Operand.tmp 1), type := 9, pos := "hash.go:74", after := #[], guard := none },
  { dst := some 17, op := Op.call { callee := Callee.value (Operand.func 25), args := #[Operand.tmp 13, Operand.tmp 15, Operand.tmp 16], argTypes := #[3, 3, 9] }, type := 3, pos := "hash.go:74", after := #[{ on := 3, ground := Ground.data }, { on := 5, ground := Ground.data }, { on := 6, ground := Ground.data }], guard := none },
  { dst := some 18, op := Op.indexAddr 25 (Operand.tmp 11) (Operand.tmp 17), type := 0, pos := "hash.go:74", after := #[{ on := 1, ground := Ground.data }, { on := 7, ground := Ground.data }], guard := none },
  { dst := some 19, op := Op.load 42 (Operand.tmp 18), type := 42, pos := "hash.go:74", after := #[{ on := 8, ground := Ground.data }], guard := none },
  { dst := some 20, op := Op.move (Operand.tmp 1), type := 9, pos := "hash.go:74", after := #[], guard := none },
  { dst := some 21, op := Op.call { callee := Callee.value (Operand.func 36), args := #[Operand.tmp 19, Operand.tmp 20], argTypes := #[42, 9] }, type := 36, pos := "hash.go:74", after := #[{ on := 9, ground := Ground.data }, { on := 10, ground := Ground.data }, { on := 7, ground := Ground.chain }], guard := none },
  { dst := some 22, op := Op.extract (Operand.tmp 21) 0, type := 30, pos := "hash.go:74", after := #[{ on := 11, ground := Ground.data }], guard := none },
  { dst := some 23, op := Op.extract (Operand.tmp 21) 1, type := 4, pos := "hash.go:74", after := #[{ on := 11, ground := Ground.data }], guard := none },
  { dst := none, op := Op.store 30 (Operand.tmp 4) (Operand.tmp 22), type := 0, pos := "hash.go:74", after := #[{ on := 12, ground := Ground.data }, { on := 11, ground := Ground.chain }, { on := 0, ground := Ground.phase }, { on := 1, ground := Ground.phase }, { on := 2, ground := Ground.phase }, { on := 3, ground := Ground.phase }, { on := 4, ground := Ground.phase }, { on := 5, ground := Ground.phase }, { on := 6, ground := Ground.phase }, { on := 7, ground := Ground.phase }, { on := 8, ground := Ground.phase }, { on := 9, ground := Ground.phase }, { on := 10, ground := Ground.phase }, { on := 11, ground := Ground.phase }, { on := 12, ground := Ground.phase }, { on := 13, ground := Ground.phase }], guard := none },
  { dst := some 5, op := Op.assign (Operand.tmp 23), type := 4, pos := "hash.go:74", after := #[{ on := 13, ground := Ground.data }, { on := 14, ground := Ground.chain }, { on := 0, ground := Ground.phase }, { on := 1, ground := Ground.phase }, { on := 2, ground := Ground.phase }, { on := 3, ground := Ground.phase }, { on := 4, ground := Ground.phase }, { on := 5, ground := Ground.phase }, { on := 6, ground := Ground.phase }, { on := 7, ground := Ground.phase }, { on := 8, ground := Ground.phase }, { on := 9, ground := Ground.phase }, { on := 10, ground := Ground.phase }, { on := 11, ground := Ground.phase }, { on := 12, ground := Ground.phase }, { on := 13, ground := Ground.phase }, { on := 14, ground := Ground.phase }], guard := none }]
def qgcalls : List Nat := [7, 11, 14]
def qgord : List Nat := [0, 1, 2, 3, 4, 5, 6, 10, 7, 8, 9, 11, 12, 13, 14, 15]
theorem qgsel : Region.noSelect qgops = true := by kernel_rfl
theorem qglex : lexH qgops qgcalls qgord (Array.replicate qgops.size false) = true := by kernel_rfl
theorem qg0 : qgops[0]? = some { dst := some 10, op := Op.fieldAddr 27 (Operand.tmp 2) 2, type := 0, pos := "hash.go:74", after := #[], guard := none } := by kernel_rfl
theorem qg1 : qgops[1]? = some { dst := some 11, op := Op.load 25 (Operand.tmp 10), type := 25, pos := "hash.go:74", after := #[{ on := 0, ground := Ground.data }], guard := none } := by kernel_rfl
theorem qg2 : qgops[2]? = some { dst := some 12, op := Op.fieldAddr 27 (Operand.tmp 2) 0, type := 0, pos := "hash.go:74", after := #[], guard := none } := by kernel_rfl
theorem qg3 : qgops[3]? = some { dst := some 13, op := Op.load 3 (Operand.tmp 12), type := 3, pos := "hash.go:74", after := #[{ on := 2, ground := Ground.data }], guard := none } := by kernel_rfl
theorem qg4 : qgops[4]? = some { dst := some 14, op := Op.fieldAddr 27 (Operand.tmp 2) 1, type := 0, pos := "hash.go:74", after := #[], guard := none } := by kernel_rfl
theorem qg5 : qgops[5]? = some { dst := some 15, op := Op.load 3 (Operand.tmp 14), type := 3, pos := "hash.go:74", after := #[{ on := 4, ground := Ground.data }], guard := none } := by kernel_rfl
theorem qg6 : qgops[6]? = some { dst := some 16, op := Op.move (Operand.tmp 1), type := 9, pos := "hash.go:74", after := #[], guard := none } := by kernel_rfl
theorem qg7 : qgops[7]? = some { dst := some 17, op := Op.call { callee := Callee.value (Operand.func 25), args := #[Operand.tmp 13, Operand.tmp 15, Operand.tmp 16], argTypes := #[3, 3, 9] }, type := 3, pos := "hash.go:74", after := #[{ on := 3, ground := Ground.data }, { on := 5, ground := Ground.data }, { on := 6, ground := Ground.data }], guard := none } := by kernel_rfl
theorem qg8 : qgops[8]? = some { dst := some 18, op := Op.indexAddr 25 (Operand.tmp 11) (Operand.tmp 17), type := 0, pos := "hash.go:74", after := #[{ on := 1, ground := Ground.data }, { on := 7, ground := Ground.data }], guard := none } := by kernel_rfl
theorem qg9 : qgops[9]? = some { dst := some 19, op := Op.load 42 (Operand.tmp 18), type := 42, pos := "hash.go:74", after := #[{ on := 8, ground := Ground.data }], guard := none } := by kernel_rfl
theorem qg10 : qgops[10]? = some { dst := some 20, op := Op.move (Operand.tmp 1), type := 9, pos := "hash.go:74", after := #[], guard := none } := by kernel_rfl
theorem qg11 : qgops[11]? = some { dst := some 21, op := Op.call { callee := Callee.value (Operand.func 36), args := #[Operand.tmp 19, Operand.tmp 20], argTypes := #[42, 9] }, type := 36, pos := "hash.go:74", after := #[{ on := 9, ground := Ground.data }, { on := 10, ground := Ground.data }, { on := 7, ground := Ground.chain }], guard := none } := by kernel_rfl
theorem qg12 : qgops[12]? = some { dst := some 22, op := Op.extract (Operand.tmp 21) 0, type := 30, pos := "hash.go:74", after := #[{ on := 11, ground := Ground.data }], guard := none } := by kernel_rfl
theorem qg13 : qgops[13]? = some { dst := some 23, op := Op.extract (Operand.tmp 21) 1, type := 4, pos := "hash.go:74", after := #[{ on := 11, ground := Ground.data }], guard := none } := by kernel_rfl
theorem qg14 : qgops[14]? = some { dst := none, op := Op.store 30 (Operand.tmp 4) (Operand.tmp 22), type := 0, pos := "hash.go:74", after := #[{ on := 12, ground := Ground.data }, { on := 11, ground := Ground.chain }, { on := 0, ground := Ground.phase }, { on := 1, ground := Ground.phase }, { on := 2, ground := Ground.phase }, { on := 3, ground := Ground.phase }, { on := 4, ground := Ground.phase }, { on := 5, ground := Ground.phase }, { on := 6, ground := Ground.phase }, { on := 7, ground := Ground.phase }, { on := 8, ground := Ground.phase }, { on := 9, ground := Ground.phase }, { on := 10, ground := Ground.phase }, { on := 11, ground := Ground.phase }, { on := 12, ground := Ground.phase }, { on := 13, ground := Ground.phase }], guard := none } := by kernel_rfl
theorem qg15 : qgops[15]? = some { dst := some 5, op := Op.assign (Operand.tmp 23), type := 4, pos := "hash.go:74", after := #[{ on := 13, ground := Ground.data }, { on := 14, ground := Ground.chain }, { on := 0, ground := Ground.phase }, { on := 1, ground := Ground.phase }, { on := 2, ground := Ground.phase }, { on := 3, ground := Ground.phase }, { on := 4, ground := Ground.phase }, { on := 5, ground := Ground.phase }, { on := 6, ground := Ground.phase }, { on := 7, ground := Ground.phase }, { on := 8, ground := Ground.phase }, { on := 9, ground := Ground.phase }, { on := 10, ground := Ground.phase }, { on := 11, ground := Ground.phase }, { on := 12, ground := Ground.phase }, { on := 13, ground := Ground.phase }, { on := 14, ground := Ground.phase }], guard := none } := by kernel_rfl
noncomputable def qdops : Array Oper := #[{ dst := some 16, op := Op.load 27 (Operand.tmp 2), type := 27, pos := "hash.go:119", after := #[], guard := none },
  { dst := some 17, op := Op.move (Operand.tmp 5), type := 3, pos := "hash.go:119", after := #[], guard := none },
  { dst := some 18, op := Op.fieldAddr 27 (Operand.tmp 2) 2, type := 0, pos := "hash.go:119", after := #[], guard := none },
  { dst := some 19, op := Op.load 25 (Operand.tmp 18), type := 25, pos := "hash.go:119", after := #[{ on := 2, ground := Ground.data }], guard := none },
  { dst := some 20, op := Op.move (Operand.tmp 5), type := 3, pos := "hash.go:119", after := #[], guard := none },
  { dst := some 21, op := Op.indexAddr 25 (Operand.tmp 19) (Operand.tmp 20), type := 0, pos := "hash.go:119", after := #[{ on := 3, ground := Ground.data }, { on := 4, ground := Ground.data }], guard := none },
  { dst := some 22, op := Op.load 42 (Operand.tmp 21), type := 42, pos := "hash.go:119", after := #[{ on := 5, ground := Ground.data }], guard := none },
  { dst := some 23, op := Op.move (Operand.tmp 1), type := 9, pos := "hash.go:119", after := #[], guard := none },
  { dst := some 24, op := Op.call { callee := Callee.value (Operand.func 33), args := #[Operand.tmp 22, Operand.tmp 23], argTypes := #[42, 9] }, type := 42, pos := "hash.go:119", after := #[{ on := 6, ground := Ground.data }, { on := 7, ground := Ground.data }], guard := none },
  { dst := some 25, op := Op.call { callee := Callee.value (Operand.func 29), args := #[Operand.tmp 16, Operand.tmp 17, Operand.tmp 24], argTypes := #[27, 3, 42] }, type := 27, pos := "hash.go:119", after := #[{ on := 0, ground := Ground.data }, { on := 1, ground := Ground.data }, { on := 8, ground := Ground.data }, { on := 8, ground := Ground.chain }], guard := none },
  { dst := none, op := Op.store 27 (Operand.tmp 4) (Operand.tmp 25), type := 0, pos := "hash.go:119", after := #[{ on := 9, ground := Ground.data }, { on := 9, ground := Ground.chain }, { on := 0, ground := Ground.phase }, { on := 1, ground := Ground.phase }, { on := 2, ground := Ground.phase }, { on := 3, ground := Ground.phase }, { on := 4, ground := Ground.phase }, { on := 5, ground := Ground.phase }, { on := 6, ground := Ground.phase }, { on := 7, ground := Ground.phase }, { on := 8, ground := Ground.phase }, { on := 9, ground := Ground.phase }], guard := none }]
def qdcalls : List Nat := [8, 9, 10]
def qdord : List Nat := [0, 1, 2, 3, 4, 5, 6, 7, 8, 9, 10]
theorem qdsel : Region.noSelect qdops = true := by kernel_rfl
theorem qdlex : lexH qdops qdcalls qdord (Array.replicate qdops.size false) = true := by kernel_rfl
theorem qd0 : qdops[0]? = some { dst := some 16, op := Op.load 27 (Operand.tmp 2), type := 27, pos := "hash.go:119", after := #[], guard := none } := by kernel_rfl
theorem qd1 : qdops[1]? = some { dst := some 17, op := Op.move (Operand.tmp 5), type := 3, pos := "hash.go:119", after := #[], guard := none } := by kernel_rfl
theorem qd2 : qdops[2]? = some { dst := some 18, op := Op.fieldAddr 27 (Operand.tmp 2) 2, type := 0, pos := "hash.go:119", after := #[], guard := none } := by kernel_rfl
theorem qd3 : qdops[3]? = some { dst := some 19, op := Op.load 25 (Operand.tmp 18), type := 25, pos := "hash.go:119", after := #[{ on := 2, ground := Ground.data }], guard := none } := by kernel_rfl
theorem qd4 : qdops[4]? = some { dst := some 20, op := Op.move (Operand.tmp 5), type := 3, pos := "hash.go:119", after := #[], guard := none } := by kernel_rfl
theorem qd5 : qdops[5]? = some { dst := some 21, op := Op.indexAddr 25 (Operand.tmp 19) (Operand.tmp 20), type := 0, pos := "hash.go:119", after := #[{ on := 3, ground := Ground.data }, { on := 4, ground := Ground.data }], guard := none } := by kernel_rfl
theorem qd6 : qdops[6]? = some { dst := some 22, op := Op.load 42 (Operand.tmp 21), type := 42, pos := "hash.go:119", after := #[{ on := 5, ground := Ground.data }], guard := none } := by kernel_rfl
theorem qd7 : qdops[7]? = some { dst := some 23, op := Op.move (Operand.tmp 1), type := 9, pos := "hash.go:119", after := #[], guard := none } := by kernel_rfl
theorem qd8 : qdops[8]? = some { dst := some 24, op := Op.call { callee := Callee.value (Operand.func 33), args := #[Operand.tmp 22, Operand.tmp 23], argTypes := #[42, 9] }, type := 42, pos := "hash.go:119", after := #[{ on := 6, ground := Ground.data }, { on := 7, ground := Ground.data }], guard := none } := by kernel_rfl
theorem qd9 : qdops[9]? = some { dst := some 25, op := Op.call { callee := Callee.value (Operand.func 29), args := #[Operand.tmp 16, Operand.tmp 17, Operand.tmp 24], argTypes := #[27, 3, 42] }, type := 27, pos := "hash.go:119", after := #[{ on := 0, ground := Ground.data }, { on := 1, ground := Ground.data }, { on := 8, ground := Ground.data }, { on := 8, ground := Ground.chain }], guard := none } := by kernel_rfl
theorem qd10 : qdops[10]? = some { dst := none, op := Op.store 27 (Operand.tmp 4) (Operand.tmp 25), type := 0, pos := "hash.go:119", after := #[{ on := 9, ground := Ground.data }, { on := 9, ground := Ground.chain }, { on := 0, ground := Ground.phase }, { on := 1, ground := Ground.phase }, { on := 2, ground := Ground.phase }, { on := 3, ground := Ground.phase }, { on := 4, ground := Ground.phase }, { on := 5, ground := Ground.phase }, { on := 6, ground := Ground.phase }, { on := 7, ground := Ground.phase }, { on := 8, ground := Ground.phase }, { on := 9, ground := Ground.phase }], guard := none } := by kernel_rfl
noncomputable def qqops : Array Oper := #[{ dst := some 31, op := Op.load 27 (Operand.tmp 8), type := 27, pos := "hash.go:107", after := #[], guard := none },
  { dst := some 32, op := Op.call { callee := Callee.value (Operand.func 21), args := #[Operand.tmp 31], argTypes := #[27] }, type := 3, pos := "hash.go:107", after := #[{ on := 0, ground := Ground.data }], guard := none },
  { dst := some 33, op := Op.fieldAddr 27 (Operand.tmp 8) 2, type := 0, pos := "hash.go:107", after := #[], guard := none },
  { dst := some 34, op := Op.load 25 (Operand.tmp 33), type := 25, pos := "hash.go:107", after := #[{ on := 2, ground := Ground.data }], guard := none },
  { dst := some 35, op := Op.call { callee := Callee.builtin Builtin.len, args := #[Operand.tmp 34], argTypes := #[25] }, type := 3, pos := "hash.go:107", after := #[{ on := 3, ground := Ground.data }], guard := none },
  { dst := some 36, op := Op.binOp BinOp.mul 3 (Operand.const (Value.int IntKind.i64 4)) (Operand.tmp 35) 3, type := 3, pos := "hash.go:107", after := #[{ on := 4, ground := Ground.data }], guard := none },
  { dst := some 37, op := Op.binOp BinOp.gtr 3 (Operand.tmp 32) (Operand.tmp 36) 3, type := 4, pos := "hash.go:107", after := #[{ on := 1, ground := Ground.data }, { on := 5, ground := Ground.data }], guard := none }]
def qqcalls : List Nat := [1]
def qqord : List Nat := [0, 2, 3, 4, 5, 1, 6]
theorem qqsel : Region.noSelect qqops = true := by kernel_rfl
theorem qqlex : lexH qqops qqcalls qqord (Array.replicate qqops.size false) = true := by kernel_rfl
theorem qq0 : qqops[0]? = some { dst := some 31, op := Op.load 27 (Operand.tmp 8), type := 27, pos := "hash.go:107", after := #[], guard := none } := by kernel_rfl
theorem qq1 : qqops[1]? = some { dst := some 32, op := Op.call { callee := Callee.value (Operand.func 21), args := #[Operand.tmp 31], argTypes := #[27] }, type := 3, pos := "hash.go:107", after := #[{ on := 0, ground := Ground.data }], guard := none } := by kernel_rfl
theorem qq2 : qqops[2]? = some { dst := some 33, op := Op.fieldAddr 27 (Operand.tmp 8) 2, type := 0, pos := "hash.go:107", after := #[], guard := none } := by kernel_rfl
theorem qq3 : qqops[3]? = some { dst := some 34, op := Op.load 25 (Operand.tmp 33), type := 25, pos := "hash.go:107", after := #[{ on := 2, ground := Ground.data }], guard := none } := by kernel_rfl
theorem qq4 : qqops[4]? = some { dst := some 35, op := Op.call { callee := Callee.builtin Builtin.len, args := #[Operand.tmp 34], argTypes := #[25] }, type := 3, pos := "hash.go:107", after := #[{ on := 3, ground := Ground.data }], guard := none } := by kernel_rfl
theorem qq5 : qqops[5]? = some { dst := some 36, op := Op.binOp BinOp.mul 3 (Operand.const (Value.int IntKind.i64 4)) (Operand.tmp 35) 3, type := 3, pos := "hash.go:107", after := #[{ on := 4, ground := Ground.data }], guard := none } := by kernel_rfl
theorem qq6 : qqops[6]? = some { dst := some 37, op := Op.binOp BinOp.gtr 3 (Operand.tmp 32) (Operand.tmp 36) 3, type := 4, pos := "hash.go:107", after := #[{ on := 1, ground := Ground.data }, { on := 5, ground := Ground.data }], guard := none } := by kernel_rfl
noncomputable def qhops : Array Oper := #[{ dst := some 53, op := Op.fieldAddr 27 (Operand.tmp 3) 2, type := 0, pos := "hash.go:87", after := #[], guard := none },
  { dst := some 54, op := Op.load 25 (Operand.tmp 53), type := 25, pos := "hash.go:87", after := #[{ on := 0, ground := Ground.data }], guard := none },
  { dst := some 55, op := Op.move (Operand.tmp 6), type := 3, pos := "hash.go:87", after := #[], guard := none },
  { dst := some 56, op := Op.fieldAddr 27 (Operand.tmp 3) 2, type := 0, pos := "hash.go:87", after := #[], guard := none },
  { dst := some 57, op := Op.load 25 (Operand.tmp 56), type := 25, pos := "hash.go:87", after := #[{ on := 3, ground := Ground.data }], guard := none },
  { dst := some 58, op := Op.move (Operand.tmp 6), type := 3, pos := "hash.go:87", after := #[], guard := none },
  { dst := some 59, op := Op.indexAddr 25 (Operand.tmp 57) (Operand.tmp 58), type := 0, pos := "hash.go:87", after := #[{ on := 4, ground := Ground.data }, { on := 5, ground := Ground.data }], guard := none },
  { dst := some 60, op := Op.load 42 (Operand.tmp 59), type := 42, pos := "hash.go:87", after := #[{ on := 6, ground := Ground.data }], guard := none },
  { dst := some 61, op := Op.load 51 (Operand.tmp 5), type := 51, pos := "hash.go:87", after := #[], guard := none },
  { dst := some 62, op := Op.call { callee := Callee.value (Operand.func 30), args := #[Operand.tmp 60, Operand.tmp 61], argTypes := #[42, 51] }, type := 42, pos := "hash.go:87", after := #[{ on := 7, ground := Ground.data }, { on := 8, ground := Ground.data }], guard := none },
  { dst := some 63, op := Op.indexAddr 25 (Operand.tmp 54) (Operand.tmp 55), type := 0, pos := "hash.go:87", after := #[{ on := 1, ground := Ground.data }, { on := 2, ground := Ground.data }, { on := 0, ground := Ground.phase }, { on := 1, ground := Ground.phase }, { on := 2, ground := Ground.phase }, { on := 3, ground := Ground.phase }, { on := 4, ground := Ground.phase }, { on := 5, ground := Ground.phase }, { on := 6, ground := Ground.phase }, { on := 7, ground := Ground.phase }, { on := 8, ground := Ground.phase }, { on := 9, ground := Ground.phase }], guard := none },
  { dst := none, op := Op.assign (Operand.const (Value.bool true)), type := 0, pos := "hash.go:87", after := #[{ on := 10, ground := Ground.data }, { on := 9, ground := Ground.data }, { on := 9, ground := Ground.chain }, { on := 0, ground := Ground.phase }, { on := 1, ground := Ground.phase }, { on := 2, ground := Ground.phase }, { on := 3, ground := Ground.phase }, { on := 4, ground := Ground.phase }, { on := 5, ground := Ground.phase }, { on := 6, ground := Ground.phase }, { on := 7, ground := Ground.phase }, { on := 8, ground := Ground.phase }, { on := 9, ground := Ground.phase }], guard := none }]
def qhcalls : List Nat := [9]
def qhord : List Nat := [0, 1, 2, 3, 4, 5, 6, 7, 8, 9, 10, 11]
theorem qhsel : Region.noSelect qhops = true := by kernel_rfl
theorem qhlex : lexH qhops qhcalls qhord (Array.replicate qhops.size false) = true := by kernel_rfl
noncomputable def qhraw : Array Oper := #[{ dst := some 53, op := Op.fieldAddr 27 (Operand.tmp 3) 2, type := 0, pos := "hash.go:87", after := #[], guard := none },
  { dst := some 54, op := Op.load 25 (Operand.tmp 53), type := 25, pos := "hash.go:87", after := #[{ on := 0, ground := Ground.data }], guard := none },
  { dst := some 55, op := Op.move (Operand.tmp 6), type := 3, pos := "hash.go:87", after := #[], guard := none },
  { dst := some 56, op := Op.fieldAddr 27 (Operand.tmp 3) 2, type := 0, pos := "hash.go:87", after := #[], guard := none },
  { dst := some 57, op := Op.load 25 (Operand.tmp 56), type := 25, pos := "hash.go:87", after := #[{ on := 3, ground := Ground.data }], guard := none },
  { dst := some 58, op := Op.move (Operand.tmp 6), type := 3, pos := "hash.go:87", after := #[], guard := none },
  { dst := some 59, op := Op.indexAddr 25 (Operand.tmp 57) (Operand.tmp 58), type := 0, pos := "hash.go:87", after := #[{ on := 4, ground := Ground.data }, { on := 5, ground := Ground.data }], guard := none },
  { dst := some 60, op := Op.load 42 (Operand.tmp 59), type := 42, pos := "hash.go:87", after := #[{ on := 6, ground := Ground.data }], guard := none },
  { dst := some 61, op := Op.load 51 (Operand.tmp 5), type := 51, pos := "hash.go:87", after := #[], guard := none },
  { dst := some 62, op := Op.call { callee := Callee.value (Operand.func 30), args := #[Operand.tmp 60, Operand.tmp 61], argTypes := #[42, 51] }, type := 42, pos := "hash.go:87", after := #[{ on := 7, ground := Ground.data }, { on := 8, ground := Ground.data }], guard := none },
  { dst := some 63, op := Op.indexAddr 25 (Operand.tmp 54) (Operand.tmp 55), type := 0, pos := "hash.go:87", after := #[{ on := 1, ground := Ground.data }, { on := 2, ground := Ground.data }, { on := 0, ground := Ground.phase }, { on := 1, ground := Ground.phase }, { on := 2, ground := Ground.phase }, { on := 3, ground := Ground.phase }, { on := 4, ground := Ground.phase }, { on := 5, ground := Ground.phase }, { on := 6, ground := Ground.phase }, { on := 7, ground := Ground.phase }, { on := 8, ground := Ground.phase }, { on := 9, ground := Ground.phase }], guard := none },
  { dst := none, op := Op.store 42 (Operand.tmp 63) (Operand.tmp 62), type := 0, pos := "hash.go:87", after := #[{ on := 10, ground := Ground.data }, { on := 9, ground := Ground.data }, { on := 9, ground := Ground.chain }, { on := 0, ground := Ground.phase }, { on := 1, ground := Ground.phase }, { on := 2, ground := Ground.phase }, { on := 3, ground := Ground.phase }, { on := 4, ground := Ground.phase }, { on := 5, ground := Ground.phase }, { on := 6, ground := Ground.phase }, { on := 7, ground := Ground.phase }, { on := 8, ground := Ground.phase }, { on := 9, ground := Ground.phase }], guard := none }]
theorem qhlast : qhraw[11]? = some { dst := none, op := Op.store 42 (Operand.tmp 63) (Operand.tmp 62), type := 0, pos := "hash.go:87", after := #[{ on := 10, ground := Ground.data }, { on := 9, ground := Ground.data }, { on := 9, ground := Ground.chain }, { on := 0, ground := Ground.phase }, { on := 1, ground := Ground.phase }, { on := 2, ground := Ground.phase }, { on := 3, ground := Ground.phase }, { on := 4, ground := Ground.phase }, { on := 5, ground := Ground.phase }, { on := 6, ground := Ground.phase }, { on := 7, ground := Ground.phase }, { on := 8, ground := Ground.phase }, { on := 9, ground := Ground.phase }], guard := none } := by kernel_rfl
theorem qheq : qhops = qhraw.setIfInBounds 11 (Lex.idle { dst := none, op := Op.store 42 (Operand.tmp 63) (Operand.tmp 62), type := 0, pos := "hash.go:87", after := #[{ on := 10, ground := Ground.data }, { on := 9, ground := Ground.data }, { on := 9, ground := Ground.chain }, { on := 0, ground := Ground.phase }, { on := 1, ground := Ground.phase }, { on := 2, ground := Ground.phase }, { on := 3, ground := Ground.phase }, { on := 4, ground := Ground.phase }, { on := 5, ground := Ground.phase }, { on := 6, ground := Ground.phase }, { on := 7, ground := Ground.phase }, { on := 8, ground := Ground.phase }, { on := 9, ground := Ground.phase }], guard := none }) := by kernel_rfl
theorem qh0 : qhops[0]? = some { dst := some 53, op := Op.fieldAddr 27 (Operand.tmp 3) 2, type := 0, pos := "hash.go:87", after := #[], guard := none } := by kernel_rfl
theorem qh1 : qhops[1]? = some { dst := some 54, op := Op.load 25 (Operand.tmp 53), type := 25, pos := "hash.go:87", after := #[{ on := 0, ground := Ground.data }], guard := none } := by kernel_rfl
theorem qh2 : qhops[2]? = some { dst := some 55, op := Op.move (Operand.tmp 6), type := 3, pos := "hash.go:87", after := #[], guard := none } := by kernel_rfl
theorem qh3 : qhops[3]? = some { dst := some 56, op := Op.fieldAddr 27 (Operand.tmp 3) 2, type := 0, pos := "hash.go:87", after := #[], guard := none } := by kernel_rfl
theorem qh4 : qhops[4]? = some { dst := some 57, op := Op.load 25 (Operand.tmp 56), type := 25, pos := "hash.go:87", after := #[{ on := 3, ground := Ground.data }], guard := none } := by kernel_rfl
theorem qh5 : qhops[5]? = some { dst := some 58, op := Op.move (Operand.tmp 6), type := 3, pos := "hash.go:87", after := #[], guard := none } := by kernel_rfl
theorem qh6 : qhops[6]? = some { dst := some 59, op := Op.indexAddr 25 (Operand.tmp 57) (Operand.tmp 58), type := 0, pos := "hash.go:87", after := #[{ on := 4, ground := Ground.data }, { on := 5, ground := Ground.data }], guard := none } := by kernel_rfl
theorem qh7 : qhops[7]? = some { dst := some 60, op := Op.load 42 (Operand.tmp 59), type := 42, pos := "hash.go:87", after := #[{ on := 6, ground := Ground.data }], guard := none } := by kernel_rfl
theorem qh8 : qhops[8]? = some { dst := some 61, op := Op.load 51 (Operand.tmp 5), type := 51, pos := "hash.go:87", after := #[], guard := none } := by kernel_rfl
theorem qh9 : qhops[9]? = some { dst := some 62, op := Op.call { callee := Callee.value (Operand.func 30), args := #[Operand.tmp 60, Operand.tmp 61], argTypes := #[42, 51] }, type := 42, pos := "hash.go:87", after := #[{ on := 7, ground := Ground.data }, { on := 8, ground := Ground.data }], guard := none } := by kernel_rfl
theorem qh10 : qhops[10]? = some { dst := some 63, op := Op.indexAddr 25 (Operand.tmp 54) (Operand.tmp 55), type := 0, pos := "hash.go:87", after := #[{ on := 1, ground := Ground.data }, { on := 2, ground := Ground.data }, { on := 0, ground := Ground.phase }, { on := 1, ground := Ground.phase }, { on := 2, ground := Ground.phase }, { on := 3, ground := Ground.phase }, { on := 4, ground := Ground.phase }, { on := 5, ground := Ground.phase }, { on := 6, ground := Ground.phase }, { on := 7, ground := Ground.phase }, { on := 8, ground := Ground.phase }, { on := 9, ground := Ground.phase }], guard := none } := by kernel_rfl
theorem qh11 : qhops[11]? = some { dst := none, op := Op.assign (Operand.const (Value.bool true)), type := 0, pos := "hash.go:87", after := #[{ on := 10, ground := Ground.data }, { on := 9, ground := Ground.data }, { on := 9, ground := Ground.chain }, { on := 0, ground := Ground.phase }, { on := 1, ground := Ground.phase }, { on := 2, ground := Ground.phase }, { on := 3, ground := Ground.phase }, { on := 4, ground := Ground.phase }, { on := 5, ground := Ground.phase }, { on := 6, ground := Ground.phase }, { on := 7, ground := Ground.phase }, { on := 8, ground := Ground.phase }, { on := 9, ground := Ground.phase }], guard := none } := by kernel_rfl
end Go.Proofs.Ytocmkjccaajnnaa.Ha

/- The operations of drawn regions, each by its number; the trees of their orders. -/
namespace Go.Proofs.Ytocmkjccaajnnaa.Ha
open Lex

noncomputable def qeops : Array Oper := #[{ dst := some 19, op := Op.load 27 (Operand.tmp 3), type := 27, pos := "hash.go:106", after := #[], guard := none },
  { dst := some 20, op := Op.move (Operand.tmp 7), type := 3, pos := "hash.go:106", after := #[], guard := none },
  { dst := some 21, op := Op.fieldAddr 27 (Operand.tmp 3) 2, type := 0, pos := "hash.go:106", after := #[], guard := none },
  { dst := some 22, op := Op.load 25 (Operand.tmp 21), type := 25, pos := "hash.go:106", after := #[{ on := 2, ground := Ground.data }], guard := none },
  { dst := some 23, op := Op.move (Operand.tmp 7), type := 3, pos := "hash.go:106", after := #[], guard := none },
  { dst := some 24, op := Op.indexAddr 25 (Operand.tmp 22) (Operand.tmp 23), type := 0, pos := "hash.go:106", after := #[{ on := 3, ground := Ground.data }, { on := 4, ground := Ground.data }], guard := none },
  { dst := some 25, op := Op.load 42 (Operand.tmp 24), type := 42, pos := "hash.go:106", after := #[{ on := 5, ground := Ground.data }], guard := none },
  { dst := some 26, op := Op.move (Operand.tmp 1), type := 9, pos := "hash.go:106", after := #[], guard := none },
  { dst := some 27, op := Op.load 30 (Operand.tmp 5), type := 30, pos := "hash.go:106", after := #[], guard := none },
  { dst := some 28, op := Op.build 51 #[(0, Operand.tmp 26), (1, Operand.tmp 27)], type := 51, pos := "hash.go:106", after := #[{ on := 7, ground := Ground.data }, { on := 8, ground := Ground.data }], guard := none },
  { dst := some 29, op := Op.call { callee := Callee.value (Operand.func 30), args := #[Operand.tmp 25, Operand.tmp 28], argTypes := #[42, 51] }, type := 42, pos := "hash.go:106", after := #[{ on := 6, ground := Ground.data }, { on := 9, ground := Ground.data }], guard := none },
  { dst := some 30, op := Op.call { callee := Callee.value (Operand.func 29), args := #[Operand.tmp 19, Operand.tmp 20, Operand.tmp 29], argTypes := #[27, 3, 42] }, type := 27, pos := "hash.go:106", after := #[{ on := 0, ground := Ground.data }, { on := 1, ground := Ground.data }, { on := 10, ground := Ground.data }, { on := 10, ground := Ground.chain }], guard := none },
  { dst := some 8, op := Op.alloc 27, type := 0, pos := "hash.go:106", after := #[], guard := none },
  { dst := none, op := Op.store 27 (Operand.tmp 8) (Operand.tmp 30), type := 0, pos := "hash.go:106", after := #[{ on := 12, ground := Ground.data }, { on := 11, ground := Ground.data }, { on := 11, ground := Ground.chain }, { on := 0, ground := Ground.phase }, { on := 1, ground := Ground.phase }, { on := 2, ground := Ground.phase }, { on := 3, ground := Ground.phase }, { on := 4, ground := Ground.phase }, { on := 5, ground := Ground.phase }, { on := 6, ground := Ground.phase }, { on := 7, ground := Ground.phase }, { on := 8, ground := Ground.phase }, { on := 9, ground := Ground.phase }, { on := 10, ground := Ground.phase }, { on := 11, ground := Ground.phase }, { on := 12, ground := Ground.phase }], guard := none }]
def qetree : Tr := (.op 0 (.op 1 (.op 2 (.op 3 (.op 4 (.op 5 (.op 6 (.op 7 (.op 8 (.op 9 (.alt 10 (.alt 11 (.alt 12 (.alt 13 .fin .fin) .fin) (.alt 12 (.alt 11 (.alt 13 .fin .fin) .fin) .fin)) (.alt 12 (.alt 10 (.alt 11 (.alt 13 .fin .fin) .fin) .fin) .fin))))))))))))
theorem qesel : Region.noSelect qeops = true := by kernel_rfl
theorem qelex : lexT qeops qeops.size [] qetree (Array.replicate qeops.size false) = true := by kernel_rfl
theorem qe0 : qeops[0]? = some { dst := some 19, op := Op.load 27 (Operand.tmp 3), type := 27, pos := "hash.go:106", after := #[], guard := none } := by kernel_rfl
theorem qe1 : qeops[1]? = some { dst := some 20, op := Op.move (Operand.tmp 7), type := 3, pos := "hash.go:106", after := #[], guard := none } := by kernel_rfl
theorem qe2 : qeops[2]? = some { dst := some 21, op := Op.fieldAddr 27 (Operand.tmp 3) 2, type := 0, pos := "hash.go:106", after := #[], guard := none } := by kernel_rfl
theorem qe3 : qeops[3]? = some { dst := some 22, op := Op.load 25 (Operand.tmp 21), type := 25, pos := "hash.go:106", after := #[{ on := 2, ground := Ground.data }], guard := none } := by kernel_rfl
theorem qe4 : qeops[4]? = some { dst := some 23, op := Op.move (Operand.tmp 7), type := 3, pos := "hash.go:106", after := #[], guard := none } := by kernel_rfl
theorem qe5 : qeops[5]? = some { dst := some 24, op := Op.indexAddr 25 (Operand.tmp 22) (Operand.tmp 23), type := 0, pos := "hash.go:106", after := #[{ on := 3, ground := Ground.data }, { on := 4, ground := Ground.data }], guard := none } := by kernel_rfl
theorem qe6 : qeops[6]? = some { dst := some 25, op := Op.load 42 (Operand.tmp 24), type := 42, pos := "hash.go:106", after := #[{ on := 5, ground := Ground.data }], guard := none } := by kernel_rfl
theorem qe7 : qeops[7]? = some { dst := some 26, op := Op.move (Operand.tmp 1), type := 9, pos := "hash.go:106", after := #[], guard := none } := by kernel_rfl
theorem qe8 : qeops[8]? = some { dst := some 27, op := Op.load 30 (Operand.tmp 5), type := 30, pos := "hash.go:106", after := #[], guard := none } := by kernel_rfl
theorem qe9 : qeops[9]? = some { dst := some 28, op := Op.build 51 #[(0, Operand.tmp 26), (1, Operand.tmp 27)], type := 51, pos := "hash.go:106", after := #[{ on := 7, ground := Ground.data }, { on := 8, ground := Ground.data }], guard := none } := by kernel_rfl
theorem qe10 : qeops[10]? = some { dst := some 29, op := Op.call { callee := Callee.value (Operand.func 30), args := #[Operand.tmp 25, Operand.tmp 28], argTypes := #[42, 51] }, type := 42, pos := "hash.go:106", after := #[{ on := 6, ground := Ground.data }, { on := 9, ground := Ground.data }], guard := none } := by kernel_rfl
theorem qe11 : qeops[11]? = some { dst := some 30, op := Op.call { callee := Callee.value (Operand.func 29), args := #[Operand.tmp 19, Operand.tmp 20, Operand.tmp 29], argTypes := #[27, 3, 42] }, type := 27, pos := "hash.go:106", after := #[{ on := 0, ground := Ground.data }, { on := 1, ground := Ground.data }, { on := 10, ground := Ground.data }, { on := 10, ground := Ground.chain }], guard := none } := by kernel_rfl
theorem qe12 : qeops[12]? = some { dst := some 8, op := Op.alloc 27, type := 0, pos := "hash.go:106", after := #[], guard := none } := by kernel_rfl
theorem qe13 : qeops[13]? = some { dst := none, op := Op.store 27 (Operand.tmp 8) (Operand.tmp 30), type := 0, pos := "hash.go:106", after := #[{ on := 12, ground := Ground.data }, { on := 11, ground := Ground.data }, { on := 11, ground := Ground.chain }, { on := 0, ground := Ground.phase }, { on := 1, ground := Ground.phase }, { on := 2, ground := Ground.phase }, { on := 3, ground := Ground.phase }, { on := 4, ground := Ground.phase }, { on := 5, ground := Ground.phase }, { on := 6, ground := Ground.phase }, { on := 7, ground := Ground.phase }, { on := 8, ground := Ground.phase }, { on := 9, ground := Ground.phase }, { on := 10, ground := Ground.phase }, { on := 11, ground := Ground.phase }, { on := 12, ground := Ground.phase }], guard := none } := by kernel_rfl
end Go.Proofs.Ytocmkjccaajnnaa.Ha

/- The operations of a condition, each by its number. -/
namespace Go.Proofs.Ytocmkjccaajnnaa.Ha
open Lex

noncomputable def qbops : Array Oper := #[{ dst := some 5, op := Op.fieldAddr 27 (Operand.tmp 1) 0, type := 0, pos := "hash.go:57", after := #[], guard := none },
  { dst := some 6, op := Op.load 3 (Operand.tmp 5), type := 3, pos := "hash.go:57", after := #[{ on := 0, ground := Ground.data }], guard := none },
  { dst := some 7, op := Op.fieldAddr 27 (Operand.tmp 1) 1, type := 0, pos := "hash.go:57", after := #[], guard := none },
  { dst := some 8, op := Op.load 3 (Operand.tmp 7), type := 3, pos := "hash.go:57", after := #[{ on := 2, ground := Ground.data }], guard := none },
  { dst := some 9, op := Op.fieldAddr 51 (Operand.tmp 3) 0, type := 0, pos := "hash.go:57", after := #[], guard := none },
  { dst := some 10, op := Op.load 9 (Operand.tmp 9), type := 9, pos := "hash.go:57", after := #[{ on := 4, ground := Ground.data }], guard := none },
  { dst := some 11, op := Op.call { callee := Callee.value (Operand.func 25), args := #[Operand.tmp 6, Operand.tmp 8, Operand.tmp 10], argTypes := #[3, 3, 9] }, type := 3, pos := "hash.go:57", after := #[{ on := 1, ground := Ground.data }, { on := 3, ground := Ground.data }, { on := 5, ground := Ground.data }], guard := none },
  { dst := some 12, op := Op.load 3 (Operand.tmp 2), type := 3, pos := "hash.go:57", after := #[], guard := none },
  { dst := some 13, op := Op.binOp BinOp.neq 3 (Operand.tmp 11) (Operand.tmp 12) 3, type := 4, pos := "hash.go:57", after := #[{ on := 6, ground := Ground.data }, { on := 7, ground := Ground.data }], guard := none },
  { dst := some 4, op := Op.assign (Operand.tmp 13), type := 4, pos := "hash.go:57", after := #[{ on := 8, ground := Ground.data }, { on := 6, ground := Ground.chain }, { on := 0, ground := Ground.phase }, { on := 1, ground := Ground.phase }, { on := 2, ground := Ground.phase }, { on := 3, ground := Ground.phase }, { on := 4, ground := Ground.phase }, { on := 5, ground := Ground.phase }, { on := 6, ground := Ground.phase }, { on := 7, ground := Ground.phase }, { on := 8, ground := Ground.phase }], guard := none }]
def qbcalls : List Nat := [6]
def qbord : List Nat := [0, 1, 2, 3, 4, 5, 7, 6, 8, 9]
theorem qbsel : Region.noSelect qbops = true := by kernel_rfl
theorem qblex : lexH qbops qbcalls qbord (Array.replicate qbops.size false) = true := by kernel_rfl
theorem qb0 : qbops[0]? = some { dst := some 5, op := Op.fieldAddr 27 (Operand.tmp 1) 0, type := 0, pos := "hash.go:57", after := #[], guard := none } := by kernel_rfl
theorem qb1 : qbops[1]? = some { dst := some 6, op := Op.load 3 (Operand.tmp 5), type := 3, pos := "hash.go:57", after := #[{ on := 0, ground := Ground.data }], guard := none } := by kernel_rfl
theorem qb2 : qbops[2]? = some { dst := some 7, op := Op.fieldAddr 27 (Operand.tmp 1) 1, type := 0, pos := "hash.go:57", after := #[], guard := none } := by kernel_rfl
theorem qb3 : qbops[3]? = some { dst := some 8, op := Op.load 3 (Operand.tmp 7), type := 3, pos := "hash.go:57", after := #[{ on := 2, ground := Ground.data }], guard := none } := by kernel_rfl
theorem qb4 : qbops[4]? = some { dst := some 9, op := Op.fieldAddr 51 (Operand.tmp 3) 0, type := 0, pos := "hash.go:57", after := #[], guard := none } := by kernel_rfl
theorem qb5 : qbops[5]? = some { dst := some 10, op := Op.load 9 (Operand.tmp 9), type := 9, pos := "hash.go:57", after := #[{ on := 4, ground := Ground.data }], guard := none } := by kernel_rfl
theorem qb6 : qbops[6]? = some { dst := some 11, op := Op.call { callee := Callee.value (Operand.func 25), args := #[Operand.tmp 6, Operand.tmp 8, Operand.tmp 10], argTypes := #[3, 3, 9] }, type := 3, pos := "hash.go:57", after := #[{ on := 1, ground := Ground.data }, { on := 3, ground := Ground.data }, { on := 5, ground := Ground.data }], guard := none } := by kernel_rfl
theorem qb7 : qbops[7]? = some { dst := some 12, op := Op.load 3 (Operand.tmp 2), type := 3, pos := "hash.go:57", after := #[], guard := none } := by kernel_rfl
theorem qb8 : qbops[8]? = some { dst := some 13, op := Op.binOp BinOp.neq 3 (Operand.tmp 11) (Operand.tmp 12) 3, type := 4, pos := "hash.go:57", after := #[{ on := 6, ground := Ground.data }, { on := 7, ground := Ground.data }], guard := none } := by kernel_rfl
theorem qb9 : qbops[9]? = some { dst := some 4, op := Op.assign (Operand.tmp 13), type := 4, pos := "hash.go:57", after := #[{ on := 8, ground := Ground.data }, { on := 6, ground := Ground.chain }, { on := 0, ground := Ground.phase }, { on := 1, ground := Ground.phase }, { on := 2, ground := Ground.phase }, { on := 3, ground := Ground.phase }, { on := 4, ground := Ground.phase }, { on := 5, ground := Ground.phase }, { on := 6, ground := Ground.phase }, { on := 7, ground := Ground.phase }, { on := 8, ground := Ground.phase }], guard := none } := by kernel_rfl
end Go.Proofs.Ytocmkjccaajnnaa.Ha

/- The operations of a condition, each by its number. -/
namespace Go.Proofs.Ytocmkjccaajnnaa.Ha
open Lex

noncomputable def hsops : Array Oper := #[{ dst := some 34, op := Op.fieldAddr 27 (Operand.tmp 2) 2, type := 0, pos := "ref.go:106", after := #[], guard := none },
  { dst := some 35, op := Op.load 25 (Operand.tmp 34), type := 25, pos := "ref.go:106", after := #[{ on := 0, ground := Ground.data }], guard := none },
  { dst := some 36, op := Op.move (Operand.tmp 5), type := 3, pos := "ref.go:106", after := #[], guard := none },
  { dst := some 37, op := Op.indexAddr 25 (Operand.tmp 35) (Operand.tmp 36), type := 0, pos := "ref.go:106", after := #[{ on := 1, ground := Ground.data }, { on := 2, ground := Ground.data }], guard := none },
  { dst := some 38, op := Op.load 42 (Operand.tmp 37), type := 42, pos := "ref.go:106", after := #[{ on := 3, ground := Ground.data }], guard := none },
  { dst := some 39, op := Op.fieldAddr 27 (Operand.tmp 3) 2, type := 0, pos := "ref.go:106", after := #[], guard := none },
  { dst := some 40, op := Op.load 25 (Operand.tmp 39), type := 25, pos := "ref.go:106", after := #[{ on := 5, ground := Ground.data }], guard := none },
  { dst := some 41, op := Op.move (Operand.tmp 5), type := 3, pos := "ref.go:106", after := #[], guard := none },
  { dst := some 42, op := Op.indexAddr 25 (Operand.tmp 40) (Operand.tmp 41), type := 0, pos := "ref.go:106", after := #[{ on := 6, ground := Ground.data }, { on := 7, ground := Ground.data }], guard := none },
  { dst := some 43, op := Op.load 42 (Operand.tmp 42), type := 42, pos := "ref.go:106", after := #[{ on := 8, ground := Ground.data }], guard := none },
  { dst := some 44, op := Op.call { callee := Callee.value (Operand.func 38), args := #[Operand.tmp 38, Operand.tmp 43], argTypes := #[42, 42] }, type := 4, pos := "ref.go:106", after := #[{ on := 4, ground := Ground.data }, { on := 9, ground := Ground.data }], guard := none },
  { dst := some 45, op := Op.unOp UnOp.not 4 (Operand.tmp 44), type := 4, pos := "ref.go:106", after := #[{ on := 10, ground := Ground.data }], guard := none }]
def hscalls : List Nat := [10]
def hsord : List Nat := [0, 1, 2, 3, 4, 5, 6, 7, 8, 9, 10, 11]
theorem hssel : Region.noSelect hsops = true := by kernel_rfl
theorem hslex : lexH hsops hscalls hsord (Array.replicate hsops.size false) = true := by kernel_rfl
theorem hs0 : hsops[0]? = some { dst := some 34, op := Op.fieldAddr 27 (Operand.tmp 2) 2, type := 0, pos := "ref.go:106", after := #[], guard := none } := by kernel_rfl
theorem hs1 : hsops[1]? = some { dst := some 35, op := Op.load 25 (Operand.tmp 34), type := 25, pos := "ref.go:106", after := #[{ on := 0, ground := Ground.data }], guard := none } := by kernel_rfl
theorem hs2 : hsops[2]? = some { dst := some 36, op := Op.move (Operand.tmp 5), type := 3, pos := "ref.go:106", after := #[], guard := none } := by kernel_rfl
theorem hs3 : hsops[3]? = some { dst := some 37, op := Op.indexAddr 25 (Operand.tmp 35) (Operand.tmp 36), type := 0, pos := "ref.go:106", after := #[{ on := 1, ground := Ground.data }, { on := 2, ground := Ground.data }], guard := none } := by kernel_rfl
theorem hs4 : hsops[4]? = some { dst := some 38, op := Op.load 42 (Operand.tmp 37), type := 42, pos := "ref.go:106", after := #[{ on := 3, ground := Ground.data }], guard := none } := by kernel_rfl
theorem hs5 : hsops[5]? = some { dst := some 39, op := Op.fieldAddr 27 (Operand.tmp 3) 2, type := 0, pos := "ref.go:106", after := #[], guard := none } := by kernel_rfl
theorem hs6 : hsops[6]? = some { dst := some 40, op := Op.load 25 (Operand.tmp 39), type := 25, pos := "ref.go:106", after := #[{ on := 5, ground := Ground.data }], guard := none } := by kernel_rfl
theorem hs7 : hsops[7]? = some { dst := some 41, op := Op.move (Operand.tmp 5), type := 3, pos := "ref.go:106", after := #[], guard := none } := by kernel_rfl
theorem hs8 : hsops[8]? = some { dst := some 42, op := Op.indexAddr 25 (Operand.tmp 40) (Operand.tmp 41), type := 0, pos := "ref.go:106", after := #[{ on := 6, ground := Ground.data }, { on := 7, ground := Ground.data }], guard := none } := by kernel_rfl
theorem hs9 : hsops[9]? = some { dst := some 43, op := Op.load 42 (Operand.tmp 42), type := 42, pos := "ref.go:106", after := #[{ on := 8, ground := Ground.data }], guard := none } := by kernel_rfl
theorem hs10 : hsops[10]? = some { dst := some 44, op := Op.call { callee := Callee.value (Operand.func 38), args := #[Operand.tmp 38, Operand.tmp 43], argTypes := #[42, 42] }, type := 4, pos := "ref.go:106", after := #[{ on := 4, ground := Ground.data }, { on := 9, ground := Ground.data }], guard := none } := by kernel_rfl
theorem hs11 : hsops[11]? = some { dst := some 45, op := Op.unOp UnOp.not 4 (Operand.tmp 44), type := 4, pos := "ref.go:106", after := #[{ on := 10, ground := Ground.data }], guard := none } := by kernel_rfl
noncomputable def hgops : Array Oper := #[{ dst := some 6, op := Op.fieldAddr 27 (Operand.tmp 2) 2, type := 0, pos := "ref.go:52", after := #[], guard := none },
  { dst := some 7, op := Op.load 25 (Operand.tmp 6), type := 25, pos := "ref.go:52", after := #[{ on := 0, ground := Ground.data }], guard := none },
  { dst := some 8, op := Op.fieldAddr 27 (Operand.tmp 2) 0, type := 0, pos := "ref.go:52", after := #[], guard := none },
  { dst := some 9, op := Op.load 3 (Operand.tmp 8), type := 3, pos := "ref.go:52", after := #[{ on := 2, ground := Ground.data }], guard := none },
  { dst := some 10, op := Op.fieldAddr 27 (Operand.tmp 2) 1, type := 0, pos := "ref.go:52", after := #[], guard := none },
  { dst := some 11, op := Op.load 3 (Operand.tmp 10), type := 3, pos := "ref.go:52", after := #[{ on := 4, ground := Ground.data }], guard := none },
  { dst := some 12, op := Op.move (Operand.tmp 1), type := 9, pos := "ref.go:52", after := #[], guard := none },
  { dst := some 13, op := Op.call { callee := Callee.value (Operand.func 26), args := #[Operand.tmp 9, Operand.tmp 11, Operand.tmp 12], argTypes := #[3, 3, 9] }, type := 3, pos := "ref.go:52", after := #[{ on := 3, ground := Ground.data }, { on := 5, ground := Ground.data }, { on := 6, ground := Ground.data }], guard := none },
  { dst := some 14, op := Op.indexAddr 25 (Operand.tmp 7) (Operand.tmp 13), type := 0, pos := "ref.go:52", after := #[{ on := 1, ground := Ground.data }, { on := 7, ground := Ground.data }], guard := none },
  { dst := some 15, op := Op.load 42 (Operand.tmp 14), type := 42, pos := "ref.go:52", after := #[{ on := 8, ground := Ground.data }], guard := none },
  { dst := some 16, op := Op.move (Operand.tmp 1), type := 9, pos := "ref.go:52", after := #[], guard := none },
  { dst := some 17, op := Op.call { callee := Callee.value (Operand.func 37), args := #[Operand.tmp 15, Operand.tmp 16], argTypes := #[42, 9] }, type := 36, pos := "ref.go:52", after := #[{ on := 9, ground := Ground.data }, { on := 10, ground := Ground.data }, { on := 7, ground := Ground.chain }], guard := none },
  { dst := some 18, op := Op.extract (Operand.tmp 17) 0, type := 30, pos := "ref.go:52", after := #[{ on := 11, ground := Ground.data }], guard := none },
  { dst := some 19, op := Op.extract (Operand.tmp 17) 1, type := 4, pos := "ref.go:52", after := #[{ on := 11, ground := Ground.data }], guard := none },
  { dst := none, op := Op.store 30 (Operand.tmp 4) (Operand.tmp 18), type := 0, pos := "ref.go:52", after := #[{ on := 12, ground := Ground.data }, { on := 11, ground := Ground.chain }, { on := 0, ground := Ground.phase }, { on := 1, ground := Ground.phase }, { on := 2, ground := Ground.phase }, { on := 3, ground := Ground.phase }, { on := 4, ground := Ground.phase }, { on := 5, ground := Ground.phase }, { on := 6, ground := Ground.phase }, { on := 7, ground := Ground.phase }, { on := 8, ground := Ground.phase }, { on := 9, ground := Ground.phase }, { on := 10, ground := Ground.phase }, { on := 11, ground := Ground.phase }, { on := 12, ground := Ground.phase }, { on := 13, ground := Ground.phase }], guard := none },
  { dst := some 5, op := Op.assign (Operand.tmp 19), type := 4, pos := "ref.go:52", after := #[{ on := 13, ground := Ground.data }, { on := 14, ground := Ground.chain }, { on := 0, ground := Ground.phase }, { on := 1, ground := Ground.phase }, { on := 2, ground := Ground.phase }, { on := 3, ground := Ground.phase }, { on := 4, ground := Ground.phase }, { on := 5, ground := Ground.phase }, { on := 6, ground := Ground.phase }, { on := 7, ground := Ground.phase }, { on := 8, ground := Ground.phase }, { on := 9, ground := Ground.phase }, { on := 10, ground := Ground.phase }, { on := 11, ground := Ground.phase }, { on := 12, ground := Ground.phase }, { on := 13, ground := Ground.phase }, { on := 14, ground := Ground.phase }], guard := none }]
def hgcalls : List Nat := [7, 11, 14]
def hgord : List Nat := [0, 1, 2, 3, 4, 5, 6, 10, 7, 8, 9, 11, 12, 13, 14, 15]
theorem hgsel : Region.noSelect hgops = true := by kernel_rfl
theorem hglex : lexH hgops hgcalls hgord (Array.replicate hgops.size false) = true := by kernel_rfl
theorem hg0 : hgops[0]? = some { dst := some 6, op := Op.fieldAddr 27 (Operand.tmp 2) 2, type := 0, pos := "ref.go:52", after := #[], guard := none } := by kernel_rfl
theorem hg1 : hgops[1]? = some { dst := some 7, op := Op.load 25 (Operand.tmp 6), type := 25, pos := "ref.go:52", after := #[{ on := 0, ground := Ground.data }], guard := none } := by kernel_rfl
theorem hg2 : hgops[2]? = some { dst := some 8, op := Op.fieldAddr 27 (Operand.tmp 2) 0, type := 0, pos := "ref.go:52", after := #[], guard := none } := by kernel_rfl
theorem hg3 : hgops[3]? = some { dst := some 9, op := Op.load 3 (Operand.tmp 8), type := 3, pos := "ref.go:52", after := #[{ on := 2, ground := Ground.data }], guard := none } := by kernel_rfl
theorem hg4 : hgops[4]? = some { dst := some 10, op := Op.fieldAddr 27 (Operand.tmp 2) 1, type := 0, pos := "ref.go:52", after := #[], guard := none } := by kernel_rfl
theorem hg5 : hgops[5]? = some { dst := some 11, op := Op.load 3 (Operand.tmp 10), type := 3, pos := "ref.go:52", after := #[{ on := 4, ground := Ground.data }], guard := none } := by kernel_rfl
theorem hg6 : hgops[6]? = some { dst := some 12, op := Op.move (Operand.tmp 1), type := 9, pos := "ref.go:52", after := #[], guard := none } := by kernel_rfl
theorem hg7 : hgops[7]? = some { dst := some 13, op := Op.call { callee := Callee.value (Operand.func 26), args := #[Operand.tmp 9, Operand.tmp 11, Operand.tmp 12], argTypes := #[3, 3, 9] }, type := 3, pos := "ref.go:52", after := #[{ on := 3, ground := Ground.data }, { on := 5, ground := Ground.data }, { on := 6, ground := Ground.data }], guard := none } := by kernel_rfl
theorem hg8 : hgops[8]? = some { dst := some 14, op := Op.indexAddr 25 (Operand.tmp 7) (Operand.tmp 13), type := 0, pos := "ref.go:52", after := #[{ on := 1, ground := Ground.data }, { on := 7, ground := Ground.data }], guard := none } := by kernel_rfl
theorem hg9 : hgops[9]? = some { dst := some 15, op := Op.load 42 (Operand.tmp 14), type := 42, pos := "ref.go:52", after := #[{ on := 8, ground := Ground.data }], guard := none } := by kernel_rfl
theorem hg10 : hgops[10]? = some { dst := some 16, op := Op.move (Operand.tmp 1), type := 9, pos := "ref.go:52", after := #[], guard := none } := by kernel_rfl
theorem hg11 : hgops[11]? = some { dst := some 17, op := Op.call { callee := Callee.value (Operand.func 37), args := #[Operand.tmp 15, Operand.tmp 16], argTypes := #[42, 9] }, type := 36, pos := "ref.go:52", after := #[{ on := 9, ground := Ground.data }, { on := 10, ground := Ground.data }, { on := 7, ground := Ground.chain }], guard := none } := by kernel_rfl
theorem hg12 : hgops[12]? = some { dst := some 18, op := Op.extract (Operand.tmp 17) 0, type := 30, pos := "ref.go:52", after := #[{ on := 11, ground := Ground.data }], guard := none } := by kernel_rfl
theorem hg13 : hgops[13]? = some { dst := some 19, op := Op.extract (Operand.tmp 17) 1, type := 4, pos := "ref.go:52", after := #[{ on := 11, ground := Ground.data }], guard := none } := by kernel_rfl
theorem hg14 : hgops[14]? = some { dst := none, op := Op.store 30 (Operand.tmp 4) (Operand.tmp 18), type := 0, pos := "ref.go:52", after := #[{ on := 12, ground := Ground.data }, { on := 11, ground := Ground.chain }, { on := 0, ground := Ground.phase }, { on := 1, ground := Ground.phase }, { on := 2, ground := Ground.phase }, { on := 3, ground := Ground.phase }, { on := 4, ground := Ground.phase }, { on := 5, ground := Ground.phase }, { on := 6, ground := Ground.phase }, { on := 7, ground := Ground.phase }, { on := 8, ground := Ground.phase }, { on := 9, ground := Ground.phase }, { on := 10, ground := Ground.phase }, { on := 11, ground := Ground.phase }, { on := 12, ground := Ground.phase }, { on := 13, ground := Ground.phase }], guard := none } := by kernel_rfl
theorem hg15 : hgops[15]? = some { dst := some 5, op := Op.assign (Operand.tmp 19), type := 4, pos := "ref.go:52", after := #[{ on := 13, ground := Ground.data }, { on := 14, ground := Ground.chain }, { on := 0, ground := Ground.phase }, { on := 1, ground := Ground.phase }, { on := 2, ground := Ground.phase }, { on := 3, ground := Ground.phase }, { on := 4, ground := Ground.phase }, { on := 5, ground := Ground.phase }, { on := 6, ground := Ground.phase }, { on := 7, ground := Ground.phase }, { on := 8, ground := Ground.phase }, { on := 9, ground := Ground.phase }, { on := 10, ground := Ground.phase }, { on := 11, ground := Ground.phase }, { on := 12, ground := Ground.phase }, { on := 13, ground := Ground.phase }, { on := 14, ground := Ground.phase }], guard := none } := by kernel_rfl
noncomputable def hrops : Array Oper := #[{ dst := some 64, op := Op.fieldAddr 27 (Operand.tmp 1) 0, type := 0, pos := "ref.go:33", after := #[], guard := none },
  { dst := some 65, op := Op.load 3 (Operand.tmp 64), type := 3, pos := "ref.go:33", after := #[{ on := 0, ground := Ground.data }], guard := none },
  { dst := some 66, op := Op.fieldAddr 27 (Operand.tmp 1) 1, type := 0, pos := "ref.go:33", after := #[], guard := none },
  { dst := some 67, op := Op.load 3 (Operand.tmp 66), type := 3, pos := "ref.go:33", after := #[{ on := 2, ground := Ground.data }], guard := none },
  { dst := some 68, op := Op.fieldAddr 27 (Operand.tmp 1) 2, type := 0, pos := "ref.go:33", after := #[], guard := none },
  { dst := some 69, op := Op.load 25 (Operand.tmp 68), type := 25, pos := "ref.go:33", after := #[{ on := 4, ground := Ground.data }], guard := none },
  { dst := some 70, op := Op.move (Operand.tmp 3), type := 3, pos := "ref.go:33", after := #[], guard := none },
  { dst := some 71, op := Op.indexAddr 25 (Operand.tmp 69) (Operand.tmp 70), type := 0, pos := "ref.go:33", after := #[{ on := 5, ground := Ground.data }, { on := 6, ground := Ground.data }], guard := none },
  { dst := some 72, op := Op.load 42 (Operand.tmp 71), type := 42, pos := "ref.go:33", after := #[{ on := 7, ground := Ground.data }], guard := none },
  { dst := some 73, op := Op.move (Operand.tmp 4), type := 3, pos := "ref.go:33", after := #[], guard := none },
  { dst := some 74, op := Op.indexAddr 42 (Operand.tmp 72) (Operand.tmp 73), type := 0, pos := "ref.go:33", after := #[{ on := 8, ground := Ground.data }, { on := 9, ground := Ground.data }], guard := none },
  { dst := some 75, op := Op.fieldAddr 51 (Operand.tmp 74) 0, type := 0, pos := "ref.go:33", after := #[{ on := 10, ground := Ground.data }], guard := none },
  { dst := some 76, op := Op.load 9 (Operand.tmp 75), type := 9, pos := "ref.go:33", after := #[{ on := 11, ground := Ground.data }], guard := none },
  { dst := some 77, op := Op.call { callee := Callee.value (Operand.func 26), args := #[Operand.tmp 65, Operand.tmp 67, Operand.tmp 76], argTypes := #[3, 3, 9] }, type := 3, pos := "ref.go:33", after := #[{ on := 1, ground := Ground.data }, { on := 3, ground := Ground.data }, { on := 12, ground := Ground.data }], guard := none },
  { dst := some 78, op := Op.move (Operand.tmp 3), type := 3, pos := "ref.go:33", after := #[], guard := none },
  { dst := some 79, op := Op.binOp BinOp.neq 3 (Operand.tmp 77) (Operand.tmp 78) 3, type := 4, pos := "ref.go:33", after := #[{ on := 13, ground := Ground.data }, { on := 14, ground := Ground.data }], guard := none }]
def hrcalls : List Nat := [13]
def hrord : List Nat := [0, 1, 2, 3, 4, 5, 6, 7, 8, 9, 10, 11, 12, 14, 13, 15]
theorem hrsel : Region.noSelect hrops = true := by kernel_rfl
theorem hrlex : lexH hrops hrcalls hrord (Array.replicate hrops.size false) = true := by kernel_rfl
theorem hr0 : hrops[0]? = some { dst := some 64, op := Op.fieldAddr 27 (Operand.tmp 1) 0, type := 0, pos := "ref.go:33", after := #[], guard := none } := by kernel_rfl
theorem hr1 : hrops[1]? = some { dst := some 65, op := Op.load 3 (Operand.tmp 64), type := 3, pos := "ref.go:33", after := #[{ on := 0, ground := Ground.data }], guard := none } := by kernel_rfl
theorem hr2 : hrops[2]? = some { dst := some 66, op := Op.fieldAddr 27 (Operand.tmp 1) 1, type := 0, pos := "ref.go:33", after := #[], guard := none } := by kernel_rfl
theorem hr3 : hrops[3]? = some { dst := some 67, op := Op.load 3 (Operand.tmp 66), type := 3, pos := "ref.go:33", after := #[{ on := 2, ground := Ground.data }], guard := none } := by kernel_rfl
theorem hr4 : hrops[4]? = some { dst := some 68, op := Op.fieldAddr 27 (Operand.tmp 1) 2, type := 0, pos := "ref.go:33", after := #[], guard := none } := by kernel_rfl
theorem hr5 : hrops[5]? = some { dst := some 69, op := Op.load 25 (Operand.tmp 68), type := 25, pos := "ref.go:33", after := #[{ on := 4, ground := Ground.data }], guard := none } := by kernel_rfl
theorem hr6 : hrops[6]? = some { dst := some 70, op := Op.move (Operand.tmp 3), type := 3, pos := "ref.go:33", after := #[], guard := none } := by kernel_rfl
theorem hr7 : hrops[7]? = some { dst := some 71, op := Op.indexAddr 25 (Operand.tmp 69) (Operand.tmp 70), type := 0, pos := "ref.go:33", after := #[{ on := 5, ground := Ground.data }, { on := 6, ground := Ground.data }], guard := none } := by kernel_rfl
theorem hr8 : hrops[8]? = some { dst := some 72, op := Op.load 42 (Operand.tmp 71), type := 42, pos := "ref.go:33", after := #[{ on := 7, ground := Ground.data }], guard := none } := by kernel_rfl
theorem hr9 : hrops[9]? = some { dst := some 73, op := Op.move (Operand.tmp 4), type := 3, pos := "ref.go:33", after := #[], guard := none } := by kernel_rfl
theorem hr10 : hrops[10]? = some { dst := some 74, op := Op.indexAddr 42 (Operand.tmp 72) (Operand.tmp 73), type := 0, pos := "ref.go:33", after := #[{ on := 8, ground := Ground.data }, { on := 9, ground := Ground.data }], guard := none } := by kernel_rfl
theorem hr11 : hrops[11]? = some { dst := some 75, op := Op.fieldAddr 51 (Operand.tmp 74) 0, type := 0, pos := "ref.go:33", after := #[{ on := 10, ground := Ground.data }], guard := none } := by kernel_rfl
theorem hr12 : hrops[12]? = some { dst := some 76, op := Op.load 9 (Operand.tmp 75), type := 9, pos := "ref.go:33", after := #[{ on := 11, ground := Ground.data }], guard := none } := by kernel_rfl
theorem hr13 : hrops[13]? = some { dst := some 77, op := Op.call { callee := Callee.value (Operand.func 26), args := #[Operand.tmp 65, Operand.tmp 67, Operand.tmp 76], argTypes := #[3, 3, 9] }, type := 3, pos := "ref.go:33", after := #[{ on := 1, ground := Ground.data }, { on := 3, ground := Ground.data }, { on := 12, ground := Ground.data }], guard := none } := by kernel_rfl
theorem hr14 : hrops[14]? = some { dst := some 78, op := Op.move (Operand.tmp 3), type := 3, pos := "ref.go:33", after := #[], guard := none } := by kernel_rfl
theorem hr15 : hrops[15]? = some { dst := some 79, op := Op.binOp BinOp.neq 3 (Operand.tmp 77) (Operand.tmp 78) 3, type := 4, pos := "ref.go:33", after := #[{ on := 13, ground := Ground.data }, { on := 14, ground := Ground.data }], guard := none } := by kernel_rfl
noncomputable def hkops : Array Oper := #[{ dst := some 49, op := Op.fieldAddr 27 (Operand.tmp 1) 0, type := 0, pos := "ref.go:75", after := #[], guard := none },
  { dst := some 50, op := Op.load 3 (Operand.tmp 49), type := 3, pos := "ref.go:75", after := #[{ on := 0, ground := Ground.data }], guard := none },
  { dst := some 51, op := Op.fieldAddr 27 (Operand.tmp 1) 1, type := 0, pos := "ref.go:75", after := #[], guard := none },
  { dst := some 52, op := Op.load 3 (Operand.tmp 51), type := 3, pos := "ref.go:75", after := #[{ on := 2, ground := Ground.data }], guard := none },
  { dst := some 53, op := Op.move (Operand.tmp 3), type := 42, pos := "ref.go:75", after := #[], guard := none },
  { dst := some 54, op := Op.move (Operand.tmp 7), type := 3, pos := "ref.go:75", after := #[], guard := none },
  { dst := some 55, op := Op.indexAddr 42 (Operand.tmp 53) (Operand.tmp 54), type := 0, pos := "ref.go:75", after := #[{ on := 4, ground := Ground.data }, { on := 5, ground := Ground.data }], guard := none },
  { dst := some 56, op := Op.fieldAddr 51 (Operand.tmp 55) 0, type := 0, pos := "ref.go:75", after := #[{ on := 6, ground := Ground.data }], guard := none },
  { dst := some 57, op := Op.load 9 (Operand.tmp 56), type := 9, pos := "ref.go:75", after := #[{ on := 7, ground := Ground.data }], guard := none },
  { dst := some 58, op := Op.call { callee := Callee.value (Operand.func 26), args := #[Operand.tmp 50, Operand.tmp 52, Operand.tmp 57], argTypes := #[3, 3, 9] }, type := 3, pos := "ref.go:75", after := #[{ on := 1, ground := Ground.data }, { on := 3, ground := Ground.data }, { on := 8, ground := Ground.data }], guard := none },
  { dst := some 59, op := Op.move (Operand.tmp 4), type := 3, pos := "ref.go:75", after := #[], guard := none },
  { dst := some 60, op := Op.binOp BinOp.eql 3 (Operand.tmp 58) (Operand.tmp 59) 3, type := 4, pos := "ref.go:75", after := #[{ on := 9, ground := Ground.data }, { on := 10, ground := Ground.data }], guard := none }]
def hkcalls : List Nat := [9]
def hkord : List Nat := [0, 1, 2, 3, 4, 5, 6, 7, 8, 10, 9, 11]
theorem hksel : Region.noSelect hkops = true := by kernel_rfl
theorem hklex : lexH hkops hkcalls hkord (Array.replicate hkops.size false) = true := by kernel_rfl
theorem hk0 : hkops[0]? = some { dst := some 49, op := Op.fieldAddr 27 (Operand.tmp 1) 0, type := 0, pos := "ref.go:75", after := #[], guard := none } := by kernel_rfl
theorem hk1 : hkops[1]? = some { dst := some 50, op := Op.load 3 (Operand.tmp 49), type := 3, pos := "ref.go:75", after := #[{ on := 0, ground := Ground.data }], guard := none } := by kernel_rfl
theorem hk2 : hkops[2]? = some { dst := some 51, op := Op.fieldAddr 27 (Operand.tmp 1) 1, type := 0, pos := "ref.go:75", after := #[], guard := none } := by kernel_rfl
theorem hk3 : hkops[3]? = some { dst := some 52, op := Op.load 3 (Operand.tmp 51), type := 3, pos := "ref.go:75", after := #[{ on := 2, ground := Ground.data }], guard := none } := by kernel_rfl
theorem hk4 : hkops[4]? = some { dst := some 53, op := Op.move (Operand.tmp 3), type := 42, pos := "ref.go:75", after := #[], guard := none } := by kernel_rfl
theorem hk5 : hkops[5]? = some { dst := some 54, op := Op.move (Operand.tmp 7), type := 3, pos := "ref.go:75", after := #[], guard := none } := by kernel_rfl
theorem hk6 : hkops[6]? = some { dst := some 55, op := Op.indexAddr 42 (Operand.tmp 53) (Operand.tmp 54), type := 0, pos := "ref.go:75", after := #[{ on := 4, ground := Ground.data }, { on := 5, ground := Ground.data }], guard := none } := by kernel_rfl
theorem hk7 : hkops[7]? = some { dst := some 56, op := Op.fieldAddr 51 (Operand.tmp 55) 0, type := 0, pos := "ref.go:75", after := #[{ on := 6, ground := Ground.data }], guard := none } := by kernel_rfl
theorem hk8 : hkops[8]? = some { dst := some 57, op := Op.load 9 (Operand.tmp 56), type := 9, pos := "ref.go:75", after := #[{ on := 7, ground := Ground.data }], guard := none } := by kernel_rfl
theorem hk9 : hkops[9]? = some { dst := some 58, op := Op.call { callee := Callee.value (Operand.func 26), args := #[Operand.tmp 50, Operand.tmp 52, Operand.tmp 57], argTypes := #[3, 3, 9] }, type := 3, pos := "ref.go:75", after := #[{ on := 1, ground := Ground.data }, { on := 3, ground := Ground.data }, { on := 8, ground := Ground.data }], guard := none } := by kernel_rfl
theorem hk10 : hkops[10]? = some { dst := some 59, op := Op.move (Operand.tmp 4), type := 3, pos := "ref.go:75", after := #[], guard := none } := by kernel_rfl
theorem hk11 : hkops[11]? = some { dst := some 60, op := Op.binOp BinOp.eql 3 (Operand.tmp 58) (Operand.tmp 59) 3, type := 4, pos := "ref.go:75", after := #[{ on := 9, ground := Ground.data }, { on := 10, ground := Ground.data }], guard := none } := by kernel_rfl
noncomputable def hhops : Array Oper := #[{ dst := some 75, op := Op.load 27 (Operand.tmp 1), type := 27, pos := "ref.go:81", after := #[], guard := none },
  { dst := some 76, op := Op.move (Operand.tmp 4), type := 3, pos := "ref.go:81", after := #[], guard := none },
  { dst := some 77, op := Op.move (Operand.tmp 5), type := 42, pos := "ref.go:81", after := #[], guard := none },
  { dst := some 78, op := Op.call { callee := Callee.value (Operand.func 31), args := #[Operand.tmp 75, Operand.tmp 76, Operand.tmp 77], argTypes := #[27, 3, 42] }, type := 27, pos := "ref.go:81", after := #[{ on := 0, ground := Ground.data }, { on := 1, ground := Ground.data }, { on := 2, ground := Ground.data }], guard := none },
  { dst := some 79, op := Op.fieldAddr 27 (Operand.tmp 1) 2, type := 0, pos := "ref.go:81", after := #[], guard := none },
  { dst := some 80, op := Op.load 25 (Operand.tmp 79), type := 25, pos := "ref.go:81", after := #[{ on := 4, ground := Ground.data }], guard := none },
  { dst := some 81, op := Op.call { callee := Callee.builtin Builtin.len, args := #[Operand.tmp 80], argTypes := #[25] }, type := 3, pos := "ref.go:81", after := #[{ on := 5, ground := Ground.data }], guard := none },
  { dst := some 82, op := Op.binOp BinOp.sub 3 (Operand.tmp 81) (Operand.const (Value.int IntKind.i64 1)) 3, type := 3, pos := "ref.go:81", after := #[{ on := 6, ground := Ground.data }], guard := none },
  { dst := some 83, op := Op.move (Operand.tmp 6), type := 42, pos := "ref.go:81", after := #[], guard := none },
  { dst := some 84, op := Op.call { callee := Callee.value (Operand.func 31), args := #[Operand.tmp 78, Operand.tmp 82, Operand.tmp 83], argTypes := #[27, 3, 42] }, type := 27, pos := "ref.go:81", after := #[{ on := 3, ground := Ground.data }, { on := 7, ground := Ground.data }, { on := 8, ground := Ground.data }, { on := 3, ground := Ground.chain }], guard := none },
  { dst := none, op := Op.store 27 (Operand.tmp 2) (Operand.tmp 84), type := 0, pos := "ref.go:81", after := #[{ on := 9, ground := Ground.data }, { on := 9, ground := Ground.chain }, { on := 0, ground := Ground.phase }, { on := 1, ground := Ground.phase }, { on := 2, ground := Ground.phase }, { on := 3, ground := Ground.phase }, { on := 4, ground := Ground.phase }, { on := 5, ground := Ground.phase }, { on := 6, ground := Ground.phase }, { on := 7, ground := Ground.phase }, { on := 8, ground := Ground.phase }, { on := 9, ground := Ground.phase }], guard := none }]
def hhcalls : List Nat := [3, 9, 10]
def hhord : List Nat := [0, 1, 2, 4, 5, 6, 7, 8, 3, 9, 10]
theorem hhsel : Region.noSelect hhops = true := by kernel_rfl
theorem hhlex : lexH hhops hhcalls hhord (Array.replicate hhops.size false) = true := by kernel_rfl
theorem hh0 : hhops[0]? = some { dst := some 75, op := Op.load 27 (Operand.tmp 1), type := 27, pos := "ref.go:81", after := #[], guard := none } := by kernel_rfl
theorem hh1 : hhops[1]? = some { dst := some 76, op := Op.move (Operand.tmp 4), type := 3, pos := "ref.go:81", after := #[], guard := none } := by kernel_rfl
theorem hh2 : hhops[2]? = some { dst := some 77, op := Op.move (Operand.tmp 5), type := 42, pos := "ref.go:81", after := #[], guard := none } := by kernel_rfl
theorem hh3 : hhops[3]? = some { dst := some 78, op := Op.call { callee := Callee.value (Operand.func 31), args := #[Operand.tmp 75, Operand.tmp 76, Operand.tmp 77], argTypes := #[27, 3, 42] }, type := 27, pos := "ref.go:81", after := #[{ on := 0, ground := Ground.data }, { on := 1, ground := Ground.data }, { on := 2, ground := Ground.data }], guard := none } := by kernel_rfl
theorem hh4 : hhops[4]? = some { dst := some 79, op := Op.fieldAddr 27 (Operand.tmp 1) 2, type := 0, pos := "ref.go:81", after := #[], guard := none } := by kernel_rfl
theorem hh5 : hhops[5]? = some { dst := some 80, op := Op.load 25 (Operand.tmp 79), type := 25, pos := "ref.go:81", after := #[{ on := 4, ground := Ground.data }], guard := none } := by kernel_rfl
theorem hh6 : hhops[6]? = some { dst := some 81, op := Op.call { callee := Callee.builtin Builtin.len, args := #[Operand.tmp 80], argTypes := #[25] }, type := 3, pos := "ref.go:81", after := #[{ on := 5, ground := Ground.data }], guard := none } := by kernel_rfl
theorem hh7 : hhops[7]? = some { dst := some 82, op := Op.binOp BinOp.sub 3 (Operand.tmp 81) (Operand.const (Value.int IntKind.i64 1)) 3, type := 3, pos := "ref.go:81", after := #[{ on := 6, ground := Ground.data }], guard := none } := by kernel_rfl
theorem hh8 : hhops[8]? = some { dst := some 83, op := Op.move (Operand.tmp 6), type := 42, pos := "ref.go:81", after := #[], guard := none } := by kernel_rfl
theorem hh9 : hhops[9]? = some { dst := some 84, op := Op.call { callee := Callee.value (Operand.func 31), args := #[Operand.tmp 78, Operand.tmp 82, Operand.tmp 83], argTypes := #[27, 3, 42] }, type := 27, pos := "ref.go:81", after := #[{ on := 3, ground := Ground.data }, { on := 7, ground := Ground.data }, { on := 8, ground := Ground.data }, { on := 3, ground := Ground.chain }], guard := none } := by kernel_rfl
theorem hh10 : hhops[10]? = some { dst := none, op := Op.store 27 (Operand.tmp 2) (Operand.tmp 84), type := 0, pos := "ref.go:81", after := #[{ on := 9, ground := Ground.data }, { on := 9, ground := Ground.chain }, { on := 0, ground := Ground.phase }, { on := 1, ground := Ground.phase }, { on := 2, ground := Ground.phase }, { on := 3, ground := Ground.phase }, { on := 4, ground := Ground.phase }, { on := 5, ground := Ground.phase }, { on := 6, ground := Ground.phase }, { on := 7, ground := Ground.phase }, { on := 8, ground := Ground.phase }, { on := 9, ground := Ground.phase }], guard := none } := by kernel_rfl
noncomputable def hpops : Array Oper := #[{ dst := some 14, op := Op.load 27 (Operand.tmp 3), type := 27, pos := "ref.go:87", after := #[], guard := none },
  { dst := some 15, op := Op.move (Operand.tmp 7), type := 3, pos := "ref.go:87", after := #[], guard := none },
  { dst := some 16, op := Op.fieldAddr 27 (Operand.tmp 3) 2, type := 0, pos := "ref.go:87", after := #[], guard := none },
  { dst := some 17, op := Op.load 25 (Operand.tmp 16), type := 25, pos := "ref.go:87", after := #[{ on := 2, ground := Ground.data }], guard := none },
  { dst := some 18, op := Op.move (Operand.tmp 7), type := 3, pos := "ref.go:87", after := #[], guard := none },
  { dst := some 19, op := Op.indexAddr 25 (Operand.tmp 17) (Operand.tmp 18), type := 0, pos := "ref.go:87", after := #[{ on := 3, ground := Ground.data }, { on := 4, ground := Ground.data }], guard := none },
  { dst := some 20, op := Op.load 42 (Operand.tmp 19), type := 42, pos := "ref.go:87", after := #[{ on := 5, ground := Ground.data }], guard := none },
  { dst := some 21, op := Op.move (Operand.tmp 1), type := 9, pos := "ref.go:87", after := #[], guard := none },
  { dst := some 22, op := Op.load 30 (Operand.tmp 5), type := 30, pos := "ref.go:87", after := #[], guard := none },
  { dst := some 23, op := Op.build 51 #[(0, Operand.tmp 21), (1, Operand.tmp 22)], type := 51, pos := "ref.go:87", after := #[{ on := 7, ground := Ground.data }, { on := 8, ground := Ground.data }], guard := none },
  { dst := some 24, op := Op.call { callee := Callee.value (Operand.func 32), args := #[Operand.tmp 20, Operand.tmp 23], argTypes := #[42, 51] }, type := 42, pos := "ref.go:87", after := #[{ on := 6, ground := Ground.data }, { on := 9, ground := Ground.data }], guard := none },
  { dst := some 25, op := Op.call { callee := Callee.value (Operand.func 31), args := #[Operand.tmp 14, Operand.tmp 15, Operand.tmp 24], argTypes := #[27, 3, 42] }, type := 27, pos := "ref.go:87", after := #[{ on := 0, ground := Ground.data }, { on := 1, ground := Ground.data }, { on := 10, ground := Ground.data }, { on := 10, ground := Ground.chain }], guard := none },
  { dst := none, op := Op.assign (Operand.const (Value.bool true)), type := 0, pos := "ref.go:87", after := #[{ on := 11, ground := Ground.data }, { on := 11, ground := Ground.chain }, { on := 0, ground := Ground.phase }, { on := 1, ground := Ground.phase }, { on := 2, ground := Ground.phase }, { on := 3, ground := Ground.phase }, { on := 4, ground := Ground.phase }, { on := 5, ground := Ground.phase }, { on := 6, ground := Ground.phase }, { on := 7, ground := Ground.phase }, { on := 8, ground := Ground.phase }, { on := 9, ground := Ground.phase }, { on := 10, ground := Ground.phase }, { on := 11, ground := Ground.phase }], guard := none }]
def hpcalls : List Nat := [10, 11]
def hpord : List Nat := [0, 1, 2, 3, 4, 5, 6, 7, 8, 9, 10, 11, 12]
theorem hpsel : Region.noSelect hpops = true := by kernel_rfl
theorem hplex : lexH hpops hpcalls hpord (Array.replicate hpops.size false) = true := by kernel_rfl
noncomputable def hpraw : Array Oper := #[{ dst := some 14, op := Op.load 27 (Operand.tmp 3), type := 27, pos := "ref.go:87", after := #[], guard := none },
  { dst := some 15, op := Op.move (Operand.tmp 7), type := 3, pos := "ref.go:87", after := #[], guard := none },
  { dst := some 16, op := Op.fieldAddr 27 (Operand.tmp 3) 2, type := 0, pos := "ref.go:87", after := #[], guard := none },
  { dst := some 17, op := Op.load 25 (Operand.tmp 16), type := 25, pos := "ref.go:87", after := #[{ on := 2, ground := Ground.data }], guard := none },
  { dst := some 18, op := Op.move (Operand.tmp 7), type := 3, pos := "ref.go:87", after := #[], guard := none },
  { dst := some 19, op := Op.indexAddr 25 (Operand.tmp 17) (Operand.tmp 18), type := 0, pos := "ref.go:87", after := #[{ on := 3, ground := Ground.data }, { on := 4, ground := Ground.data }], guard := none },
  { dst := some 20, op := Op.load 42 (Operand.tmp 19), type := 42, pos := "ref.go:87", after := #[{ on := 5, ground := Ground.data }], guard := none },
  { dst := some 21, op := Op.move (Operand.tmp 1), type := 9, pos := "ref.go:87", after := #[], guard := none },
  { dst := some 22, op := Op.load 30 (Operand.tmp 5), type := 30, pos := "ref.go:87", after := #[], guard := none },
  { dst := some 23, op := Op.build 51 #[(0, Operand.tmp 21), (1, Operand.tmp 22)], type := 51, pos := "ref.go:87", after := #[{ on := 7, ground := Ground.data }, { on := 8, ground := Ground.data }], guard := none },
  { dst := some 24, op := Op.call { callee := Callee.value (Operand.func 32), args := #[Operand.tmp 20, Operand.tmp 23], argTypes := #[42, 51] }, type := 42, pos := "ref.go:87", after := #[{ on := 6, ground := Ground.data }, { on := 9, ground := Ground.data }], guard := none },
  { dst := some 25, op := Op.call { callee := Callee.value (Operand.func 31), args := #[Operand.tmp 14, Operand.tmp 15, Operand.tmp 24], argTypes := #[27, 3, 42] }, type := 27, pos := "ref.go:87", after := #[{ on := 0, ground := Ground.data }, { on := 1, ground := Ground.data }, { on := 10, ground := Ground.data }, { on := 10, ground := Ground.chain }], guard := none },
  { dst := none, op := Op.store 27 (Operand.tmp 3) (Operand.tmp 25), type := 0, pos := "ref.go:87", after := #[{ on := 11, ground := Ground.data }, { on := 11, ground := Ground.chain }, { on := 0, ground := Ground.phase }, { on := 1, ground := Ground.phase }, { on := 2, ground := Ground.phase }, { on := 3, ground := Ground.phase }, { on := 4, ground := Ground.phase }, { on := 5, ground := Ground.phase }, { on := 6, ground := Ground.phase }, { on := 7, ground := Ground.phase }, { on := 8, ground := Ground.phase }, { on := 9, ground := Ground.phase }, { on := 10, ground := Ground.phase }, { on := 11, ground := Ground.phase }], guard := none }]
theorem hplast : hpraw[12]? = some { dst := none, op := Op.store 27 (Operand.tmp 3) (Operand.tmp 25), type := 0, pos := "ref.go:87", after := #[{ on := 11, ground := Ground.data }, { on := 11, ground := Ground.chain }, { on := 0, ground := Ground.phase }, { on := 1, ground := Ground.phase }, { on := 2, ground := Ground.phase }, { on := 3, ground := Ground.phase }, { on := 4, ground := Ground.phase }, { on := 5, ground := Ground.phase }, { on := 6, ground := Ground.phase }, { on := 7, ground := Ground.phase }, { on := 8, ground := Ground.phase }, { on := 9, ground := Ground.phase }, { on := 10, ground := Ground.phase }, { on := 11, ground := Ground.phase }], guard := none } := by kernel_rfl
theorem hpeq : hpops = hpraw.setIfInBounds 12 (Lex.idle { dst := none, op := Op.store 27 (Operand.tmp 3) (Operand.tmp 25), type := 0, pos := "ref.go:87", after := #[{ on := 11, ground := Ground.data }, { on := 11, ground := Ground.chain }, { on := 0, ground := Ground.phase }, { on := 1, ground := Ground.phase }, { on := 2, ground := Ground.phase }, { on := 3, ground := Ground.phase }, { on := 4, ground := Ground.phase }, { on := 5, ground := Ground.phase }, { on := 6, ground := Ground.phase }, { on := 7, ground := Ground.phase }, { on := 8, ground := Ground.phase }, { on := 9, ground := Ground.phase }, { on := 10, ground := Ground.phase }, { on := 11, ground := Ground.phase }], guard := none }) := by kernel_rfl
theorem hp0 : hpops[0]? = some { dst := some 14, op := Op.load 27 (Operand.tmp 3), type := 27, pos := "ref.go:87", after := #[], guard := none } := by kernel_rfl
theorem hp1 : hpops[1]? = some { dst := some 15, op := Op.move (Operand.tmp 7), type := 3, pos := "ref.go:87", after := #[], guard := none } := by kernel_rfl
theorem hp2 : hpops[2]? = some { dst := some 16, op := Op.fieldAddr 27 (Operand.tmp 3) 2, type := 0, pos := "ref.go:87", after := #[], guard := none } := by kernel_rfl
theorem hp3 : hpops[3]? = some { dst := some 17, op := Op.load 25 (Operand.tmp 16), type := 25, pos := "ref.go:87", after := #[{ on := 2, ground := Ground.data }], guard := none } := by kernel_rfl
theorem hp4 : hpops[4]? = some { dst := some 18, op := Op.move (Operand.tmp 7), type := 3, pos := "ref.go:87", after := #[], guard := none } := by kernel_rfl
theorem hp5 : hpops[5]? = some { dst := some 19, op := Op.indexAddr 25 (Operand.tmp 17) (Operand.tmp 18), type := 0, pos := "ref.go:87", after := #[{ on := 3, ground := Ground.data }, { on := 4, ground := Ground.data }], guard := none } := by kernel_rfl
theorem hp6 : hpops[6]? = some { dst := some 20, op := Op.load 42 (Operand.tmp 19), type := 42, pos := "ref.go:87", after := #[{ on := 5, ground := Ground.data }], guard := none } := by kernel_rfl
theorem hp7 : hpops[7]? = some { dst := some 21, op := Op.move (Operand.tmp 1), type := 9, pos := "ref.go:87", after := #[], guard := none } := by kernel_rfl
theorem hp8 : hpops[8]? = some { dst := some 22, op := Op.load 30 (Operand.tmp 5), type := 30, pos := "ref.go:87", after := #[], guard := none } := by kernel_rfl
theorem hp9 : hpops[9]? = some { dst := some 23, op := Op.build 51 #[(0, Operand.tmp 21), (1, Operand.tmp 22)], type := 51, pos := "ref.go:87", after := #[{ on := 7, ground := Ground.data }, { on := 8, ground := Ground.data }], guard := none } := by kernel_rfl
theorem hp10 : hpops[10]? = some { dst := some 24, op := Op.call { callee := Callee.value (Operand.func 32), args := #[Operand.tmp 20, Operand.tmp 23], argTypes := #[42, 51] }, type := 42, pos := "ref.go:87", after := #[{ on := 6, ground := Ground.data }, { on := 9, ground := Ground.data }], guard := none } := by kernel_rfl
theorem hp11 : hpops[11]? = some { dst := some 25, op := Op.call { callee := Callee.value (Operand.func 31), args := #[Operand.tmp 14, Operand.tmp 15, Operand.tmp 24], argTypes := #[27, 3, 42] }, type := 27, pos := "ref.go:87", after := #[{ on := 0, ground := Ground.data }, { on := 1, ground := Ground.data }, { on := 10, ground := Ground.data }, { on := 10, ground := Ground.chain }], guard := none } := by kernel_rfl
theorem hp12 : hpops[12]? = some { dst := none, op := Op.assign (Operand.const (Value.bool true)), type := 0, pos := "ref.go:87", after := #[{ on := 11, ground := Ground.data }, { on := 11, ground := Ground.chain }, { on := 0, ground := Ground.phase }, { on := 1, ground := Ground.phase }, { on := 2, ground := Ground.phase }, { on := 3, ground := Ground.phase }, { on := 4, ground := Ground.phase }, { on := 5, ground := Ground.phase }, { on := 6, ground := Ground.phase }, { on := 7, ground := Ground.phase }, { on := 8, ground := Ground.phase }, { on := 9, ground := Ground.phase }, { on := 10, ground := Ground.phase }, { on := 11, ground := Ground.phase }], guard := none } := by kernel_rfl
noncomputable def hqops : Array Oper := #[{ dst := some 26, op := Op.load 27 (Operand.tmp 3), type := 27, pos := "ref.go:88", after := #[], guard := none },
  { dst := some 27, op := Op.call { callee := Callee.value (Operand.func 22), args := #[Operand.tmp 26], argTypes := #[27] }, type := 3, pos := "ref.go:88", after := #[{ on := 0, ground := Ground.data }], guard := none },
  { dst := some 28, op := Op.fieldAddr 27 (Operand.tmp 3) 2, type := 0, pos := "ref.go:88", after := #[], guard := none },
  { dst := some 29, op := Op.load 25 (Operand.tmp 28), type := 25, pos := "ref.go:88", after := #[{ on := 2, ground := Ground.data }], guard := none },
  { dst := some 30, op := Op.call { callee := Callee.builtin Builtin.len, args := #[Operand.tmp 29], argTypes := #[25] }, type := 3, pos := "ref.go:88", after := #[{ on := 3, ground := Ground.data }], guard := none },
  { dst := some 31, op := Op.binOp BinOp.mul 3 (Operand.const (Value.int IntKind.i64 4)) (Operand.tmp 30) 3, type := 3, pos := "ref.go:88", after := #[{ on := 4, ground := Ground.data }], guard := none },
  { dst := some 32, op := Op.binOp BinOp.gtr 3 (Operand.tmp 27) (Operand.tmp 31) 3, type := 4, pos := "ref.go:88", after := #[{ on := 1, ground := Ground.data }, { on := 5, ground := Ground.data }], guard := none }]
def hqcalls : List Nat := [1]
def hqord : List Nat := [0, 2, 3, 4, 5, 1, 6]
theorem hqsel : Region.noSelect hqops = true := by kernel_rfl
theorem hqlex : lexH hqops hqcalls hqord (Array.replicate hqops.size false) = true := by kernel_rfl
theorem hq0 : hqops[0]? = some { dst := some 26, op := Op.load 27 (Operand.tmp 3), type := 27, pos := "ref.go:88", after := #[], guard := none } := by kernel_rfl
theorem hq1 : hqops[1]? = some { dst := some 27, op := Op.call { callee := Callee.value (Operand.func 22), args := #[Operand.tmp 26], argTypes := #[27] }, type := 3, pos := "ref.go:88", after := #[{ on := 0, ground := Ground.data }], guard := none } := by kernel_rfl
theorem hq2 : hqops[2]? = some { dst := some 28, op := Op.fieldAddr 27 (Operand.tmp 3) 2, type := 0, pos := "ref.go:88", after := #[], guard := none } := by kernel_rfl
theorem hq3 : hqops[3]? = some { dst := some 29, op := Op.load 25 (Operand.tmp 28), type := 25, pos := "ref.go:88", after := #[{ on := 2, ground := Ground.data }], guard := none } := by kernel_rfl
theorem hq4 : hqops[4]? = some { dst := some 30, op := Op.call { callee := Callee.builtin Builtin.len, args := #[Operand.tmp 29], argTypes := #[25] }, type := 3, pos := "ref.go:88", after := #[{ on := 3, ground := Ground.data }], guard := none } := by kernel_rfl
theorem hq5 : hqops[5]? = some { dst := some 31, op := Op.binOp BinOp.mul 3 (Operand.const (Value.int IntKind.i64 4)) (Operand.tmp 30) 3, type := 3, pos := "ref.go:88", after := #[{ on := 4, ground := Ground.data }], guard := none } := by kernel_rfl
theorem hq6 : hqops[6]? = some { dst := some 32, op := Op.binOp BinOp.gtr 3 (Operand.tmp 27) (Operand.tmp 31) 3, type := 4, pos := "ref.go:88", after := #[{ on := 1, ground := Ground.data }, { on := 5, ground := Ground.data }], guard := none } := by kernel_rfl
noncomputable def hdops : Array Oper := #[{ dst := some 12, op := Op.load 27 (Operand.tmp 2), type := 27, pos := "ref.go:97", after := #[], guard := none },
  { dst := some 13, op := Op.move (Operand.tmp 5), type := 3, pos := "ref.go:97", after := #[], guard := none },
  { dst := some 14, op := Op.fieldAddr 27 (Operand.tmp 2) 2, type := 0, pos := "ref.go:97", after := #[], guard := none },
  { dst := some 15, op := Op.load 25 (Operand.tmp 14), type := 25, pos := "ref.go:97", after := #[{ on := 2, ground := Ground.data }], guard := none },
  { dst := some 16, op := Op.move (Operand.tmp 5), type := 3, pos := "ref.go:97", after := #[], guard := none },
  { dst := some 17, op := Op.indexAddr 25 (Operand.tmp 15) (Operand.tmp 16), type := 0, pos := "ref.go:97", after := #[{ on := 3, ground := Ground.data }, { on := 4, ground := Ground.data }], guard := none },
  { dst := some 18, op := Op.load 42 (Operand.tmp 17), type := 42, pos := "ref.go:97", after := #[{ on := 5, ground := Ground.data }], guard := none },
  { dst := some 19, op := Op.move (Operand.tmp 1), type := 9, pos := "ref.go:97", after := #[], guard := none },
  { dst := some 20, op := Op.call { callee := Callee.value (Operand.func 34), args := #[Operand.tmp 18, Operand.tmp 19], argTypes := #[42, 9] }, type := 42, pos := "ref.go:97", after := #[{ on := 6, ground := Ground.data }, { on := 7, ground := Ground.data }], guard := none },
  { dst := some 21, op := Op.call { callee := Callee.value (Operand.func 31), args := #[Operand.tmp 12, Operand.tmp 13, Operand.tmp 20], argTypes := #[27, 3, 42] }, type := 27, pos := "ref.go:97", after := #[{ on := 0, ground := Ground.data }, { on := 1, ground := Ground.data }, { on := 8, ground := Ground.data }, { on := 8, ground := Ground.chain }], guard := none },
  { dst := none, op := Op.store 27 (Operand.tmp 4) (Operand.tmp 21), type := 0, pos := "ref.go:97", after := #[{ on := 9, ground := Ground.data }, { on := 9, ground := Ground.chain }, { on := 0, ground := Ground.phase }, { on := 1, ground := Ground.phase }, { on := 2, ground := Ground.phase }, { on := 3, ground := Ground.phase }, { on := 4, ground := Ground.phase }, { on := 5, ground := Ground.phase }, { on := 6, ground := Ground.phase }, { on := 7, ground := Ground.phase }, { on := 8, ground := Ground.phase }, { on := 9, ground := Ground.phase }], guard := none }]
def hdcalls : List Nat := [8, 9, 10]
def hdord : List Nat := [0, 1, 2, 3, 4, 5, 6, 7, 8, 9, 10]
theorem hdsel : Region.noSelect hdops = true := by kernel_rfl
theorem hdlex : lexH hdops hdcalls hdord (Array.replicate hdops.size false) = true := by kernel_rfl
theorem hd0 : hdops[0]? = some { dst := some 12, op := Op.load 27 (Operand.tmp 2), type := 27, pos := "ref.go:97", after := #[], guard := none } := by kernel_rfl
theorem hd1 : hdops[1]? = some { dst := some 13, op := Op.move (Operand.tmp 5), type := 3, pos := "ref.go:97", after := #[], guard := none } := by kernel_rfl
theorem hd2 : hdops[2]? = some { dst := some 14, op := Op.fieldAddr 27 (Operand.tmp 2) 2, type := 0, pos := "ref.go:97", after := #[], guard := none } := by kernel_rfl
theorem hd3 : hdops[3]? = some { dst := some 15, op := Op.load 25 (Operand.tmp 14), type := 25, pos := "ref.go:97", after := #[{ on := 2, ground := Ground.data }], guard := none } := by kernel_rfl
theorem hd4 : hdops[4]? = some { dst := some 16, op := Op.move (Operand.tmp 5), type := 3, pos := "ref.go:97", after := #[], guard := none } := by kernel_rfl
theorem hd5 : hdops[5]? = some { dst := some 17, op := Op.indexAddr 25 (Operand.tmp 15) (Operand.tmp 16), type := 0, pos := "ref.go:97", after := #[{ on := 3, ground := Ground.data }, { on := 4, ground := Ground.data }], guard := none } := by kernel_rfl
theorem hd6 : hdops[6]? = some { dst := some 18, op := Op.load 42 (Operand.tmp 17), type := 42, pos := "ref.go:97", after := #[{ on := 5, ground := Ground.data }], guard := none } := by kernel_rfl
theorem hd7 : hdops[7]? = some { dst := some 19, op := Op.move (Operand.tmp 1), type := 9, pos := "ref.go:97", after := #[], guard := none } := by kernel_rfl
theorem hd8 : hdops[8]? = some { dst := some 20, op := Op.call { callee := Callee.value (Operand.func 34), args := #[Operand.tmp 18, Operand.tmp 19], argTypes := #[42, 9] }, type := 42, pos := "ref.go:97", after := #[{ on := 6, ground := Ground.data }, { on := 7, ground := Ground.data }], guard := none } := by kernel_rfl
theorem hd9 : hdops[9]? = some { dst := some 21, op := Op.call { callee := Callee.value (Operand.func 31), args := #[Operand.tmp 12, Operand.tmp 13, Operand.tmp 20], argTypes := #[27, 3, 42] }, type := 27, pos := "ref.go:97", after := #[{ on := 0, ground := Ground.data }, { on := 1, ground := Ground.data }, { on := 8, ground := Ground.data }, { on := 8, ground := Ground.chain }], guard := none } := by kernel_rfl
theorem hd10 : hdops[10]? = some { dst := none, op := Op.store 27 (Operand.tmp 4) (Operand.tmp 21), type := 0, pos := "ref.go:97", after := #[{ on := 9, ground := Ground.data }, { on := 9, ground := Ground.chain }, { on := 0, ground := Ground.phase }, { on := 1, ground := Ground.phase }, { on := 2, ground := Ground.phase }, { on := 3, ground := Ground.phase }, { on := 4, ground := Ground.phase }, { on := 5, ground := Ground.phase }, { on := 6, ground := Ground.phase }, { on := 7, ground := Ground.phase }, { on := 8, ground := Ground.phase }, { on := 9, ground := Ground.phase }], guard := none } := by kernel_rfl
end Go.Proofs.Ytocmkjccaajnnaa.Ha
