/- Texts Xha, Xhs, Xhn, Xhp, Xhl, Xhh, one behind the other. -/
import Derived.Test.YtdbemkdfndjakaaDoorMgW
import Derived.Test.YtdbemkdfndjakaaDoorProg
import Derived.KernelRfl
/- The operations of a condition, each by its number. -/
namespace Go.Proofs.YtdbemkdfndjakaaDoor.Hd
open Lex

noncomputable def haops : Array Oper := #[{ dst := some 19, op := Op.fieldAddr 23 (Operand.tmp 1) 0, type := 0, pos := "head.go:54", after := #[], guard := none },
  { dst := some 20, op := Op.load 3 (Operand.tmp 19), type := 3, pos := "head.go:54", after := #[{ on := 0, ground := Ground.data }], guard := none },
  { dst := some 21, op := Op.call { callee := Callee.value (Operand.func 34), args := #[Operand.tmp 20], argTypes := #[3] }, type := 9, pos := "head.go:54", after := #[{ on := 1, ground := Ground.data }], guard := none },
  { dst := some 22, op := Op.binOp BinOp.add 9 (Operand.const (Value.string { data := #[77, 79, 83, 65, 73, 67, 48, 49] })) (Operand.tmp 21) 9, type := 9, pos := "head.go:54", after := #[{ on := 2, ground := Ground.data }], guard := none },
  { dst := some 23, op := Op.fieldAddr 23 (Operand.tmp 1) 1, type := 0, pos := "head.go:54", after := #[], guard := none },
  { dst := some 24, op := Op.load 3 (Operand.tmp 23), type := 3, pos := "head.go:54", after := #[{ on := 4, ground := Ground.data }], guard := none },
  { dst := some 25, op := Op.call { callee := Callee.value (Operand.func 34), args := #[Operand.tmp 24], argTypes := #[3] }, type := 9, pos := "head.go:54", after := #[{ on := 5, ground := Ground.data }, { on := 2, ground := Ground.chain }], guard := none },
  { dst := some 26, op := Op.binOp BinOp.add 9 (Operand.tmp 22) (Operand.tmp 25) 9, type := 9, pos := "head.go:54", after := #[{ on := 3, ground := Ground.data }, { on := 6, ground := Ground.data }], guard := none },
  { dst := some 27, op := Op.fieldAddr 23 (Operand.tmp 1) 2, type := 0, pos := "head.go:54", after := #[], guard := none },
  { dst := some 28, op := Op.load 3 (Operand.tmp 27), type := 3, pos := "head.go:54", after := #[{ on := 8, ground := Ground.data }], guard := none },
  { dst := some 29, op := Op.call { callee := Callee.value (Operand.func 34), args := #[Operand.tmp 28], argTypes := #[3] }, type := 9, pos := "head.go:54", after := #[{ on := 9, ground := Ground.data }, { on := 6, ground := Ground.chain }], guard := none },
  { dst := some 30, op := Op.binOp BinOp.add 9 (Operand.tmp 26) (Operand.tmp 29) 9, type := 9, pos := "head.go:54", after := #[{ on := 7, ground := Ground.data }, { on := 10, ground := Ground.data }], guard := none },
  { dst := some 31, op := Op.call { callee := Callee.value (Operand.func 33), args := #[Operand.tmp 30, Operand.const (Value.int IntKind.i64 256)], argTypes := #[9, 3] }, type := 9, pos := "head.go:54", after := #[{ on := 11, ground := Ground.data }, { on := 10, ground := Ground.chain }], guard := none },
  { dst := some 2, op := Op.assign (Operand.tmp 31), type := 9, pos := "head.go:54", after := #[{ on := 12, ground := Ground.data }, { on := 12, ground := Ground.chain }, { on := 0, ground := Ground.phase }, { on := 1, ground := Ground.phase }, { on := 2, ground := Ground.phase }, { on := 3, ground := Ground.phase }, { on := 4, ground := Ground.phase }, { on := 5, ground := Ground.phase }, { on := 6, ground := Ground.phase }, { on := 7, ground := Ground.phase }, { on := 8, ground := Ground.phase }, { on := 9, ground := Ground.phase }, { on := 10, ground := Ground.phase }, { on := 11, ground := Ground.phase }, { on := 12, ground := Ground.phase }], guard := none }]
def hacalls : List Nat := [2, 6, 10, 12]
def haord : List Nat := [0, 1, 4, 5, 8, 9, 2, 3, 6, 7, 10, 11, 12, 13]
theorem hasel : Region.noSelect haops = true := by kernel_rfl
theorem halex : lexH haops hacalls haord (Array.replicate haops.size false) = true := by kernel_rfl
theorem ha0 : haops[0]? = some { dst := some 19, op := Op.fieldAddr 23 (Operand.tmp 1) 0, type := 0, pos := "head.go:54", after := #[], guard := none } := by kernel_rfl
theorem ha1 : haops[1]? = some { dst := some 20, op := Op.load 3 (Operand.tmp 19), type := 3, pos := "head.go:54", after := #[{ on := 0, ground := Ground.data }], guard := none } := by kernel_rfl
theorem ha2 : haops[2]? = some { dst := some 21, op := Op.call { callee := Callee.value (Operand.func 34), args := #[Operand.tmp 20], argTypes := #[3] }, type := 9, pos := "head.go:54", after := #[{ on := 1, ground := Ground.data }], guard := none } := by kernel_rfl
theorem ha3 : haops[3]? = some { dst := some 22, op := Op.binOp BinOp.add 9 (Operand.const (Value.string { data := #[77, 79, 83, 65, 73, 67, 48, 49] })) (Operand.tmp 21) 9, type := 9, pos := "head.go:54", after := #[{ on := 2, ground := Ground.data }], guard := none } := by kernel_rfl
theorem ha4 : haops[4]? = some { dst := some 23, op := Op.fieldAddr 23 (Operand.tmp 1) 1, type := 0, pos := "head.go:54", after := #[], guard := none } := by kernel_rfl
theorem ha5 : haops[5]? = some { dst := some 24, op := Op.load 3 (Operand.tmp 23), type := 3, pos := "head.go:54", after := #[{ on := 4, ground := Ground.data }], guard := none } := by kernel_rfl
theorem ha6 : haops[6]? = some { dst := some 25, op := Op.call { callee := Callee.value (Operand.func 34), args := #[Operand.tmp 24], argTypes := #[3] }, type := 9, pos := "head.go:54", after := #[{ on := 5, ground := Ground.data }, { on := 2, ground := Ground.chain }], guard := none } := by kernel_rfl
theorem ha7 : haops[7]? = some { dst := some 26, op := Op.binOp BinOp.add 9 (Operand.tmp 22) (Operand.tmp 25) 9, type := 9, pos := "head.go:54", after := #[{ on := 3, ground := Ground.data }, { on := 6, ground := Ground.data }], guard := none } := by kernel_rfl
theorem ha8 : haops[8]? = some { dst := some 27, op := Op.fieldAddr 23 (Operand.tmp 1) 2, type := 0, pos := "head.go:54", after := #[], guard := none } := by kernel_rfl
theorem ha9 : haops[9]? = some { dst := some 28, op := Op.load 3 (Operand.tmp 27), type := 3, pos := "head.go:54", after := #[{ on := 8, ground := Ground.data }], guard := none } := by kernel_rfl
theorem ha10 : haops[10]? = some { dst := some 29, op := Op.call { callee := Callee.value (Operand.func 34), args := #[Operand.tmp 28], argTypes := #[3] }, type := 9, pos := "head.go:54", after := #[{ on := 9, ground := Ground.data }, { on := 6, ground := Ground.chain }], guard := none } := by kernel_rfl
theorem ha11 : haops[11]? = some { dst := some 30, op := Op.binOp BinOp.add 9 (Operand.tmp 26) (Operand.tmp 29) 9, type := 9, pos := "head.go:54", after := #[{ on := 7, ground := Ground.data }, { on := 10, ground := Ground.data }], guard := none } := by kernel_rfl
theorem ha12 : haops[12]? = some { dst := some 31, op := Op.call { callee := Callee.value (Operand.func 33), args := #[Operand.tmp 30, Operand.const (Value.int IntKind.i64 256)], argTypes := #[9, 3] }, type := 9, pos := "head.go:54", after := #[{ on := 11, ground := Ground.data }, { on := 10, ground := Ground.chain }], guard := none } := by kernel_rfl
theorem ha13 : haops[13]? = some { dst := some 2, op := Op.assign (Operand.tmp 31), type := 9, pos := "head.go:54", after := #[{ on := 12, ground := Ground.data }, { on := 12, ground := Ground.chain }, { on := 0, ground := Ground.phase }, { on := 1, ground := Ground.phase }, { on := 2, ground := Ground.phase }, { on := 3, ground := Ground.phase }, { on := 4, ground := Ground.phase }, { on := 5, ground := Ground.phase }, { on := 6, ground := Ground.phase }, { on := 7, ground := Ground.phase }, { on := 8, ground := Ground.phase }, { on := 9, ground := Ground.phase }, { on := 10, ground := Ground.phase }, { on := 11, ground := Ground.phase }, { on := 12, ground := Ground.phase }], guard := none } := by kernel_rfl
noncomputable def hbops : Array Oper := #[{ dst := some 3, op := Op.fieldAddr 23 (Operand.tmp 1) 0, type := 0, pos := "ref.go:36", after := #[], guard := none },
  { dst := some 4, op := Op.load 3 (Operand.tmp 3), type := 3, pos := "ref.go:36", after := #[{ on := 0, ground := Ground.data }], guard := none },
  { dst := some 5, op := Op.call { callee := Callee.value (Operand.func 36), args := #[Operand.tmp 4], argTypes := #[3] }, type := 9, pos := "ref.go:36", after := #[{ on := 1, ground := Ground.data }], guard := none },
  { dst := some 6, op := Op.binOp BinOp.add 9 (Operand.const (Value.string { data := #[77, 79, 83, 65, 73, 67, 48, 49] })) (Operand.tmp 5) 9, type := 9, pos := "ref.go:36", after := #[{ on := 2, ground := Ground.data }], guard := none },
  { dst := some 7, op := Op.fieldAddr 23 (Operand.tmp 1) 1, type := 0, pos := "ref.go:36", after := #[], guard := none },
  { dst := some 8, op := Op.load 3 (Operand.tmp 7), type := 3, pos := "ref.go:36", after := #[{ on := 4, ground := Ground.data }], guard := none },
  { dst := some 9, op := Op.call { callee := Callee.value (Operand.func 36), args := #[Operand.tmp 8], argTypes := #[3] }, type := 9, pos := "ref.go:36", after := #[{ on := 5, ground := Ground.data }, { on := 2, ground := Ground.chain }], guard := none },
  { dst := some 10, op := Op.binOp BinOp.add 9 (Operand.tmp 6) (Operand.tmp 9) 9, type := 9, pos := "ref.go:36", after := #[{ on := 3, ground := Ground.data }, { on := 6, ground := Ground.data }], guard := none },
  { dst := some 11, op := Op.fieldAddr 23 (Operand.tmp 1) 2, type := 0, pos := "ref.go:36", after := #[], guard := none },
  { dst := some 12, op := Op.load 3 (Operand.tmp 11), type := 3, pos := "ref.go:36", after := #[{ on := 8, ground := Ground.data }], guard := none },
  { dst := some 13, op := Op.call { callee := Callee.value (Operand.func 36), args := #[Operand.tmp 12], argTypes := #[3] }, type := 9, pos := "ref.go:36", after := #[{ on := 9, ground := Ground.data }, { on := 6, ground := Ground.chain }], guard := none },
  { dst := some 14, op := Op.binOp BinOp.add 9 (Operand.tmp 10) (Operand.tmp 13) 9, type := 9, pos := "ref.go:36", after := #[{ on := 7, ground := Ground.data }, { on := 10, ground := Ground.data }], guard := none },
  { dst := some 15, op := Op.call { callee := Callee.value (Operand.func 35), args := #[Operand.tmp 14, Operand.const (Value.int IntKind.i64 256)], argTypes := #[9, 3] }, type := 9, pos := "ref.go:36", after := #[{ on := 11, ground := Ground.data }, { on := 10, ground := Ground.chain }], guard := none },
  { dst := some 2, op := Op.assign (Operand.tmp 15), type := 9, pos := "ref.go:36", after := #[{ on := 12, ground := Ground.data }, { on := 12, ground := Ground.chain }, { on := 0, ground := Ground.phase }, { on := 1, ground := Ground.phase }, { on := 2, ground := Ground.phase }, { on := 3, ground := Ground.phase }, { on := 4, ground := Ground.phase }, { on := 5, ground := Ground.phase }, { on := 6, ground := Ground.phase }, { on := 7, ground := Ground.phase }, { on := 8, ground := Ground.phase }, { on := 9, ground := Ground.phase }, { on := 10, ground := Ground.phase }, { on := 11, ground := Ground.phase }, { on := 12, ground := Ground.phase }], guard := none }]
def hbcalls : List Nat := [2, 6, 10, 12]
def hbord : List Nat := [0, 1, 4, 5, 8, 9, 2, 3, 6, 7, 10, 11, 12, 13]
theorem hbsel : Region.noSelect hbops = true := by kernel_rfl
theorem hblex : lexH hbops hbcalls hbord (Array.replicate hbops.size false) = true := by kernel_rfl
theorem hb0 : hbops[0]? = some { dst := some 3, op := Op.fieldAddr 23 (Operand.tmp 1) 0, type := 0, pos := "ref.go:36", after := #[], guard := none } := by kernel_rfl
theorem hb1 : hbops[1]? = some { dst := some 4, op := Op.load 3 (Operand.tmp 3), type := 3, pos := "ref.go:36", after := #[{ on := 0, ground := Ground.data }], guard := none } := by kernel_rfl
theorem hb2 : hbops[2]? = some { dst := some 5, op := Op.call { callee := Callee.value (Operand.func 36), args := #[Operand.tmp 4], argTypes := #[3] }, type := 9, pos := "ref.go:36", after := #[{ on := 1, ground := Ground.data }], guard := none } := by kernel_rfl
theorem hb3 : hbops[3]? = some { dst := some 6, op := Op.binOp BinOp.add 9 (Operand.const (Value.string { data := #[77, 79, 83, 65, 73, 67, 48, 49] })) (Operand.tmp 5) 9, type := 9, pos := "ref.go:36", after := #[{ on := 2, ground := Ground.data }], guard := none } := by kernel_rfl
theorem hb4 : hbops[4]? = some { dst := some 7, op := Op.fieldAddr 23 (Operand.tmp 1) 1, type := 0, pos := "ref.go:36", after := #[], guard := none } := by kernel_rfl
theorem hb5 : hbops[5]? = some { dst := some 8, op := Op.load 3 (Operand.tmp 7), type := 3, pos := "ref.go:36", after := #[{ on := 4, ground := Ground.data }], guard := none } := by kernel_rfl
theorem hb6 : hbops[6]? = some { dst := some 9, op := Op.call { callee := Callee.value (Operand.func 36), args := #[Operand.tmp 8], argTypes := #[3] }, type := 9, pos := "ref.go:36", after := #[{ on := 5, ground := Ground.data }, { on := 2, ground := Ground.chain }], guard := none } := by kernel_rfl
theorem hb7 : hbops[7]? = some { dst := some 10, op := Op.binOp BinOp.add 9 (Operand.tmp 6) (Operand.tmp 9) 9, type := 9, pos := "ref.go:36", after := #[{ on := 3, ground := Ground.data }, { on := 6, ground := Ground.data }], guard := none } := by kernel_rfl
theorem hb8 : hbops[8]? = some { dst := some 11, op := Op.fieldAddr 23 (Operand.tmp 1) 2, type := 0, pos := "ref.go:36", after := #[], guard := none } := by kernel_rfl
theorem hb9 : hbops[9]? = some { dst := some 12, op := Op.load 3 (Operand.tmp 11), type := 3, pos := "ref.go:36", after := #[{ on := 8, ground := Ground.data }], guard := none } := by kernel_rfl
theorem hb10 : hbops[10]? = some { dst := some 13, op := Op.call { callee := Callee.value (Operand.func 36), args := #[Operand.tmp 12], argTypes := #[3] }, type := 9, pos := "ref.go:36", after := #[{ on := 9, ground := Ground.data }, { on := 6, ground := Ground.chain }], guard := none } := by kernel_rfl
theorem hb11 : hbops[11]? = some { dst := some 14, op := Op.binOp BinOp.add 9 (Operand.tmp 10) (Operand.tmp 13) 9, type := 9, pos := "ref.go:36", after := #[{ on := 7, ground := Ground.data }, { on := 10, ground := Ground.data }], guard := none } := by kernel_rfl
theorem hb12 : hbops[12]? = some { dst := some 15, op := Op.call { callee := Callee.value (Operand.func 35), args := #[Operand.tmp 14, Operand.const (Value.int IntKind.i64 256)], argTypes := #[9, 3] }, type := 9, pos := "ref.go:36", after := #[{ on := 11, ground := Ground.data }, { on := 10, ground := Ground.chain }], guard := none } := by kernel_rfl
theorem hb13 : hbops[13]? = some { dst := some 2, op := Op.assign (Operand.tmp 15), type := 9, pos := "ref.go:36", after := #[{ on := 12, ground := Ground.data }, { on := 12, ground := Ground.chain }, { on := 0, ground := Ground.phase }, { on := 1, ground := Ground.phase }, { on := 2, ground := Ground.phase }, { on := 3, ground := Ground.phase }, { on := 4, ground := Ground.phase }, { on := 5, ground := Ground.phase }, { on := 6, ground := Ground.phase }, { on := 7, ground := Ground.phase }, { on := 8, ground := Ground.phase }, { on := 9, ground := Ground.phase }, { on := 10, ground := Ground.phase }, { on := 11, ground := Ground.phase }, { on := 12, ground := Ground.phase }], guard := none } := by kernel_rfl
end Go.Proofs.YtdbemkdfndjakaaDoor.Hd

/- The operations of drawn regions, each by its number; the trees of their orders. -/
namespace Go.Proofs.YtdbemkdfndjakaaDoor.Hd
open Lex

noncomputable def hsops : Array Oper := #[{ dst := some 14, op := Op.move (Operand.tmp 0), type := 9, pos := "ref.go:44", after := #[], guard := none },
  { dst := some 15, op := Op.slice 9 (Operand.tmp 14) (some (Operand.const (Value.int IntKind.i64 8))) none none, type := 9, pos := "ref.go:44", after := #[{ on := 0, ground := Ground.data }], guard := none },
  { dst := some 16, op := Op.call { callee := Callee.value (Operand.func 31), args := #[Operand.tmp 15], argTypes := #[9] }, type := 3, pos := "ref.go:44", after := #[{ on := 1, ground := Ground.data }], guard := none },
  { dst := some 17, op := Op.move (Operand.tmp 0), type := 9, pos := "ref.go:44", after := #[], guard := none },
  { dst := some 18, op := Op.slice 9 (Operand.tmp 17) (some (Operand.const (Value.int IntKind.i64 12))) none none, type := 9, pos := "ref.go:44", after := #[{ on := 3, ground := Ground.data }], guard := none },
  { dst := some 19, op := Op.call { callee := Callee.value (Operand.func 31), args := #[Operand.tmp 18], argTypes := #[9] }, type := 3, pos := "ref.go:44", after := #[{ on := 4, ground := Ground.data }, { on := 2, ground := Ground.chain }], guard := none },
  { dst := some 20, op := Op.move (Operand.tmp 0), type := 9, pos := "ref.go:44", after := #[], guard := none },
  { dst := some 21, op := Op.slice 9 (Operand.tmp 20) (some (Operand.const (Value.int IntKind.i64 16))) none none, type := 9, pos := "ref.go:44", after := #[{ on := 6, ground := Ground.data }], guard := none },
  { dst := some 22, op := Op.call { callee := Callee.value (Operand.func 31), args := #[Operand.tmp 21], argTypes := #[9] }, type := 3, pos := "ref.go:44", after := #[{ on := 7, ground := Ground.data }, { on := 5, ground := Ground.chain }], guard := none },
  { dst := some 23, op := Op.build 23 #[(0, Operand.tmp 16), (1, Operand.tmp 19), (2, Operand.tmp 22)], type := 23, pos := "ref.go:44", after := #[{ on := 2, ground := Ground.data }, { on := 5, ground := Ground.data }, { on := 8, ground := Ground.data }], guard := none },
  { dst := some 4, op := Op.alloc 23, type := 0, pos := "ref.go:44", after := #[], guard := none },
  { dst := none, op := Op.store 23 (Operand.tmp 4) (Operand.tmp 23), type := 0, pos := "ref.go:44", after := #[{ on := 10, ground := Ground.data }, { on := 9, ground := Ground.data }, { on := 8, ground := Ground.chain }, { on := 0, ground := Ground.phase }, { on := 1, ground := Ground.phase }, { on := 2, ground := Ground.phase }, { on := 3, ground := Ground.phase }, { on := 4, ground := Ground.phase }, { on := 5, ground := Ground.phase }, { on := 6, ground := Ground.phase }, { on := 7, ground := Ground.phase }, { on := 8, ground := Ground.phase }, { on := 9, ground := Ground.phase }, { on := 10, ground := Ground.phase }], guard := none }]
def hstree : Tr := (.op 0 (.op 1 (.op 3 (.op 4 (.op 6 (.op 7 (.alt 2 (.alt 5 (.alt 8 (.op 9 (.alt 10 (.alt 11 .fin .fin) .fin)) (.alt 10 (.alt 8 (.op 9 (.alt 11 .fin .fin)) .fin) .fin)) (.alt 10 (.alt 5 (.alt 8 (.op 9 (.alt 11 .fin .fin)) .fin) .fin) .fin)) (.alt 10 (.alt 2 (.alt 5 (.alt 8 (.op 9 (.alt 11 .fin .fin)) .fin) .fin) .fin) .fin))))))))
theorem hssel : Region.noSelect hsops = true := by kernel_rfl
theorem hslex : lexT hsops hsops.size [] hstree (Array.replicate hsops.size false) = true := by kernel_rfl
theorem hs0 : hsops[0]? = some { dst := some 14, op := Op.move (Operand.tmp 0), type := 9, pos := "ref.go:44", after := #[], guard := none } := by kernel_rfl
theorem hs1 : hsops[1]? = some { dst := some 15, op := Op.slice 9 (Operand.tmp 14) (some (Operand.const (Value.int IntKind.i64 8))) none none, type := 9, pos := "ref.go:44", after := #[{ on := 0, ground := Ground.data }], guard := none } := by kernel_rfl
theorem hs2 : hsops[2]? = some { dst := some 16, op := Op.call { callee := Callee.value (Operand.func 31), args := #[Operand.tmp 15], argTypes := #[9] }, type := 3, pos := "ref.go:44", after := #[{ on := 1, ground := Ground.data }], guard := none } := by kernel_rfl
theorem hs3 : hsops[3]? = some { dst := some 17, op := Op.move (Operand.tmp 0), type := 9, pos := "ref.go:44", after := #[], guard := none } := by kernel_rfl
theorem hs4 : hsops[4]? = some { dst := some 18, op := Op.slice 9 (Operand.tmp 17) (some (Operand.const (Value.int IntKind.i64 12))) none none, type := 9, pos := "ref.go:44", after := #[{ on := 3, ground := Ground.data }], guard := none } := by kernel_rfl
theorem hs5 : hsops[5]? = some { dst := some 19, op := Op.call { callee := Callee.value (Operand.func 31), args := #[Operand.tmp 18], argTypes := #[9] }, type := 3, pos := "ref.go:44", after := #[{ on := 4, ground := Ground.data }, { on := 2, ground := Ground.chain }], guard := none } := by kernel_rfl
theorem hs6 : hsops[6]? = some { dst := some 20, op := Op.move (Operand.tmp 0), type := 9, pos := "ref.go:44", after := #[], guard := none } := by kernel_rfl
theorem hs7 : hsops[7]? = some { dst := some 21, op := Op.slice 9 (Operand.tmp 20) (some (Operand.const (Value.int IntKind.i64 16))) none none, type := 9, pos := "ref.go:44", after := #[{ on := 6, ground := Ground.data }], guard := none } := by kernel_rfl
theorem hs8 : hsops[8]? = some { dst := some 22, op := Op.call { callee := Callee.value (Operand.func 31), args := #[Operand.tmp 21], argTypes := #[9] }, type := 3, pos := "ref.go:44", after := #[{ on := 7, ground := Ground.data }, { on := 5, ground := Ground.chain }], guard := none } := by kernel_rfl
theorem hs9 : hsops[9]? = some { dst := some 23, op := Op.build 23 #[(0, Operand.tmp 16), (1, Operand.tmp 19), (2, Operand.tmp 22)], type := 23, pos := "ref.go:44", after := #[{ on := 2, ground := Ground.data }, { on := 5, ground := Ground.data }, { on := 8, ground := Ground.data }], guard := none } := by kernel_rfl
theorem hs10 : hsops[10]? = some { dst := some 4, op := Op.alloc 23, type := 0, pos := "ref.go:44", after := #[], guard := none } := by kernel_rfl
theorem hs11 : hsops[11]? = some { dst := none, op := Op.store 23 (Operand.tmp 4) (Operand.tmp 23), type := 0, pos := "ref.go:44", after := #[{ on := 10, ground := Ground.data }, { on := 9, ground := Ground.data }, { on := 8, ground := Ground.chain }, { on := 0, ground := Ground.phase }, { on := 1, ground := Ground.phase }, { on := 2, ground := Ground.phase }, { on := 3, ground := Ground.phase }, { on := 4, ground := Ground.phase }, { on := 5, ground := Ground.phase }, { on := 6, ground := Ground.phase }, { on := 7, ground := Ground.phase }, { on := 8, ground := Ground.phase }, { on := 9, ground := Ground.phase }, { on := 10, ground := Ground.phase }], guard := none } := by kernel_rfl
end Go.Proofs.YtdbemkdfndjakaaDoor.Hd

/- The operations of a condition, each by its number. -/
namespace Go.Proofs.YtdbemkdfndjakaaDoor.Hd
open Lex

noncomputable def nwops : Array Oper := #[{ dst := some 18, op := Op.fieldAddr 39 (Operand.tmp 4) 0, type := 0, pos := "ref.go:18", after := #[], guard := none },
  { dst := some 19, op := Op.load 36 (Operand.tmp 18), type := 36, pos := "ref.go:18", after := #[{ on := 0, ground := Ground.data }], guard := none },
  { dst := some 20, op := Op.call { callee := Callee.value (Operand.func 43), args := #[Operand.const (Value.int IntKind.i64 256)], argTypes := #[3] }, type := 9, pos := "ref.go:18", after := #[], guard := none },
  { dst := some 21, op := Op.buildSlice 36 1 #[(0, Operand.tmp 20)], type := 36, pos := "ref.go:18", after := #[{ on := 2, ground := Ground.data }], guard := none },
  { dst := some 22, op := Op.call { callee := Callee.builtin Builtin.append, args := #[Operand.tmp 19, Operand.tmp 21], argTypes := #[36, 36] }, type := 36, pos := "ref.go:18", after := #[{ on := 1, ground := Ground.data }, { on := 3, ground := Ground.data }, { on := 2, ground := Ground.chain }], guard := none },
  { dst := some 23, op := Op.fieldAddr 39 (Operand.tmp 4) 0, type := 0, pos := "ref.go:18", after := #[{ on := 0, ground := Ground.phase }, { on := 1, ground := Ground.phase }, { on := 2, ground := Ground.phase }, { on := 3, ground := Ground.phase }, { on := 4, ground := Ground.phase }], guard := none },
  { dst := none, op := Op.assign (Operand.const (Value.bool true)), type := 0, pos := "ref.go:18", after := #[{ on := 5, ground := Ground.data }, { on := 4, ground := Ground.data }, { on := 4, ground := Ground.chain }, { on := 0, ground := Ground.phase }, { on := 1, ground := Ground.phase }, { on := 2, ground := Ground.phase }, { on := 3, ground := Ground.phase }, { on := 4, ground := Ground.phase }], guard := none }]
def nwcalls : List Nat := [2, 3, 4]
def nword : List Nat := [0, 1, 2, 3, 4, 5, 6]
theorem nwsel : Region.noSelect nwops = true := by kernel_rfl
theorem nwlex : lexH nwops nwcalls nword (Array.replicate nwops.size false) = true := by kernel_rfl
noncomputable def nwraw : Array Oper := #[{ dst := some 18, op := Op.fieldAddr 39 (Operand.tmp 4) 0, type := 0, pos := "ref.go:18", after := #[], guard := none },
  { dst := some 19, op := Op.load 36 (Operand.tmp 18), type := 36, pos := "ref.go:18", after := #[{ on := 0, ground := Ground.data }], guard := none },
  { dst := some 20, op := Op.call { callee := Callee.value (Operand.func 43), args := #[Operand.const (Value.int IntKind.i64 256)], argTypes := #[3] }, type := 9, pos := "ref.go:18", after := #[], guard := none },
  { dst := some 21, op := Op.buildSlice 36 1 #[(0, Operand.tmp 20)], type := 36, pos := "ref.go:18", after := #[{ on := 2, ground := Ground.data }], guard := none },
  { dst := some 22, op := Op.call { callee := Callee.builtin Builtin.append, args := #[Operand.tmp 19, Operand.tmp 21], argTypes := #[36, 36] }, type := 36, pos := "ref.go:18", after := #[{ on := 1, ground := Ground.data }, { on := 3, ground := Ground.data }, { on := 2, ground := Ground.chain }], guard := none },
  { dst := some 23, op := Op.fieldAddr 39 (Operand.tmp 4) 0, type := 0, pos := "ref.go:18", after := #[{ on := 0, ground := Ground.phase }, { on := 1, ground := Ground.phase }, { on := 2, ground := Ground.phase }, { on := 3, ground := Ground.phase }, { on := 4, ground := Ground.phase }], guard := none },
  { dst := none, op := Op.store 36 (Operand.tmp 23) (Operand.tmp 22), type := 0, pos := "ref.go:18", after := #[{ on := 5, ground := Ground.data }, { on := 4, ground := Ground.data }, { on := 4, ground := Ground.chain }, { on := 0, ground := Ground.phase }, { on := 1, ground := Ground.phase }, { on := 2, ground := Ground.phase }, { on := 3, ground := Ground.phase }, { on := 4, ground := Ground.phase }], guard := none }]
theorem nwlast : nwraw[6]? = some { dst := none, op := Op.store 36 (Operand.tmp 23) (Operand.tmp 22), type := 0, pos := "ref.go:18", after := #[{ on := 5, ground := Ground.data }, { on := 4, ground := Ground.data }, { on := 4, ground := Ground.chain }, { on := 0, ground := Ground.phase }, { on := 1, ground := Ground.phase }, { on := 2, ground := Ground.phase }, { on := 3, ground := Ground.phase }, { on := 4, ground := Ground.phase }], guard := none } := by kernel_rfl
theorem nweq : nwops = nwraw.setIfInBounds 6 (Lex.idle { dst := none, op := Op.store 36 (Operand.tmp 23) (Operand.tmp 22), type := 0, pos := "ref.go:18", after := #[{ on := 5, ground := Ground.data }, { on := 4, ground := Ground.data }, { on := 4, ground := Ground.chain }, { on := 0, ground := Ground.phase }, { on := 1, ground := Ground.phase }, { on := 2, ground := Ground.phase }, { on := 3, ground := Ground.phase }, { on := 4, ground := Ground.phase }], guard := none }) := by kernel_rfl
theorem nw0 : nwops[0]? = some { dst := some 18, op := Op.fieldAddr 39 (Operand.tmp 4) 0, type := 0, pos := "ref.go:18", after := #[], guard := none } := by kernel_rfl
theorem nw1 : nwops[1]? = some { dst := some 19, op := Op.load 36 (Operand.tmp 18), type := 36, pos := "ref.go:18", after := #[{ on := 0, ground := Ground.data }], guard := none } := by kernel_rfl
theorem nw2 : nwops[2]? = some { dst := some 20, op := Op.call { callee := Callee.value (Operand.func 43), args := #[Operand.const (Value.int IntKind.i64 256)], argTypes := #[3] }, type := 9, pos := "ref.go:18", after := #[], guard := none } := by kernel_rfl
theorem nw3 : nwops[3]? = some { dst := some 21, op := Op.buildSlice 36 1 #[(0, Operand.tmp 20)], type := 36, pos := "ref.go:18", after := #[{ on := 2, ground := Ground.data }], guard := none } := by kernel_rfl
theorem nw4 : nwops[4]? = some { dst := some 22, op := Op.call { callee := Callee.builtin Builtin.append, args := #[Operand.tmp 19, Operand.tmp 21], argTypes := #[36, 36] }, type := 36, pos := "ref.go:18", after := #[{ on := 1, ground := Ground.data }, { on := 3, ground := Ground.data }, { on := 2, ground := Ground.chain }], guard := none } := by kernel_rfl
theorem nw5 : nwops[5]? = some { dst := some 23, op := Op.fieldAddr 39 (Operand.tmp 4) 0, type := 0, pos := "ref.go:18", after := #[{ on := 0, ground := Ground.phase }, { on := 1, ground := Ground.phase }, { on := 2, ground := Ground.phase }, { on := 3, ground := Ground.phase }, { on := 4, ground := Ground.phase }], guard := none } := by kernel_rfl
theorem nw6 : nwops[6]? = some { dst := none, op := Op.assign (Operand.const (Value.bool true)), type := 0, pos := "ref.go:18", after := #[{ on := 5, ground := Ground.data }, { on := 4, ground := Ground.data }, { on := 4, ground := Ground.chain }, { on := 0, ground := Ground.phase }, { on := 1, ground := Ground.phase }, { on := 2, ground := Ground.phase }, { on := 3, ground := Ground.phase }, { on := 4, ground := Ground.phase }], guard := none } := by kernel_rfl
end Go.Proofs.YtdbemkdfndjakaaDoor.Hd

/- The operations of a condition, each by its number. -/
namespace Go.Proofs.YtdbemkdfndjakaaDoor.Hd
open Lex

noncomputable def hpops : Array Oper := #[{ dst := some 12, op := Op.load 39 (Operand.tmp 2), type := 39, pos := "head.go:92", after := #[], guard := none },
  { dst := some 13, op := Op.fieldAddr 23 (Operand.tmp 3) 2, type := 0, pos := "head.go:92", after := #[], guard := none },
  { dst := some 14, op := Op.load 3 (Operand.tmp 13), type := 3, pos := "head.go:92", after := #[{ on := 1, ground := Ground.data }], guard := none },
  { dst := some 15, op := Op.binOp BinOp.rem 3 (Operand.tmp 14) (Operand.const (Value.int IntKind.i64 2)) 3, type := 3, pos := "head.go:92", after := #[{ on := 2, ground := Ground.data }], guard := none },
  { dst := some 16, op := Op.load 23 (Operand.tmp 3), type := 23, pos := "head.go:92", after := #[], guard := none },
  { dst := some 17, op := Op.call { callee := Callee.value (Operand.func 12), args := #[Operand.tmp 16], argTypes := #[23] }, type := 9, pos := "head.go:92", after := #[{ on := 4, ground := Ground.data }], guard := none },
  { dst := some 18, op := Op.call { callee := Callee.value (Operand.func 39), args := #[Operand.tmp 12, Operand.tmp 15, Operand.tmp 17], argTypes := #[39, 3, 9] }, type := 46, pos := "head.go:92", after := #[{ on := 0, ground := Ground.data }, { on := 3, ground := Ground.data }, { on := 5, ground := Ground.data }, { on := 5, ground := Ground.chain }], guard := none },
  { dst := some 11, op := Op.move (Operand.tmp 18), type := 46, pos := "head.go:92", after := #[{ on := 6, ground := Ground.data }], guard := none }]
def hpcalls : List Nat := [5, 6]
def hpord : List Nat := [0, 1, 2, 3, 4, 5, 6, 7]
theorem hpsel : Region.noSelect hpops = true := by kernel_rfl
theorem hplex : lexH hpops hpcalls hpord (Array.replicate hpops.size false) = true := by kernel_rfl
noncomputable def hpraw : Array Oper := #[{ dst := some 12, op := Op.load 39 (Operand.tmp 2), type := 39, pos := "head.go:92", after := #[], guard := none },
  { dst := some 13, op := Op.fieldAddr 23 (Operand.tmp 3) 2, type := 0, pos := "head.go:92", after := #[], guard := none },
  { dst := some 14, op := Op.load 3 (Operand.tmp 13), type := 3, pos := "head.go:92", after := #[{ on := 1, ground := Ground.data }], guard := none },
  { dst := some 15, op := Op.binOp BinOp.rem 3 (Operand.tmp 14) (Operand.const (Value.int IntKind.i64 2)) 3, type := 3, pos := "head.go:92", after := #[{ on := 2, ground := Ground.data }], guard := none },
  { dst := some 16, op := Op.load 23 (Operand.tmp 3), type := 23, pos := "head.go:92", after := #[], guard := none },
  { dst := some 17, op := Op.call { callee := Callee.value (Operand.func 12), args := #[Operand.tmp 16], argTypes := #[23] }, type := 9, pos := "head.go:92", after := #[{ on := 4, ground := Ground.data }], guard := none },
  { dst := some 18, op := Op.call { callee := Callee.value (Operand.func 39), args := #[Operand.tmp 12, Operand.tmp 15, Operand.tmp 17], argTypes := #[39, 3, 9] }, type := 46, pos := "head.go:92", after := #[{ on := 0, ground := Ground.data }, { on := 3, ground := Ground.data }, { on := 5, ground := Ground.data }, { on := 5, ground := Ground.chain }], guard := none },
  { dst := some 11, op := Op.move (Operand.tmp 18), type := 46, pos := "head.go:92", after := #[{ on := 6, ground := Ground.data }], guard := none },
  { dst := some 19, op := Op.extract (Operand.tmp 11) 0, type := 39, pos := "head.go:92", after := #[{ on := 7, ground := Ground.data }], guard := none },
  { dst := some 20, op := Op.extract (Operand.tmp 11) 1, type := 43, pos := "head.go:92", after := #[{ on := 7, ground := Ground.data }, { on := 10, ground := Ground.gcOnly Departure.lateStores }], guard := none },
  { dst := none, op := Op.store 39 (Operand.tmp 2) (Operand.tmp 19), type := 0, pos := "head.go:92", after := #[{ on := 8, ground := Ground.data }, { on := 6, ground := Ground.chain }, { on := 0, ground := Ground.phase }, { on := 1, ground := Ground.phase }, { on := 2, ground := Ground.phase }, { on := 3, ground := Ground.phase }, { on := 4, ground := Ground.phase }, { on := 5, ground := Ground.phase }, { on := 6, ground := Ground.phase }, { on := 7, ground := Ground.phase }, { on := 8, ground := Ground.phase }, { on := 9, ground := Ground.textOnly Departure.lateStores }], guard := none },
  { dst := some 6, op := Op.assign (Operand.tmp 20), type := 43, pos := "head.go:92", after := #[{ on := 9, ground := Ground.data }, { on := 10, ground := Ground.chain }, { on := 0, ground := Ground.phase }, { on := 1, ground := Ground.phase }, { on := 2, ground := Ground.phase }, { on := 3, ground := Ground.phase }, { on := 4, ground := Ground.phase }, { on := 5, ground := Ground.phase }, { on := 6, ground := Ground.phase }, { on := 7, ground := Ground.phase }, { on := 8, ground := Ground.phase }, { on := 9, ground := Ground.phase }, { on := 10, ground := Ground.phase }], guard := none }]
theorem hpcut : hpops = hpraw.extract 0 8 := by kernel_rfl
theorem hpsize : hpraw.size = 12 := by kernel_rfl
theorem hprsel : Region.noSelect hpraw = true := by kernel_rfl
theorem hptlex : lexH hpraw [10] [8, 9, 10, 11] (extL (Array.replicate 8 true) hpraw.size) = true := by kernel_rfl
theorem hpt8 : hpraw[8]? = some { dst := some 19, op := Op.extract (Operand.tmp 11) 0, type := 39, pos := "head.go:92", after := #[{ on := 7, ground := Ground.data }], guard := none } := by kernel_rfl
theorem hpt9 : hpraw[9]? = some { dst := some 20, op := Op.extract (Operand.tmp 11) 1, type := 43, pos := "head.go:92", after := #[{ on := 7, ground := Ground.data }, { on := 10, ground := Ground.gcOnly Departure.lateStores }], guard := none } := by kernel_rfl
theorem hpt10 : hpraw[10]? = some { dst := none, op := Op.store 39 (Operand.tmp 2) (Operand.tmp 19), type := 0, pos := "head.go:92", after := #[{ on := 8, ground := Ground.data }, { on := 6, ground := Ground.chain }, { on := 0, ground := Ground.phase }, { on := 1, ground := Ground.phase }, { on := 2, ground := Ground.phase }, { on := 3, ground := Ground.phase }, { on := 4, ground := Ground.phase }, { on := 5, ground := Ground.phase }, { on := 6, ground := Ground.phase }, { on := 7, ground := Ground.phase }, { on := 8, ground := Ground.phase }, { on := 9, ground := Ground.textOnly Departure.lateStores }], guard := none } := by kernel_rfl
theorem hpt11 : hpraw[11]? = some { dst := some 6, op := Op.assign (Operand.tmp 20), type := 43, pos := "head.go:92", after := #[{ on := 9, ground := Ground.data }, { on := 10, ground := Ground.chain }, { on := 0, ground := Ground.phase }, { on := 1, ground := Ground.phase }, { on := 2, ground := Ground.phase }, { on := 3, ground := Ground.phase }, { on := 4, ground := Ground.phase }, { on := 5, ground := Ground.phase }, { on := 6, ground := Ground.phase }, { on := 7, ground := Ground.phase }, { on := 8, ground := Ground.phase }, { on := 9, ground := Ground.phase }, { on := 10, ground := Ground.phase }], guard := none } := by kernel_rfl
theorem hp0 : hpops[0]? = some { dst := some 12, op := Op.load 39 (Operand.tmp 2), type := 39, pos := "head.go:92", after := #[], guard := none } := by kernel_rfl
theorem hp1 : hpops[1]? = some { dst := some 13, op := Op.fieldAddr 23 (Operand.tmp 3) 2, type := 0, pos := "head.go:92", after := #[], guard := none } := by kernel_rfl
theorem hp2 : hpops[2]? = some { dst := some 14, op := Op.load 3 (Operand.tmp 13), type := 3, pos := "head.go:92", after := #[{ on := 1, ground := Ground.data }], guard := none } := by kernel_rfl
theorem hp3 : hpops[3]? = some { dst := some 15, op := Op.binOp BinOp.rem 3 (Operand.tmp 14) (Operand.const (Value.int IntKind.i64 2)) 3, type := 3, pos := "head.go:92", after := #[{ on := 2, ground := Ground.data }], guard := none } := by kernel_rfl
theorem hp4 : hpops[4]? = some { dst := some 16, op := Op.load 23 (Operand.tmp 3), type := 23, pos := "head.go:92", after := #[], guard := none } := by kernel_rfl
theorem hp5 : hpops[5]? = some { dst := some 17, op := Op.call { callee := Callee.value (Operand.func 12), args := #[Operand.tmp 16], argTypes := #[23] }, type := 9, pos := "head.go:92", after := #[{ on := 4, ground := Ground.data }], guard := none } := by kernel_rfl
theorem hp6 : hpops[6]? = some { dst := some 18, op := Op.call { callee := Callee.value (Operand.func 39), args := #[Operand.tmp 12, Operand.tmp 15, Operand.tmp 17], argTypes := #[39, 3, 9] }, type := 46, pos := "head.go:92", after := #[{ on := 0, ground := Ground.data }, { on := 3, ground := Ground.data }, { on := 5, ground := Ground.data }, { on := 5, ground := Ground.chain }], guard := none } := by kernel_rfl
theorem hp7 : hpops[7]? = some { dst := some 11, op := Op.move (Operand.tmp 18), type := 46, pos := "head.go:92", after := #[{ on := 6, ground := Ground.data }], guard := none } := by kernel_rfl
noncomputable def hqops : Array Oper := #[{ dst := some 12, op := Op.load 39 (Operand.tmp 2), type := 39, pos := "ref.go:76", after := #[], guard := none },
  { dst := some 13, op := Op.fieldAddr 23 (Operand.tmp 3) 2, type := 0, pos := "ref.go:76", after := #[], guard := none },
  { dst := some 14, op := Op.load 3 (Operand.tmp 13), type := 3, pos := "ref.go:76", after := #[{ on := 1, ground := Ground.data }], guard := none },
  { dst := some 15, op := Op.binOp BinOp.rem 3 (Operand.tmp 14) (Operand.const (Value.int IntKind.i64 2)) 3, type := 3, pos := "ref.go:76", after := #[{ on := 2, ground := Ground.data }], guard := none },
  { dst := some 16, op := Op.load 23 (Operand.tmp 3), type := 23, pos := "ref.go:76", after := #[], guard := none },
  { dst := some 17, op := Op.call { callee := Callee.value (Operand.func 13), args := #[Operand.tmp 16], argTypes := #[23] }, type := 9, pos := "ref.go:76", after := #[{ on := 4, ground := Ground.data }], guard := none },
  { dst := some 18, op := Op.call { callee := Callee.value (Operand.func 41), args := #[Operand.tmp 12, Operand.tmp 15, Operand.tmp 17], argTypes := #[39, 3, 9] }, type := 46, pos := "ref.go:76", after := #[{ on := 0, ground := Ground.data }, { on := 3, ground := Ground.data }, { on := 5, ground := Ground.data }, { on := 5, ground := Ground.chain }], guard := none },
  { dst := some 11, op := Op.move (Operand.tmp 18), type := 46, pos := "ref.go:76", after := #[{ on := 6, ground := Ground.data }], guard := none }]
def hqcalls : List Nat := [5, 6]
def hqord : List Nat := [0, 1, 2, 3, 4, 5, 6, 7]
theorem hqsel : Region.noSelect hqops = true := by kernel_rfl
theorem hqlex : lexH hqops hqcalls hqord (Array.replicate hqops.size false) = true := by kernel_rfl
noncomputable def hqraw : Array Oper := #[{ dst := some 12, op := Op.load 39 (Operand.tmp 2), type := 39, pos := "ref.go:76", after := #[], guard := none },
  { dst := some 13, op := Op.fieldAddr 23 (Operand.tmp 3) 2, type := 0, pos := "ref.go:76", after := #[], guard := none },
  { dst := some 14, op := Op.load 3 (Operand.tmp 13), type := 3, pos := "ref.go:76", after := #[{ on := 1, ground := Ground.data }], guard := none },
  { dst := some 15, op := Op.binOp BinOp.rem 3 (Operand.tmp 14) (Operand.const (Value.int IntKind.i64 2)) 3, type := 3, pos := "ref.go:76", after := #[{ on := 2, ground := Ground.data }], guard := none },
  { dst := some 16, op := Op.load 23 (Operand.tmp 3), type := 23, pos := "ref.go:76", after := #[], guard := none },
  { dst := some 17, op := Op.call { callee := Callee.value (Operand.func 13), args := #[Operand.tmp 16], argTypes := #[23] }, type := 9, pos := "ref.go:76", after := #[{ on := 4, ground := Ground.data }], guard := none },
  { dst := some 18, op := Op.call { callee := Callee.value (Operand.func 41), args := #[Operand.tmp 12, Operand.tmp 15, Operand.tmp 17], argTypes := #[39, 3, 9] }, type := 46, pos := "ref.go:76", after := #[{ on := 0, ground := Ground.data }, { on := 3, ground := Ground.data }, { on := 5, ground := Ground.data }, { on := 5, ground := Ground.chain }], guard := none },
  { dst := some 11, op := Op.move (Operand.tmp 18), type := 46, pos := "ref.go:76", after := #[{ on := 6, ground := Ground.data }], guard := none },
  { dst := some 19, op := Op.extract (Operand.tmp 11) 0, type := 39, pos := "ref.go:76", after := #[{ on := 7, ground := Ground.data }], guard := none },
  { dst := some 20, op := Op.extract (Operand.tmp 11) 1, type := 43, pos := "ref.go:76", after := #[{ on := 7, ground := Ground.data }, { on := 10, ground := Ground.gcOnly Departure.lateStores }], guard := none },
  { dst := none, op := Op.store 39 (Operand.tmp 2) (Operand.tmp 19), type := 0, pos := "ref.go:76", after := #[{ on := 8, ground := Ground.data }, { on := 6, ground := Ground.chain }, { on := 0, ground := Ground.phase }, { on := 1, ground := Ground.phase }, { on := 2, ground := Ground.phase }, { on := 3, ground := Ground.phase }, { on := 4, ground := Ground.phase }, { on := 5, ground := Ground.phase }, { on := 6, ground := Ground.phase }, { on := 7, ground := Ground.phase }, { on := 8, ground := Ground.phase }, { on := 9, ground := Ground.textOnly Departure.lateStores }], guard := none },
  { dst := some 6, op := Op.assign (Operand.tmp 20), type := 43, pos := "ref.go:76", after := #[{ on := 9, ground := Ground.data }, { on := 10, ground := Ground.chain }, { on := 0, ground := Ground.phase }, { on := 1, ground := Ground.phase }, { on := 2, ground := Ground.phase }, { on := 3, ground := Ground.phase }, { on := 4, ground := Ground.phase }, { on := 5, ground := Ground.phase }, { on := 6, ground := Ground.phase }, { on := 7, ground := Ground.phase }, { on := 8, ground := Ground.phase }, { on := 9, ground := Ground.phase }, { on := 10, ground := Ground.phase }], guard := none }]
theorem hqcut : hqops = hqraw.extract 0 8 := by kernel_rfl
theorem hqsize : hqraw.size = 12 := by kernel_rfl
theorem hqrsel : Region.noSelect hqraw = true := by kernel_rfl
theorem hqtlex : lexH hqraw [10] [8, 9, 10, 11] (extL (Array.replicate 8 true) hqraw.size) = true := by kernel_rfl
theorem hqt8 : hqraw[8]? = some { dst := some 19, op := Op.extract (Operand.tmp 11) 0, type := 39, pos := "ref.go:76", after := #[{ on := 7, ground := Ground.data }], guard := none } := by kernel_rfl
theorem hqt9 : hqraw[9]? = some { dst := some 20, op := Op.extract (Operand.tmp 11) 1, type := 43, pos := "ref.go:76", after := #[{ on := 7, ground := Ground.data }, { on := 10, ground := Ground.gcOnly Departure.lateStores }], guard := none } := by kernel_rfl
theorem hqt10 : hqraw[10]? = some { dst := none, op := Op.store 39 (Operand.tmp 2) (Operand.tmp 19), type := 0, pos := "ref.go:76", after := #[{ on := 8, ground := Ground.data }, { on := 6, ground := Ground.chain }, { on := 0, ground := Ground.phase }, { on := 1, ground := Ground.phase }, { on := 2, ground := Ground.phase }, { on := 3, ground := Ground.phase }, { on := 4, ground := Ground.phase }, { on := 5, ground := Ground.phase }, { on := 6, ground := Ground.phase }, { on := 7, ground := Ground.phase }, { on := 8, ground := Ground.phase }, { on := 9, ground := Ground.textOnly Departure.lateStores }], guard := none } := by kernel_rfl
theorem hqt11 : hqraw[11]? = some { dst := some 6, op := Op.assign (Operand.tmp 20), type := 43, pos := "ref.go:76", after := #[{ on := 9, ground := Ground.data }, { on := 10, ground := Ground.chain }, { on := 0, ground := Ground.phase }, { on := 1, ground := Ground.phase }, { on := 2, ground := Ground.phase }, { on := 3, ground := Ground.phase }, { on := 4, ground := Ground.phase }, { on := 5, ground := Ground.phase }, { on := 6, ground := Ground.phase }, { on := 7, ground := Ground.phase }, { on := 8, ground := Ground.phase }, { on := 9, ground := Ground.phase }, { on := 10, ground := Ground.phase }], guard := none } := by kernel_rfl
theorem hq0 : hqops[0]? = some { dst := some 12, op := Op.load 39 (Operand.tmp 2), type := 39, pos := "ref.go:76", after := #[], guard := none } := by kernel_rfl
theorem hq1 : hqops[1]? = some { dst := some 13, op := Op.fieldAddr 23 (Operand.tmp 3) 2, type := 0, pos := "ref.go:76", after := #[], guard := none } := by kernel_rfl
theorem hq2 : hqops[2]? = some { dst := some 14, op := Op.load 3 (Operand.tmp 13), type := 3, pos := "ref.go:76", after := #[{ on := 1, ground := Ground.data }], guard := none } := by kernel_rfl
theorem hq3 : hqops[3]? = some { dst := some 15, op := Op.binOp BinOp.rem 3 (Operand.tmp 14) (Operand.const (Value.int IntKind.i64 2)) 3, type := 3, pos := "ref.go:76", after := #[{ on := 2, ground := Ground.data }], guard := none } := by kernel_rfl
theorem hq4 : hqops[4]? = some { dst := some 16, op := Op.load 23 (Operand.tmp 3), type := 23, pos := "ref.go:76", after := #[], guard := none } := by kernel_rfl
theorem hq5 : hqops[5]? = some { dst := some 17, op := Op.call { callee := Callee.value (Operand.func 13), args := #[Operand.tmp 16], argTypes := #[23] }, type := 9, pos := "ref.go:76", after := #[{ on := 4, ground := Ground.data }], guard := none } := by kernel_rfl
theorem hq6 : hqops[6]? = some { dst := some 18, op := Op.call { callee := Callee.value (Operand.func 41), args := #[Operand.tmp 12, Operand.tmp 15, Operand.tmp 17], argTypes := #[39, 3, 9] }, type := 46, pos := "ref.go:76", after := #[{ on := 0, ground := Ground.data }, { on := 3, ground := Ground.data }, { on := 5, ground := Ground.data }, { on := 5, ground := Ground.chain }], guard := none } := by kernel_rfl
theorem hq7 : hqops[7]? = some { dst := some 11, op := Op.move (Operand.tmp 18), type := 46, pos := "ref.go:76", after := #[{ on := 6, ground := Ground.data }], guard := none } := by kernel_rfl
end Go.Proofs.YtdbemkdfndjakaaDoor.Hd

/- The operations of a condition, each by its number. -/
namespace Go.Proofs.YtdbemkdfndjakaaDoor.Hd
open Lex

noncomputable def nlops : Array Oper := #[{ dst := some 48, op := Op.load 39 (Operand.tmp 1), type := 39, pos := "head.go:84", after := #[], guard := none },
  { dst := some 49, op := Op.load 23 (Operand.tmp 5), type := 23, pos := "head.go:84", after := #[{ on := 2, ground := Ground.gcOnly Departure.lateStores }], guard := none },
  { dst := none, op := Op.store 39 (Operand.tmp 2) (Operand.tmp 48), type := 0, pos := "head.go:84", after := #[{ on := 0, ground := Ground.data }, { on := 0, ground := Ground.phase }, { on := 1, ground := Ground.textOnly Departure.lateStores }], guard := none },
  { dst := none, op := Op.store 23 (Operand.tmp 3) (Operand.tmp 49), type := 0, pos := "head.go:84", after := #[{ on := 1, ground := Ground.data }, { on := 2, ground := Ground.chain }, { on := 0, ground := Ground.phase }, { on := 1, ground := Ground.phase }, { on := 2, ground := Ground.phase }], guard := none },
  { dst := some 4, op := Op.assign (Operand.const (Value.int IntKind.i64 0)), type := 43, pos := "head.go:84", after := #[{ on := 3, ground := Ground.chain }, { on := 0, ground := Ground.phase }, { on := 1, ground := Ground.phase }, { on := 2, ground := Ground.phase }, { on := 3, ground := Ground.phase }], guard := none }]
def nlcalls : List Nat := [2, 3]
def nlord : List Nat := [0, 1, 2, 3, 4]
theorem nlsel : Region.noSelect nlops = true := by kernel_rfl
theorem nllex : lexH nlops nlcalls nlord (Array.replicate nlops.size false) = true := by kernel_rfl
theorem nl0 : nlops[0]? = some { dst := some 48, op := Op.load 39 (Operand.tmp 1), type := 39, pos := "head.go:84", after := #[], guard := none } := by kernel_rfl
theorem nl1 : nlops[1]? = some { dst := some 49, op := Op.load 23 (Operand.tmp 5), type := 23, pos := "head.go:84", after := #[{ on := 2, ground := Ground.gcOnly Departure.lateStores }], guard := none } := by kernel_rfl
theorem nl2 : nlops[2]? = some { dst := none, op := Op.store 39 (Operand.tmp 2) (Operand.tmp 48), type := 0, pos := "head.go:84", after := #[{ on := 0, ground := Ground.data }, { on := 0, ground := Ground.phase }, { on := 1, ground := Ground.textOnly Departure.lateStores }], guard := none } := by kernel_rfl
theorem nl3 : nlops[3]? = some { dst := none, op := Op.store 23 (Operand.tmp 3) (Operand.tmp 49), type := 0, pos := "head.go:84", after := #[{ on := 1, ground := Ground.data }, { on := 2, ground := Ground.chain }, { on := 0, ground := Ground.phase }, { on := 1, ground := Ground.phase }, { on := 2, ground := Ground.phase }], guard := none } := by kernel_rfl
theorem nl4 : nlops[4]? = some { dst := some 4, op := Op.assign (Operand.const (Value.int IntKind.i64 0)), type := 43, pos := "head.go:84", after := #[{ on := 3, ground := Ground.chain }, { on := 0, ground := Ground.phase }, { on := 1, ground := Ground.phase }, { on := 2, ground := Ground.phase }, { on := 3, ground := Ground.phase }], guard := none } := by kernel_rfl
noncomputable def nkops : Array Oper := #[{ dst := some 52, op := Op.load 39 (Operand.tmp 1), type := 39, pos := "ref.go:68", after := #[], guard := none },
  { dst := some 53, op := Op.load 23 (Operand.tmp 5), type := 23, pos := "ref.go:68", after := #[{ on := 2, ground := Ground.gcOnly Departure.lateStores }], guard := none },
  { dst := none, op := Op.store 39 (Operand.tmp 2) (Operand.tmp 52), type := 0, pos := "ref.go:68", after := #[{ on := 0, ground := Ground.data }, { on := 0, ground := Ground.phase }, { on := 1, ground := Ground.textOnly Departure.lateStores }], guard := none },
  { dst := none, op := Op.store 23 (Operand.tmp 3) (Operand.tmp 53), type := 0, pos := "ref.go:68", after := #[{ on := 1, ground := Ground.data }, { on := 2, ground := Ground.chain }, { on := 0, ground := Ground.phase }, { on := 1, ground := Ground.phase }, { on := 2, ground := Ground.phase }], guard := none },
  { dst := some 4, op := Op.assign (Operand.const (Value.int IntKind.i64 0)), type := 43, pos := "ref.go:68", after := #[{ on := 3, ground := Ground.chain }, { on := 0, ground := Ground.phase }, { on := 1, ground := Ground.phase }, { on := 2, ground := Ground.phase }, { on := 3, ground := Ground.phase }], guard := none }]
def nkcalls : List Nat := [2, 3]
def nkord : List Nat := [0, 1, 2, 3, 4]
theorem nksel : Region.noSelect nkops = true := by kernel_rfl
theorem nklex : lexH nkops nkcalls nkord (Array.replicate nkops.size false) = true := by kernel_rfl
theorem nk0 : nkops[0]? = some { dst := some 52, op := Op.load 39 (Operand.tmp 1), type := 39, pos := "ref.go:68", after := #[], guard := none } := by kernel_rfl
theorem nk1 : nkops[1]? = some { dst := some 53, op := Op.load 23 (Operand.tmp 5), type := 23, pos := "ref.go:68", after := #[{ on := 2, ground := Ground.gcOnly Departure.lateStores }], guard := none } := by kernel_rfl
theorem nk2 : nkops[2]? = some { dst := none, op := Op.store 39 (Operand.tmp 2) (Operand.tmp 52), type := 0, pos := "ref.go:68", after := #[{ on := 0, ground := Ground.data }, { on := 0, ground := Ground.phase }, { on := 1, ground := Ground.textOnly Departure.lateStores }], guard := none } := by kernel_rfl
theorem nk3 : nkops[3]? = some { dst := none, op := Op.store 23 (Operand.tmp 3) (Operand.tmp 53), type := 0, pos := "ref.go:68", after := #[{ on := 1, ground := Ground.data }, { on := 2, ground := Ground.chain }, { on := 0, ground := Ground.phase }, { on := 1, ground := Ground.phase }, { on := 2, ground := Ground.phase }], guard := none } := by kernel_rfl
theorem nk4 : nkops[4]? = some { dst := some 4, op := Op.assign (Operand.const (Value.int IntKind.i64 0)), type := 43, pos := "ref.go:68", after := #[{ on := 3, ground := Ground.chain }, { on := 0, ground := Ground.phase }, { on := 1, ground := Ground.phase }, { on := 2, ground := Ground.phase }, { on := 3, ground := Ground.phase }], guard := none } := by kernel_rfl
end Go.Proofs.YtdbemkdfndjakaaDoor.Hd

/- The operations of a condition, each by its number. -/
namespace Go.Proofs.YtdbemkdfndjakaaDoor.Hd
open Lex

noncomputable def heops : Array Oper := #[{ dst := some 17, op := Op.load 39 (Operand.tmp 3), type := 39, pos := "law.go:40", after := #[], guard := none },
  { dst := some 18, op := Op.move (Operand.tmp 0), type := 33, pos := "law.go:40", after := #[], guard := none },
  { dst := some 19, op := Op.move (Operand.tmp 5), type := 3, pos := "law.go:40", after := #[], guard := none },
  { dst := some 20, op := Op.indexAddr 33 (Operand.tmp 18) (Operand.tmp 19), type := 0, pos := "law.go:40", after := #[{ on := 1, ground := Ground.data }, { on := 2, ground := Ground.data }], guard := none },
  { dst := some 21, op := Op.load 23 (Operand.tmp 20), type := 23, pos := "law.go:40", after := #[{ on := 3, ground := Ground.data }], guard := none },
  { dst := some 22, op := Op.call { callee := Callee.value (Operand.func 25), args := #[Operand.tmp 17, Operand.tmp 21], argTypes := #[39, 23] }, type := 46, pos := "law.go:40", after := #[{ on := 0, ground := Ground.data }, { on := 4, ground := Ground.data }], guard := none },
  { dst := some 16, op := Op.move (Operand.tmp 22), type := 46, pos := "law.go:40", after := #[{ on := 5, ground := Ground.data }], guard := none }]
def hecalls : List Nat := [5]
def heord : List Nat := [0, 1, 2, 3, 4, 5, 6]
theorem hesel : Region.noSelect heops = true := by kernel_rfl
theorem helex : lexH heops hecalls heord (Array.replicate heops.size false) = true := by kernel_rfl
noncomputable def heraw : Array Oper := #[{ dst := some 17, op := Op.load 39 (Operand.tmp 3), type := 39, pos := "law.go:40", after := #[], guard := none },
  { dst := some 18, op := Op.move (Operand.tmp 0), type := 33, pos := "law.go:40", after := #[], guard := none },
  { dst := some 19, op := Op.move (Operand.tmp 5), type := 3, pos := "law.go:40", after := #[], guard := none },
  { dst := some 20, op := Op.indexAddr 33 (Operand.tmp 18) (Operand.tmp 19), type := 0, pos := "law.go:40", after := #[{ on := 1, ground := Ground.data }, { on := 2, ground := Ground.data }], guard := none },
  { dst := some 21, op := Op.load 23 (Operand.tmp 20), type := 23, pos := "law.go:40", after := #[{ on := 3, ground := Ground.data }], guard := none },
  { dst := some 22, op := Op.call { callee := Callee.value (Operand.func 25), args := #[Operand.tmp 17, Operand.tmp 21], argTypes := #[39, 23] }, type := 46, pos := "law.go:40", after := #[{ on := 0, ground := Ground.data }, { on := 4, ground := Ground.data }], guard := none },
  { dst := some 16, op := Op.move (Operand.tmp 22), type := 46, pos := "law.go:40", after := #[{ on := 5, ground := Ground.data }], guard := none },
  { dst := some 23, op := Op.extract (Operand.tmp 16) 0, type := 39, pos := "law.go:40", after := #[{ on := 6, ground := Ground.data }], guard := none },
  { dst := some 24, op := Op.extract (Operand.tmp 16) 1, type := 43, pos := "law.go:40", after := #[{ on := 6, ground := Ground.data }, { on := 9, ground := Ground.gcOnly Departure.lateStores }], guard := none },
  { dst := none, op := Op.store 39 (Operand.tmp 3) (Operand.tmp 23), type := 0, pos := "law.go:40", after := #[{ on := 7, ground := Ground.data }, { on := 5, ground := Ground.chain }, { on := 0, ground := Ground.phase }, { on := 1, ground := Ground.phase }, { on := 2, ground := Ground.phase }, { on := 3, ground := Ground.phase }, { on := 4, ground := Ground.phase }, { on := 5, ground := Ground.phase }, { on := 6, ground := Ground.phase }, { on := 7, ground := Ground.phase }, { on := 8, ground := Ground.textOnly Departure.lateStores }], guard := none }]
theorem hecut : heops = heraw.extract 0 7 := by kernel_rfl
theorem hesize : heraw.size = 10 := by kernel_rfl
theorem hersel : Region.noSelect heraw = true := by kernel_rfl
theorem hetlex : lexH heraw [9] [7, 8, 9] (extL (Array.replicate 7 true) heraw.size) = true := by kernel_rfl
theorem het7 : heraw[7]? = some { dst := some 23, op := Op.extract (Operand.tmp 16) 0, type := 39, pos := "law.go:40", after := #[{ on := 6, ground := Ground.data }], guard := none } := by kernel_rfl
theorem het8 : heraw[8]? = some { dst := some 24, op := Op.extract (Operand.tmp 16) 1, type := 43, pos := "law.go:40", after := #[{ on := 6, ground := Ground.data }, { on := 9, ground := Ground.gcOnly Departure.lateStores }], guard := none } := by kernel_rfl
theorem het9 : heraw[9]? = some { dst := none, op := Op.store 39 (Operand.tmp 3) (Operand.tmp 23), type := 0, pos := "law.go:40", after := #[{ on := 7, ground := Ground.data }, { on := 5, ground := Ground.chain }, { on := 0, ground := Ground.phase }, { on := 1, ground := Ground.phase }, { on := 2, ground := Ground.phase }, { on := 3, ground := Ground.phase }, { on := 4, ground := Ground.phase }, { on := 5, ground := Ground.phase }, { on := 6, ground := Ground.phase }, { on := 7, ground := Ground.phase }, { on := 8, ground := Ground.textOnly Departure.lateStores }], guard := none } := by kernel_rfl
theorem he0 : heops[0]? = some { dst := some 17, op := Op.load 39 (Operand.tmp 3), type := 39, pos := "law.go:40", after := #[], guard := none } := by kernel_rfl
theorem he1 : heops[1]? = some { dst := some 18, op := Op.move (Operand.tmp 0), type := 33, pos := "law.go:40", after := #[], guard := none } := by kernel_rfl
theorem he2 : heops[2]? = some { dst := some 19, op := Op.move (Operand.tmp 5), type := 3, pos := "law.go:40", after := #[], guard := none } := by kernel_rfl
theorem he3 : heops[3]? = some { dst := some 20, op := Op.indexAddr 33 (Operand.tmp 18) (Operand.tmp 19), type := 0, pos := "law.go:40", after := #[{ on := 1, ground := Ground.data }, { on := 2, ground := Ground.data }], guard := none } := by kernel_rfl
theorem he4 : heops[4]? = some { dst := some 21, op := Op.load 23 (Operand.tmp 20), type := 23, pos := "law.go:40", after := #[{ on := 3, ground := Ground.data }], guard := none } := by kernel_rfl
theorem he5 : heops[5]? = some { dst := some 22, op := Op.call { callee := Callee.value (Operand.func 25), args := #[Operand.tmp 17, Operand.tmp 21], argTypes := #[39, 23] }, type := 46, pos := "law.go:40", after := #[{ on := 0, ground := Ground.data }, { on := 4, ground := Ground.data }], guard := none } := by kernel_rfl
theorem he6 : heops[6]? = some { dst := some 16, op := Op.move (Operand.tmp 22), type := 46, pos := "law.go:40", after := #[{ on := 5, ground := Ground.data }], guard := none } := by kernel_rfl
end Go.Proofs.YtdbemkdfndjakaaDoor.Hd
