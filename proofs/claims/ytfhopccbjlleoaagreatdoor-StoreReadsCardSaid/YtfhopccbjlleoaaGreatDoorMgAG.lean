/- Texts Xse, Xsf, Xsg, Xsh, Xsi, one behind the other. -/
import Derived.Test.YtfhopccbjlleoaaGreatDoorMgAB
import Derived.Test.YtfhopccbjlleoaaGreatDoorMgAA
import Derived.Test.YtfhopccbjlleoaaGreatDoorProg
import Derived.KernelRfl
import Derived.Test.YtfhopccbjlleoaaGreatDoorMgAD
/- The operations of a condition, each by its number. -/
namespace Go.Proofs.YtfhopccbjlleoaaGreatDoor.St
open Lex

noncomputable def bhops : Array Oper := #[{ dst := some 28, op := Op.load 28 (Operand.tmp 6), type := 28, pos := "store.go:203", after := #[], guard := none },
 { dst := some 29, op := Op.fieldAddr 76 (Operand.tmp 5) 0, type := 0, pos := "store.go:203", after := #[], guard := none },
 { dst := some 30, op := Op.load 3 (Operand.tmp 29), type := 3, pos := "store.go:203", after := #[{ on := 1, ground := Ground.data }], guard := none },
 { dst := some 31, op := Op.call { callee := Callee.value (Operand.func 115), args := #[Operand.tmp 30], argTypes := #[3] }, type := 3, pos := "store.go:203", after := #[{ on := 2, ground := Ground.data }], guard := none },
 { dst := some 32, op := Op.fieldAddr 76 (Operand.tmp 5) 0, type := 0, pos := "store.go:203", after := #[], guard := none },
 { dst := some 33, op := Op.load 3 (Operand.tmp 32), type := 3, pos := "store.go:203", after := #[{ on := 4, ground := Ground.data }], guard := none },
 { dst := some 34, op := Op.move (Operand.tmp 7), type := 9, pos := "store.go:203", after := #[], guard := none },
 { dst := some 35, op := Op.build 92 #[(0, Operand.tmp 33), (1, Operand.tmp 34)], type := 92, pos := "store.go:203", after := #[{ on := 5, ground := Ground.data }, { on := 6, ground := Ground.data }], guard := none },
 { dst := some 36, op := Op.call { callee := Callee.value (Operand.func 116), args := #[Operand.tmp 35], argTypes := #[92] }, type := 9, pos := "store.go:203", after := #[{ on := 7, ground := Ground.data }, { on := 3, ground := Ground.chain }], guard := none },
 { dst := some 37, op := Op.call { callee := Callee.value (Operand.func 61), args := #[Operand.tmp 28, Operand.tmp 31, Operand.tmp 36], argTypes := #[28, 3, 9] }, type := 70, pos := "store.go:203", after := #[{ on := 0, ground := Ground.data }, { on := 3, ground := Ground.data }, { on := 8, ground := Ground.data }, { on := 8, ground := Ground.chain }], guard := none },
 { dst := some 27, op := Op.move (Operand.tmp 37), type := 70, pos := "store.go:203", after := #[{ on := 9, ground := Ground.data }], guard := none }]
def bhcalls : List Nat := [3, 8, 9]
def bhord : List Nat := [0, 1, 2, 4, 5, 6, 7, 3, 8, 9, 10]
theorem bhsel : Region.noSelect bhops = true := by kernel_rfl
theorem bhlex : lexH bhops bhcalls bhord (Array.replicate bhops.size false) = true := by kernel_rfl
noncomputable def bhraw : Array Oper := #[{ dst := some 28, op := Op.load 28 (Operand.tmp 6), type := 28, pos := "store.go:203", after := #[], guard := none },
 { dst := some 29, op := Op.fieldAddr 76 (Operand.tmp 5) 0, type := 0, pos := "store.go:203", after := #[], guard := none },
 { dst := some 30, op := Op.load 3 (Operand.tmp 29), type := 3, pos := "store.go:203", after := #[{ on := 1, ground := Ground.data }], guard := none },
 { dst := some 31, op := Op.call { callee := Callee.value (Operand.func 115), args := #[Operand.tmp 30], argTypes := #[3] }, type := 3, pos := "store.go:203", after := #[{ on := 2, ground := Ground.data }], guard := none },
 { dst := some 32, op := Op.fieldAddr 76 (Operand.tmp 5) 0, type := 0, pos := "store.go:203", after := #[], guard := none },
 { dst := some 33, op := Op.load 3 (Operand.tmp 32), type := 3, pos := "store.go:203", after := #[{ on := 4, ground := Ground.data }], guard := none },
 { dst := some 34, op := Op.move (Operand.tmp 7), type := 9, pos := "store.go:203", after := #[], guard := none },
 { dst := some 35, op := Op.build 92 #[(0, Operand.tmp 33), (1, Operand.tmp 34)], type := 92, pos := "store.go:203", after := #[{ on := 5, ground := Ground.data }, { on := 6, ground := Ground.data }], guard := none },
 { dst := some 36, op := Op.call { callee := Callee.value (Operand.func 116), args := #[Operand.tmp 35], argTypes := #[92] }, type := 9, pos := "store.go:203", after := #[{ on := 7, ground := Ground.data }, { on := 3, ground := Ground.chain }], guard := none },
 { dst := some 37, op := Op.call { callee := Callee.value (Operand.func 61), args := #[Operand.tmp 28, Operand.tmp 31, Operand.tmp 36], argTypes := #[28, 3, 9] }, type := 70, pos := "store.go:203", after := #[{ on := 0, ground := Ground.data }, { on := 3, ground := Ground.data }, { on := 8, ground := Ground.data }, { on := 8, ground := Ground.chain }], guard := none },
 { dst := some 27, op := Op.move (Operand.tmp 37), type := 70, pos := "store.go:203", after := #[{ on := 9, ground := Ground.data }], guard := none },
 { dst := some 38, op := Op.extract (Operand.tmp 27) 0, type := 28, pos := "store.go:203", after := #[{ on := 10, ground := Ground.data }], guard := none },
 { dst := some 39, op := Op.extract (Operand.tmp 27) 1, type := 38, pos := "store.go:203", after := #[{ on := 10, ground := Ground.data }, { on := 13, ground := Ground.gcOnly Departure.lateStores }], guard := none },
 { dst := none, op := Op.store 28 (Operand.tmp 6) (Operand.tmp 38), type := 0, pos := "store.go:203", after := #[{ on := 11, ground := Ground.data }, { on := 9, ground := Ground.chain }, { on := 0, ground := Ground.phase }, { on := 1, ground := Ground.phase }, { on := 2, ground := Ground.phase }, { on := 3, ground := Ground.phase }, { on := 4, ground := Ground.phase }, { on := 5, ground := Ground.phase }, { on := 6, ground := Ground.phase }, { on := 7, ground := Ground.phase }, { on := 8, ground := Ground.phase }, { on := 9, ground := Ground.phase }, { on := 10, ground := Ground.phase }, { on := 11, ground := Ground.phase }, { on := 12, ground := Ground.textOnly Departure.lateStores }], guard := none },
 { dst := some 8, op := Op.assign (Operand.tmp 39), type := 38, pos := "store.go:203", after := #[{ on := 12, ground := Ground.data }, { on := 13, ground := Ground.chain }, { on := 0, ground := Ground.phase }, { on := 1, ground := Ground.phase }, { on := 2, ground := Ground.phase }, { on := 3, ground := Ground.phase }, { on := 4, ground := Ground.phase }, { on := 5, ground := Ground.phase }, { on := 6, ground := Ground.phase }, { on := 7, ground := Ground.phase }, { on := 8, ground := Ground.phase }, { on := 9, ground := Ground.phase }, { on := 10, ground := Ground.phase }, { on := 11, ground := Ground.phase }, { on := 12, ground := Ground.phase }, { on := 13, ground := Ground.phase }], guard := none }]
theorem bhcut : bhops = bhraw.extract 0 11 := by kernel_rfl
theorem bhsize : bhraw.size = 15 := by kernel_rfl
theorem bhrsel : Region.noSelect bhraw = true := by kernel_rfl
theorem bhtlex : lexH bhraw [13] [11, 12, 13, 14] (extL (Array.replicate 11 true) bhraw.size) = true := by kernel_rfl
theorem bht11 : bhraw[11]? = some { dst := some 38, op := Op.extract (Operand.tmp 27) 0, type := 28, pos := "store.go:203", after := #[{ on := 10, ground := Ground.data }], guard := none } := by kernel_rfl
theorem bht12 : bhraw[12]? = some { dst := some 39, op := Op.extract (Operand.tmp 27) 1, type := 38, pos := "store.go:203", after := #[{ on := 10, ground := Ground.data }, { on := 13, ground := Ground.gcOnly Departure.lateStores }], guard := none } := by kernel_rfl
theorem bht13 : bhraw[13]? = some { dst := none, op := Op.store 28 (Operand.tmp 6) (Operand.tmp 38), type := 0, pos := "store.go:203", after := #[{ on := 11, ground := Ground.data }, { on := 9, ground := Ground.chain }, { on := 0, ground := Ground.phase }, { on := 1, ground := Ground.phase }, { on := 2, ground := Ground.phase }, { on := 3, ground := Ground.phase }, { on := 4, ground := Ground.phase }, { on := 5, ground := Ground.phase }, { on := 6, ground := Ground.phase }, { on := 7, ground := Ground.phase }, { on := 8, ground := Ground.phase }, { on := 9, ground := Ground.phase }, { on := 10, ground := Ground.phase }, { on := 11, ground := Ground.phase }, { on := 12, ground := Ground.textOnly Departure.lateStores }], guard := none } := by kernel_rfl
theorem bht14 : bhraw[14]? = some { dst := some 8, op := Op.assign (Operand.tmp 39), type := 38, pos := "store.go:203", after := #[{ on := 12, ground := Ground.data }, { on := 13, ground := Ground.chain }, { on := 0, ground := Ground.phase }, { on := 1, ground := Ground.phase }, { on := 2, ground := Ground.phase }, { on := 3, ground := Ground.phase }, { on := 4, ground := Ground.phase }, { on := 5, ground := Ground.phase }, { on := 6, ground := Ground.phase }, { on := 7, ground := Ground.phase }, { on := 8, ground := Ground.phase }, { on := 9, ground := Ground.phase }, { on := 10, ground := Ground.phase }, { on := 11, ground := Ground.phase }, { on := 12, ground := Ground.phase }, { on := 13, ground := Ground.phase }], guard := none } := by kernel_rfl
theorem bh0 : bhops[0]? = some { dst := some 28, op := Op.load 28 (Operand.tmp 6), type := 28, pos := "store.go:203", after := #[], guard := none } := by kernel_rfl
theorem bh1 : bhops[1]? = some { dst := some 29, op := Op.fieldAddr 76 (Operand.tmp 5) 0, type := 0, pos := "store.go:203", after := #[], guard := none } := by kernel_rfl
theorem bh2 : bhops[2]? = some { dst := some 30, op := Op.load 3 (Operand.tmp 29), type := 3, pos := "store.go:203", after := #[{ on := 1, ground := Ground.data }], guard := none } := by kernel_rfl
theorem bh3 : bhops[3]? = some { dst := some 31, op := Op.call { callee := Callee.value (Operand.func 115), args := #[Operand.tmp 30], argTypes := #[3] }, type := 3, pos := "store.go:203", after := #[{ on := 2, ground := Ground.data }], guard := none } := by kernel_rfl
theorem bh4 : bhops[4]? = some { dst := some 32, op := Op.fieldAddr 76 (Operand.tmp 5) 0, type := 0, pos := "store.go:203", after := #[], guard := none } := by kernel_rfl
theorem bh5 : bhops[5]? = some { dst := some 33, op := Op.load 3 (Operand.tmp 32), type := 3, pos := "store.go:203", after := #[{ on := 4, ground := Ground.data }], guard := none } := by kernel_rfl
theorem bh6 : bhops[6]? = some { dst := some 34, op := Op.move (Operand.tmp 7), type := 9, pos := "store.go:203", after := #[], guard := none } := by kernel_rfl
theorem bh7 : bhops[7]? = some { dst := some 35, op := Op.build 92 #[(0, Operand.tmp 33), (1, Operand.tmp 34)], type := 92, pos := "store.go:203", after := #[{ on := 5, ground := Ground.data }, { on := 6, ground := Ground.data }], guard := none } := by kernel_rfl
theorem bh8 : bhops[8]? = some { dst := some 36, op := Op.call { callee := Callee.value (Operand.func 116), args := #[Operand.tmp 35], argTypes := #[92] }, type := 9, pos := "store.go:203", after := #[{ on := 7, ground := Ground.data }, { on := 3, ground := Ground.chain }], guard := none } := by kernel_rfl
theorem bh9 : bhops[9]? = some { dst := some 37, op := Op.call { callee := Callee.value (Operand.func 61), args := #[Operand.tmp 28, Operand.tmp 31, Operand.tmp 36], argTypes := #[28, 3, 9] }, type := 70, pos := "store.go:203", after := #[{ on := 0, ground := Ground.data }, { on := 3, ground := Ground.data }, { on := 8, ground := Ground.data }, { on := 8, ground := Ground.chain }], guard := none } := by kernel_rfl
theorem bh10 : bhops[10]? = some { dst := some 27, op := Op.move (Operand.tmp 37), type := 70, pos := "store.go:203", after := #[{ on := 9, ground := Ground.data }], guard := none } := by kernel_rfl
end Go.Proofs.YtfhopccbjlleoaaGreatDoor.St

/- The operations of drawn regions, each by its number; the trees of their orders. -/
namespace Go.Proofs.YtfhopccbjlleoaaGreatDoor.St
open Lex

noncomputable def loops : Array Oper := #[{ dst := some 19, op := Op.load 28 (Operand.tmp 4), type := 28, pos := "store.go:231", after := #[], guard := none },
 { dst := some 20, op := Op.fieldAddr 37 (Operand.tmp 1) 1, type := 0, pos := "store.go:231", after := #[], guard := none },
 { dst := some 21, op := Op.load 30 (Operand.tmp 20), type := 30, pos := "store.go:231", after := #[{ on := 1, ground := Ground.data }], guard := none },
 { dst := some 22, op := Op.fieldAddr 83 (Operand.tmp 6) 1, type := 0, pos := "store.go:231", after := #[], guard := none },
 { dst := some 23, op := Op.load 3 (Operand.tmp 22), type := 3, pos := "store.go:231", after := #[{ on := 3, ground := Ground.data }], guard := none },
 { dst := some 24, op := Op.call { callee := Callee.value (Operand.func 102), args := #[Operand.tmp 21, Operand.tmp 23], argTypes := #[30, 3] }, type := 3, pos := "store.go:231", after := #[{ on := 2, ground := Ground.data }, { on := 4, ground := Ground.data }], guard := none },
 { dst := some 25, op := Op.load 83 (Operand.tmp 6), type := 83, pos := "store.go:231", after := #[], guard := none },
 { dst := some 26, op := Op.call { callee := Callee.value (Operand.func 103), args := #[Operand.tmp 25], argTypes := #[83] }, type := 9, pos := "store.go:231", after := #[{ on := 6, ground := Ground.data }, { on := 5, ground := Ground.chain }], guard := none },
 { dst := some 27, op := Op.call { callee := Callee.value (Operand.func 61), args := #[Operand.tmp 19, Operand.tmp 24, Operand.tmp 26], argTypes := #[28, 3, 9] }, type := 70, pos := "store.go:231", after := #[{ on := 0, ground := Ground.data }, { on := 5, ground := Ground.data }, { on := 7, ground := Ground.data }, { on := 7, ground := Ground.chain }], guard := none },
 { dst := some 18, op := Op.move (Operand.tmp 27), type := 70, pos := "store.go:231", after := #[{ on := 8, ground := Ground.data }], guard := none },
 { dst := some 28, op := Op.extract (Operand.tmp 18) 0, type := 28, pos := "store.go:231", after := #[{ on := 9, ground := Ground.data }], guard := none },
 { dst := some 29, op := Op.extract (Operand.tmp 18) 1, type := 38, pos := "store.go:231", after := #[{ on := 9, ground := Ground.data }, { on := 13, ground := Ground.gcOnly Departure.lateStores }], guard := none },
 { dst := some 7, op := Op.alloc 28, type := 0, pos := "store.go:231", after := #[], guard := none },
 { dst := none, op := Op.store 28 (Operand.tmp 7) (Operand.tmp 28), type := 0, pos := "store.go:231", after := #[{ on := 12, ground := Ground.data }, { on := 10, ground := Ground.data }, { on := 8, ground := Ground.chain }, { on := 0, ground := Ground.phase }, { on := 1, ground := Ground.phase }, { on := 2, ground := Ground.phase }, { on := 3, ground := Ground.phase }, { on := 4, ground := Ground.phase }, { on := 5, ground := Ground.phase }, { on := 6, ground := Ground.phase }, { on := 7, ground := Ground.phase }, { on := 8, ground := Ground.phase }, { on := 9, ground := Ground.phase }, { on := 10, ground := Ground.phase }, { on := 11, ground := Ground.textOnly Departure.lateStores }, { on := 12, ground := Ground.phase }], guard := none },
 { dst := some 8, op := Op.assign (Operand.tmp 29), type := 38, pos := "store.go:231", after := #[{ on := 11, ground := Ground.data }, { on := 13, ground := Ground.chain }, { on := 0, ground := Ground.phase }, { on := 1, ground := Ground.phase }, { on := 2, ground := Ground.phase }, { on := 3, ground := Ground.phase }, { on := 4, ground := Ground.phase }, { on := 5, ground := Ground.phase }, { on := 6, ground := Ground.phase }, { on := 7, ground := Ground.phase }, { on := 8, ground := Ground.phase }, { on := 9, ground := Ground.phase }, { on := 10, ground := Ground.phase }, { on := 11, ground := Ground.phase }, { on := 12, ground := Ground.phase }, { on := 13, ground := Ground.phase }], guard := none }]
def lotree : Tr := (.op 0 (.op 1 (.op 2 (.op 3 (.op 4 (.op 6 (.alt 5 (.alt 7 (.alt 8 (.op 9 (.op 10 (.op 11 (.alt 12 (.alt 13 (.op 14 .fin) .fin) .fin)))) (.alt 12 (.alt 8 (.op 9 (.op 10 (.op 11 (.alt 13 (.op 14 .fin) .fin)))) .fin) .fin)) (.alt 12 (.alt 7 (.alt 8 (.op 9 (.op 10 (.op 11 (.alt 13 (.op 14 .fin) .fin)))) .fin) .fin) .fin)) (.alt 12 (.alt 5 (.alt 7 (.alt 8 (.op 9 (.op 10 (.op 11 (.alt 13 (.op 14 .fin) .fin)))) .fin) .fin) .fin) .fin))))))))
theorem losel : Region.noSelect loops = true := by kernel_rfl
theorem lolex : lexT loops loops.size [] lotree (Array.replicate loops.size false) = true := by kernel_rfl
theorem lo0 : loops[0]? = some { dst := some 19, op := Op.load 28 (Operand.tmp 4), type := 28, pos := "store.go:231", after := #[], guard := none } := by kernel_rfl
theorem lo1 : loops[1]? = some { dst := some 20, op := Op.fieldAddr 37 (Operand.tmp 1) 1, type := 0, pos := "store.go:231", after := #[], guard := none } := by kernel_rfl
theorem lo2 : loops[2]? = some { dst := some 21, op := Op.load 30 (Operand.tmp 20), type := 30, pos := "store.go:231", after := #[{ on := 1, ground := Ground.data }], guard := none } := by kernel_rfl
theorem lo3 : loops[3]? = some { dst := some 22, op := Op.fieldAddr 83 (Operand.tmp 6) 1, type := 0, pos := "store.go:231", after := #[], guard := none } := by kernel_rfl
theorem lo4 : loops[4]? = some { dst := some 23, op := Op.load 3 (Operand.tmp 22), type := 3, pos := "store.go:231", after := #[{ on := 3, ground := Ground.data }], guard := none } := by kernel_rfl
theorem lo5 : loops[5]? = some { dst := some 24, op := Op.call { callee := Callee.value (Operand.func 102), args := #[Operand.tmp 21, Operand.tmp 23], argTypes := #[30, 3] }, type := 3, pos := "store.go:231", after := #[{ on := 2, ground := Ground.data }, { on := 4, ground := Ground.data }], guard := none } := by kernel_rfl
theorem lo6 : loops[6]? = some { dst := some 25, op := Op.load 83 (Operand.tmp 6), type := 83, pos := "store.go:231", after := #[], guard := none } := by kernel_rfl
theorem lo7 : loops[7]? = some { dst := some 26, op := Op.call { callee := Callee.value (Operand.func 103), args := #[Operand.tmp 25], argTypes := #[83] }, type := 9, pos := "store.go:231", after := #[{ on := 6, ground := Ground.data }, { on := 5, ground := Ground.chain }], guard := none } := by kernel_rfl
theorem lo8 : loops[8]? = some { dst := some 27, op := Op.call { callee := Callee.value (Operand.func 61), args := #[Operand.tmp 19, Operand.tmp 24, Operand.tmp 26], argTypes := #[28, 3, 9] }, type := 70, pos := "store.go:231", after := #[{ on := 0, ground := Ground.data }, { on := 5, ground := Ground.data }, { on := 7, ground := Ground.data }, { on := 7, ground := Ground.chain }], guard := none } := by kernel_rfl
theorem lo9 : loops[9]? = some { dst := some 18, op := Op.move (Operand.tmp 27), type := 70, pos := "store.go:231", after := #[{ on := 8, ground := Ground.data }], guard := none } := by kernel_rfl
theorem lo10 : loops[10]? = some { dst := some 28, op := Op.extract (Operand.tmp 18) 0, type := 28, pos := "store.go:231", after := #[{ on := 9, ground := Ground.data }], guard := none } := by kernel_rfl
theorem lo11 : loops[11]? = some { dst := some 29, op := Op.extract (Operand.tmp 18) 1, type := 38, pos := "store.go:231", after := #[{ on := 9, ground := Ground.data }, { on := 13, ground := Ground.gcOnly Departure.lateStores }], guard := none } := by kernel_rfl
theorem lo12 : loops[12]? = some { dst := some 7, op := Op.alloc 28, type := 0, pos := "store.go:231", after := #[], guard := none } := by kernel_rfl
theorem lo13 : loops[13]? = some { dst := none, op := Op.store 28 (Operand.tmp 7) (Operand.tmp 28), type := 0, pos := "store.go:231", after := #[{ on := 12, ground := Ground.data }, { on := 10, ground := Ground.data }, { on := 8, ground := Ground.chain }, { on := 0, ground := Ground.phase }, { on := 1, ground := Ground.phase }, { on := 2, ground := Ground.phase }, { on := 3, ground := Ground.phase }, { on := 4, ground := Ground.phase }, { on := 5, ground := Ground.phase }, { on := 6, ground := Ground.phase }, { on := 7, ground := Ground.phase }, { on := 8, ground := Ground.phase }, { on := 9, ground := Ground.phase }, { on := 10, ground := Ground.phase }, { on := 11, ground := Ground.textOnly Departure.lateStores }, { on := 12, ground := Ground.phase }], guard := none } := by kernel_rfl
theorem lo14 : loops[14]? = some { dst := some 8, op := Op.assign (Operand.tmp 29), type := 38, pos := "store.go:231", after := #[{ on := 11, ground := Ground.data }, { on := 13, ground := Ground.chain }, { on := 0, ground := Ground.phase }, { on := 1, ground := Ground.phase }, { on := 2, ground := Ground.phase }, { on := 3, ground := Ground.phase }, { on := 4, ground := Ground.phase }, { on := 5, ground := Ground.phase }, { on := 6, ground := Ground.phase }, { on := 7, ground := Ground.phase }, { on := 8, ground := Ground.phase }, { on := 9, ground := Ground.phase }, { on := 10, ground := Ground.phase }, { on := 11, ground := Ground.phase }, { on := 12, ground := Ground.phase }, { on := 13, ground := Ground.phase }], guard := none } := by kernel_rfl
end Go.Proofs.YtfhopccbjlleoaaGreatDoor.St

/- The operations of a condition, each by its number. -/
namespace Go.Proofs.YtfhopccbjlleoaaGreatDoor.St
open Lex

noncomputable def seops : Array Oper := #[{ dst := some 39, op := Op.fieldAddr 37 (Operand.tmp 1) 2, type := 0, pos := "store.go:248", after := #[], guard := none },
 { dst := some 40, op := Op.load 3 (Operand.tmp 39), type := 3, pos := "store.go:248", after := #[{ on := 0, ground := Ground.data }], guard := none },
 { dst := some 41, op := Op.load 37 (Operand.tmp 1), type := 37, pos := "store.go:248", after := #[], guard := none },
 { dst := some 42, op := Op.call { callee := Callee.value (Operand.func 56), args := #[Operand.tmp 41], argTypes := #[37] }, type := 3, pos := "store.go:248", after := #[{ on := 2, ground := Ground.data }], guard := none }]
def secalls : List Nat := [3]
def seord : List Nat := [0, 1, 2, 3]
theorem sesel : Region.noSelect seops = true := by kernel_rfl
theorem selex : lexH seops secalls seord (Array.replicate seops.size false) = true := by kernel_rfl
noncomputable def seraw : Array Oper := #[{ dst := some 39, op := Op.fieldAddr 37 (Operand.tmp 1) 2, type := 0, pos := "store.go:248", after := #[], guard := none },
 { dst := some 40, op := Op.load 3 (Operand.tmp 39), type := 3, pos := "store.go:248", after := #[{ on := 0, ground := Ground.data }], guard := none },
 { dst := some 41, op := Op.load 37 (Operand.tmp 1), type := 37, pos := "store.go:248", after := #[], guard := none },
 { dst := some 42, op := Op.call { callee := Callee.value (Operand.func 56), args := #[Operand.tmp 41], argTypes := #[37] }, type := 3, pos := "store.go:248", after := #[{ on := 2, ground := Ground.data }], guard := none },
 { dst := some 43, op := Op.binOp BinOp.add 3 (Operand.tmp 40) (Operand.tmp 42) 3, type := 3, pos := "store.go:248", after := #[{ on := 1, ground := Ground.data }, { on := 3, ground := Ground.data }], guard := none },
 { dst := some 44, op := Op.fieldAddr 37 (Operand.tmp 1) 2, type := 0, pos := "store.go:248", after := #[{ on := 0, ground := Ground.phase }, { on := 1, ground := Ground.phase }, { on := 2, ground := Ground.phase }, { on := 3, ground := Ground.phase }, { on := 4, ground := Ground.phase }], guard := none },
 { dst := none, op := Op.store 3 (Operand.tmp 44) (Operand.tmp 43), type := 0, pos := "store.go:248", after := #[{ on := 5, ground := Ground.data }, { on := 4, ground := Ground.data }, { on := 3, ground := Ground.chain }, { on := 0, ground := Ground.phase }, { on := 1, ground := Ground.phase }, { on := 2, ground := Ground.phase }, { on := 3, ground := Ground.phase }, { on := 4, ground := Ground.phase }], guard := none }]
theorem secut : seops = seraw.extract 0 4 := by kernel_rfl
theorem sesize : seraw.size = 7 := by kernel_rfl
theorem sersel : Region.noSelect seraw = true := by kernel_rfl
theorem setlex : lexH seraw [6] [4, 5, 6] (extL (Array.replicate 4 true) seraw.size) = true := by kernel_rfl
theorem set4 : seraw[4]? = some { dst := some 43, op := Op.binOp BinOp.add 3 (Operand.tmp 40) (Operand.tmp 42) 3, type := 3, pos := "store.go:248", after := #[{ on := 1, ground := Ground.data }, { on := 3, ground := Ground.data }], guard := none } := by kernel_rfl
theorem set5 : seraw[5]? = some { dst := some 44, op := Op.fieldAddr 37 (Operand.tmp 1) 2, type := 0, pos := "store.go:248", after := #[{ on := 0, ground := Ground.phase }, { on := 1, ground := Ground.phase }, { on := 2, ground := Ground.phase }, { on := 3, ground := Ground.phase }, { on := 4, ground := Ground.phase }], guard := none } := by kernel_rfl
theorem set6 : seraw[6]? = some { dst := none, op := Op.store 3 (Operand.tmp 44) (Operand.tmp 43), type := 0, pos := "store.go:248", after := #[{ on := 5, ground := Ground.data }, { on := 4, ground := Ground.data }, { on := 3, ground := Ground.chain }, { on := 0, ground := Ground.phase }, { on := 1, ground := Ground.phase }, { on := 2, ground := Ground.phase }, { on := 3, ground := Ground.phase }, { on := 4, ground := Ground.phase }], guard := none } := by kernel_rfl
theorem se0 : seops[0]? = some { dst := some 39, op := Op.fieldAddr 37 (Operand.tmp 1) 2, type := 0, pos := "store.go:248", after := #[], guard := none } := by kernel_rfl
theorem se1 : seops[1]? = some { dst := some 40, op := Op.load 3 (Operand.tmp 39), type := 3, pos := "store.go:248", after := #[{ on := 0, ground := Ground.data }], guard := none } := by kernel_rfl
theorem se2 : seops[2]? = some { dst := some 41, op := Op.load 37 (Operand.tmp 1), type := 37, pos := "store.go:248", after := #[], guard := none } := by kernel_rfl
theorem se3 : seops[3]? = some { dst := some 42, op := Op.call { callee := Callee.value (Operand.func 56), args := #[Operand.tmp 41], argTypes := #[37] }, type := 3, pos := "store.go:248", after := #[{ on := 2, ground := Ground.data }], guard := none } := by kernel_rfl
end Go.Proofs.YtfhopccbjlleoaaGreatDoor.St

/- The operations of a condition, each by its number. -/
namespace Go.Proofs.YtfhopccbjlleoaaGreatDoor.St
open Lex

noncomputable def oaops : Array Oper := #[{ dst := some 16, op := Op.build 37 #[], type := 37, pos := "store.go:129", after := #[], guard := none },
 { dst := some 17, op := Op.load 28 (Operand.tmp 1), type := 28, pos := "store.go:129", after := #[{ on := 3, ground := Ground.gcOnly Departure.lateStores }], guard := none },
 { dst := some 18, op := Op.move (Operand.tmp 6), type := 38, pos := "store.go:129", after := #[{ on := 4, ground := Ground.gcOnly Departure.lateStores }], guard := none },
 { dst := none, op := Op.store 37 (Operand.tmp 2) (Operand.tmp 16), type := 0, pos := "store.go:129", after := #[{ on := 0, ground := Ground.data }, { on := 0, ground := Ground.phase }, { on := 1, ground := Ground.textOnly Departure.lateStores }, { on := 2, ground := Ground.textOnly Departure.lateStores }], guard := none },
 { dst := none, op := Op.store 28 (Operand.tmp 3) (Operand.tmp 17), type := 0, pos := "store.go:129", after := #[{ on := 1, ground := Ground.data }, { on := 3, ground := Ground.chain }, { on := 0, ground := Ground.phase }, { on := 1, ground := Ground.phase }, { on := 2, ground := Ground.textOnly Departure.lateStores }, { on := 3, ground := Ground.phase }], guard := none },
 { dst := some 4, op := Op.assign (Operand.tmp 18), type := 38, pos := "store.go:129", after := #[{ on := 2, ground := Ground.data }, { on := 4, ground := Ground.chain }, { on := 0, ground := Ground.phase }, { on := 1, ground := Ground.phase }, { on := 2, ground := Ground.phase }, { on := 3, ground := Ground.phase }, { on := 4, ground := Ground.phase }], guard := none }]
def oacalls : List Nat := [3, 4]
def oaord : List Nat := [0, 1, 2, 3, 4, 5]
theorem oasel : Region.noSelect oaops = true := by kernel_rfl
theorem oalex : lexH oaops oacalls oaord (Array.replicate oaops.size false) = true := by kernel_rfl
theorem oa0 : oaops[0]? = some { dst := some 16, op := Op.build 37 #[], type := 37, pos := "store.go:129", after := #[], guard := none } := by kernel_rfl
theorem oa1 : oaops[1]? = some { dst := some 17, op := Op.load 28 (Operand.tmp 1), type := 28, pos := "store.go:129", after := #[{ on := 3, ground := Ground.gcOnly Departure.lateStores }], guard := none } := by kernel_rfl
theorem oa2 : oaops[2]? = some { dst := some 18, op := Op.move (Operand.tmp 6), type := 38, pos := "store.go:129", after := #[{ on := 4, ground := Ground.gcOnly Departure.lateStores }], guard := none } := by kernel_rfl
theorem oa3 : oaops[3]? = some { dst := none, op := Op.store 37 (Operand.tmp 2) (Operand.tmp 16), type := 0, pos := "store.go:129", after := #[{ on := 0, ground := Ground.data }, { on := 0, ground := Ground.phase }, { on := 1, ground := Ground.textOnly Departure.lateStores }, { on := 2, ground := Ground.textOnly Departure.lateStores }], guard := none } := by kernel_rfl
theorem oa4 : oaops[4]? = some { dst := none, op := Op.store 28 (Operand.tmp 3) (Operand.tmp 17), type := 0, pos := "store.go:129", after := #[{ on := 1, ground := Ground.data }, { on := 3, ground := Ground.chain }, { on := 0, ground := Ground.phase }, { on := 1, ground := Ground.phase }, { on := 2, ground := Ground.textOnly Departure.lateStores }, { on := 3, ground := Ground.phase }], guard := none } := by kernel_rfl
theorem oa5 : oaops[5]? = some { dst := some 4, op := Op.assign (Operand.tmp 18), type := 38, pos := "store.go:129", after := #[{ on := 2, ground := Ground.data }, { on := 4, ground := Ground.chain }, { on := 0, ground := Ground.phase }, { on := 1, ground := Ground.phase }, { on := 2, ground := Ground.phase }, { on := 3, ground := Ground.phase }, { on := 4, ground := Ground.phase }], guard := none } := by kernel_rfl
noncomputable def obops : Array Oper := #[{ dst := some 19, op := Op.fieldAddr 28 (Operand.tmp 1) 0, type := 0, pos := "store.go:131", after := #[], guard := none },
 { dst := some 20, op := Op.load 25 (Operand.tmp 19), type := 25, pos := "store.go:131", after := #[{ on := 0, ground := Ground.data }], guard := none },
 { dst := some 21, op := Op.call { callee := Callee.builtin Builtin.len, args := #[Operand.tmp 20], argTypes := #[25] }, type := 3, pos := "store.go:131", after := #[{ on := 1, ground := Ground.data }], guard := none },
 { dst := some 22, op := Op.load 30 (Operand.tmp 5), type := 30, pos := "store.go:131", after := #[], guard := none },
 { dst := some 23, op := Op.call { callee := Callee.value (Operand.func 28), args := #[Operand.tmp 22], argTypes := #[30] }, type := 3, pos := "store.go:131", after := #[{ on := 3, ground := Ground.data }], guard := none },
 { dst := some 24, op := Op.binOp BinOp.neq 3 (Operand.tmp 21) (Operand.tmp 23) 3, type := 4, pos := "store.go:131", after := #[{ on := 2, ground := Ground.data }, { on := 4, ground := Ground.data }], guard := none }]
def obcalls : List Nat := [4]
def obord : List Nat := [0, 1, 2, 3, 4, 5]
theorem obsel : Region.noSelect obops = true := by kernel_rfl
theorem oblex : lexH obops obcalls obord (Array.replicate obops.size false) = true := by kernel_rfl
theorem ob0 : obops[0]? = some { dst := some 19, op := Op.fieldAddr 28 (Operand.tmp 1) 0, type := 0, pos := "store.go:131", after := #[], guard := none } := by kernel_rfl
theorem ob1 : obops[1]? = some { dst := some 20, op := Op.load 25 (Operand.tmp 19), type := 25, pos := "store.go:131", after := #[{ on := 0, ground := Ground.data }], guard := none } := by kernel_rfl
theorem ob2 : obops[2]? = some { dst := some 21, op := Op.call { callee := Callee.builtin Builtin.len, args := #[Operand.tmp 20], argTypes := #[25] }, type := 3, pos := "store.go:131", after := #[{ on := 1, ground := Ground.data }], guard := none } := by kernel_rfl
theorem ob3 : obops[3]? = some { dst := some 22, op := Op.load 30 (Operand.tmp 5), type := 30, pos := "store.go:131", after := #[], guard := none } := by kernel_rfl
theorem ob4 : obops[4]? = some { dst := some 23, op := Op.call { callee := Callee.value (Operand.func 28), args := #[Operand.tmp 22], argTypes := #[30] }, type := 3, pos := "store.go:131", after := #[{ on := 3, ground := Ground.data }], guard := none } := by kernel_rfl
theorem ob5 : obops[5]? = some { dst := some 24, op := Op.binOp BinOp.neq 3 (Operand.tmp 21) (Operand.tmp 23) 3, type := 4, pos := "store.go:131", after := #[{ on := 2, ground := Ground.data }, { on := 4, ground := Ground.data }], guard := none } := by kernel_rfl
noncomputable def ocops : Array Oper := #[{ dst := some 25, op := Op.build 37 #[], type := 37, pos := "store.go:132", after := #[], guard := none },
 { dst := some 26, op := Op.load 28 (Operand.tmp 1), type := 28, pos := "store.go:132", after := #[{ on := 2, ground := Ground.gcOnly Departure.lateStores }], guard := none },
 { dst := none, op := Op.store 37 (Operand.tmp 2) (Operand.tmp 25), type := 0, pos := "store.go:132", after := #[{ on := 0, ground := Ground.data }, { on := 0, ground := Ground.phase }, { on := 1, ground := Ground.textOnly Departure.lateStores }], guard := none },
 { dst := none, op := Op.store 28 (Operand.tmp 3) (Operand.tmp 26), type := 0, pos := "store.go:132", after := #[{ on := 1, ground := Ground.data }, { on := 2, ground := Ground.chain }, { on := 0, ground := Ground.phase }, { on := 1, ground := Ground.phase }, { on := 2, ground := Ground.phase }], guard := none },
 { dst := some 4, op := Op.assign (Operand.const (Value.int IntKind.i64 2)), type := 38, pos := "store.go:132", after := #[{ on := 3, ground := Ground.chain }, { on := 0, ground := Ground.phase }, { on := 1, ground := Ground.phase }, { on := 2, ground := Ground.phase }, { on := 3, ground := Ground.phase }], guard := none }]
def occalls : List Nat := [2, 3]
def ocord : List Nat := [0, 1, 2, 3, 4]
theorem ocsel : Region.noSelect ocops = true := by kernel_rfl
theorem oclex : lexH ocops occalls ocord (Array.replicate ocops.size false) = true := by kernel_rfl
theorem oc0 : ocops[0]? = some { dst := some 25, op := Op.build 37 #[], type := 37, pos := "store.go:132", after := #[], guard := none } := by kernel_rfl
theorem oc1 : ocops[1]? = some { dst := some 26, op := Op.load 28 (Operand.tmp 1), type := 28, pos := "store.go:132", after := #[{ on := 2, ground := Ground.gcOnly Departure.lateStores }], guard := none } := by kernel_rfl
theorem oc2 : ocops[2]? = some { dst := none, op := Op.store 37 (Operand.tmp 2) (Operand.tmp 25), type := 0, pos := "store.go:132", after := #[{ on := 0, ground := Ground.data }, { on := 0, ground := Ground.phase }, { on := 1, ground := Ground.textOnly Departure.lateStores }], guard := none } := by kernel_rfl
theorem oc3 : ocops[3]? = some { dst := none, op := Op.store 28 (Operand.tmp 3) (Operand.tmp 26), type := 0, pos := "store.go:132", after := #[{ on := 1, ground := Ground.data }, { on := 2, ground := Ground.chain }, { on := 0, ground := Ground.phase }, { on := 1, ground := Ground.phase }, { on := 2, ground := Ground.phase }], guard := none } := by kernel_rfl
theorem oc4 : ocops[4]? = some { dst := some 4, op := Op.assign (Operand.const (Value.int IntKind.i64 2)), type := 38, pos := "store.go:132", after := #[{ on := 3, ground := Ground.chain }, { on := 0, ground := Ground.phase }, { on := 1, ground := Ground.phase }, { on := 2, ground := Ground.phase }, { on := 3, ground := Ground.phase }], guard := none } := by kernel_rfl
noncomputable def odops : Array Oper := #[{ dst := some 43, op := Op.build 37 #[], type := 37, pos := "store.go:139", after := #[], guard := none },
 { dst := some 44, op := Op.fieldAddr 37 (Operand.tmp 7) 0, type := 0, pos := "store.go:139", after := #[{ on := 4, ground := Ground.gcOnly Departure.lateStores }], guard := none },
 { dst := some 45, op := Op.load 28 (Operand.tmp 44), type := 28, pos := "store.go:139", after := #[{ on := 1, ground := Ground.data }, { on := 4, ground := Ground.gcOnly Departure.lateStores }], guard := none },
 { dst := some 46, op := Op.move (Operand.tmp 6), type := 38, pos := "store.go:139", after := #[{ on := 5, ground := Ground.gcOnly Departure.lateStores }], guard := none },
 { dst := none, op := Op.store 37 (Operand.tmp 2) (Operand.tmp 43), type := 0, pos := "store.go:139", after := #[{ on := 0, ground := Ground.data }, { on := 0, ground := Ground.phase }, { on := 1, ground := Ground.textOnly Departure.lateStores }, { on := 2, ground := Ground.textOnly Departure.lateStores }, { on := 3, ground := Ground.textOnly Departure.lateStores }], guard := none },
 { dst := none, op := Op.store 28 (Operand.tmp 3) (Operand.tmp 45), type := 0, pos := "store.go:139", after := #[{ on := 2, ground := Ground.data }, { on := 4, ground := Ground.chain }, { on := 0, ground := Ground.phase }, { on := 1, ground := Ground.phase }, { on := 2, ground := Ground.phase }, { on := 3, ground := Ground.textOnly Departure.lateStores }, { on := 4, ground := Ground.phase }], guard := none },
 { dst := some 4, op := Op.assign (Operand.tmp 46), type := 38, pos := "store.go:139", after := #[{ on := 3, ground := Ground.data }, { on := 5, ground := Ground.chain }, { on := 0, ground := Ground.phase }, { on := 1, ground := Ground.phase }, { on := 2, ground := Ground.phase }, { on := 3, ground := Ground.phase }, { on := 4, ground := Ground.phase }, { on := 5, ground := Ground.phase }], guard := none }]
def odcalls : List Nat := [4, 5]
def odord : List Nat := [0, 1, 2, 3, 4, 5, 6]
theorem odsel : Region.noSelect odops = true := by kernel_rfl
theorem odlex : lexH odops odcalls odord (Array.replicate odops.size false) = true := by kernel_rfl
theorem od0 : odops[0]? = some { dst := some 43, op := Op.build 37 #[], type := 37, pos := "store.go:139", after := #[], guard := none } := by kernel_rfl
theorem od1 : odops[1]? = some { dst := some 44, op := Op.fieldAddr 37 (Operand.tmp 7) 0, type := 0, pos := "store.go:139", after := #[{ on := 4, ground := Ground.gcOnly Departure.lateStores }], guard := none } := by kernel_rfl
theorem od2 : odops[2]? = some { dst := some 45, op := Op.load 28 (Operand.tmp 44), type := 28, pos := "store.go:139", after := #[{ on := 1, ground := Ground.data }, { on := 4, ground := Ground.gcOnly Departure.lateStores }], guard := none } := by kernel_rfl
theorem od3 : odops[3]? = some { dst := some 46, op := Op.move (Operand.tmp 6), type := 38, pos := "store.go:139", after := #[{ on := 5, ground := Ground.gcOnly Departure.lateStores }], guard := none } := by kernel_rfl
theorem od4 : odops[4]? = some { dst := none, op := Op.store 37 (Operand.tmp 2) (Operand.tmp 43), type := 0, pos := "store.go:139", after := #[{ on := 0, ground := Ground.data }, { on := 0, ground := Ground.phase }, { on := 1, ground := Ground.textOnly Departure.lateStores }, { on := 2, ground := Ground.textOnly Departure.lateStores }, { on := 3, ground := Ground.textOnly Departure.lateStores }], guard := none } := by kernel_rfl
theorem od5 : odops[5]? = some { dst := none, op := Op.store 28 (Operand.tmp 3) (Operand.tmp 45), type := 0, pos := "store.go:139", after := #[{ on := 2, ground := Ground.data }, { on := 4, ground := Ground.chain }, { on := 0, ground := Ground.phase }, { on := 1, ground := Ground.phase }, { on := 2, ground := Ground.phase }, { on := 3, ground := Ground.textOnly Departure.lateStores }, { on := 4, ground := Ground.phase }], guard := none } := by kernel_rfl
theorem od6 : odops[6]? = some { dst := some 4, op := Op.assign (Operand.tmp 46), type := 38, pos := "store.go:139", after := #[{ on := 3, ground := Ground.data }, { on := 5, ground := Ground.chain }, { on := 0, ground := Ground.phase }, { on := 1, ground := Ground.phase }, { on := 2, ground := Ground.phase }, { on := 3, ground := Ground.phase }, { on := 4, ground := Ground.phase }, { on := 5, ground := Ground.phase }], guard := none } := by kernel_rfl
noncomputable def oeops : Array Oper := #[{ dst := some 47, op := Op.load 37 (Operand.tmp 7), type := 37, pos := "store.go:141", after := #[], guard := none },
 { dst := some 48, op := Op.fieldAddr 37 (Operand.tmp 7) 0, type := 0, pos := "store.go:141", after := #[{ on := 3, ground := Ground.gcOnly Departure.lateStores }], guard := none },
 { dst := some 49, op := Op.load 28 (Operand.tmp 48), type := 28, pos := "store.go:141", after := #[{ on := 1, ground := Ground.data }, { on := 3, ground := Ground.gcOnly Departure.lateStores }], guard := none },
 { dst := none, op := Op.store 37 (Operand.tmp 2) (Operand.tmp 47), type := 0, pos := "store.go:141", after := #[{ on := 0, ground := Ground.data }, { on := 0, ground := Ground.phase }, { on := 1, ground := Ground.textOnly Departure.lateStores }, { on := 2, ground := Ground.textOnly Departure.lateStores }], guard := none },
 { dst := none, op := Op.store 28 (Operand.tmp 3) (Operand.tmp 49), type := 0, pos := "store.go:141", after := #[{ on := 2, ground := Ground.data }, { on := 3, ground := Ground.chain }, { on := 0, ground := Ground.phase }, { on := 1, ground := Ground.phase }, { on := 2, ground := Ground.phase }, { on := 3, ground := Ground.phase }], guard := none },
 { dst := some 4, op := Op.assign (Operand.const (Value.int IntKind.i64 0)), type := 38, pos := "store.go:141", after := #[{ on := 4, ground := Ground.chain }, { on := 0, ground := Ground.phase }, { on := 1, ground := Ground.phase }, { on := 2, ground := Ground.phase }, { on := 3, ground := Ground.phase }, { on := 4, ground := Ground.phase }], guard := none }]
def oecalls : List Nat := [3, 4]
def oeord : List Nat := [0, 1, 2, 3, 4, 5]
theorem oesel : Region.noSelect oeops = true := by kernel_rfl
theorem oelex : lexH oeops oecalls oeord (Array.replicate oeops.size false) = true := by kernel_rfl
theorem oe0 : oeops[0]? = some { dst := some 47, op := Op.load 37 (Operand.tmp 7), type := 37, pos := "store.go:141", after := #[], guard := none } := by kernel_rfl
theorem oe1 : oeops[1]? = some { dst := some 48, op := Op.fieldAddr 37 (Operand.tmp 7) 0, type := 0, pos := "store.go:141", after := #[{ on := 3, ground := Ground.gcOnly Departure.lateStores }], guard := none } := by kernel_rfl
theorem oe2 : oeops[2]? = some { dst := some 49, op := Op.load 28 (Operand.tmp 48), type := 28, pos := "store.go:141", after := #[{ on := 1, ground := Ground.data }, { on := 3, ground := Ground.gcOnly Departure.lateStores }], guard := none } := by kernel_rfl
theorem oe3 : oeops[3]? = some { dst := none, op := Op.store 37 (Operand.tmp 2) (Operand.tmp 47), type := 0, pos := "store.go:141", after := #[{ on := 0, ground := Ground.data }, { on := 0, ground := Ground.phase }, { on := 1, ground := Ground.textOnly Departure.lateStores }, { on := 2, ground := Ground.textOnly Departure.lateStores }], guard := none } := by kernel_rfl
theorem oe4 : oeops[4]? = some { dst := none, op := Op.store 28 (Operand.tmp 3) (Operand.tmp 49), type := 0, pos := "store.go:141", after := #[{ on := 2, ground := Ground.data }, { on := 3, ground := Ground.chain }, { on := 0, ground := Ground.phase }, { on := 1, ground := Ground.phase }, { on := 2, ground := Ground.phase }, { on := 3, ground := Ground.phase }], guard := none } := by kernel_rfl
theorem oe5 : oeops[5]? = some { dst := some 4, op := Op.assign (Operand.const (Value.int IntKind.i64 0)), type := 38, pos := "store.go:141", after := #[{ on := 4, ground := Ground.chain }, { on := 0, ground := Ground.phase }, { on := 1, ground := Ground.phase }, { on := 2, ground := Ground.phase }, { on := 3, ground := Ground.phase }, { on := 4, ground := Ground.phase }], guard := none } := by kernel_rfl
end Go.Proofs.YtfhopccbjlleoaaGreatDoor.St

/- The operations of a condition, each by its number. -/
namespace Go.Proofs.YtfhopccbjlleoaaGreatDoor.St
open Lex

noncomputable def rsops : Array Oper := #[{ dst := some 53, op := Op.load 37 (Operand.tmp 5), type := 37, pos := "law.go:317", after := #[], guard := none },
 { dst := some 54, op := Op.move (Operand.tmp 0), type := 22, pos := "law.go:317", after := #[], guard := none },
 { dst := some 55, op := Op.move (Operand.tmp 7), type := 3, pos := "law.go:317", after := #[], guard := none },
 { dst := some 56, op := Op.indexAddr 22 (Operand.tmp 54) (Operand.tmp 55), type := 0, pos := "law.go:317", after := #[{ on := 1, ground := Ground.data }, { on := 2, ground := Ground.data }], guard := none },
 { dst := some 57, op := Op.load 48 (Operand.tmp 56), type := 48, pos := "law.go:317", after := #[{ on := 3, ground := Ground.data }], guard := none },
 { dst := some 58, op := Op.call { callee := Callee.value (Operand.func 14), args := #[Operand.tmp 53, Operand.tmp 57], argTypes := #[37, 48] }, type := 42, pos := "law.go:317", after := #[{ on := 0, ground := Ground.data }, { on := 4, ground := Ground.data }], guard := none },
 { dst := some 52, op := Op.move (Operand.tmp 58), type := 42, pos := "law.go:317", after := #[{ on := 5, ground := Ground.data }], guard := none }]
def rscalls : List Nat := [5]
def rsord : List Nat := [0, 1, 2, 3, 4, 5, 6]
theorem rssel : Region.noSelect rsops = true := by kernel_rfl
theorem rslex : lexH rsops rscalls rsord (Array.replicate rsops.size false) = true := by kernel_rfl
noncomputable def rsraw : Array Oper := #[{ dst := some 53, op := Op.load 37 (Operand.tmp 5), type := 37, pos := "law.go:317", after := #[], guard := none },
 { dst := some 54, op := Op.move (Operand.tmp 0), type := 22, pos := "law.go:317", after := #[], guard := none },
 { dst := some 55, op := Op.move (Operand.tmp 7), type := 3, pos := "law.go:317", after := #[], guard := none },
 { dst := some 56, op := Op.indexAddr 22 (Operand.tmp 54) (Operand.tmp 55), type := 0, pos := "law.go:317", after := #[{ on := 1, ground := Ground.data }, { on := 2, ground := Ground.data }], guard := none },
 { dst := some 57, op := Op.load 48 (Operand.tmp 56), type := 48, pos := "law.go:317", after := #[{ on := 3, ground := Ground.data }], guard := none },
 { dst := some 58, op := Op.call { callee := Callee.value (Operand.func 14), args := #[Operand.tmp 53, Operand.tmp 57], argTypes := #[37, 48] }, type := 42, pos := "law.go:317", after := #[{ on := 0, ground := Ground.data }, { on := 4, ground := Ground.data }], guard := none },
 { dst := some 52, op := Op.move (Operand.tmp 58), type := 42, pos := "law.go:317", after := #[{ on := 5, ground := Ground.data }], guard := none },
 { dst := some 59, op := Op.extract (Operand.tmp 52) 0, type := 37, pos := "law.go:317", after := #[{ on := 6, ground := Ground.data }], guard := none },
 { dst := some 60, op := Op.extract (Operand.tmp 52) 1, type := 9, pos := "law.go:317", after := #[{ on := 6, ground := Ground.data }, { on := 10, ground := Ground.gcOnly Departure.lateStores }], guard := none },
 { dst := some 61, op := Op.extract (Operand.tmp 52) 2, type := 38, pos := "law.go:317", after := #[{ on := 6, ground := Ground.data }, { on := 10, ground := Ground.gcOnly Departure.lateStores }], guard := none },
 { dst := none, op := Op.store 37 (Operand.tmp 5) (Operand.tmp 59), type := 0, pos := "law.go:317", after := #[{ on := 7, ground := Ground.data }, { on := 5, ground := Ground.chain }, { on := 0, ground := Ground.phase }, { on := 1, ground := Ground.phase }, { on := 2, ground := Ground.phase }, { on := 3, ground := Ground.phase }, { on := 4, ground := Ground.phase }, { on := 5, ground := Ground.phase }, { on := 6, ground := Ground.phase }, { on := 7, ground := Ground.phase }, { on := 8, ground := Ground.textOnly Departure.lateStores }, { on := 9, ground := Ground.textOnly Departure.lateStores }], guard := none }]
theorem rscut : rsops = rsraw.extract 0 7 := by kernel_rfl
theorem rssize : rsraw.size = 11 := by kernel_rfl
theorem rsrsel : Region.noSelect rsraw = true := by kernel_rfl
theorem rstlex : lexH rsraw [10] [7, 8, 9, 10] (extL (Array.replicate 7 true) rsraw.size) = true := by kernel_rfl
theorem rst7 : rsraw[7]? = some { dst := some 59, op := Op.extract (Operand.tmp 52) 0, type := 37, pos := "law.go:317", after := #[{ on := 6, ground := Ground.data }], guard := none } := by kernel_rfl
theorem rst8 : rsraw[8]? = some { dst := some 60, op := Op.extract (Operand.tmp 52) 1, type := 9, pos := "law.go:317", after := #[{ on := 6, ground := Ground.data }, { on := 10, ground := Ground.gcOnly Departure.lateStores }], guard := none } := by kernel_rfl
theorem rst9 : rsraw[9]? = some { dst := some 61, op := Op.extract (Operand.tmp 52) 2, type := 38, pos := "law.go:317", after := #[{ on := 6, ground := Ground.data }, { on := 10, ground := Ground.gcOnly Departure.lateStores }], guard := none } := by kernel_rfl
theorem rst10 : rsraw[10]? = some { dst := none, op := Op.store 37 (Operand.tmp 5) (Operand.tmp 59), type := 0, pos := "law.go:317", after := #[{ on := 7, ground := Ground.data }, { on := 5, ground := Ground.chain }, { on := 0, ground := Ground.phase }, { on := 1, ground := Ground.phase }, { on := 2, ground := Ground.phase }, { on := 3, ground := Ground.phase }, { on := 4, ground := Ground.phase }, { on := 5, ground := Ground.phase }, { on := 6, ground := Ground.phase }, { on := 7, ground := Ground.phase }, { on := 8, ground := Ground.textOnly Departure.lateStores }, { on := 9, ground := Ground.textOnly Departure.lateStores }], guard := none } := by kernel_rfl
theorem rs0 : rsops[0]? = some { dst := some 53, op := Op.load 37 (Operand.tmp 5), type := 37, pos := "law.go:317", after := #[], guard := none } := by kernel_rfl
theorem rs1 : rsops[1]? = some { dst := some 54, op := Op.move (Operand.tmp 0), type := 22, pos := "law.go:317", after := #[], guard := none } := by kernel_rfl
theorem rs2 : rsops[2]? = some { dst := some 55, op := Op.move (Operand.tmp 7), type := 3, pos := "law.go:317", after := #[], guard := none } := by kernel_rfl
theorem rs3 : rsops[3]? = some { dst := some 56, op := Op.indexAddr 22 (Operand.tmp 54) (Operand.tmp 55), type := 0, pos := "law.go:317", after := #[{ on := 1, ground := Ground.data }, { on := 2, ground := Ground.data }], guard := none } := by kernel_rfl
theorem rs4 : rsops[4]? = some { dst := some 57, op := Op.load 48 (Operand.tmp 56), type := 48, pos := "law.go:317", after := #[{ on := 3, ground := Ground.data }], guard := none } := by kernel_rfl
theorem rs5 : rsops[5]? = some { dst := some 58, op := Op.call { callee := Callee.value (Operand.func 14), args := #[Operand.tmp 53, Operand.tmp 57], argTypes := #[37, 48] }, type := 42, pos := "law.go:317", after := #[{ on := 0, ground := Ground.data }, { on := 4, ground := Ground.data }], guard := none } := by kernel_rfl
theorem rs6 : rsops[6]? = some { dst := some 52, op := Op.move (Operand.tmp 58), type := 42, pos := "law.go:317", after := #[{ on := 5, ground := Ground.data }], guard := none } := by kernel_rfl
end Go.Proofs.YtfhopccbjlleoaaGreatDoor.St
