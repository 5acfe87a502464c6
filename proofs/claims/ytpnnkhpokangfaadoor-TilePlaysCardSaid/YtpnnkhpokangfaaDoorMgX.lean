/- Texts Xsa, Xma, Xtf, Xsf, Xmb, one behind the other. -/
import Derived.Test.YtpnnkhpokangfaaDoorMgP
import Derived.KernelRfl
import Derived.Test.YtpnnkhpokangfaaDoorProg
import Derived.Test.YtpnnkhpokangfaaDoorLeB
/- The operations of a condition, each by its number. -/
namespace Go.Proofs.YtpnnkhpokangfaaDoor.Ro
open Lex

noncomputable def xkops : Array Oper := Lex.opsOf Tryd.f28 6
def xkcalls : List Nat := [9]
def xkord : List Nat := [0, 1, 2, 3, 4, 5, 6, 7, 8, 9, 10]
theorem xksel : Region.noSelect xkops = true := by kernel_rfl
theorem xklex : lexH xkops xkcalls xkord (Array.replicate xkops.size false) = true := by kernel_rfl
theorem xk0 : xkops[0]? = some { dst := some 19, op := Op.fieldAddr 24 (Operand.tmp 2) 1, type := 0, pos := "ref.go:28", after := #[], guard := none } := by kernel_rfl
theorem xk1 : xkops[1]? = some { dst := some 20, op := Op.load 22 (Operand.tmp 19), type := 22, pos := "ref.go:28", after := #[{ on := 0, ground := Ground.data }], guard := none } := by kernel_rfl
theorem xk2 : xkops[2]? = some { dst := some 21, op := Op.move (Operand.tmp 5), type := 3, pos := "ref.go:28", after := #[], guard := none } := by kernel_rfl
theorem xk3 : xkops[3]? = some { dst := some 22, op := Op.indexAddr 22 (Operand.tmp 20) (Operand.tmp 21), type := 0, pos := "ref.go:28", after := #[{ on := 1, ground := Ground.data }, { on := 2, ground := Ground.data }], guard := none } := by kernel_rfl
theorem xk4 : xkops[4]? = some { dst := some 23, op := Op.load 60 (Operand.tmp 22), type := 60, pos := "ref.go:28", after := #[{ on := 3, ground := Ground.data }], guard := none } := by kernel_rfl
theorem xk5 : xkops[5]? = some { dst := some 24, op := Op.move (Operand.tmp 1), type := 35, pos := "ref.go:28", after := #[], guard := none } := by kernel_rfl
theorem xk6 : xkops[6]? = some { dst := some 25, op := Op.move (Operand.tmp 5), type := 3, pos := "ref.go:28", after := #[], guard := none } := by kernel_rfl
theorem xk7 : xkops[7]? = some { dst := some 26, op := Op.indexAddr 35 (Operand.tmp 24) (Operand.tmp 25), type := 0, pos := "ref.go:28", after := #[{ on := 5, ground := Ground.data }, { on := 6, ground := Ground.data }], guard := none } := by kernel_rfl
theorem xk8 : xkops[8]? = some { dst := some 27, op := Op.load 37 (Operand.tmp 26), type := 37, pos := "ref.go:28", after := #[{ on := 7, ground := Ground.data }], guard := none } := by kernel_rfl
theorem xk9 : xkops[9]? = some { dst := some 28, op := Op.call { callee := Callee.value (Operand.func 29), args := #[Operand.tmp 23, Operand.tmp 27], argTypes := #[60, 37] }, type := 40, pos := "ref.go:28", after := #[{ on := 4, ground := Ground.data }, { on := 8, ground := Ground.data }], guard := none } := by kernel_rfl
theorem xk10 : xkops[10]? = some { dst := some 6, op := Op.assign (Operand.tmp 28), type := 40, pos := "ref.go:28", after := #[{ on := 9, ground := Ground.data }, { on := 9, ground := Ground.chain }, { on := 0, ground := Ground.phase }, { on := 1, ground := Ground.phase }, { on := 2, ground := Ground.phase }, { on := 3, ground := Ground.phase }, { on := 4, ground := Ground.phase }, { on := 5, ground := Ground.phase }, { on := 6, ground := Ground.phase }, { on := 7, ground := Ground.phase }, { on := 8, ground := Ground.phase }, { on := 9, ground := Ground.phase }], guard := none } := by kernel_rfl
end Go.Proofs.YtpnnkhpokangfaaDoor.Ro

/- The operations of a condition, each by its number. -/
namespace Go.Proofs.YtpnnkhpokangfaaDoor.Mi
open Lex

noncomputable def mkops : Array Oper := Lex.opsOf Tryd.f59 5
def mkcalls : List Nat := [10, 11]
def mkord : List Nat := [0, 1, 2, 3, 4, 5, 6, 7, 8, 9, 10, 11, 12]
theorem mksel : Region.noSelect mkops = true := by kernel_rfl
theorem mklex : lexH mkops mkcalls mkord (Array.replicate mkops.size false) = true := by kernel_rfl
theorem mk0 : mkops[0]? = some { dst := some 13, op := Op.move (Operand.tmp 5), type := 67, pos := "ref.go:13", after := #[], guard := none } := by kernel_rfl
theorem mk1 : mkops[1]? = some { dst := some 14, op := Op.fieldAddr 24 (Operand.tmp 2) 1, type := 0, pos := "ref.go:13", after := #[], guard := none } := by kernel_rfl
theorem mk2 : mkops[2]? = some { dst := some 15, op := Op.load 22 (Operand.tmp 14), type := 22, pos := "ref.go:13", after := #[{ on := 1, ground := Ground.data }], guard := none } := by kernel_rfl
theorem mk3 : mkops[3]? = some { dst := some 16, op := Op.move (Operand.tmp 1), type := 67, pos := "ref.go:13", after := #[], guard := none } := by kernel_rfl
theorem mk4 : mkops[4]? = some { dst := some 17, op := Op.move (Operand.tmp 6), type := 3, pos := "ref.go:13", after := #[], guard := none } := by kernel_rfl
theorem mk5 : mkops[5]? = some { dst := some 18, op := Op.indexAddr 67 (Operand.tmp 16) (Operand.tmp 17), type := 0, pos := "ref.go:13", after := #[{ on := 3, ground := Ground.data }, { on := 4, ground := Ground.data }], guard := none } := by kernel_rfl
theorem mk6 : mkops[6]? = some { dst := some 19, op := Op.load 3 (Operand.tmp 18), type := 3, pos := "ref.go:13", after := #[{ on := 5, ground := Ground.data }], guard := none } := by kernel_rfl
theorem mk7 : mkops[7]? = some { dst := some 20, op := Op.indexAddr 22 (Operand.tmp 15) (Operand.tmp 19), type := 0, pos := "ref.go:13", after := #[{ on := 2, ground := Ground.data }, { on := 6, ground := Ground.data }], guard := none } := by kernel_rfl
theorem mk8 : mkops[8]? = some { dst := some 21, op := Op.fieldAddr 60 (Operand.tmp 20) 1, type := 0, pos := "ref.go:13", after := #[{ on := 7, ground := Ground.data }], guard := none } := by kernel_rfl
theorem mk9 : mkops[9]? = some { dst := some 22, op := Op.load 3 (Operand.tmp 21), type := 3, pos := "ref.go:13", after := #[{ on := 8, ground := Ground.data }], guard := none } := by kernel_rfl
theorem mk10 : mkops[10]? = some { dst := some 23, op := Op.buildSlice 67 1 #[(0, Operand.tmp 22)], type := 67, pos := "ref.go:13", after := #[{ on := 9, ground := Ground.data }], guard := none } := by kernel_rfl
theorem mk11 : mkops[11]? = some { dst := some 24, op := Op.call { callee := Callee.builtin Builtin.append, args := #[Operand.tmp 13, Operand.tmp 23], argTypes := #[67, 67] }, type := 67, pos := "ref.go:13", after := #[{ on := 0, ground := Ground.data }, { on := 10, ground := Ground.data }], guard := none } := by kernel_rfl
theorem mk12 : mkops[12]? = some { dst := some 5, op := Op.assign (Operand.tmp 24), type := 67, pos := "ref.go:13", after := #[{ on := 11, ground := Ground.data }, { on := 11, ground := Ground.chain }, { on := 0, ground := Ground.phase }, { on := 1, ground := Ground.phase }, { on := 2, ground := Ground.phase }, { on := 3, ground := Ground.phase }, { on := 4, ground := Ground.phase }, { on := 5, ground := Ground.phase }, { on := 6, ground := Ground.phase }, { on := 7, ground := Ground.phase }, { on := 8, ground := Ground.phase }, { on := 9, ground := Ground.phase }, { on := 10, ground := Ground.phase }, { on := 11, ground := Ground.phase }], guard := none } := by kernel_rfl
end Go.Proofs.YtpnnkhpokangfaaDoor.Mi

/- The operations of a condition, each by its number. -/
namespace Go.Proofs.YtpnnkhpokangfaaDoor.Va
open Lex

end Go.Proofs.YtpnnkhpokangfaaDoor.Va

/- The operations of a condition, each by its number. -/
namespace Go.Proofs.YtpnnkhpokangfaaDoor.Ro
open Lex

noncomputable def xjops : Array Oper := Lex.opsOf Tryd.f52 6
def xjcalls : List Nat := [5]
def xjord : List Nat := [0, 1, 2, 3, 4, 5, 6]
theorem xjsel : Region.noSelect xjops = true := by kernel_rfl
theorem xjlex : lexH xjops xjcalls xjord (Array.replicate xjops.size false) = true := by kernel_rfl
theorem xj0 : xjops[0]? = some { dst := some 22, op := Op.load 60 (Operand.tmp 6), type := 60, pos := "row.go:30", after := #[], guard := none } := by kernel_rfl
theorem xj1 : xjops[1]? = some { dst := some 23, op := Op.move (Operand.tmp 1), type := 35, pos := "row.go:30", after := #[], guard := none } := by kernel_rfl
theorem xj2 : xjops[2]? = some { dst := some 24, op := Op.move (Operand.tmp 5), type := 3, pos := "row.go:30", after := #[], guard := none } := by kernel_rfl
theorem xj3 : xjops[3]? = some { dst := some 25, op := Op.indexAddr 35 (Operand.tmp 23) (Operand.tmp 24), type := 0, pos := "row.go:30", after := #[{ on := 1, ground := Ground.data }, { on := 2, ground := Ground.data }], guard := none } := by kernel_rfl
theorem xj4 : xjops[4]? = some { dst := some 26, op := Op.load 37 (Operand.tmp 25), type := 37, pos := "row.go:30", after := #[{ on := 3, ground := Ground.data }], guard := none } := by kernel_rfl
theorem xj5 : xjops[5]? = some { dst := some 27, op := Op.call { callee := Callee.value (Operand.func 54), args := #[Operand.tmp 22, Operand.tmp 26], argTypes := #[60, 37] }, type := 40, pos := "row.go:30", after := #[{ on := 0, ground := Ground.data }, { on := 4, ground := Ground.data }], guard := none } := by kernel_rfl
theorem xj6 : xjops[6]? = some { dst := some 7, op := Op.assign (Operand.tmp 27), type := 40, pos := "row.go:30", after := #[{ on := 5, ground := Ground.data }, { on := 5, ground := Ground.chain }, { on := 0, ground := Ground.phase }, { on := 1, ground := Ground.phase }, { on := 2, ground := Ground.phase }, { on := 3, ground := Ground.phase }, { on := 4, ground := Ground.phase }, { on := 5, ground := Ground.phase }], guard := none } := by kernel_rfl
end Go.Proofs.YtpnnkhpokangfaaDoor.Ro

/- The operations of a condition, each by its number. -/
namespace Go.Proofs.YtpnnkhpokangfaaDoor.Mi
open Lex

noncomputable def naops : Array Oper := Lex.opsOf Tryd.f73 11
def nacalls : List Nat := [5]
def naord : List Nat := [0, 1, 2, 3, 4, 5, 6]
theorem nasel : Region.noSelect naops = true := by kernel_rfl
theorem nalex : lexH naops nacalls naord (Array.replicate naops.size false) = true := by kernel_rfl
theorem na0 : naops[0]? = some { dst := some 30, op := Op.move (Operand.tmp 0), type := 67, pos := "mini.go:100", after := #[], guard := none } := by kernel_rfl
theorem na1 : naops[1]? = some { dst := some 31, op := Op.move (Operand.tmp 7), type := 3, pos := "mini.go:100", after := #[], guard := none } := by kernel_rfl
theorem na2 : naops[2]? = some { dst := some 32, op := Op.indexAddr 67 (Operand.tmp 30) (Operand.tmp 31), type := 0, pos := "mini.go:100", after := #[{ on := 0, ground := Ground.data }, { on := 1, ground := Ground.data }], guard := none } := by kernel_rfl
theorem na3 : naops[3]? = some { dst := some 33, op := Op.load 3 (Operand.tmp 32), type := 3, pos := "mini.go:100", after := #[{ on := 2, ground := Ground.data }], guard := none } := by kernel_rfl
theorem na4 : naops[4]? = some { dst := some 34, op := Op.load 37 (Operand.tmp 8), type := 37, pos := "mini.go:100", after := #[], guard := none } := by kernel_rfl
theorem na5 : naops[5]? = some { dst := some 35, op := Op.call { callee := Callee.value (Operand.func 78), args := #[Operand.tmp 33, Operand.tmp 34], argTypes := #[3, 37] }, type := 4, pos := "mini.go:100", after := #[{ on := 3, ground := Ground.data }, { on := 4, ground := Ground.data }], guard := none } := by kernel_rfl
theorem na6 : naops[6]? = some { dst := some 36, op := Op.unOp UnOp.not 4 (Operand.tmp 35), type := 4, pos := "mini.go:100", after := #[{ on := 5, ground := Ground.data }], guard := none } := by kernel_rfl
noncomputable def ncops : Array Oper := Lex.opsOf Tryd.f57 15
def nccalls : List Nat := [8, 9]
def ncord : List Nat := [0, 1, 2, 3, 4, 5, 6, 7, 8, 9, 10]
theorem ncsel : Region.noSelect ncops = true := by kernel_rfl
theorem nclex : lexH ncops nccalls ncord (Array.replicate ncops.size false) = true := by kernel_rfl
theorem nc0 : ncops[0]? = some { dst := some 60, op := Op.move (Operand.tmp 10), type := 89, pos := "mini.go:34", after := #[], guard := none } := by kernel_rfl
theorem nc1 : ncops[1]? = some { dst := some 61, op := Op.move (Operand.tmp 7), type := 67, pos := "mini.go:34", after := #[], guard := none } := by kernel_rfl
theorem nc2 : ncops[2]? = some { dst := some 62, op := Op.move (Operand.tmp 15), type := 3, pos := "mini.go:34", after := #[], guard := none } := by kernel_rfl
theorem nc3 : ncops[3]? = some { dst := some 63, op := Op.indexAddr 67 (Operand.tmp 61) (Operand.tmp 62), type := 0, pos := "mini.go:34", after := #[{ on := 1, ground := Ground.data }, { on := 2, ground := Ground.data }], guard := none } := by kernel_rfl
theorem nc4 : ncops[4]? = some { dst := some 64, op := Op.load 3 (Operand.tmp 63), type := 3, pos := "mini.go:34", after := #[{ on := 3, ground := Ground.data }], guard := none } := by kernel_rfl
theorem nc5 : ncops[5]? = some { dst := some 65, op := Op.load 37 (Operand.tmp 16), type := 37, pos := "mini.go:34", after := #[], guard := none } := by kernel_rfl
theorem nc6 : ncops[6]? = some { dst := some 66, op := Op.move (Operand.tmp 11), type := 89, pos := "mini.go:34", after := #[], guard := none } := by kernel_rfl
theorem nc7 : ncops[7]? = some { dst := some 67, op := Op.call { callee := Callee.builtin Builtin.len, args := #[Operand.tmp 66], argTypes := #[89] }, type := 3, pos := "mini.go:34", after := #[{ on := 6, ground := Ground.data }], guard := none } := by kernel_rfl
theorem nc8 : ncops[8]? = some { dst := some 68, op := Op.call { callee := Callee.value (Operand.func 74), args := #[Operand.tmp 64, Operand.tmp 65, Operand.tmp 67], argTypes := #[3, 37, 3] }, type := 89, pos := "mini.go:34", after := #[{ on := 4, ground := Ground.data }, { on := 5, ground := Ground.data }, { on := 7, ground := Ground.data }], guard := none } := by kernel_rfl
theorem nc9 : ncops[9]? = some { dst := some 69, op := Op.call { callee := Callee.builtin Builtin.append, args := #[Operand.tmp 60, Operand.tmp 68], argTypes := #[89, 89] }, type := 89, pos := "mini.go:34", after := #[{ on := 0, ground := Ground.data }, { on := 8, ground := Ground.data }, { on := 8, ground := Ground.chain }], guard := none } := by kernel_rfl
theorem nc10 : ncops[10]? = some { dst := some 10, op := Op.assign (Operand.tmp 69), type := 89, pos := "mini.go:34", after := #[{ on := 9, ground := Ground.data }, { on := 9, ground := Ground.chain }, { on := 0, ground := Ground.phase }, { on := 1, ground := Ground.phase }, { on := 2, ground := Ground.phase }, { on := 3, ground := Ground.phase }, { on := 4, ground := Ground.phase }, { on := 5, ground := Ground.phase }, { on := 6, ground := Ground.phase }, { on := 7, ground := Ground.phase }, { on := 8, ground := Ground.phase }, { on := 9, ground := Ground.phase }], guard := none } := by kernel_rfl
end Go.Proofs.YtpnnkhpokangfaaDoor.Mi
