/- Some of a row's values: the document's, walked. -/
import Derived.Test.YtpnnkhpokangfaaDoorRoC
namespace Go.Proofs.YtpnnkhpokangfaaDoor.Ro
open Go.RowKit Pac Va Sc Lex

theorem infoV : (Tryd.prog.info? 37).map (fun i => (i.zero, i.size, i.bytes)) = some (some (.agg #[.int .i64 0, .int .i64 0, .string ⟨#[]⟩]), 3, 32) := by kernel_rfl
def cellsI (i : Int) : List Value := [.int .i64 i]
/-- The slice at A holds these numbers. -/
abbrev HasI (w : World) (lo : Nat) (A : Option Addr) (l : List Int) : Prop := Li.HasL cellsI 1 w lo A l
theorem HasI.at {w : World} {lo : Nat} {A : Option Addr} {l : List Int} (h : HasI w lo A l) {q : Nat} {a : Int} (hq : l[q]? = some a) : ∃ b o, A = some ⟨b, o, none⟩ ∧ lo ≤ b ∧ b < w.heap.size ∧ w.cell? ⟨b, o + q, none⟩ = some (.int .i64 a) := by
 obtain ⟨b, o, hA, hlo, hlt, hc⟩ := h (fun e => by rw [e] at hq; simp at hq)
 refine ⟨b, o, hA, hlo, hlt, ?_⟩
 have := hc q a hq 0 _ rfl
 rw [Nat.mul_one, Nat.add_zero] at this
 exact this
theorem pick_take {l : List V} {cols : List Int} {q : Nat} {c : Int} {v : V} {ps : List V} (h : pickO l (cols.take q) = some ps) (hc : cols[q]? = some c) (h0 : 0 ≤ c) (h1 : c < l.length) (hv : l[c.toNat]? = some v) : pickO l (cols.take (q + 1)) = some (ps ++ [v]) := by
 rw [List.take_add_one, hc]
 show pickO l (cols.take q ++ [c]) = _
 generalize cols.take q = cs at h
 induction cs generalizing ps with
 | nil =>
  have h : some [] = some ps := h
  injection h with h
  subst h
  show pickO l [c] = some [v]
  unfold pickO
  rw [if_pos ⟨h0, h1⟩, hv]
  rfl
 | cons a cs ih =>
  show pickO l (a :: (cs ++ [c])) = _
  unfold pickO at h ⊢
  by_cases ha : 0 ≤ a ∧ a < l.length
  ·rw [if_pos ha] at h ⊢
   cases hva : l[a.toNat]? with
   | none => rw [hva] at h; cases h
   | some x =>
    rw [hva] at h
    cases hp : pickO l cs with
    | none => rw [hp] at h; cases h
    | some p =>
     rw [hp] at h
     have h : some (x :: p) = some ps := h
     injection h with h
     subst h
     rw [ih hp]
     rfl
  ·rw [if_neg ha] at h
   cases h
def PickPost (l : List V) (cols : List Int) (w : World) (e : Ending) (w' : World) : Prop :=
 ∃ (A : Option Addr) (cp : Nat) (p : List V) (ok : Bool), e = .returned (.tuple #[.slice A p.length cp, .bool ok]) ∧ ok = (pickO l cols).isSome ∧ p = (pickO l cols).getD [] ∧ p.length ≤ cp ∧ HasV w' w.heap.size A p ∧ Below w.heap.size w w'
theorem PickPost.bad {l : List V} {cols : List Int} {w w' : World} (h : pickO l cols = none) (hB : Below w.heap.size w w') : PickPost l cols w (.returned (.tuple #[.slice none 0 0, .bool false])) w' :=
 ⟨none, 0, [], false, rfl, by rw [h]; rfl, by rw [h]; rfl, Nat.le_refl _, Li.HasL.nil _ _ _, hB⟩
theorem PickPost.good {l : List V} {cols : List Int} {w w' : World} {ps : List V} {sv : Value} {n : Nat} (h : pickO l cols = some ps) (hn : ps.length = n) (hown : w'.ownsRow w.heap.size 37 3 sv n (Li.cellsL cellsV ps)) (hB : Below w.heap.size w w') : PickPost l cols w (.returned (.tuple #[sv, .bool true])) w' := by
 obtain ⟨A, c, rfl, hc, hl⟩ := Li.list_of_own cellsV_len hown hn
 subst hn
 exact ⟨A, c, ps, true, rfl, by rw [h]; rfl, by rw [h]; rfl, hc, hl, hB⟩

end Go.Proofs.YtpnnkhpokangfaaDoor.Ro
