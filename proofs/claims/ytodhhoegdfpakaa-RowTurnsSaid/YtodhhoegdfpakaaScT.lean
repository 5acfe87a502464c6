/- A schema that came in, out of its reading. -/
import Derived.Test.YtodhhoegdfpakaaScB
import Derived.ProofKit
import Derived.OpenShut
import Derived.Carry
import Derived.Deep.Slices
import Derived.Deep.Fields
namespace Go.Proofs.Ytodhhoegdfpakaa.Sc
open Go.ChangeShapes Go.WideShapes Go.ChangeAt Go.RowKit

theorem cells24 : Try.prog.cellsOf 24 = 2 := by kernel_rfl
theorem cells41 : Try.prog.cellsOf 32 = 3 := by kernel_rfl
theorem cells3 : Try.prog.cellsOf 3 = 1 := by kernel_rfl
theorem cells4 : Try.prog.cellsOf 4 = 1 := by kernel_rfl
theorem cells9 : Try.prog.cellsOf 9 = 1 := by kernel_rfl
theorem cells22 : Try.prog.cellsOf 22 = 1 := by kernel_rfl
theorem two_of {α : Type} {cs : Array α} (h : cs.size = 2) : ∃ a b, cs = #[a, b] := by
  obtain ⟨l⟩ := cs
  match l, h with
  | [a, b], _ => exact ⟨a, b, rfl⟩
theorem two_list {α : Type} {l : List α} (h : l.length = 2) : ∃ a b, l = [a, b] := by
  match l, h with
  | [a, b], _ => exact ⟨a, b, rfl⟩
theorem wfI {x : Int} (h : (Lit.int .i64 x).wf = true) : -9223372036854775808 ≤ x ∧ x ≤ 9223372036854775807 := by
  simp [Lit.wf, IntKind.min, IntKind.max, IntKind.signed, IntKind.bits] at h
  exact ⟨by omega, by omega⟩
theorem wfU {x : Int} (h : (Lit.int .u16 x).wf = true) : 0 ≤ x ∧ x ≤ 65535 := by
  simp [Lit.wf, IntKind.min, IntKind.max, IntKind.signed, IntKind.bits] at h
  exact ⟨by omega, by omega⟩

section
variable {H : Type} {enc : TypeId × Value → H} {w : World} {base : Nat} {spare : Nat → Bool} {held : Bool}
theorem open_col {fuel : Nat} {cs : List Value} {x : DataW H × List MemPlace} (h : DataW.trod enc Try.prog w base spare held fuel 32 cs = some x) :
    ∃ c : C, c.Ok ∧ cs = [.string c.n, .int .i64 c.k, .bool c.z] := by
  obtain ⟨xs, n, _, _, hlen, hxl, hf⟩ := DataW.trod_struct Try.underlying32 h
  rw [cells41] at hlen
  match cs, hlen with
  | [c0, c1, c2], _ =>
    match xs, hxl with
    | [y0, y1, y2], _ =>
      have g0 : DataW.trod enc Try.prog w base spare held n 9 [c0] = some y0 := by have := hf 0 _ rfl; simpa [cells9] using this
      have g1 : DataW.trod enc Try.prog w base spare held n 3 [c1] = some y1 := by have := hf 1 _ rfl; simpa [cells9, cells3] using this
      have g2 : DataW.trod enc Try.prog w base spare held n 4 [c2] = some y2 := by have := hf 2 _ rfl; simpa [cells9, cells3, cells4] using this
      obtain ⟨s, e0, _, hs⟩ := DataW.trod_string Try.underlying9 g0
      obtain ⟨k, e1, _, w1⟩ := DataW.trod_int Try.underlying3 g1
      obtain ⟨z, e2, _⟩ := DataW.trod_bool Try.underlying4 g2
      simp only [List.cons.injEq, and_true] at e0 e1 e2
      subst e0 e1 e2
      unfold maxLen at hs
      exact ⟨⟨s, k, z⟩, ⟨(wfI w1).1, (wfI w1).2, hs⟩, rfl⟩

theorem add_add3 (a : Addr) (hs : a.spot = none) (i j : Nat) : (a.add (i * 3)).add j = ⟨a.block, a.off + i * 3 + j, none⟩ := by
  obtain ⟨b, off, spot⟩ := a
  simp only at hs
  subst hs
  unfold Addr.add
  split <;> split <;> simp_all <;> omega

theorem open_cols {fuel : Nat} {cs : List Value} {x : DataW H × List MemPlace} (h : DataW.trod enc Try.prog w base spare held fuel 22 cs = some x) :
    ∃ (A : Option Addr) (cp : Nat) (l : List C), cs = [.slice A l.length cp] ∧ l.length ≤ cp ∧ l.length ≤ 9223372036854775807 ∧ (∀ (j : Nat) (c : C), l[j]? = some c → c.Ok) ∧ HasCols w 0 A l := by
  rcases Go.Deep.open_slice Try.underlying22 h with ⟨rfl, _⟩ | ⟨a, len, cap, m, n, D, Pl, rfl, hb, hl, hm, hmm, _, hi⟩
  · exact ⟨none, 0, [], rfl, Nat.le_refl _, by decide, fun j c h => by simp at h, HasCols.nil _ _ _⟩
  · have hlm : len ≤ m := by rw [hmm]; split <;> omega
    unfold maxLen at hm
    have each : ∀ j, ∃ E : C, j < len → E.Ok ∧ w.cell? ((a.add (j * 3)).add 0) = some (.string E.n) ∧ w.cell? ((a.add (j * 3)).add 1) = some (.int .i64 E.k) ∧ w.cell? ((a.add (j * 3)).add 2) = some (.bool E.z) := by
      intro j
      by_cases hj : j < len
      · obtain ⟨cs', hc, ht⟩ := hi j (by omega)
        rw [cells41] at hc
        obtain ⟨E, hok, rfl⟩ := open_col ht
        obtain ⟨_, _, hat⟩ := World.cells?_some hc
        exact ⟨E, fun _ => ⟨hok, hat 0 (by omega), hat 1 (by omega), hat 2 (by omega)⟩⟩
      · exact ⟨⟨⟨#[]⟩, 0, false⟩, fun h => absurd h hj⟩
    obtain ⟨L, hL⟩ := Classical.axiomOfChoice each
    have hlen : ((List.range len).map L).length = len := by rw [List.length_map, List.length_range]
    have hat : ∀ (j : Nat) (c : C), ((List.range len).map L)[j]? = some c → j < len ∧ c = L j := fun j c hc => by
      have hj : j < len := by
        have := (List.getElem?_eq_some_iff.1 hc).1
        rw [hlen] at this
        exact this
      rw [List.getElem?_map, List.getElem?_range hj] at hc
      exact ⟨hj, (Option.some.inj hc).symm⟩
    refine ⟨some a, cap, (List.range len).map L, by rw [hlen], by rw [hlen]; exact hl, by rw [hlen]; omega, fun j c hc => ?_, fun hne => ?_⟩
    · obtain ⟨hj, rfl⟩ := hat j c hc
      exact (hL j hj).1
    · have h0 : 0 < len := by
        rcases Nat.eq_zero_or_pos len with h | h
        · subst h; exact absurd rfl hne
        · exact h
      have hsp : a.spot = none := by
        have := World.cell?_spot (hL 0 h0).2.1
        obtain ⟨b, off, spot⟩ := a
        simpa [Addr.add] using this
      have hlt : a.block < w.heap.size := by
        have := World.block_lt_of_cell? w _ (hL 0 h0).2.1
        rw [add_add3 a hsp] at this
        exact this
      refine ⟨a.block, a.off, ?_, Nat.zero_le _, hlt, fun j c hc => ?_⟩
      · obtain ⟨b, off, spot⟩ := a
        simp only at hsp
        subst hsp
        rfl
      · obtain ⟨hj, rfl⟩ := hat j c hc
        have h := (hL j hj).2
        simp only [add_add3 a hsp, Nat.add_zero] at h
        exact h
end
theorem open_schema {H : Type} {enc : TypeId × Value → H} {w W : World} {base b2 : Nat} {spare : Nat → Bool} {held : Bool} {v : Value} {d : DataW H} {p : List MemPlace}
    (hv : Value.okWide Try.prog W .any b2 24 v) (h : DataW.Trod enc Try.prog w base spare held 24 v d p) :
    ∃ (nm : ByteArray) (A : Option Addr) (cp m : Nat) (l : List C), v = .agg #[.string nm, .slice A m cp] ∧ l.length = m ∧ m ≤ cp ∧ nm.size ≤ 9223372036854775807 ∧ m ≤ 9223372036854775807 ∧ (∀ (j : Nat) (c : C), l[j]? = some c → c.Ok) ∧ HasCols w 0 A l := by
  obtain ⟨cs, rfl, hsz, _⟩ : ∃ cs, v = .agg cs ∧ cs.size = Try.prog.cellsOf 24 ∧ Row.okWide Try.prog W .any b2 24 cs := by
    simpa [Value.okWide, Try.underlying24, Try.underlying23] using hv
  rw [cells24] at hsz
  obtain ⟨c0, c1, rfl⟩ := two_of hsz
  obtain ⟨fuel, hf⟩ := h
  obtain ⟨xs, n, _, _, hlen, hxl, hq⟩ := DataW.trod_struct Try.underlying24 hf
  obtain ⟨y0, y1, rfl⟩ := two_list hxl
  have g0 : DataW.trod enc Try.prog w base spare held n 9 [c0] = some y0 := by have := hq 0 _ rfl; simpa [cells9, Value.cells] using this
  have g1 : DataW.trod enc Try.prog w base spare held n 22 [c1] = some y1 := by have := hq 1 _ rfl; simpa [cells9, cells22, Value.cells] using this
  obtain ⟨s, e0, _, hs⟩ := DataW.trod_string Try.underlying9 g0
  obtain ⟨A, cp, l, e1, h1, h2, h3, h4⟩ := open_cols g1
  simp only [List.cons.injEq, and_true] at e0 e1
  subst e0 e1
  unfold maxLen at hs
  exact ⟨s, A, cp, l.length, l, rfl, rfl, h1, hs, h2, h3, h4⟩
end Go.Proofs.Ytodhhoegdfpakaa.Sc
