/- What the program's three calls of a group say. -/
import Derived.Test.YtabgbhilbnchnaaMiG
import Derived.Test.YtabgbhilbnchnaaMiX
namespace Go.Proofs.Ytabgbhilbnchnaa.Mi
open Go.RowKit Pac Va Sc Ro Lex

/-- What is read of any bytes. -/
def ReadPost (o : Option (List (List V))) (w : World) (e : Ending) (w' : World) : Prop :=
  ∃ (v : Value) (b : Bool), e = .returned (.tuple #[v, .bool b]) ∧ b = o.isSome ∧ (∀ cells, o = some cells → ∃ A cp, v = .slice A cells.length cp ∧ HasVV w' w.heap.size A cells) ∧ Below w.heap.size w w'
/-- Rows that lie apart. -/
def Free (w : World) (A : Option Addr) (m : Nat) (hs : List (Li.Gr V)) : Prop :=
  ∃ bt ot, A = some ⟨bt, ot, none⟩ ∧ ∀ (i : Nat) (x : Li.Gr V), hs[i]? = some x → ∃ b o, x.A = some ⟨b, o, none⟩ ∧ b ≠ bt ∧ (∀ k, w.frozen? ⟨b, k, none⟩ = false) ∧
    ∀ (j : Nat) (y : Li.Gr V), hs[j]? = some y → i ≠ j → ∀ b' o', y.A = some ⟨b', o', none⟩ → b ≠ b' ∨ o + m * 3 ≤ o' ∨ o' + m * 3 ≤ o
def EmptyPost (m : Nat) (w : World) (e : Ending) (w' : World) : Prop :=
  ∃ A cp hs, e = .returned (.slice A 8 cp) ∧ 8 ≤ cp ∧ hs.map Li.Gr.l = emptyM m ∧ Li.HasL Li.cellsG 1 w' w.heap.size A hs ∧ (∀ x ∈ hs, HasV w' w.heap.size x.A x.l ∧ x.l.length ≤ x.cp) ∧ (1 ≤ m → Free w' A m hs) ∧ Below w.heap.size w w'
theorem right_ok {ks : List Int} {cells : List (List V)} (h : RightM ks cells) : ∀ r ∈ cells, ∀ v ∈ r, v.Ok := fun r hr v hv => by
  obtain ⟨i, hi⟩ := List.mem_iff_getElem?.1 hr
  obtain ⟨j, hj⟩ := List.mem_iff_getElem?.1 hv
  have hl := h.row r hr
  have hjl := (List.getElem?_eq_some_iff.1 hj).1
  have hk : ks[j]? = some (ks[j]'(by omega)) := List.getElem?_eq_getElem _
  exact (h.ok _ (List.mem_of_getElem? (flat_at h.row hi hj hk))).ok
theorem print_any (nm : ByteArray) (A1 A2 A3 : Option Addr) (cp cp2 cp3 : Nat) (cs : List C) (g : List Int) (cells : List (List V)) (lo1 lo2 lo3 : Nat) (w : World) (h1 : HasCols w lo1 A1 cs) (h2 : HasI w lo2 A2 g) (h3 : HasVV w lo3 A3 cells) (hG : Grp nm cs g) (hr : RightM (kindsL cs g) cells) :
    Calls Try.prog 9 #[.agg #[.string nm, .slice A1 cs.length cp], .slice A2 g.length cp2, .slice A3 8 cp3] w fun e w' => e = .returned (.string (printM (kindsL cs g) cells)) ∧ Below w.heap.size w w' := by
  have h := printW_any nm A1 A2 A3 cp cp2 cp3 cs g cells lo1 lo2 lo3 w h1 h2 h3 (by have := hG.len; omega) hG.at' hG.g1 hG.g8 (kinds_ok hG) hr.len (fun r hr' => by rw [hr.row r hr', kinds_len]) (right_ok hr)
  unfold printW at h
  rwa [if_pos (right_all hr)] at h
theorem read_any (nm : ByteArray) (A1 A2 : Option Addr) (cp cp2 : Nat) (cs : List C) (g : List Int) (s : ByteArray) (lo1 lo2 : Nat) (w : World) (h1 : HasCols w lo1 A1 cs) (h2 : HasI w lo2 A2 g) (hG : Grp nm cs g) (hs : s.size ≤ 1000000) :
    Calls Try.prog 14 #[.agg #[.string nm, .slice A1 cs.length cp], .slice A2 g.length cp2, .string s] w (ReadPost (readM (kindsL cs g) s) w) := by
  refine (readF_any nm A1 A2 cp cp2 cs g s lo1 lo2 w h1 h2 (by have := hG.len; omega) hG.at' hG.g1 hG.g8 (kinds_ok hG) hs).mono ?_
  rintro e w' ⟨v, b, he, hb, hc, hB⟩
  refine ⟨v, b, he, hb, fun cells ho => ?_, hB⟩
  obtain ⟨A, cp', hs', hv, _, h8, hl, hL, hx, _⟩ := hc cells ho
  exact ⟨A, cp', by rw [h8]; exact hv, hs', hl, hL, hx⟩
theorem empty_any (A2 : Option Addr) (cp2 : Nat) (g : List Int) (lo2 : Nat) (w : World) (_h2 : HasI w lo2 A2 g) (h8 : g.length ≤ 8) :
    Calls Try.prog 12 #[.slice A2 g.length cp2] w (EmptyPost g.length w) := by
  refine (emptyF_any A2 cp2 g.length w (by omega)).mono ?_
  rintro e w' ⟨os, rfl, hel, hown, hF, hB⟩
  obtain ⟨v, b, he, _, hc, _⟩ := ReadPostF.good (m := g.length) (o := some (os.map Li.OG.l)) rfl (Nat.le_refl _) hown hF hB
  obtain ⟨A, cp, hs, hv, h1, _, hl, hL, hx, hFr⟩ := hc _ rfl
  injection he with he
  injection he with he
  rw [Array.mk.injEq] at he
  injection he with he _
  rw [hv] at he
  injection he with e1 _ e3
  subst e1 e3
  exact ⟨_, _, hs, rfl, h1, by rw [hl, hel], hL, hx, fun _ => hFr, hB⟩
end Go.Proofs.Ytabgbhilbnchnaa.Mi
