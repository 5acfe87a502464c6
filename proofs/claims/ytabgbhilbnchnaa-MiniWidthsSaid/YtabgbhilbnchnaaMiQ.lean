/- A group's cells out of any bytes: the document's, walked. -/
import Derived.Test.YtabgbhilbnchnaaMiE
import Derived.Test.YtabgbhilbnchnaaMiH
import Derived.BigQuiet
import Derived.Deep.CutRange
import Derived.Test.YtabgbhilbnchnaaLiC
namespace Go.Proofs.Ytabgbhilbnchnaa.Mi
open Go.RowKit Pac Va Sc Ro Lex Go.Proofs.Ytabgbhilbnchnaa.Or

theorem or_byte {u : Nat} {b : UInt8} (h : u < 72057594037927936) : ∃ x : Nat, bits .or .u64 ((u : Int) * 256) (IntKind.u64.wrap (b.toNat : Int)) = (x : Int) ∧ x = u * 256 + b.toNat := by
  have hb := b.toNat_lt
  refine ⟨u * 256 + b.toNat, ?_, rfl⟩
  rw [show IntKind.u64.wrap (b.toNat : Int) = ((b.toNat : Nat) : Int) by rw [IntKind.wrap_u64]; omega, show ((u : Int) * 256) = ((u * 256 : Nat) : Int) by omega, u64_or_nat _ _ (by omega) (by omega)]
  have := Nat.two_pow_add_eq_or_of_lt (i := 8) (b := b.toNat) (by omega) u
  rw [show 2 ^ 8 * u = u * 256 by omega] at this
  rw [this]
theorem wrap_sgn {u : Nat} (h : u < 18446744073709551616) : IntKind.i64.wrap (u : Int) = sgn u := by
  rw [IntKind.wrap_i64]
  unfold sgn
  split <;> omega
theorem unbe_next {l : List UInt8} {b : Nat} {x : UInt8} (h : l[b]? = some x) : unbe (l.take (b + 1)) = unbe (l.take b) * 256 + x.toNat := by rw [List.take_add_one, h]; exact unbe_snoc _ _
theorem byte_at {e : ByteArray} {b : Nat} (h : b < e.size) : e.data.toList[b]? = some e[b] := by rw [List.getElem?_eq_getElem (by simpa using h)]; rfl
theorem zip_snoc {α β : Type} : ∀ {ks : List α} {L : List β} {k : α} {v : β}, ks[L.length]? = some k → ks.zip (L ++ [v]) = ks.zip L ++ [(k, v)]
  | [], L, k, v, h => by simp at h
  | x :: ks, [], k, v, h => by
    have h : x = k := by simpa using h
    subst h
    simp
  | x :: ks, y :: L, k, v, h => by
    have h : ks[L.length]? = some k := by simpa using h
    show (x, y) :: ks.zip (L ++ [v]) = (x, y) :: (ks.zip L ++ [(k, v)])
    rw [zip_snoc h]
theorem bit_read {s : ByteArray} {n j m : Nat} (hj : j < s.size) (e1 : n / 8 = j) (e2 : n % 8 = m) : (bits .and .u8 ((s[j].toNat : Int) / 2 ^ m) 1 == 1) = bitA s n := by
  have hb := s[j].toNat_lt
  have e3 : ((s[j].toNat : Int) / 2 ^ m) = ((s[j].toNat / 2 ^ m : Nat) : Int) := by push_cast; rfl
  have hlt : s[j].toNat / 2 ^ m < 256 := Nat.lt_of_le_of_lt (Nat.div_le_self _ _) hb
  have e4 := u8_and_nat (s[j].toNat / 2 ^ m) 1 hlt (by decide)
  rw [e3]
  rw [show ((1 : Int)) = ((1 : Nat) : Int) by rfl, e4, Nat.and_one_is_mod]
  unfold bitA
  have e5 : s.data.toList[n / 8]? = some s[j] := by
    rw [e1, List.getElem?_eq_getElem (by simpa using hj)]
    rfl
  rw [e5, e2, Option.getD_some]
  generalize s[j].toNat / 2 ^ m % 2 = x
  cases hx : (x == 1)
  · have := beq_eq_false_iff_ne.1 hx
    exact beq_eq_false_iff_ne.2 (by omega)
  · have := beq_iff_eq.1 hx
    exact beq_iff_eq.2 (by omega)
/-- Rows that lie apart. -/
def FreeM (w : World) (A : Option Addr) (m : Nat) (hs : List (Li.Gr V)) : Prop :=
  ∃ bt ot, A = some ⟨bt, ot, none⟩ ∧ ∀ (i : Nat) (x : Li.Gr V), hs[i]? = some x → ∃ b o, x.A = some ⟨b, o, none⟩ ∧ b ≠ bt ∧ (∀ k, w.frozen? ⟨b, k, none⟩ = false) ∧
    ∀ (j : Nat) (y : Li.Gr V), hs[j]? = some y → i ≠ j → ∀ b' o', y.A = some ⟨b', o', none⟩ → b ≠ b' ∨ o + m * 3 ≤ o' ∨ o' + m * 3 ≤ o
/-- What is read of any bytes, in rows that lie apart. -/
def ReadPostF (m : Nat) (o : Option (List (List V))) (w : World) (e : Ending) (w' : World) : Prop :=
  ∃ (v : Value) (b : Bool), e = .returned (.tuple #[v, .bool b]) ∧ b = o.isSome ∧ (∀ cells, o = some cells → ∃ A cp hs, v = .slice A 8 cp ∧ 8 ≤ cp ∧ cells.length = 8 ∧ hs.map Li.Gr.l = cells ∧ Li.HasL Li.cellsG 1 w' w.heap.size A hs ∧ (∀ x ∈ hs, HasV w' w.heap.size x.A x.l ∧ x.l.length ≤ x.cp) ∧ FreeM w' A m hs) ∧ Below w.heap.size w w'
theorem ReadPostF.bad {m : Nat} {o : Option (List (List V))} {w w' : World} {v : Value} (h : o = none) (hB : Below w.heap.size w w') : ReadPostF m o w (.returned (.tuple #[v, .bool false])) w' := by
  subst h
  exact ⟨v, false, rfl, rfl, fun c h => (by cases h), hB⟩
theorem ReadPostF.good {m R cp base : Nat} {o : Option (List (List V))} {w w' : World} {os : List (Li.OG V)} (h : o = some (os.map Li.OG.l)) (hb : w.heap.size ≤ base) (hown : w'.ownsRow base 34 1 (.slice (some ⟨R, 0, none⟩) 8 cp) 8 (os.map Li.OG.v)) (hF : Li.FreeG cellsV 3 36 w' base os) (hB : Below w.heap.size w w') : ReadPostF m o w (.returned (.tuple #[.slice (some ⟨R, 0, none⟩) 8 cp, .bool true])) w' := by
  subst h
  have hlen : os.length = 8 := by have := hown.1; rwa [List.length_map] at this
  refine ⟨_, true, rfl, rfl, fun c hc => ?_, hB⟩
  injection hc with hc
  subst hc
  have hown' := hown
  rw [← Li.cells_og] at hown'
  obtain ⟨A', c', e', hc, hl⟩ := Li.list_of_own Li.cellsG_len hown' (by rw [List.length_map, hlen])
  injection e' with e1 _ e3
  subst e1 e3
  refine ⟨_, _, os.map Li.OG.gr, rfl, hc, by rw [List.length_map, hlen], by rw [List.map_map]; rfl, hl.lower hb, fun x hx => ⟨(hF.has cellsV_len hx).1.lower hb, (hF.has cellsV_len hx).2⟩, R, 0, rfl, fun i x hi => ?_⟩
  rw [List.getElem?_map] at hi
  obtain ⟨y, hy, rfl⟩ := Option.map_eq_some_iff.1 hi
  have ho := hF.own y (List.mem_of_getElem? hy)
  refine ⟨y.b, 0, rfl, fun e => ?_, fun k => ho.frozenAt k, fun j x' hj hij b' o' e => Or.inl ?_⟩
  · exact Li.own_kind ho hown (by decide) (b := y.b) rfl (by rw [e]; rfl)
  · rw [List.getElem?_map] at hj
    obtain ⟨z, hz, rfl⟩ := Option.map_eq_some_iff.1 hj
    have hne := hF.ne hy hz hij
    unfold Li.OG.gr at e
    injection e with e
    injection e with e
    rw [← e]
    exact hne

end Go.Proofs.Ytabgbhilbnchnaa.Mi
