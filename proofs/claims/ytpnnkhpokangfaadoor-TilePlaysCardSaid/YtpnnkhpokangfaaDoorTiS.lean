/- Lists that came in, and how long they are at most: what a slice weighs. -/
import Derived.Test.YtpnnkhpokangfaaDoorTiF
import Derived.ProofKit
import Derived.OpenShut
import Derived.Carry
namespace Go.Proofs.YtpnnkhpokangfaaDoor.Ti
open Go.ChangeShapes Go.WideShapes Go.ChangeAt Go.RowKit Pac Va Sc Mi Sp
set_option maxRecDepth 20000

theorem wfI {x : Int} (h : (Lit.int .i64 x).wf = true) : -9223372036854775808 ≤ x ∧ x ≤ 9223372036854775807 := by
 simp [Lit.wf, IntKind.min, IntKind.max, IntKind.signed, IntKind.bits] at h
 exact ⟨by omega, by omega⟩
theorem tcellsI : Tryd.prog.cellsOf 3 = 1 := by kernel_rfl
theorem tcellsG : Tryd.prog.cellsOf 67 = 1 := by kernel_rfl
theorem bytesI : Tryd.prog.bytesOf 3 = 8 := by kernel_rfl
/-- What this data weighs is within reach. -/
def Wt {H : Type} (P : Program) (t : TypeId) (d : DataW H) : Prop := (d.weights P t).all (· ≤ reachBytes) = true
section
variable {H : Type} {P : Program} {t e : TypeId}
theorem wt_all : ∀ {l : List (DataW H)}, (DataW.weightsAll P e l).all (· ≤ reachBytes) = true → ∀ d ∈ l, Wt P e d
 | [], _, d, hd => by simp at hd
 | x :: l, h, d, hd => by
  unfold DataW.weightsAll at h
  rw [List.all_append, Bool.and_eq_true] at h
  rcases List.mem_cons.1 hd with rfl | hd
  ·exact h.1
  ·exact wt_all h.2 d hd
theorem wt_slice {es sp : List (DataW H)} (ht : P.underlying t = some (.slice e)) (h : Wt P t (.slice es sp)) : es.length * P.bytesOf e ≤ reachBytes ∧ ∀ d ∈ es, Wt P e d := by
 unfold Wt at h
 unfold DataW.weights at h
 rw [ht] at h
 simp only [List.all_cons, List.all_append, Bool.and_eq_true, decide_eq_true_eq] at h
 exact ⟨Nat.le_trans (Nat.mul_le_mul_right _ (Nat.le_add_right _ _)) h.1, wt_all h.2.1⟩
theorem wt_struct {fs : Array Field} {ps : List (DataW H)} (ht : P.underlying t = some (.struct fs)) (h : Wt P t (.agg ps)) : (DataW.weightsEach P (fs.toList.map (·.type)) ps).all (· ≤ reachBytes) = true := by
 unfold Wt at h
 unfold DataW.weights at h
 rw [ht] at h
 exact h
theorem open_listW {enc : TypeId × Value → H} {w : World} {base : Nat} {spare : Nat → Bool} {held : Bool} {α : Type} {R : α → List Value} {Ok : α → Prop} {k : Nat} [Inhabited α]
  (ht : P.underlying t = some (.slice e)) (hk : P.cellsOf e = k) (hk0 : 0 < k) (hR : ∀ x, (R x).length = k)
  (one : ∀ (fuel : Nat) (cs : List Value) (x : DataW H × List MemPlace), DataW.trod enc P w base spare held fuel e cs = some x → Wt P e x.1 → ∃ a : α, Ok a ∧ cs = R a)
  {fuel : Nat} {cs : List Value} {x : DataW H × List MemPlace} (h : DataW.trod enc P w base spare held fuel t cs = some x) (hw : Wt P t x.1) :
  ∃ (A : Option Addr) (cp : Nat) (l : List α), cs = [.slice A l.length cp] ∧ l.length ≤ cp ∧ l.length ≤ 9223372036854775807 ∧ (∀ (j : Nat) (a : α), l[j]? = some a → Ok a) ∧ Li.HasL R k w 0 A l ∧ l.length * P.bytesOf e ≤ reachBytes := by
 rcases Go.Deep.open_slice ht h with ⟨rfl, _⟩ | ⟨a, len, cap, m, n, D, Pl, rfl, hb, hl, hm, hmm, hx, hi⟩
 ·exact ⟨none, 0, [], rfl, Nat.le_refl _, Nat.zero_le _, fun j c h => by simp at h, Li.HasL.nil _ _ _, by simp⟩
 ·have hlm : len ≤ m := by rw [hmm]; split <;> omega
  rw [hx] at hw
  obtain ⟨hw1, hw2⟩ := wt_slice ht hw
  rw [List.length_map, List.length_range] at hw1
  unfold maxLen at hm
  have each : ∀ j, ∃ E : α, j < len → Ok E ∧ ∀ (i : Nat) (v : Value), (R E)[i]? = some v → w.cell? ((a.add (j * k)).add i) = some v := by
   intro j
   by_cases hj : j < len
   ·obtain ⟨cs', hc, ht⟩ := hi j (by omega)
    rw [hk] at hc
    obtain ⟨E, hok, rfl⟩ := one _ _ _ ht (hw2 _ (List.mem_map.2 ⟨j, List.mem_range.2 hj, rfl⟩))
    obtain ⟨_, _, hat⟩ := World.cells?_some hc
    refine ⟨E, fun _ => ⟨hok, fun i v hv => ?_⟩⟩
    have hik : i < k := by rw [← hR E]; exact (List.getElem?_eq_some_iff.1 hv).1
    rw [hat i hik]
    exact hv
   ·exact ⟨default, fun h => absurd h hj⟩
  obtain ⟨L, hL⟩ := Classical.axiomOfChoice each
  have hlen : ((List.range len).map L).length = len := by rw [List.length_map, List.length_range]
  have hat : ∀ (j : Nat) (c : α), ((List.range len).map L)[j]? = some c → j < len ∧ c = L j := fun j c hc => by
   have hj : j < len := by
    have := (List.getElem?_eq_some_iff.1 hc).1
    rw [hlen] at this
    exact this
   rw [List.getElem?_map, List.getElem?_range hj] at hc
   exact ⟨hj, (Option.some.inj hc).symm⟩
  refine ⟨some a, cap, (List.range len).map L, by rw [hlen], by rw [hlen]; exact hl, by rw [hlen]; omega, fun j c hc => ?_, fun hne => ?_, by rw [hlen]; exact hw1⟩
  ·obtain ⟨hj, rfl⟩ := hat j c hc
   exact (hL j hj).1
  ·have h0 : 0 < len := by
    rcases Nat.eq_zero_or_pos len with h | h
    ·subst h; exact absurd rfl hne
    ·exact h
   have hv0 : ∃ v, (R (L 0))[0]? = some v := ⟨_, List.getElem?_eq_getElem (by rw [hR]; exact hk0)⟩
   obtain ⟨v0, hv0⟩ := hv0
   have hsp : a.spot = none := by
    have := World.cell?_spot ((hL 0 h0).2 0 v0 hv0)
    obtain ⟨b, off, spot⟩ := a
    simpa [Addr.add] using this
   have hadd : ∀ i j, (a.add (i * k)).add j = ⟨a.block, a.off + i * k + j, none⟩ := fun i j => by
    obtain ⟨b, off, spot⟩ := a
    simp only at hsp
    subst hsp
    unfold Addr.add
    split <;> split <;> simp_all <;> omega
   have hlt : a.block < w.heap.size := by
    have := World.block_lt_of_cell? w _ ((hL 0 h0).2 0 v0 hv0)
    rw [hadd] at this
    exact this
   refine ⟨a.block, a.off, ?_, Nat.zero_le _, hlt, fun j c hc i v hv => ?_⟩
   ·obtain ⟨b, off, spot⟩ := a
    simp only at hsp
    subst hsp
    rfl
   ·obtain ⟨hj, rfl⟩ := hat j c hc
    have h := (hL j hj).2 i v hv
    rw [hadd] at h
    exact h
end
section
variable {H : Type} {enc : TypeId × Value → H} {w : World} {base : Nat} {spare : Nat → Bool} {held : Bool}
theorem open_n {fuel : Nat} {cs : List Value} {x : DataW H × List MemPlace} (h : DataW.trod enc Tryd.prog w base spare held fuel 3 cs = some x) :
  ∃ a : Int, True ∧ cs = Sp.cellsI a := by
 obtain ⟨k, e0, _, _⟩ := DataW.trod_int Tryd.underlying3 h
 exact ⟨k, trivial, e0⟩
theorem open_groupW {fuel : Nat} {cs : List Value} {x : DataW H × List MemPlace} (h : DataW.trod enc Tryd.prog w base spare held fuel 67 cs = some x) (hw : Wt Tryd.prog 67 x.1) :
  ∃ a : G, (a.g.length ≤ a.cp ∧ a.g.length ≤ 17592186044416 ∧ Sp.HasI w 0 a.A a.g) ∧ cs = Sp.cellsG a := by
 obtain ⟨A, cp, l, e, h1, _, _, h4, h5⟩ := open_listW (R := Sp.cellsI) (Ok := fun _ => True) Tryd.underlying67 tcellsI (by decide) Sp.cellsI_len (fun _ _ _ h _ => open_n h) h hw
 rw [bytesI] at h5
 unfold reachBytes at h5
 exact ⟨⟨A, cp, l⟩, ⟨h1, by show l.length ≤ _; omega, h4⟩, e⟩
end
end Go.Proofs.YtpnnkhpokangfaaDoor.Ti
