/- Pages at hand: asked for, held: the document's, walked. -/
import Derived.Test.YtjjedadhkdpceaaClF
namespace Go.Proofs.Ytjjedadhkdpceaa.Cl
open Go.RowKit Pac Lex

theorem infoP : (Try.prog.info? 36).map (fun i => (i.zero, i.size, i.bytes)) = some (some (.agg #[.int .i64 0, .string ⟨#[]⟩, .bool false, .int .i64 0]), 4, 40) := by kernel_rfl
theorem info_parts {n : TypeId} {z : Option Value} {s b : Nat} (h : (Try.prog.info? n).map (fun i => (i.zero, i.size, i.bytes)) = some (z, s, b)) : ∃ i, Try.prog.info? n = some i ∧ i.zero = z ∧ i.size = s ∧ i.bytes = b := by
  obtain ⟨i, hi, h2⟩ := Option.map_eq_some_iff.1 h
  injection h2 with e1 e2
  injection e2 with e2 e3
  exact ⟨i, hi, e1, e2, e3⟩
theorem results_get {fn : Func} {p q r : Tmp} (h : fn.results = #[.cell p 24, .tmp q, .tmp r]) (tmps : Array Value) (w : World) (g : Nat) (v0 v1 : Value)
    (hp : tmps.getD p undef = .pointer (some ⟨g, 0, none⟩)) (c0 : w.cell? ⟨g, 0, none⟩ = some v0) (c1 : w.cell? ⟨g, 1, none⟩ = some v1) :
    (results fn tmps).run Try.prog w = .ok (.tuple #[.agg #[v0, v1], tmps.getD q undef, tmps.getD r undef]) w := by
  have hp' : tmps[p]?.getD undef = .pointer (some ⟨g, 0, none⟩) := by simpa using hp
  clear hp
  simp only [results, h]
  go_simp
theorem results_pin {fn : Func} {p q : Tmp} (h : fn.results = #[.cell p 24, .tmp q]) (tmps : Array Value) (w : World) (g : Nat) (v0 v1 : Value)
    (hp : tmps.getD p undef = .pointer (some ⟨g, 0, none⟩)) (c0 : w.cell? ⟨g, 0, none⟩ = some v0) (c1 : w.cell? ⟨g, 1, none⟩ = some v1) :
    (results fn tmps).run Try.prog w = .ok (.tuple #[.agg #[v0, v1], tmps.getD q undef]) w := by
  have hp' : tmps[p]?.getD undef = .pointer (some ⟨g, 0, none⟩) := by simpa using hp
  clear hp
  simp only [results, h]
  go_simp
theorem results_clock {fn : Func} {p : Tmp} (h : fn.results = #[.cell p 24]) (tmps : Array Value) (w : World) (g : Nat) (v0 v1 : Value)
    (hp : tmps.getD p undef = .pointer (some ⟨g, 0, none⟩)) (c0 : w.cell? ⟨g, 0, none⟩ = some v0) (c1 : w.cell? ⟨g, 1, none⟩ = some v1) :
    (results fn tmps).run Try.prog w = .ok (.agg #[v0, v1]) w := by
  have hp' : tmps[p]?.getD undef = .pointer (some ⟨g, 0, none⟩) := by simpa using hp
  clear hp
  simp only [results, h]
  go_simp
/-- Where an address may point. -/
def Adr (X : Nat → Prop) (A : Option Addr) : Prop := ∀ b o s, A = some ⟨b, o, s⟩ → X b
theorem adr_lt {α : Type} {R : α → List Value} {k lo : Nat} {w : World} {A : Option Addr} {l : List α} (h : Li.HasL R k w lo A l) (hn : l ≠ []) : Adr (fun b => lo ≤ b ∧ b < w.heap.size) A := fun b o s e => by
  obtain ⟨b', o', hA, hlo, hlt, _⟩ := h hn
  rw [e] at hA
  injection hA with hA
  injection hA with e1 _ _
  subst e1
  exact ⟨hlo, hlt⟩
theorem hasL_bar {α : Type} {R : α → List Value} {k g : Nat} {w w' : World} {X : Nat → Prop} {A : Option Addr} {l : List α} (h : Li.HasL R k w 0 A l) (ha : l ≠ [] → Adr X A) (hx : ¬ X g) (hb : Bar g w w') : Li.HasL R k w' 0 A l := fun hn => by
  obtain ⟨b, o, hA, hlo, hlt, hc⟩ := h hn
  have hne : b ≠ g := fun e => by
    subst e
    exact hx (ha hn b o none hA)
  exact ⟨b, o, hA, hlo, Nat.lt_of_lt_of_le hlt hb.size, fun j x hj i v hv => (hb.cell (p := ⟨b, _, none⟩) hlt hne).trans (hc j x hj i v hv)⟩
/-- Pages in blocks of X; none at all: no slice at all. -/
structure HasPX (w : World) (X : Nat → Prop) (A : Option Addr) (cp : Nat) (l : List P) : Prop where
  p : HasP w 0 A l
  x : l ≠ [] → Adr X A
  z : l = [] → A = none ∧ cp = 0
section
variable {w w' : World} {X Y : Nat → Prop} {A : Option Addr} {cp : Nat} {l : List P}
theorem HasPX.below {B : Nat} (h : HasPX w X A cp l) (hb : Below B w w') (hB : w.heap.size ≤ B) : HasPX w' X A cp l := ⟨h.p.below hb hB, h.x, h.z⟩
theorem HasPX.mono (h : HasPX w X A cp l) (hXY : ∀ b, X b → Y b) : HasPX w Y A cp l := ⟨h.p, fun hn b o s e => hXY _ (h.x hn b o s e), h.z⟩
theorem HasPX.bar {g : Nat} (h : HasPX w X A cp l) (hx : ¬ X g) (hb : Bar g w w') : HasPX w' X A cp l := ⟨hasL_bar h.p h.x hx hb, h.x, h.z⟩
theorem HasPX.lt (h : HasPX w X A cp l) : HasPX w (fun b => X b ∧ b < w.heap.size) A cp l := ⟨h.p, fun hn b o s e => ⟨h.x hn b o s e, (adr_lt h.p hn b o s e).2⟩, h.z⟩
end
/-- A value that holds these pages at hand: where the arguments' lay, or in blocks from k on. -/
def ClkV (X : Nat → Prop) (c : C) (k : Nat) (v : Value) (w : World) : Prop := ∃ A n cp, v = .agg #[.slice A n cp, .int .i64 c.h] ∧ c.l.length = n ∧ n ≤ cp ∧ HasPX w (fun b => X b ∨ k ≤ b) A cp c.l
def ClkPost (X : Nat → Prop) (c : C) (w : World) (e : Ending) (w' : World) : Prop := ∃ v, e = .returned v ∧ ClkV X c w.heap.size v w' ∧ Below w.heap.size w w'
def GetPost (X : Nat → Prop) (r : C × ByteArray × Bool) (w : World) (e : Ending) (w' : World) : Prop := ∃ v, e = .returned (.tuple #[v, .string r.2.1, .bool r.2.2]) ∧ ClkV X r.1 w.heap.size v w' ∧ Below w.heap.size w w'
def PinPost (X : Nat → Prop) (r : C × Bool) (w : World) (e : Ending) (w' : World) : Prop := ∃ v, e = .returned (.tuple #[v, .bool r.2]) ∧ ClkV X r.1 w.heap.size v w' ∧ Below w.heap.size w w'
theorem cells_modify {α : Type} {R : α → List Value} {k t : Nat} {v : Value} {f : α → α} (hR : ∀ x, (R x).length = k) (ht : t < k) : ∀ {l : List α} {i : Nat} {x : α}, l[i]? = some x → (R x).set t v = R (f x) → (Li.cellsL R l).set (i * k + t) v = Li.cellsL R (l.modify i f)
  | [], i, x, h, _ => by simp at h
  | y :: l, 0, x, h, hf => by
    have h : y = x := by simpa using h
    subst h
    show (R y ++ l.flatMap R).set (0 * k + t) v = R (f y) ++ l.flatMap R
    rw [Nat.zero_mul, Nat.zero_add, List.set_append_left _ _ (by rw [hR]; exact ht), hf]
  | y :: l, i + 1, x, h, hf => by
    have h : l[i]? = some x := by simpa using h
    have ih := cells_modify hR ht h hf
    show (R y ++ l.flatMap R).set ((i + 1) * k + t) v = R y ++ (l.modify i f).flatMap R
    rw [List.set_append_right _ _ (by rw [hR, Nat.add_mul]; omega), hR, show (i + 1) * k + t - k = i * k + t by rw [Nat.add_mul]; omega]
    exact congrArg (R y ++ ·) ih
theorem news_of {α : Type} {R : α → List Value} {k : Nat} (hk : 0 < k) (hR : ∀ x, (R x).length = k) {W : World} {lo b o : Nat} {l : List α} (h : Li.HasL R k W lo (some ⟨b, o, none⟩) l) : ∀ (t : Nat) (u : Value), (Li.cellsL R l)[t]? = some u → W.cell? ((⟨b, o, none⟩ : Addr).add t) = some u := fun t u hu => by
  have ht := (List.getElem?_eq_some_iff.1 hu).1
  rw [Li.cellsL_len hR] at ht
  have htk : t / k < l.length := Nat.div_lt_of_lt_mul (by rw [Nat.mul_comm]; exact ht)
  have hx : l[t / k]? = some (l[t / k]'htk) := List.getElem?_eq_getElem _
  generalize (l[t / k]'htk) = x at hx
  have hmk : t % k < (R x).length := by rw [hR]; exact Nat.mod_lt _ hk
  have hi : (R x)[t % k]? = some ((R x)[t % k]'hmk) := List.getElem?_eq_getElem _
  generalize ((R x)[t % k]'hmk) = y at hi
  have e : t / k * k + t % k = t := by rw [Nat.mul_comm]; exact Nat.div_add_mod t k
  have h1 := Li.cellsL_at hR l _ x hx _ y hi
  rw [e, hu] at h1
  injection h1 with h1
  subst h1
  obtain ⟨b', o', hA, _, _, hc⟩ := h (fun e => by rw [e] at hx; simp at hx)
  injection hA with hA
  injection hA with e1 e2
  subst e1 e2
  have h2 := hc _ x hx _ u hi
  rw [Nat.add_assoc, e] at h2
  have hadd : (⟨b, o, none⟩ : Addr).add t = ⟨b, o + t, none⟩ := by unfold Addr.add; split <;> simp_all
  rw [hadd]
  exact h2
theorem cellsP_one (l : List P) : ∀ u ∈ Li.cellsL cellsP l, u.oneCell' = true := fun u hu => by
  unfold Li.cellsL at hu
  rw [List.mem_flatMap] at hu
  obtain ⟨p, _, hp⟩ := hu
  unfold cellsP at hp
  simp only [List.mem_cons, List.not_mem_nil, or_false] at hp
  rcases hp with rfl | rfl | rfl | rfl <;> simp [Value.oneCell']
theorem own_clk {W : World} {base k g cp n : Nat} {X : Nat → Prop} {c : C} (hown : W.ownsRow base 36 4 (.slice (some ⟨g, 0, none⟩) n cp) n (Li.cellsL cellsP c.l)) (hn : c.l.length = n) (h0 : 0 < n) (hk : k ≤ base) : ClkV X c k (.agg #[.slice (some ⟨g, 0, none⟩) n cp, .int .i64 c.h]) W := by
  obtain ⟨A', c', e, hcc, hl⟩ := Li.list_of_own cellsP_len hown hn
  injection e with e1 e2 e3
  subst e1 e3
  exact ⟨_, n, _, rfl, hn, hcc, hl.lower (Nat.zero_le _), fun hn' b o s e => Or.inr (Nat.le_trans hk (adr_lt hl hn' b o s e).1), fun e => by rw [e] at hn; simp at hn; omega⟩
section
variable {A : Option Addr} {n cp : Nat} {w : World}
end
end Go.Proofs.Ytjjedadhkdpceaa.Cl
