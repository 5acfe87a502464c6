/- The example; what each call says of it; walked. -/
import Derived.Test.YtajoklimdlalhaaScM
import Derived.Test.YtajoklimdlalhaaScG
import Derived.Test.YtajoklimdlalhaaScH
namespace Go.Proofs.Ytajoklimdlalhaa.Sc
open Go.RowKit Pac

def nmT : ByteArray := ⟨#[116]⟩
def cId : C := ⟨⟨#[105, 100]⟩, 1, false⟩
def cName : C := ⟨⟨#[110, 97, 109, 101]⟩, 3, true⟩
def cBad : C := ⟨⟨#[105, 100]⟩, 2, false⟩
theorem right_some : rightS nmT [cId, cName] = true := by decide +kernel
theorem right_bad : rightS nmT [cBad] = false := by decide +kernel
theorem right_twice : rightS nmT [cId, cId] = false := by decide +kernel
theorem right_none : rightS nmT [] = false := by decide +kernel
theorem print_some : printS nmT [cId, cName] = ⟨#[2, 116, 4, 4, 105, 100, 4, 8, 110, 97, 109, 101, 14]⟩ := by decide +kernel
theorem read_some : readS ⟨#[2, 116, 4, 4, 105, 100, 4, 8, 110, 97, 109, 101, 14]⟩ false = (nmT, [cId, cName], ⟨#[]⟩, false) := by
  have h := back nmT [cId, cName] ⟨#[]⟩ right_some
  rw [print_some] at h
  exact h
theorem ok_id : cId.Ok := ⟨by decide, by decide, by decide⟩
theorem ok_name : cName.Ok := ⟨by decide, by decide, by decide⟩
theorem ok_bad : cBad.Ok := ⟨by decide, by decide, by decide⟩
theorem ok_two {a b : C} (ha : a.Ok) (hb : b.Ok) : ∀ (j : Nat) (c : C), [a, b][j]? = some c → c.Ok
  | 0, c, h => by have h : a = c := by simpa using h
                  subst h; exact ha
  | 1, c, h => by have h : b = c := by simpa using h
                  subst h; exact hb
  | j + 2, c, h => by simp at h
theorem ok_one {a : C} (ha : a.Ok) : ∀ (j : Nat) (c : C), [a][j]? = some c → c.Ok
  | 0, c, h => by have h : a = c := by simpa using h
                  subst h; exact ha
  | j + 1, c, h => by simp at h

theorem cols_two {w : World} {b : Nat} (a c : C) (t : TypeId) (h : w.heap[b]? = some (.cells #[.string a.n, .int .i64 a.k, .bool a.z, .string c.n, .int .i64 c.k, .bool c.z] t (0, 0))) : HasCols w b (some ⟨b, 0, none⟩) [a, c] := by
  intro _
  refine ⟨b, 0, rfl, Nat.le_refl _, (Array.getElem?_eq_some_iff.1 h).1, fun j d hd => ?_⟩
  have hc : ∀ i, w.cell? ⟨b, i, none⟩ = (#[.string a.n, .int .i64 a.k, .bool a.z, .string c.n, .int .i64 c.k, .bool c.z] : Array Value)[i]? := fun i => cell_of_row w b i _ t (0, 0) h
  match j, hd with
  | 0, hd =>
    have hd : a = d := by simpa using hd
    subst hd
    exact ⟨hc 0, hc 1, hc 2⟩
  | 1, hd =>
    have hd : c = d := by simpa using hd
    subst hd
    exact ⟨hc 3, hc 4, hc 5⟩
  | j + 2, hd => simp at hd
theorem cols_one {w : World} {b : Nat} (a : C) (t : TypeId) (h : w.heap[b]? = some (.cells #[.string a.n, .int .i64 a.k, .bool a.z] t (0, 0))) : HasCols w b (some ⟨b, 0, none⟩) [a] := by
  intro _
  refine ⟨b, 0, rfl, Nat.le_refl _, (Array.getElem?_eq_some_iff.1 h).1, fun j d hd => ?_⟩
  have hc : ∀ i, w.cell? ⟨b, i, none⟩ = (#[.string a.n, .int .i64 a.k, .bool a.z] : Array Value)[i]? := fun i => cell_of_row w b i _ t (0, 0) h
  match j, hd with
  | 0, hd =>
    have hd : a = d := by simpa using hd
    subst hd
    exact ⟨hc 0, hc 1, hc 2⟩
  | j + 1, hd => simp at hd

def SomePost (w : World) (e : Ending) (w' : World) : Prop :=
  ∃ A, e = .returned (.agg #[.string nmT, .slice A 2 2]) ∧ HasCols w' w.heap.size A [cId, cName] ∧ Below w.heap.size w w'
set_option maxRecDepth 20000 in
set_option maxHeartbeats 2000000 in
theorem some_any (w : World) : Calls Try.prog 16 #[] w (SomePost w) := by
  have hr := (Box2.new w (.string ⟨#[116]⟩) (.slice (some ⟨w.heap.size + 1, 0, none⟩) 2 2) 24).alloc (.cells #[.string ⟨#[105, 100]⟩, .int .i64 1, .bool false, .string ⟨#[110, 97, 109, 101]⟩, .int .i64 3, .bool true] 41)
  have hn := heap_alloc_new (w.alloc (.cells #[.string ⟨#[116]⟩, .slice (some ⟨w.heap.size + 1, 0, none⟩) 2 2] 24)) (.cells #[.string ⟨#[105, 100]⟩, .int .i64 1, .bool false, .string ⟨#[110, 97, 109, 101]⟩, .int .i64 3, .bool true] 41)
  rw [show (w.alloc (.cells #[.string ⟨#[116]⟩, .slice (some ⟨w.heap.size + 1, 0, none⟩) 2 2] 24)).heap.size = w.heap.size + 1 by simp] at hn
  have hB := ((Below.refl w.heap.size w).alloc (Nat.le_refl _) (.cells #[.string ⟨#[116]⟩, .slice (some ⟨w.heap.size + 1, 0, none⟩) 2 2] 24)).alloc (by simp) (.cells #[.string ⟨#[105, 100]⟩, .int .i64 1, .bool false, .string ⟨#[110, 97, 109, 101]⟩, .int .i64 3, .bool true] 41)
  have HN := Lib.hid (And.intro hr (And.intro hn hB))
  clear hr hn hB
  go_enter Try.func16, Try.ntmps16
  go_wp2
  obtain ⟨hr, hn, hB⟩ := HN.out
  have hC := cols_two cId cName 41 hn
  refine bodyPost_ret (results_sch rfl _ _ w.heap.size _ _ rfl hr.c0 hr.c1) rfl ?_
  exact ⟨_, rfl, hC.lower (Nat.le_succ _), hB⟩

theorem right_of {nm : ByteArray} {l : List C} {r : Bool} {m : Nat} (hr : rightS nm l = r) (hm : l.length = m) (hn : nm.size ≤ 9223372036854775807) (h9 : m ≤ 9223372036854775807) (hok : ∀ (j : Nat) (c : C), l[j]? = some c → c.Ok) (A : Option Addr) (cp lo : Nat) (W : World) (hc : m ≤ cp) (h : HasCols W lo A l) :
    Calls Try.prog 9 #[.agg #[.string nm, .slice A m cp]] W fun e w' => e = .returned (.bool r) ∧ Below W.heap.size W w' := by
  subst hm hr
  exact right_any A cp nm l lo W h hc hn h9 hok
theorem print_of {nm : ByteArray} {l : List C} {u : ByteArray} {m : Nat} (hr : rightS nm l = true) (hu : printS nm l = u) (hm : l.length = m) (A : Option Addr) (cp lo : Nat) (W : World) (h : HasCols W lo A l) :
    Calls Try.prog 11 #[.agg #[.string nm, .slice A m cp]] W fun e w' => e = .returned (.string u) ∧ Below W.heap.size W w' := by
  subst hm hu
  exact print_any A cp nm l lo W h hr
theorem same_of {nm : ByteArray} {l : List C} {m : Nat} (hm : l.length = m) (h9 : m ≤ 9223372036854775807) (A1 A2 : Option Addr) (p1 p2 lo1 lo2 : Nat) (W : World) (h1 : HasCols W lo1 A1 l) (h2 : HasCols W lo2 A2 l) :
    Calls Try.prog 13 #[.agg #[.string nm, .slice A1 m p1], .agg #[.string nm, .slice A2 m p2]] W fun e w' => e = .returned (.bool true) ∧ Below W.heap.size W w' := by
  subst hm
  refine (same_any A1 A2 p1 p2 nm nm l l lo1 lo2 W h1 h2 h9 h9).mono ?_
  rintro e w' ⟨r, rfl, hr, hb⟩
  have : r = true := hr.2 ⟨rfl, rfl⟩
  subst this
  exact ⟨rfl, hb⟩
end Go.Proofs.Ytajoklimdlalhaa.Sc
