/- Buckets: the document's Find, Drop, Put, walked. -/
import Derived.Test.YtmjlfhfadmndhaaBuC
namespace Go.Proofs.Ytmjlfhfadmndhaa.Bu
open Go.RowKit Pac Ls

def placeV : Option E → Value
  | some e => .agg #[.int .i64 e.t, .int .i64 e.s]
  | none => .agg #[.int .i64 0, .int .i64 0]
def FindPost (o : Option E) (w : World) (e : Ending) (w' : World) : Prop := e = .returned (.tuple #[placeV o, .bool o.isSome]) ∧ Below w.heap.size w w'
def PutPost (l : List E) (w : World) (e : Ending) (w' : World) : Prop := ∃ (A : Option Addr) (n cp : Nat), e = .returned (.slice A n cp) ∧ l.length = n ∧ n ≤ cp ∧ HasE w' w.heap.size A l ∧ Below w.heap.size w w'
theorem put_post {l : List E} {w w0 w' : World} {sv : Value} {n : Nat} (hown : w'.ownsRow w0.heap.size 30 3 sv n (Li.cellsL cellsE l)) (hn : l.length = n) (h0 : w.heap.size ≤ w0.heap.size) (hB : Below w.heap.size w w') : PutPost l w (.returned sv) w' := by
  obtain ⟨A, c, rfl, hc, hl⟩ := Li.list_of_own cellsE_len hown hn
  exact ⟨A, n, c, rfl, hn, hc, hl.lower h0, hB⟩
theorem results_place {fn : Func} {p q : Tmp} (h : fn.results = #[.cell p 28, .tmp q]) (tmps : Array Value) (w : World) (g : Nat) (v0 v1 : Value)
    (hp : tmps.getD p undef = .pointer (some ⟨g, 0, none⟩)) (c0 : w.cell? ⟨g, 0, none⟩ = some v0) (c1 : w.cell? ⟨g, 1, none⟩ = some v1) :
    (results fn tmps).run Try.prog w = .ok (.tuple #[.agg #[v0, v1], tmps.getD q undef]) w := by
  have hp' : tmps[p]?.getD undef = .pointer (some ⟨g, 0, none⟩) := by simpa using hp
  clear hp
  simp only [results, h]
  go_simp
theorem find_first : ∀ {l : List E} {q : Nat} {e : E} {k : List UInt8}, l[q]? = some e → e.k = k → (∀ x ∈ l.take q, x.k ≠ k) → findL l k = some e
  | [], _, _, _, h, _, _ => by simp at h
  | x :: l, 0, e, k, h, hk, _ => by
    have h : x = e := by simpa using h
    subst h
    unfold findL
    rw [if_pos hk]
  | x :: l, q + 1, e, k, h, hk, hn => by
    have h : l[q]? = some e := by simpa using h
    unfold findL
    rw [if_neg (hn x (by simp))]
    exact find_first h hk fun y hy => hn y (by rw [List.take_succ_cons]; exact List.mem_cons_of_mem _ hy)
theorem put_all : ∀ {l : List E} {e : E}, (∀ x ∈ l, lt x.k e.k) → putL l e = l ++ [e]
  | [], _, _ => rfl
  | x :: l, e, h => by
    unfold putL
    rw [if_pos (h x List.mem_cons_self), put_all fun y hy => h y (List.mem_cons_of_mem _ hy)]
    rfl
theorem put_eq : ∀ {l : List E} {e x : E}, (∀ y ∈ l, lt y.k e.k) → x.k = e.k → putL (l ++ [x]) e = l ++ [e]
  | [], e, x, _, hx => by
    show putL [x] e = [e]
    unfold putL
    rw [if_neg (by rw [hx]; exact lt_irrefl _), if_pos hx]
  | y :: l, e, x, h, hx => by
    show putL (y :: (l ++ [x])) e = y :: (l ++ [e])
    unfold putL
    rw [if_pos (h y List.mem_cons_self), put_eq (fun z hz => h z (List.mem_cons_of_mem _ hz)) hx]
theorem put_gt : ∀ {l : List E} {e x : E}, (∀ y ∈ l, lt y.k e.k) → lt e.k x.k → putL (l ++ [x]) e = l ++ [e] ++ [x]
  | [], e, x, _, hx => by
    show putL [x] e = [e, x]
    unfold putL
    rw [if_neg (lt_asymm hx), if_neg (fun h => lt_ne hx h.symm)]
  | y :: l, e, x, h, hx => by
    show putL (y :: (l ++ [x])) e = y :: (l ++ [e] ++ [x])
    unfold putL
    rw [if_pos (h y List.mem_cons_self), put_gt (fun z hz => h z (List.mem_cons_of_mem _ hz)) hx]
theorem put_snoc : ∀ {l : List E} {e x : E}, (∃ y ∈ l, ¬ lt y.k e.k) → lt e.k x.k → putL (l ++ [x]) e = putL l e ++ [x]
  | [], _, _, h, _ => by obtain ⟨y, hy, _⟩ := h; simp at hy
  | y :: l, e, x, h, hx => by
    show putL (y :: (l ++ [x])) e = putL (y :: l) e ++ [x]
    unfold putL
    by_cases h1 : lt y.k e.k
    · rw [if_pos h1, if_pos h1, put_snoc (l := l) (by
        obtain ⟨z, hz, hz2⟩ := h
        rcases List.mem_cons.1 hz with rfl | hz
        · exact absurd h1 hz2
        · exact ⟨z, hz, hz2⟩) hx]
      rfl
    · rw [if_neg h1, if_neg h1]
      by_cases h2 : y.k = e.k
      · rw [if_pos h2, if_pos h2]
        rfl
      · rw [if_neg h2, if_neg h2]
        rfl
theorem drop_snoc (l : List E) (x : E) (k : List UInt8) : dropL (l ++ [x]) k = if x.k = k then dropL l k else dropL l k ++ [x] := by
  unfold dropL
  rw [List.filter_append]
  by_cases h : x.k = k
  · rw [if_pos h, List.filter_cons_of_neg (by simpa using h)]
    simp
  · rw [if_neg h, List.filter_cons_of_pos (by simpa using h)]
    simp
theorem key_list (a : ByteArray) : a.toList = a.data.toList := ByteArray.toList_eq a
theorem key_beq {a b : ByteArray} : (a.toList == b.toList) = decide (a.data.toList = b.data.toList) := by
  rw [key_list, key_list, Bool.eq_iff_iff, beq_iff_eq, decide_eq_true_iff]
end Go.Proofs.Ytmjlfhfadmndhaa.Bu
