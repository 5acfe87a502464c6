/- Tiles, the document's calls: a cell. -/
import Derived.Test.YtpnnkhpokangfaaDoorTiG
import Derived.Test.YtpnnkhpokangfaaDoorMgY
namespace Go.Proofs.YtpnnkhpokangfaaDoor.Ti
open Go.RowKit Pac Va Sc Mi Sp Ro Lex

theorem atG_get {c : Int} : ∀ {l : List (List Int)} {i k : Nat}, atG c l = some (i, k) → ∃ g, l[i]? = some g ∧ g[k]? = some c
  | [], i, k, h => by simp [atG] at h
  | g :: l, i, k, h => by
    unfold atG at h
    cases h1 : at1 c g with
    | some k' =>
      rw [h1] at h
      injection h with h
      injection h with e1 e2
      subst e1 e2
      exact ⟨g, rfl, at1_get h1⟩
    | none =>
      rw [h1] at h
      obtain ⟨⟨i', k'⟩, h2, e⟩ := Option.map_eq_some_iff.1 h
      injection e with e1 e2
      subst e1 e2
      obtain ⟨g', h3, h4⟩ := atG_get (l := l) h2
      exact ⟨g', h3, h4⟩
theorem col_none {l : List (List Int)} {n : Nat} {c : Int} (h : IsSplit l n) (hn : atG c l = none) : ¬ (0 ≤ c ∧ c < (n : Int)) := fun ⟨h0, h1⟩ => by
  obtain ⟨g, hg, hc⟩ := List.mem_flatten.1 (h.all h0 h1)
  exact atG_none.1 hn g hg hc
theorem HasS.at' {w : World} {B : Option Addr} {l : List ByteArray} (h : HasS w B l) {q : Nat} {s : ByteArray} (hq : l[q]? = some s) : ∃ b o, B = some ⟨b, o, none⟩ ∧ b < w.heap.size ∧ w.cell? ⟨b, o + q, none⟩ = some (.string s) := by
  obtain ⟨b, o, hA, hlo, hlt, hc⟩ := h (fun e => by rw [e] at hq; simp at hq)
  refine ⟨b, o, hA, hlt, ?_⟩
  have := hc q s hq 0 _ rfl
  rw [Nat.mul_one, Nat.add_zero] at this
  exact this
theorem results_val2 {fn : Func} {p q : Tmp} (h : fn.results = #[.cell p 37, .tmp q]) (tmps : Array Value) (w : World) (g : Nat) (v0 v1 v2 : Value)
    (hp : tmps.getD p undef = .pointer (some ⟨g, 0, none⟩)) (c0 : w.cell? ⟨g, 0, none⟩ = some v0) (c1 : w.cell? ⟨g, 1, none⟩ = some v1) (c2 : w.cell? ⟨g, 2, none⟩ = some v2) :
    (results fn tmps).run Tryd.prog w = .ok (.tuple #[.agg #[v0, v1, v2], tmps.getD q undef]) w := by
  have hp' : tmps[p]?.getD undef = .pointer (some ⟨g, 0, none⟩) := by simpa using hp
  clear hp
  simp only [results, h]
  go_simp
theorem grp_len {l : List (List Int)} {n : Nat} (h : IsSplit l n) {g : List Int} (hg : g ∈ l) : g.length ≤ 8 := by
  have := in_len hg
  have := h.len
  have := h.n8
  omega
theorem grp_in {nm : ByteArray} {cs : List C} {l : List (List Int)} {g : List Int} (hr : rightS nm cs = true) (h : IsSplit l cs.length) (hg : g ∈ l) : Grp nm cs g :=
  ⟨hr, List.length_pos_iff.2 (h.ne g hg), grp_len h hg, fun c hc => h.rng c (List.mem_flatten.2 ⟨g, hg, hc⟩), h.n8⟩

end Go.Proofs.YtpnnkhpokangfaaDoor.Ti
