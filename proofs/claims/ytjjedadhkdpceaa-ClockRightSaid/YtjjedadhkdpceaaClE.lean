/- Pages at hand: the same?, may they be?: the document's, walked. -/
import Derived.Test.YtjjedadhkdpceaaClD
import Derived.Test.YtjjedadhkdpceaaXca
namespace Go.Proofs.Ytjjedadhkdpceaa.Cl
open Go.RowKit Pac

section
variable {A B : Option Addr} {n n2 cp cp2 : Nat} {l l' : List P} {w : World}
theorem page_ext {p q : P} (h1 : p.no = q.no) (h2 : p.data = q.data) (h3 : p.ref = q.ref) (h4 : p.pins = q.pins) : p = q := by
  obtain ⟨a, b, c, d⟩ := p
  obtain ⟨a', b', c', d'⟩ := q
  simp only at h1 h2 h3 h4
  subst h1 h2 h3 h4
  rfl
theorem page_ne {q : Nat} {a b : P} (h1 : l[q]? = some a) (h2 : l'[q]? = some b) (h : a ≠ b) : l ≠ l' := fun e => by
  subst e
  rw [h1] at h2
  injection h2 with h2
  exact h h2
end
end Go.Proofs.Ytjjedadhkdpceaa.Cl
