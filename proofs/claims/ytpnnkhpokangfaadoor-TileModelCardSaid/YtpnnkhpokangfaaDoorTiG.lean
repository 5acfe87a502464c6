/- Tiles, the document's calls: which places are taken, which is free. -/
import Derived.Test.YtpnnkhpokangfaaDoorTiD
import Derived.Test.YtpnnkhpokangfaaDoorMgB
import Derived.Laws.BitsAllLaws
namespace Go.Proofs.YtpnnkhpokangfaaDoor.Ti
open Go.RowKit Pac Va Sc Mi Sp

/-- A tile in memory, whatever stands in places that aren't taken. -/
structure HasU (cs : List C) (w : World) (X : Nat → Prop) (t : TV) (r : R) : Prop where
  sp : HasSp w X t.A r.l
  mi : HasS w t.B (minis cs r)
  on : On X t.B (minis cs r)
  n : r.l.length = t.n
  c : t.n ≤ t.c
  d : t.n ≤ t.d
  m : t.m = liveN r.f
  s : IsSplit r.l cs.length
  rm : RightM (allK cs) r.M
section
variable {cs : List C} {w w' : World} {X Y : Nat → Prop} {t : TV} {r : R} {B g : Nat}
theorem HasT.u (h : HasT cs w X t r) : HasU cs w X t r := ⟨h.sp, h.mi, h.on, h.n, h.c, h.d, h.m, h.ok.s, h.ok.m⟩
theorem HasU.full (h : HasU cs w X t r) (ht : Tab w) (hx0 : X 1) (z : ∀ (i : Nat) (x : List V), i < 8 → r.f i = false → r.M[i]? = some x → x = List.replicate cs.length vZ) : HasT cs w X t r := ⟨h.sp, h.mi, h.on, h.n, h.c, h.d, h.m, ⟨h.s, h.rm, z⟩, ht, hx0⟩
theorem HasU.below (h : HasU cs w X t r) (hb : Below B w w') (hB : w.heap.size ≤ B) : HasU cs w' X t r :=
  ⟨h.sp.below hb hB, h.mi.below hb hB, h.on, h.n, h.c, h.d, h.m, h.s, h.rm⟩
theorem HasU.bar (h : HasU cs w X t r) (hb : Bar g w w') (hg : ¬ X g) : HasU cs w' X t r :=
  ⟨h.sp.bar hb hg, lbar h.mi h.on hb hg, h.on, h.n, h.c, h.d, h.m, h.s, h.rm⟩
theorem HasU.mono (h : HasU cs w X t r) (hX : ∀ b, X b → Y b) : HasU cs w Y t r :=
  ⟨h.sp.mono hX, h.mi, h.on.mono hX, h.n, h.c, h.d, h.m, h.s, h.rm⟩
theorem HasU.few (h : HasU cs w X t r) : t.n ≤ 8 := by
  have h1 := h.s.few
  have h2 := h.s.n8
  rw [← h.n]
  omega
theorem HasU.lt (h : HasU cs w X t r) : t.m < 256 := by rw [h.m]; exact live_lt _
end
end Go.Proofs.YtpnnkhpokangfaaDoor.Ti
