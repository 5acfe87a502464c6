/- Tiles in memory, within blocks that X tells; what each call answers. -/
import Derived.Test.YtpnnkhpokangfaaDoorTiC
import Derived.Test.YtpnnkhpokangfaaDoorMgG
import Derived.Test.YtpnnkhpokangfaaDoorRoL
import Derived.Lib.TrailingZeros
namespace Go.Proofs.YtpnnkhpokangfaaDoor.Ti
open Go.RowKit Pac Va Sc Mi Sp

/-- A slice lies within X. -/
def On {α : Type} (X : Nat → Prop) (A : Option Addr) (l : List α) : Prop := l ≠ [] → ∀ b o s, A = some ⟨b, o, s⟩ → X b
/-- The slice at A holds these groups, all of it within X. -/
def HasSp (w : World) (X : Nat → Prop) (A : Option Addr) (l : List (List Int)) : Prop :=
 ∃ hs : List G, hs.map G.g = l ∧ Li.HasL cellsG 1 w 0 A hs ∧ On X A hs ∧ ∀ x ∈ hs, HasI w 0 x.A x.g ∧ x.g.length ≤ x.cp ∧ On X x.A x.g
theorem HasSp.ll {w : World} {X : Nat → Prop} {A : Option Addr} {l : List (List Int)} (h : HasSp w X A l) : HasLL w 0 A l := by
 obtain ⟨hs, e, h1, _, h3⟩ := h
 exact ⟨hs, e, h1, fun x hx => ⟨(h3 x hx).1, (h3 x hx).2.1⟩⟩
theorem on_of {α : Type} {R : α → List Value} {k : Nat} {w : World} {lo : Nat} {X : Nat → Prop} {A : Option Addr} {l : List α} (h : Li.HasL R k w lo A l) (hX : ∀ b, lo ≤ b → b < w.heap.size → X b) : On X A l := fun hn b o s e => by
 obtain ⟨b', o', hA, hlo, hlt, _⟩ := h hn
 rw [hA] at e
 injection e with e
 injection e with e1 _ _
 subst e1
 exact hX _ hlo hlt
theorem sp_of {w : World} {lo : Nat} {X : Nat → Prop} {A : Option Addr} {l : List (List Int)} (h : HasLL w lo A l) (hX : ∀ b, lo ≤ b → b < w.heap.size → X b) : HasSp w X A l := by
 obtain ⟨hs, e, h1, h2⟩ := h
 exact ⟨hs, e, h1.lower (Nat.zero_le _), on_of h1 hX, fun x hx => ⟨(h2 x hx).1.lower (Nat.zero_le _), (h2 x hx).2, on_of (h2 x hx).1 hX⟩⟩
theorem On.mono {α : Type} {X Y : Nat → Prop} {A : Option Addr} {l : List α} (h : On X A l) (hX : ∀ b, X b → Y b) : On Y A l := fun hn b o s e => hX b (h hn b o s e)
theorem On.and {α : Type} {X Y : Nat → Prop} {A : Option Addr} {l : List α} (h : On X A l) (h2 : On Y A l) : On (fun b => X b ∧ Y b) A l := fun hn b o s e => ⟨h hn b o s e, h2 hn b o s e⟩
theorem lbar {α : Type} {R : α → List Value} {k : Nat} {w w' : World} {g : Nat} {X : Nat → Prop} {A : Option Addr} {l : List α} (h : Li.HasL R k w 0 A l) (ho : On X A l) (hb : Bar g w w') (hg : ¬ X g) : Li.HasL R k w' 0 A l := by
 intro hl
 obtain ⟨b, o, hA, hlo, hlt, hc⟩ := h hl
 have hne : b ≠ g := fun e => hg (by rw [← e]; exact ho hl b o none hA)
 exact ⟨b, o, hA, hlo, Nat.lt_of_lt_of_le hlt hb.size, fun j x hj i v hv => (hb.cell (p := ⟨b, o + j * k + i, none⟩) hlt hne).trans (hc j x hj i v hv)⟩
section
variable {w w' : World} {X Y : Nat → Prop} {A : Option Addr} {l : List (List Int)} {B g : Nat}
theorem HasSp.below (h : HasSp w X A l) (hb : Below B w w') (hB : w.heap.size ≤ B) : HasSp w' X A l := by
 obtain ⟨hs, e, h1, h2, h3⟩ := h
 exact ⟨hs, e, h1.below hb hB, h2, fun x hx => ⟨(h3 x hx).1.below hb hB, (h3 x hx).2⟩⟩
theorem HasSp.bar (h : HasSp w X A l) (hb : Bar g w w') (hg : ¬ X g) : HasSp w' X A l := by
 obtain ⟨hs, e, h1, h2, h3⟩ := h
 exact ⟨hs, e, lbar h1 h2 hb hg, h2, fun x hx => ⟨lbar (h3 x hx).1 (h3 x hx).2.2 hb hg, (h3 x hx).2⟩⟩
theorem HasSp.mono (h : HasSp w X A l) (hX : ∀ b, X b → Y b) : HasSp w Y A l := by
 obtain ⟨hs, e, h1, h2, h3⟩ := h
 exact ⟨hs, e, h1, h2.mono hX, fun x hx => ⟨(h3 x hx).1, (h3 x hx).2.1, (h3 x hx).2.2.mono hX⟩⟩
theorem HasSp.old (h : HasSp w X A l) (hY : ∀ b, b < w.heap.size → Y b) : HasSp w (fun b => X b ∧ Y b) A l := by
 obtain ⟨hs, e, h1, h2, h3⟩ := h
 exact ⟨hs, e, h1, h2.and (on_of h1 fun b _ hb => hY b hb), fun x hx => ⟨(h3 x hx).1, (h3 x hx).2.1, (h3 x hx).2.2.and (on_of (h3 x hx).1 fun b _ hb => hY b hb)⟩⟩
end
def cellsS (s : ByteArray) : List Value := [.string s]
theorem cellsS_len (s : ByteArray) : (cellsS s).length = 1 := rfl
/-- The slice at A holds these texts. -/
abbrev HasS (w : World) (A : Option Addr) (l : List ByteArray) : Prop := Li.HasL cellsS 1 w 0 A l
/-- The library's table lies in its variable. -/
def Tab (w : World) : Prop := (∀ j, j < Lib.deBruijn64tab.length → w.cell? ⟨1, j, none⟩ = some (.int .u8 (Lib.deBruijn64tab.getD j 0))) ∧ 1 < w.heap.size
theorem Tab.below {w w' : World} {B : Nat} (h : Tab w) (hb : Below B w w') (hB : w.heap.size ≤ B) : Tab w' :=
 ⟨fun j hj => Ro.cell_below (hb.mono hB) (h.1 j hj), Nat.lt_of_lt_of_le h.2 hb.size⟩
theorem Tab.bar {w w' : World} {g : Nat} (h : Tab w) (hb : Bar g w w') (hg : 1 ≠ g) : Tab w' :=
 ⟨fun j hj => (hb.cell (p := ⟨1, j, none⟩) h.2 hg).trans (h.1 j hj), Nat.lt_of_lt_of_le h.2 hb.size⟩
/-- A tile as a value: where it lies, how many groups, which places. -/
structure TV where
 A : Option Addr
 n : Nat
 c : Nat
 m : Nat
 B : Option Addr
 d : Nat
def TV.v (t : TV) : Value := .agg #[.slice t.A t.n t.c, .int .i64 t.m, .slice t.B t.n t.d]
structure HasT (cs : List C) (w : World) (X : Nat → Prop) (t : TV) (r : R) : Prop where
 sp : HasSp w X t.A r.l
 mi : HasS w t.B (minis cs r)
 on : On X t.B (minis cs r)
 n : r.l.length = t.n
 c : t.n ≤ t.c
 d : t.n ≤ t.d
 m : t.m = liveN r.f
 ok : Tile cs r
 tab : Tab w
 x0 : X 1
section
variable {cs : List C} {w w' : World} {X Y : Nat → Prop} {t : TV} {r : R} {B g : Nat}
theorem HasT.below (h : HasT cs w X t r) (hb : Below B w w') (hB : w.heap.size ≤ B) : HasT cs w' X t r :=
 ⟨h.sp.below hb hB, h.mi.below hb hB, h.on, h.n, h.c, h.d, h.m, h.ok, h.tab.below hb hB, h.x0⟩
theorem HasT.bar (h : HasT cs w X t r) (hb : Bar g w w') (hg : ¬ X g) : HasT cs w' X t r :=
 ⟨h.sp.bar hb hg, lbar h.mi h.on hb hg, h.on, h.n, h.c, h.d, h.m, h.ok, h.tab.bar hb (fun e => hg (e ▸ h.x0)), h.x0⟩
theorem HasT.mono (h : HasT cs w X t r) (hX : ∀ b, X b → Y b) : HasT cs w Y t r :=
 ⟨h.sp.mono hX, h.mi, h.on.mono hX, h.n, h.c, h.d, h.m, h.ok, h.tab, hX _ h.x0⟩
theorem HasT.old (h : HasT cs w X t r) (hY : ∀ b, b < w.heap.size → Y b) : HasT cs w (fun b => X b ∧ Y b) t r :=
 ⟨h.sp.old hY, h.mi, h.on.and (on_of h.mi fun b _ hb => hY b hb), h.n, h.c, h.d, h.m, h.ok, h.tab, h.x0, hY _ h.tab.2⟩
theorem HasT.few (h : HasT cs w X t r) : t.n ≤ 8 := by
 have h1 := h.ok.s.few
 have h2 := h.ok.s.n8
 rw [← h.n]
 omega
theorem HasT.lt (h : HasT cs w X t r) : t.m < 256 := by rw [h.m]; exact live_lt _
end
/-- What a schema is, in memory. -/
structure HasSch (w : World) (A : Option Addr) (mc cp : Nat) (nm : ByteArray) (cs : List C) : Prop where
 c : HasCols w 0 A cs
 n : cs.length = mc
 p : mc ≤ cp
 r : rightS nm cs = true
theorem HasSch.below {w w' : World} {B mc cp : Nat} {A : Option Addr} {nm : ByteArray} {cs : List C} (h : HasSch w A mc cp nm cs) (hb : Below B w w') (hB : w.heap.size ≤ B) : HasSch w' A mc cp nm cs := ⟨h.c.below hb hB, h.n, h.p, h.r⟩
def TilePost (cs : List C) (X : Nat → Prop) (r : R) (w : World) (e : Ending) (w' : World) : Prop :=
 ∃ t : TV, e = .returned t.v ∧ HasT cs w' X t r ∧ Below w.heap.size w w'
/-- A tile, and an error. -/
def TilePost1 (cs : List C) (X : Nat → Prop) (x : R × Int) (w : World) (e : Ending) (w' : World) : Prop :=
 ∃ t : TV, e = .returned (.tuple #[t.v, .int .i64 x.2]) ∧ HasT cs w' X t x.1 ∧ Below w.heap.size w w'
/-- A tile, a number, and an error. -/
def TilePost2 (cs : List C) (X : Nat → Prop) (x : R × Int × Int) (w : World) (e : Ending) (w' : World) : Prop :=
 ∃ t : TV, e = .returned (.tuple #[t.v, .int .i64 x.2.1, .int .i64 x.2.2]) ∧ HasT cs w' X t x.1 ∧ Below w.heap.size w w'
def TilePostB (cs : List C) (X : Nat → Prop) (x : R × Bool) (w : World) (e : Ending) (w' : World) : Prop :=
 ∃ t : TV, e = .returned (.tuple #[t.v, .bool x.2]) ∧ HasT cs w' X t x.1 ∧ Below w.heap.size w w'
def RowPost (o : Option (List V)) (w : World) (e : Ending) (w' : World) : Prop :=
 ∃ (A : Option Addr) (n cp : Nat), e = .returned (.tuple #[.slice A n cp, .bool o.isSome]) ∧ (o.getD []).length = n ∧ Ro.HasV w' 0 A (o.getD []) ∧ Below w.heap.size w w'
def CellPost (o : Option V) (w : World) (e : Ending) (w' : World) : Prop :=
 e = .returned (.tuple #[(o.getD vZ).v, .bool o.isSome]) ∧ Below w.heap.size w w'
end Go.Proofs.YtpnnkhpokangfaaDoor.Ti
