/- TileLays: whatever deeds and split, walked. -/
import Derived.Test.YtpnnkhpokangfaaDoorTiO
import Derived.Test.YtpnnkhpokangfaaDoorMgZ
namespace Go.Proofs.YtpnnkhpokangfaaDoor.Ti
open Go.RowKit Pac Va Sc Mi Sp Lex

theorem At8.below {w W : World} {b i g : Nat} {y : AV × Ac} (h : At8 w b i y) (hb : Below g w W) (hg : b < g) : At8 W b i y :=
 ⟨(hb.cell (p := ⟨b, i, none⟩) hg).trans h.c0, (hb.cell (p := ⟨b, i + 1, none⟩) hg).trans h.c1, (hb.cell (p := ⟨b, i + 2, none⟩) hg).trans h.c2, (hb.cell (p := ⟨b, i + 3, none⟩) hg).trans h.c3, (hb.cell (p := ⟨b, i + 4, none⟩) hg).trans h.c4, (hb.cell (p := ⟨b, i + 5, none⟩) hg).trans h.c5, (hb.cell (p := ⟨b, i + 6, none⟩) hg).trans h.c6, (hb.cell (p := ⟨b, i + 7, none⟩) hg).trans h.c7⟩
theorem rightS_len {nm : ByteArray} {cs : List C} (h : rightS nm cs = true) : 1 ≤ cs.length ∧ cs.length ≤ 8 := by
 constructor
 ·by_cases h1 : 1 ≤ cs.length
  ·exact h1
  ·rw [rightS_few h1] at h; cases h
 ·by_cases h1 : cs.length ≤ 8
  ·exact h1
  ·rw [rightS_many h1] at h; cases h
theorem one_sp {mc : Nat} {w : World} (h : mc ≤ 8) : Calls Tryd.prog 9 #[.int .i64 (mc : Int)] w fun e w' => ∃ (A : Option Addr) (c : Nat), e = .returned (.slice A (oneS mc).length c) ∧ (oneS mc).length ≤ c ∧ HasLL w' w.heap.size A (oneS mc) ∧ Below w.heap.size w w' := by
 have hc := refOne_any (mc : Int) w (by omega) (by omega)
 have e : oneI (mc : Int) = oneS mc := by unfold oneI; rw [Int.toNat_natCast]
 rw [e] at hc
 refine hc.mono ?_
 rintro e w' ⟨A, c, rfl, h1, h2, h3⟩
 exact ⟨A, c, rfl, h1, h2, h3⟩
end Go.Proofs.YtpnnkhpokangfaaDoor.Ti
