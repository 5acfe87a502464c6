/- A head that is put, and the power gone: plainly. -/
import Derived.Test.YtdbemkdfndjakaaDoorHdR
namespace Go.Proofs.YtdbemkdfndjakaaDoor.Hd
open Tal Sla Fr
/-- What the sectors hold behind a torn one. -/
def tornS (S : Nat → ByteArray) (h : H) (kk : Nat) : Nat → ByteArray := fun j => if h.e % 2 = (j : Int) then laidB (S j) ((headB h).extract 0 kk) else S j
section
variable {D : Dev} {n k : Nat} {S : Nat → ByteArray} {h f old next : H}
theorem torn_put (c : Calm D n S k) (hr : RightH h) : putH (armed D 1) h = (((armed D 1).putAt (h.e % 2) (headB h)).down, 10) := by
  have hp : (armed D 1).pow = true := by
    unfold Dev.pow
    show (!D.dead && !((max 1 (-1) : Int) == 0)) = true
    rw [c.dead]
    rfl
  have hp2 : ((armed D 1).putAt (h.e % 2) (headB h)).pow = false := by
    unfold Dev.pow
    show (!D.dead && !(lessLeft (max 1 (-1)) == 0)) = false
    rw [c.dead]
    rfl
  have h1 : putR (armed D 1) (h.e % 2) (headB h) = ((armed D 1).putAt (h.e % 2) (headB h), 0) := if_pos hp
  unfold putH
  rw [if_pos hr, h1]
  exact (if_pos rfl).trans (if_neg (by rw [hp2]; decide))
theorem kept_le (q : Fat) (i s : Nat) : keptN q i s ≤ s := (keptI_nat q i s).2
theorem torn_start (c : Calm D n S k) (q : Fat) : ∃ kk : Nat, kk ≤ 256 ∧ Calm ((((armed D 1).putAt (h.e % 2) (headB h)).down).started q) n (tornS S h kk) 0 := by
  refine ⟨keptN q 0 256, kept_le q 0 256, ⟨c.n, ?_, rfl, rfl, rfl, Int.le_refl _, Int.le_refl _⟩⟩
  show startS q D.S (snocI D.LA D.m (h.e % 2)) (snocD D.LD D.m (padB (headB h))) (D.m + 1) = tornS S h (keptN q 0 256)
  rw [c.m, c.s, pad_full (headB_size h)]
  funext j
  show (if snocI D.LA 0 (h.e % 2) 0 = (j : Int) then laidB (S j) ((snocD D.LD 0 (headB h) 0).extract 0 (keptN q 0 (snocD D.LD 0 (headB h) 0).size)) else S j) = _
  have e1 : snocI D.LA 0 (h.e % 2) 0 = h.e % 2 := rfl
  have e2 : snocD D.LD 0 (headB h) 0 = headB h := rfl
  rw [e1, e2, headB_size]
  rfl
theorem tornS_size {kk : Nat} (hk : kk ≤ 256) (hs : ∀ j, j < n → (S j).size = 256) : ∀ j, j < n → (tornS S h kk j).size = 256 := fun j hj => by
  unfold tornS
  split
  · rw [laidB_size _ _ (by rw [ByteArray.size_extract, hs j hj, headB_size]; omega)]
    exact hs j hj
  · exact hs j hj
/-- The torn sector's place holds what was two heads ago, or noughts. -/
def Older (S : Nat → ByteArray) (old : H) : Prop := ∀ j : Nat, (old.e + 1) % 2 = (j : Int) → (S j).size = 256 ∧ (S j).data.toList.getD 19 0 = UInt8.ofNat (old.e.toNat - 1)
theorem older_first (h1 : old.e = 1) : Older (fun _ => nought) old := fun j _ => by
  rw [h1]
  exact ⟨nought_size, by rw [nought_list]; rfl⟩
theorem older_next {before : H} (hb : before.e = old.e - 1) (h1 : 1 < old.e) : Older (putS (fun _ => nought) before) old := fun j hj => by
  have e : putS (fun _ => nought) before j = headB before := by
    unfold putS
    rw [if_pos (by rw [hb]; omega)]
  rw [e]
  refine ⟨headB_size _, ?_⟩
  rw [head_low, hb]
  congr 1
  omega
theorem torn_law (ho : RightH old) (hn : next.e = old.e + 1) {kk : Nat} (hk : kk ≤ 256) (hS : Older S old) (hc : ¬ (Chance (tornS (putS S old) next kk) old next 0 ∨ Chance (tornS (putS S old) next kk) old next 1)) :
    bestH (tornS (putS S old) next kk 0) (tornS (putS S old) next kk 1) = old ∨ bestH (tornS (putS S old) next kk 0) (tornS (putS S old) next kk 1) = next := by
  have key : ∀ j : Nat, (old.e + 1) % 2 = (j : Int) → (j = 0 ∨ j = 1) → (∀ g, parseH (tornS (putS S old) next kk j) = some g → g.e ≠ old.e) ∧ (∀ g, parseH (tornS (putS S old) next kk j) = some g → old.e < g.e → g = next) := fun j hj h01 => by
    have e1 : tornS (putS S old) next kk j = laidB (S j) ((headB next).extract 0 kk) := by
      unfold tornS putS
      rw [if_pos (by rw [hn]; exact hj), if_neg (by omega)]
    obtain ⟨hsz, hlow⟩ := hS j hj
    refine ⟨fun g hg => ?_, fun g hg hl => ?_⟩
    · rw [e1] at hg
      have := torn_low (next := next) hsz kk hk
      rw [hlow] at this
      exact torn_other hg ho hn this
    · apply Classical.byContradiction
      intro hne
      have hch : Chance (tornS (putS S old) next kk) old next j := ⟨g, hg, fun e => by rw [e] at hl; omega, hne, hl⟩
      rcases h01 with rfl | rfl
      · exact hc (Or.inl hch)
      · exact hc (Or.inr hch)
  have hown : ∀ j : Nat, old.e % 2 = (j : Int) → tornS (putS S old) next kk j = headB old := fun j hj => by
    unfold tornS putS
    rw [if_neg (by rw [hn]; omega), if_pos hj]
  rcases (by omega : old.e % 2 = 0 ∨ old.e % 2 = 1) with h0 | h0
  · obtain ⟨k1, k2⟩ := key 1 (by omega) (Or.inr rfl)
    exact torn_best ho (Or.inl ⟨hown 0 h0, rfl⟩) k1 k2
  · obtain ⟨k1, k2⟩ := key 0 (by omega) (Or.inl rfl)
    exact torn_best ho (Or.inr ⟨rfl, hown 1 h0⟩) k1 k2
theorem next_law (ho : RightH old) (hr : RightH next) (hn : next.e = old.e + 1) : bestH (putS (putS S old) next 0) (putS (putS S old) next 1) = next := by
  have e1 : ∀ j : Nat, old.e % 2 = (j : Int) → putS (putS S old) next j = headB old := fun j hj => by
    unfold putS
    rw [if_neg (by rw [hn]; omega), if_pos hj]
  have e2 : ∀ j : Nat, (old.e + 1) % 2 = (j : Int) → putS (putS S old) next j = headB next := fun j hj => by
    unfold putS
    rw [if_pos (by rw [hn]; exact hj)]
  rcases (by omega : old.e % 2 = 0 ∨ old.e % 2 = 1) with h0 | h0
  · rw [e1 0 h0, e2 1 (by omega), best_two (parse_own ho) (parse_own hr), if_pos (by omega)]
  · rw [e2 0 (by omega), e1 1 h0, best_two (parse_own hr) (parse_own ho), if_neg (by omega)]
end
end Go.Proofs.YtdbemkdfndjakaaDoor.Hd
