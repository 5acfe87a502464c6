/- Behind a flush: puts, and a start by whatever fate; what stays is as it was, or as one of its writes left it, but for a torn one. -/
import Derived.Test.YtnmgaafpbbeceaaAA
namespace Go.Proofs.Ytnmgaafpbbeceaa
open Go.RowKit Go.Shelf

/-- Five sectors, whatever is unsure, with power. -/
def mkL (S : Nat → ByteArray) (m : Nat) (LA : Nat → Int) (LD : Nat → ByteArray) (deeds : Int) : Dev := ⟨5, S, m, LA, LD, false, -1, deeds⟩
abbrev vL (b c m kk : Nat) (B : Option Addr) (deeds : Int) : Value := .agg #[.slice (some ⟨b, 0, none⟩) 5 c, .slice B m kk, .bool false, .int .i64 (-1), .int .i64 deeds]
theorem isL_of {w : World} {S : Nat → ByteArray} {m : Nat} {LA : Nat → Int} {LD : Nat → ByteArray} {deeds : Int} {v : Value} (h : IsDev w v (mkL S m LA LD deeds)) : ∃ b c kk B, v = vL b c m kk B deeds := by
  obtain ⟨b, B, c, kk, rfl, _⟩ := h
  exact ⟨b, c, kk, B, rfl⟩
theorem flushF_eq (S : Nat → ByteArray) : (mkF S 0).flushed = mkF S 1 := rfl
theorem putL_eq (S : Nat → ByteArray) (m : Nat) (LA : Nat → Int) (LD : Nat → ByteArray) (deeds : Int) (x : Int) (d : ByteArray) : (mkL S m LA LD deeds).putAt x d = mkL S (m + 1) (snocI LA m x) (snocD LD m (padB d)) (deeds + 1) := rfl
theorem startL_eq (S : Nat → ByteArray) (m : Nat) (LA : Nat → Int) (LD : Nat → ByteArray) (deeds : Int) (f : Fat) : (mkL S m LA LD deeds).started f = mkF (startS f S LA LD m) 0 := rfl

theorem flushF (S : Nat → ByteArray) (b c : Nat) (w : World) (h : IsF w S 0 b c) (hS : ∀ j, j < 5 → (S j).size = 256) :
    Calls Try.prog 9 #[vF b c 0] w fun e w' => ∃ b c, e = .returned (.tuple #[vF b c 1, .int .i64 0]) ∧ IsF w' S 1 b c ∧ Below w.heap.size w w' := by
  refine (flush_ok (K := 0) (vF b c 0) (mkF S 0) w h (mkF_ok S 0 hS) (by omega) rfl).mono ?_
  rintro e w' ⟨v, rfl, hd, hb⟩
  rw [flushF_eq] at hd
  obtain ⟨b', c', rfl, hx⟩ := isF_of hd
  exact ⟨b', c', rfl, hx, hb⟩

def PutL (S : Nat → ByteArray) (K : Nat) (w : World) (e : Ending) (w' : World) : Prop :=
  ∃ (b c m kk : Nat) (B : Option Addr) (LA : Nat → Int) (LD : Nat → ByteArray) (deeds err : Int), e = .returned (.tuple #[vL b c m kk B deeds, .int .i64 err]) ∧ IsDev w' (vL b c m kk B deeds) (mkL S m LA LD deeds) ∧ (mkL S m LA LD deeds).Ok K ∧ Below w.heap.size w w'
theorem putL {K : Nat} (S : Nat → ByteArray) (b c m kk : Nat) (B : Option Addr) (LA : Nat → Int) (LD : Nat → ByteArray) (deeds x : Int) (d : ByteArray) (w : World) (h : IsDev w (vL b c m kk B deeds) (mkL S m LA LD deeds)) (hok : (mkL S m LA LD deeds).Ok K) (hK : K ≤ 100000) (hs : d.size ≤ 100000) :
    Calls Try.prog 12 #[vL b c m kk B deeds, .int .i64 x, .string d] w (PutL S (K + 1) w) := by
  by_cases ha : (mkL S m LA LD deeds).has x = false ∨ 256 < d.size
  · refine (put_arg (vL b c m kk B deeds) _ x d w h hs ha).mono ?_
    rintro e w' ⟨v, rfl, hd, hb⟩
    obtain ⟨b', c', kk', B', rfl⟩ := isL_of hd
    exact ⟨b', c', m, kk', B', LA, LD, deeds, 1, rfl, hd, hok.more (Nat.le_succ K), hb⟩
  · have h1 : (mkL S m LA LD deeds).has x = true := by
      cases hh : (mkL S m LA LD deeds).has x
      · exact absurd (Or.inl hh) ha
      · rfl
    have h2 : d.size ≤ 256 := by omega
    refine (put_ok (vL b c m kk B deeds) _ x d w h hok hK h2 h1 rfl).mono ?_
    rintro e w' ⟨v, rfl, hd, hb⟩
    have hok' := hok.put x d h1 h2
    rw [putL_eq] at hd hok'
    obtain ⟨b', c', kk', B', rfl⟩ := isL_of hd
    exact ⟨b', c', m + 1, kk', B', _, _, deeds + 1, 0, rfl, hd, hok', hb⟩

theorem startL {K : Nat} (S : Nat → ByteArray) (b c m kk : Nat) (B : Option Addr) (LA : Nat → Int) (LD : Nat → ByteArray) (deeds st tn bt : Int) (w : World) (h : IsDev w (vL b c m kk B deeds) (mkL S m LA LD deeds)) (hok : (mkL S m LA LD deeds).Ok K) (hK : K ≤ 100000) (f0 : 0 ≤ st) (f1 : st < 18446744073709551616) :
    Calls Try.prog 10 #[vL b c m kk B deeds, .agg #[.int .u64 st, .int .i64 tn, .int .i64 bt]] w fun e w' => ∃ b' c', e = .returned (vF b' c' 0) ∧ IsF w' (startS ⟨st, tn, bt⟩ S LA LD m) 0 b' c' ∧ Below w.heap.size w w' := by
  refine (start_any (vL b c m kk B deeds) _ ⟨st, tn, bt⟩ w h hok hK f0 f1).mono ?_
  rintro e w' ⟨v, rfl, hd, hb⟩
  rw [startL_eq] at hd
  obtain ⟨b', c', rfl, hx⟩ := isF_of hd
  exact ⟨b', c', rfl, hx, hb⟩

/-- Is the torn write in this sector? -/
def tornB (tn : Int) (LA : Nat → Int) (m a : Nat) : Bool := decide (0 ≤ tn) && decide (tn < (m : Int)) && (LA tn.toNat == (a : Int))
/-- What the law's inner loop finds of a sector. -/
def goodB (y s : ByteArray) (t : Bool) (LA : Nat → Int) (LD : Nat → ByteArray) (a : Nat) : Nat → Bool
  | 0 => y.toList == s.toList
  | i + 1 => goodB y s t LA LD a i || t || ((LA i == (a : Int)) && ((LD i).toList == y.toList))
theorem goodB_mono (y s : ByteArray) (t : Bool) (LA : Nat → Int) (LD : Nat → ByteArray) (a i j : Nat) (h : i ≤ j) (hg : goodB y s t LA LD a i = true) : goodB y s t LA LD a j = true := by
  induction j with
  | zero => obtain rfl : i = 0 := by omega
            exact hg
  | succ j ih =>
    by_cases e : i = j + 1
    · subst e; exact hg
    · simp [goodB, ih (by omega)]
theorem laidB_none (o : ByteArray) : laidB o ⟨#[]⟩ = o := by
  unfold laidB
  have h0 : (ByteArray.mk #[]).size = 0 := rfl
  rw [h0]
  split
  · rename_i h
    have : o.size = 0 := by omega
    apply ByteArray.ext
    exact (Array.eq_empty_of_size_eq_zero (by simpa using this)).symm
  · have e : o.extract 0 o.size = o := by simp
    rw [e]
    apply ByteArray.ext
    simp [ByteArray.data_append]
theorem laidB_all (o d : ByteArray) (h : o.size ≤ d.size) : laidB o d = d := by
  unfold laidB
  rw [if_pos h]
/-- What stays of each sector: as it was, or as one of its writes left it, or torn. -/
theorem stays (f : Fat) (S : Nat → ByteArray) (LA : Nat → Int) (LD : Nat → ByteArray) (n a : Nat) (ha : a < n) (hS : ∀ j, j < n → (S j).size = 256) : ∀ m, (∀ j, j < m → (LD j).size = 256) →
    startS f S LA LD m a = S a ∨ (∃ i, i < m ∧ LA i = (a : Int) ∧ LD i = startS f S LA LD m a) ∨ (∃ i : Nat, i < m ∧ f.torn = (i : Int) ∧ LA i = (a : Int)) := by
  intro m
  induction m with
  | zero => intro _; left; rfl
  | succ m ih =>
    intro hL
    have ih := ih (fun j hj => hL j (by omega))
    have hz := startS_size f S LA LD n m hS (fun j hj => hL j (by omega)) a ha
    by_cases hm : LA m = (a : Int)
    · by_cases ht : (m : Int) = f.torn
      · right; right
        exact ⟨m, by omega, ht.symm, hm⟩
      · have hk : keptN f m (LD m).size = (LD m).size ∨ keptN f m (LD m).size = 0 := by
          unfold keptN keptI
          rw [if_neg ht]
          split
          · left; simp
          · right; rfl
        have e : startS f S LA LD (m + 1) a = laidB (startS f S LA LD m a) ((LD m).extract 0 (keptN f m (LD m).size)) := by
          simp only [startS]
          rw [if_pos hm]
        rcases hk with hk | hk
        · right; left
          refine ⟨m, by omega, hm, ?_⟩
          rw [e, hk]
          have e2 : (LD m).extract 0 (LD m).size = LD m := by simp
          rw [e2, laidB_all _ _ (by rw [hz, hL m (by omega)]; exact Nat.le_refl _)]
        · have e2 : startS f S LA LD (m + 1) a = startS f S LA LD m a := by
            rw [e, hk]
            have e3 : (LD m).extract 0 0 = ⟨#[]⟩ := by apply ByteArray.ext; simp
            rw [e3, laidB_none]
          rw [e2]
          rcases ih with h | ⟨i, hi, h1, h2⟩ | ⟨i, hi, h1, h2⟩
          · left; exact h
          · right; left; exact ⟨i, by omega, h1, h2⟩
          · right; right; exact ⟨i, by omega, h1, h2⟩
    · have e2 : startS f S LA LD (m + 1) a = startS f S LA LD m a := by
        simp only [startS]
        rw [if_neg hm]
      rw [e2]
      rcases ih with h | ⟨i, hi, h1, h2⟩ | ⟨i, hi, h1, h2⟩
      · left; exact h
      · right; left; exact ⟨i, by omega, h1, h2⟩
      · right; right; exact ⟨i, by omega, h1, h2⟩
theorem good_end (st tn bt : Int) (S : Nat → ByteArray) (LA : Nat → Int) (LD : Nat → ByteArray) (m a : Nat) (ha : a < 5) (hS : ∀ j, j < 5 → (S j).size = 256) (hL : ∀ j, j < m → (LD j).size = 256) :
    goodB (startS ⟨st, tn, bt⟩ S LA LD m a) (S a) (tornB tn LA m a) LA LD a m = true := by
  rcases stays ⟨st, tn, bt⟩ S LA LD 5 a ha hS m hL with h | ⟨i, hi, h1, h2⟩ | ⟨i, hi, h1, h2⟩
  · refine goodB_mono _ _ _ _ _ _ 0 m (Nat.zero_le _) ?_
    simp [goodB, h]
  · refine goodB_mono _ _ _ _ _ _ (i + 1) m hi ?_
    simp [goodB, h1, h2]
  · refine goodB_mono _ _ _ _ _ _ (i + 1) m hi ?_
    have ht : tornB tn LA m a = true := by
      have h1' : tn = (i : Int) := h1
      subst h1'
      simp [tornB, h2, hi]
    rw [ht]
    simp [goodB]
theorem IsF.cells {w : World} {S : Nat → ByteArray} {deeds : Int} {b c : Nat} (h : IsF w S deeds b c) : b < w.heap.size ∧ ∀ j, j < 5 → w.cell? ⟨b, j, none⟩ = some (.string (S j)) := by
  obtain ⟨b', B', c', k', hv, hlt, hnc, hc, hl, h0⟩ := h
  have e : b = b' := by
    simp [mkF] at hv
    exact hv.1.1
  subst e
  exact ⟨hlt, hc⟩
theorem late_of {w : World} {S : Nat → ByteArray} {m : Nat} {LA : Nat → Int} {LD : Nat → ByteArray} {deeds : Int} {b c kk : Nat} {B : Option Addr} (h : IsDev w (vL b c m kk B deeds) (mkL S m LA LD deeds)) : HasLate w B m LA LD := by
  obtain ⟨b', B', c', k', hv, hlt, hnc, hc, hl, h0⟩ := h
  have e : B = B' := by
    simp [mkL] at hv
    exact hv.2.1
  subst e
  exact hl
theorem goodB_torn (y s : ByteArray) (LA : Nat → Int) (LD : Nat → ByteArray) (a i : Nat) : goodB y s true LA LD a (i + 1) = true := by simp [goodB]
theorem goodB_keep (y s : ByteArray) (t : Bool) (LA : Nat → Int) (LD : Nat → ByteArray) (a i : Nat) (h : goodB y s t LA LD a i = true) : goodB y s t LA LD a (i + 1) = true := goodB_mono _ _ _ _ _ _ i _ (Nat.le_succ i) h
theorem goodB_off (y s : ByteArray) (LA : Nat → Int) (LD : Nat → ByteArray) (a i : Nat) (h : goodB y s false LA LD a i = false) (e : (LA i == (a : Int)) = false) : goodB y s false LA LD a (i + 1) = false := by simp only [goodB, h, e]; rfl
theorem goodB_hit (y s : ByteArray) (LA : Nat → Int) (LD : Nat → ByteArray) (a i : Nat) (h : goodB y s false LA LD a i = false) (e : (LA i == (a : Int)) = true) : goodB y s false LA LD a (i + 1) = ((LD i).toList == y.toList) := by simp only [goodB, h, e, Bool.false_or, Bool.true_and]
theorem torn_neg (tn : Int) (LA : Nat → Int) (m a : Nat) (h : tn < 0) : tornB tn LA m a = false := by
  have : decide (0 ≤ tn) = false := by simp; omega
  simp only [tornB, this, Bool.false_and]
theorem torn_big (t : Nat) (LA : Nat → Int) (m a : Nat) (h : m ≤ t) : tornB t LA m a = false := by
  have : decide ((t : Int) < (m : Int)) = false := by simp; omega
  simp only [tornB, this, Bool.and_false, Bool.false_and]
theorem torn_in (t : Nat) (LA : Nat → Int) (m a : Nat) (h : t < m) : tornB t LA m a = (LA t == (a : Int)) := by
  have h1 : decide ((0 : Int) ≤ (t : Int)) = true := by simp
  have h2 : decide ((t : Int) < (m : Int)) = true := by simp; omega
  simp only [tornB, h1, h2, Bool.true_and, Int.toNat_natCast]
end Go.Proofs.Ytnmgaafpbbeceaa
