/- A device of five sectors with one write unsure, and behind a flush: what is put, got. -/
import Derived.Test.YtnmgaafpbbeceaaT
import Derived.Test.YtnmgaafpbbeceaaZ
namespace Go.Proofs.Ytnmgaafpbbeceaa
open Go.RowKit Go.Shelf

/-- Five sectors, and one write behind them; so many deeds. -/
def mkX (S : Nat → ByteArray) (k : Nat) (p : ByteArray) (deeds : Int) : Dev := ⟨5, S, 1, snocI (fun _ => 0) 0 k, snocD (fun _ => ⟨#[]⟩) 0 p, false, -1, deeds⟩
/-- Five sectors, nothing unsure, so many deeds. -/
def mkF (S : Nat → ByteArray) (deeds : Int) : Dev := ⟨5, S, 0, fun _ => 0, fun _ => ⟨#[]⟩, false, -1, deeds⟩
/-- What is read of a sector. -/
def rdS (S : Nat → ByteArray) (k : Nat) (p : ByteArray) (j : Nat) : ByteArray := if (k : Int) = (j : Int) then p else S j
theorem rdS_at (S : Nat → ByteArray) (k : Nat) (p : ByteArray) : rdS S k p k = p := if_pos rfl
theorem rdS_off (S : Nat → ByteArray) (k : Nat) (p : ByteArray) (j : Nat) (h : j ≠ k) : rdS S k p j = S j := if_neg (by omega)

abbrev vX (b c k : Nat) (B : Option Addr) (deeds : Int) : Value := .agg #[.slice (some ⟨b, 0, none⟩) 5 c, .slice B 1 k, .bool false, .int .i64 (-1), .int .i64 deeds]
abbrev vF (b c : Nat) (deeds : Int) : Value := .agg #[.slice (some ⟨b, 0, none⟩) 5 c, .slice none 0 0, .bool false, .int .i64 (-1), .int .i64 deeds]

theorem put_eq (S : Nat → ByteArray) (k : Nat) (d : ByteArray) : (mkE S false (-1)).putAt k d = mkX S k (padB d) 1 := rfl
theorem flush_eq (S : Nat → ByteArray) (k : Nat) (p : ByteArray) : (mkX S k p 1).flushed = mkF (rdS S k p) 2 := rfl
theorem upX_eq (S : Nat → ByteArray) (k : Nat) (p : ByteArray) : (mkX S k p 1).up = mkX S k p 2 := rfl
theorem upF_eq (S : Nat → ByteArray) (deeds : Int) : (mkF S deeds).up = mkF S (deeds + 1) := rfl
theorem lookX_eq (S : Nat → ByteArray) (k j : Nat) (p : ByteArray) : look (mkX S k p 1).LA (mkX S k p 1).LD j ((mkX S k p 1).S j) (mkX S k p 1).m = rdS S k p j := rfl
theorem lookF_eq (S : Nat → ByteArray) (j : Nat) (deeds : Int) : look (mkF S deeds).LA (mkF S deeds).LD j ((mkF S deeds).S j) (mkF S deeds).m = S j := rfl

theorem mkF_ok (S : Nat → ByteArray) (deeds : Nat) (hS : ∀ j, j < 5 → (S j).size = 256) : (mkF S deeds).Ok deeds :=
  ⟨by show 1 ≤ 5; omega, by show 5 ≤ 2000; omega, Nat.zero_le _, by show (0 : Int) ≤ (deeds : Int); omega, Int.le_refl _, by show -9223372036854775808 ≤ (-1 : Int); omega, by show (-1 : Int) ≤ 9223372036854775807; omega, hS, fun j hj => absurd hj (Nat.not_lt_zero j), fun j hj => absurd hj (Nat.not_lt_zero j)⟩
theorem mkX_ok (S : Nat → ByteArray) (k : Nat) (d : ByteArray) (hS : ∀ j, j < 5 → (S j).size = 256) (hk : k < 5) (hd : d.size ≤ 256) : (mkX S k (padB d) 1).Ok 1 := by
  have := (mkE_ok S false (-1) hS (by omega) (by omega)).put k d (by show decide (0 ≤ (k : Int) ∧ (k : Int) < ((5 : Nat) : Int)) = true; simp; omega) hd
  exact this

def IsX (w : World) (S : Nat → ByteArray) (k : Nat) (p : ByteArray) (deeds : Int) (b c kk : Nat) (B : Option Addr) : Prop := IsDev w (vX b c kk B deeds) (mkX S k p deeds) ∧ b < w.heap.size ∧ (∀ j, j < 5 → w.cell? ⟨b, j, none⟩ = some (.string (S j))) ∧ HasLate w B 1 (snocI (fun _ => 0) 0 k) (snocD (fun _ => ⟨#[]⟩) 0 p)
def IsF (w : World) (S : Nat → ByteArray) (deeds : Int) (b c : Nat) : Prop := IsDev w (vF b c deeds) (mkF S deeds)
theorem IsX.below {w w' : World} {S : Nat → ByteArray} {k b c kk N : Nat} {p : ByteArray} {deeds : Int} {B : Option Addr} (h : IsX w S k p deeds b c kk B) (hb : Below N w w') (hN : w.heap.size ≤ N) : IsX w' S k p deeds b c kk B :=
  ⟨h.1.below hb hN, Nat.lt_of_lt_of_le h.2.1 hb.size, fun j hj => (hb.cell (p := ⟨b, j, none⟩) (Nat.lt_of_lt_of_le h.2.1 hN)).trans (h.2.2.1 j hj), h.2.2.2.below hb hN⟩
theorem IsF.below {w w' : World} {S : Nat → ByteArray} {b c N : Nat} {deeds : Int} (h : IsF w S deeds b c) (hb : Below N w w') (hN : w.heap.size ≤ N) : IsF w' S deeds b c := IsDev.below h hb hN
theorem isX_of {w : World} {S : Nat → ByteArray} {k : Nat} {p : ByteArray} {deeds : Int} {v : Value} (h : IsDev w v (mkX S k p deeds)) : ∃ b c kk B, v = vX b c kk B deeds ∧ IsX w S k p deeds b c kk B := by
  have h' := h
  obtain ⟨b, B, c, kk, rfl, hlt, hnc, hc, hl, h0⟩ := h
  exact ⟨b, c, kk, B, rfl, h', hlt, hc, hl⟩
theorem isF_of {w : World} {S : Nat → ByteArray} {deeds : Int} {v : Value} (h : IsDev w v (mkF S deeds)) : ∃ b c, v = vF b c deeds ∧ IsF w S deeds b c := by
  have h' := h
  obtain ⟨b, B, c, kk, rfl, hlt, hnc, hc, hl, h0⟩ := h
  obtain ⟨rfl, rfl⟩ := h0 rfl
  exact ⟨b, c, rfl, h'⟩

def PutX (S : Nat → ByteArray) (k : Nat) (p : ByteArray) (w : World) (e : Ending) (w' : World) : Prop :=
  ∃ b c kk B, e = .returned (.tuple #[vX b c kk B 1, .int .i64 0]) ∧ IsX w' S k p 1 b c kk B ∧ Below w.heap.size w w'
def FlushX (S : Nat → ByteArray) (w : World) (e : Ending) (w' : World) : Prop :=
  ∃ b c, e = .returned (.tuple #[vF b c 2, .int .i64 0]) ∧ IsF w' S 2 b c ∧ Below w.heap.size w w'
def GetX (S : Nat → ByteArray) (k : Nat) (p r : ByteArray) (w : World) (e : Ending) (w' : World) : Prop :=
  ∃ b c kk B, e = .returned (.tuple #[vX b c kk B 2, .string r, .int .i64 0]) ∧ IsX w' S k p 2 b c kk B ∧ Below w.heap.size w w'
def GetF (S : Nat → ByteArray) (deeds : Int) (r : ByteArray) (w : World) (e : Ending) (w' : World) : Prop :=
  ∃ b c, e = .returned (.tuple #[vF b c deeds, .string r, .int .i64 0]) ∧ IsF w' S deeds b c ∧ Below w.heap.size w w'

theorem putX (S : Nat → ByteArray) (k b c : Nat) (d : ByteArray) (w : World) (h : IsF w S 0 b c) (hS : ∀ j, j < 5 → (S j).size = 256) (hk : k < 5) (hd : d.size ≤ 256) :
    Calls Try.prog 12 #[vF b c 0, .int .i64 k, .string d] w (PutX S k (padB d) w) := by
  refine (put_ok (vF b c 0) (mkE S false (-1)) k d w h (mkE_ok S false (-1) hS (by omega) (by omega)) (by omega) hd (by show decide (0 ≤ (k : Int) ∧ (k : Int) < ((5 : Nat) : Int)) = true; simp; omega) rfl).mono ?_
  rintro e w' ⟨v, rfl, hd, hb⟩
  rw [put_eq] at hd
  obtain ⟨b', c', kk, B, rfl, hx⟩ := isX_of hd
  exact ⟨b', c', kk, B, rfl, hx, hb⟩
theorem flushX (S : Nat → ByteArray) (k b c kk : Nat) (B : Option Addr) (d : ByteArray) (w : World) (h : IsX w S k (padB d) 1 b c kk B) (hS : ∀ j, j < 5 → (S j).size = 256) (hk : k < 5) (hd : d.size ≤ 256) :
    Calls Try.prog 9 #[vX b c kk B 1] w (FlushX (rdS S k (padB d)) w) := by
  refine (flush_ok (vX b c kk B 1) (mkX S k (padB d) 1) w h.1 (mkX_ok S k d hS hk hd) (by omega) rfl).mono ?_
  rintro e w' ⟨v, rfl, hd, hb⟩
  rw [flush_eq] at hd
  obtain ⟨b', c', rfl, hx⟩ := isF_of hd
  exact ⟨b', c', rfl, hx, hb⟩
theorem getX (S : Nat → ByteArray) (k b c kk j : Nat) (B : Option Addr) (d r : ByteArray) (w : World) (h : IsX w S k (padB d) 1 b c kk B) (hS : ∀ j, j < 5 → (S j).size = 256) (hk : k < 5) (hd : d.size ≤ 256) (hj : j < 5) (hr : rdS S k (padB d) j = r) :
    Calls Try.prog 15 #[vX b c kk B 1, .int .i64 j] w (GetX S k (padB d) r w) := by
  refine (get_ok (vX b c kk B 1) (mkX S k (padB d) 1) j w h.1 (mkX_ok S k d hS hk hd) (by omega) (by show decide (0 ≤ (j : Int) ∧ (j : Int) < ((5 : Nat) : Int)) = true; simp; omega) rfl).mono ?_
  rintro e w' ⟨v, rfl, hd, hb⟩
  rw [upX_eq] at hd
  rw [lookX_eq, hr]
  obtain ⟨b', c', kk', B', rfl, hx⟩ := isX_of hd
  exact ⟨b', c', kk', B', rfl, hx, hb⟩
theorem getF (S : Nat → ByteArray) (b c j deeds : Nat) (r : ByteArray) (w : World) (h : IsF w S deeds b c) (hS : ∀ j, j < 5 → (S j).size = 256) (hj : j < 5) (hd : deeds ≤ 100000) (hr : S j = r) :
    Calls Try.prog 15 #[vF b c deeds, .int .i64 j] w (GetF S (deeds + 1) r w) := by
  refine (get_ok (vF b c deeds) (mkF S deeds) j w h (mkF_ok S deeds hS) hd (by show decide (0 ≤ (j : Int) ∧ (j : Int) < ((5 : Nat) : Int)) = true; simp; omega) rfl).mono ?_
  rintro e w' ⟨v, rfl, hd, hb⟩
  rw [upF_eq] at hd
  rw [lookF_eq, hr]
  obtain ⟨b', c', rfl, hx⟩ := isF_of hd
  exact ⟨b', c', rfl, hx, hb⟩
theorem sameX (S : Nat → ByteArray) (k b c kk b' c' kk' : Nat) (B B' : Option Addr) (p : ByteArray) (w : World) (h : IsX w S k p 2 b c kk B) (h' : IsX w S k p 1 b' c' kk' B') :
    Calls Try.prog 17 #[vX b c kk B 1, vX b' c' kk' B' 1] w fun e w' => e = .returned (.bool true) ∧ Below w.heap.size w w' :=
  same_late b c b' c' 5 1 kk kk' B B' S _ _ false (-1) 1 w (by omega) (by omega) h.2.1 h'.2.1 h.2.2.1 h'.2.2.1 h.2.2.2 h'.2.2.2
/-- Any device of five sectors, started with no write that stays half: plainly. -/
theorem start5F (v : Value) (D : Dev) (w : World) (h : IsDev w v D) (hok : D.Ok 1000) (hn : D.n = 5) :
    Calls Try.prog 10 #[v, .agg #[.int .u64 0, .int .i64 (-1), .int .i64 0]] w fun e w' => ∃ b c S, e = .returned (vF b c 0) ∧ IsF w' S 0 b c ∧ (∀ j, j < 5 → (S j).size = 256) ∧ Below w.heap.size w w' := by
  refine (start5 v D w h hok hn).mono ?_
  rintro e w' ⟨v', S, rfl, hd, hs, hb⟩
  obtain ⟨b, c, rfl, hx⟩ := isF_of (S := S) (deeds := 0) hd.dev
  exact ⟨b, c, S, rfl, hx, hs, hb⟩
theorem rdS_size (S : Nat → ByteArray) (k : Nat) (d : ByteArray) (hS : ∀ j, j < 5 → (S j).size = 256) (hd : d.size ≤ 256) : ∀ j, j < 5 → (rdS S k (padB d) j).size = 256 := by
  intro j hj
  unfold rdS
  split
  · exact padB_size d hd
  · exact hS j hj
end Go.Proofs.Ytnmgaafpbbeceaa
