/- CRC-32 by half bytes, plainly: what up to four other bytes side by side do to the sum. No program. -/
import Derived.Laws.BitsAllLaws
namespace Go.Proofs.YtiacdpfodhggmaaDoor.Tal

def hv (i : Nat) : Nat := [0, 498536548, 997073096, 651767980, 1994146192, 1802195444, 1303535960, 1342533948, 3988292384, 4027552580, 3604390888, 3412177804, 2607071920, 2262029012, 2685067896, 3183342108].getD i 0
/-- Four steps of one bit. -/
def nib (x : Nat) : Nat := (x / 16) ^^^ hv (x % 16)
def step (s : Nat) (b : UInt8) : Nat := nib (nib (s ^^^ b.toNat))
def run (s : Nat) (l : List UInt8) : Nat := l.foldl step s
def crc (l : List UInt8) : Nat := 4294967295 - run 4294967295 l

theorem hv_lt : ∀ i, i < 16 → hv i < 4294967296 := by decide
theorem hv_top : ∀ i, i < 16 → hv i < 268435456 → i = 0 := by decide
theorem hv_xor : ∀ i, i < 16 → ∀ j, j < 16 → hv (i ^^^ j) = hv i ^^^ hv j := by decide

theorem xor_lt {a b : Nat} (ha : a < 4294967296) (hb : b < 4294967296) : a ^^^ b < 4294967296 := Nat.xor_lt_two_pow (n := 32) ha hb
theorem byte_lt (b : UInt8) : b.toNat < 256 := b.toNat_lt
theorem nib_lt {x : Nat} (h : x < 4294967296) : nib x < 4294967296 := xor_lt (by omega) (hv_lt _ (by omega))
theorem nib_zero : nib 0 = 0 := by decide
theorem xor_div16 (a b : Nat) : (a ^^^ b) / 16 = a / 16 ^^^ b / 16 := by
  have := Nat.shiftRight_xor_distrib (a := a) (b := b) (i := 4)
  simpa [Nat.shiftRight_eq_div_pow] using this
theorem xor_mod16 (a b : Nat) : (a ^^^ b) % 16 = a % 16 ^^^ b % 16 := Nat.xor_mod_two_pow (n := 4)
theorem four_xor (a b c d : Nat) : (a ^^^ b) ^^^ (c ^^^ d) = (a ^^^ c) ^^^ (b ^^^ d) := by
  rw [Nat.xor_assoc, Nat.xor_assoc]
  congr 1
  rw [← Nat.xor_assoc, ← Nat.xor_assoc, Nat.xor_comm b c]
theorem nib_xor (a b : Nat) : nib (a ^^^ b) = nib a ^^^ nib b := by
  unfold nib
  rw [xor_div16, xor_mod16, hv_xor _ (by omega) _ (by omega), four_xor]
/-- What comes out small was small, sixteen times as great. -/
theorem nib_small {d : Nat} (hd : d < 4294967296) (h : nib d < 268435456) : d = 16 * nib d := by
  unfold nib at h ⊢
  have hx : hv (d % 16) < 268435456 := by
    have h1 : d / 16 < 2 ^ 28 := by have : (2 : Nat) ^ 28 = 268435456 := by decide
                                    omega
    have h2 := Nat.xor_lt_two_pow (n := 28) h1 (show _ < 2 ^ 28 from h)
    rwa [← Nat.xor_assoc, Nat.xor_self, Nat.zero_xor] at h2
  have h0 := hv_top _ (by omega) hx
  rw [h0]
  have : hv 0 = 0 := by decide
  rw [this, Nat.xor_zero]
  omega
theorem step_lt {s : Nat} (b : UInt8) (h : s < 4294967296) : step s b < 4294967296 := nib_lt (nib_lt (xor_lt h (by have := byte_lt b; omega)))
theorem run_lt {s : Nat} (l : List UInt8) (h : s < 4294967296) : run s l < 4294967296 := by
  induction l generalizing s with
  | nil => exact h
  | cons b l ih => exact ih (step_lt b h)
theorem crc_lt (l : List UInt8) : crc l < 4294967296 := by unfold crc; omega
theorem run_cons (s : Nat) (b : UInt8) (l : List UInt8) : run s (b :: l) = run (step s b) l := rfl
theorem run_append (s : Nat) (l m : List UInt8) : run s (l ++ m) = run (run s l) m := List.foldl_append
theorem run_snoc (s : Nat) (l : List UInt8) (b : UInt8) : run s (l ++ [b]) = step (run s l) b := by rw [run_append]; rfl
theorem byte_xor (a b : UInt8) : (a ^^^ b).toNat = a.toNat ^^^ b.toNat := UInt8.toNat_xor a b
theorem step_xor (s t : Nat) (a b : UInt8) : step s a ^^^ step t b = step (s ^^^ t) (a ^^^ b) := by
  unfold step
  rw [← nib_xor, ← nib_xor, byte_xor, four_xor]
theorem run_xor (s t : Nat) : ∀ (l m : List UInt8), l.length = m.length → run s l ^^^ run t m = run (s ^^^ t) (List.zipWith (fun a b => a ^^^ b) l m) := by
  intro l
  induction l generalizing s t with
  | nil => intro m h; cases m with
    | nil => rfl
    | cons _ _ => simp at h
  | cons a l ih => intro m h; cases m with
    | nil => simp at h
    | cons b m =>
      rw [run_cons, run_cons, List.zipWith_cons_cons, run_cons, ← step_xor]
      exact ih _ _ _ (by simpa using h)
theorem step_zero {s : Nat} (hs : s < 4294967296) (h : step s 0 = 0) : s = 0 := by
  unfold step at h
  have e : s ^^^ (0 : UInt8).toNat = s := by simp
  rw [e] at h
  have h1 := nib_small (nib_lt hs) (by omega)
  rw [h] at h1
  have h2 := nib_small hs (by omega)
  omega
theorem run_zeros {s : Nat} (hs : s < 4294967296) (l : List UInt8) (hl : ∀ b ∈ l, b = 0) (h : run s l = 0) : s = 0 := by
  induction l generalizing s with
  | nil => exact h
  | cons b l ih =>
    obtain rfl := hl b (by simp)
    have := ih (step_lt _ hs) (fun b hb => hl b (by simp [hb])) h
    exact step_zero hs this
/-- Two steps back: what comes out below 2^24 was 256 times that, beside the byte. -/
theorem step_back {s : Nat} {b : UInt8} (hs : s < 4294967296) (h : step s b < 16777216) : s = (256 * step s b) ^^^ b.toNat := by
  unfold step at h ⊢
  have hb := byte_lt b
  have hx := xor_lt hs (show b.toNat < 4294967296 by omega)
  have h1 := nib_small (nib_lt hx) (by omega)
  have h2 := nib_small hx (by omega)
  have h3 : s ^^^ b.toNat = 256 * nib (nib (s ^^^ b.toNat)) := by omega
  rw [← h3, Nat.xor_assoc, Nat.xor_self, Nat.xor_zero]
theorem low_xor {x : Nat} {b : UInt8} : ((256 * x) ^^^ b.toNat) = 256 * x + b.toNat := by
  have := byte_lt b
  apply Nat.eq_of_testBit_eq
  intro i
  have e : 256 * x + b.toNat = 2 ^ 8 * x + b.toNat := rfl
  rw [e, Nat.testBit_two_pow_mul_add x (by omega : b.toNat < 2 ^ 8), Nat.testBit_xor, show 256 * x = 2 ^ 8 * x from rfl, Nat.testBit_two_pow_mul]
  by_cases hi : i < 8
  · simp [hi, Nat.not_le.2 hi]
  · rw [Nat.testBit_lt_two_pow (x := b.toNat) (i := i) (Nat.lt_of_lt_of_le (by omega : b.toNat < 2 ^ 8) (Nat.pow_le_pow_right (by omega) (by omega)))]
    simp [hi, Nat.le_of_not_lt hi]
theorem burst1 {s : Nat} {a : UInt8} (hs : s < 256 ^ 4) (h : step s a < 256 ^ 3) : s = 256 * step s a + a.toNat := by
  rw [← low_xor]; exact step_back hs h
/-- Up to four bytes that come out at nothing are nothing. -/
theorem burst (l : List UInt8) (hl : l.length ≤ 4) (h : run 0 l = 0) : ∀ b ∈ l, b = 0 := by
  have z : ∀ b : UInt8, b.toNat = 0 → b = 0 := fun b hb => by
    apply UInt8.toNat_inj.1; simpa using hb
  have r (l) : run 0 l < 4294967296 := run_lt l (by omega)
  match l, hl with
  | [], _ => simp
  | [a], _ =>
    have e1 : step 0 a = 0 := h
    have h1 := burst1 (s := 0) (a := a) (by decide) (by omega)
    have za := z a (by omega)
    simp only [List.mem_cons, List.not_mem_nil, or_false]
    rintro x rfl
    exact za
  | [a, b], _ =>
    have h2 : step (step 0 a) b = 0 := h
    have l1 : step 0 a < 4294967296 := step_lt a (by omega)
    have g2 := burst1 (s := step 0 a) (a := b) (by omega) (by omega)
    have := byte_lt b
    have g1 := burst1 (s := 0) (a := a) (by decide) (by omega)
    have za := z a (by omega)
    have zb := z b (by omega)
    simp only [List.mem_cons, List.not_mem_nil, or_false]
    rintro x (rfl | rfl)
    · exact za
    · exact zb
  | [a, b, c], _ =>
    have h3 : step (step (step 0 a) b) c = 0 := h
    have l1 : step 0 a < 4294967296 := step_lt a (by omega)
    have l2 : step (step 0 a) b < 4294967296 := step_lt b l1
    have := byte_lt b
    have := byte_lt c
    have g3 := burst1 (s := step (step 0 a) b) (a := c) (by omega) (by omega)
    have g2 := burst1 (s := step 0 a) (a := b) (by omega) (by omega)
    have g1 := burst1 (s := 0) (a := a) (by decide) (by omega)
    have za := z a (by omega)
    have zb := z b (by omega)
    have zc := z c (by omega)
    simp only [List.mem_cons, List.not_mem_nil, or_false]
    rintro x (rfl | rfl | rfl)
    · exact za
    · exact zb
    · exact zc
  | [a, b, c, d], _ =>
    have h4 : step (step (step (step 0 a) b) c) d = 0 := h
    have l1 : step 0 a < 4294967296 := step_lt a (by omega)
    have l2 : step (step 0 a) b < 4294967296 := step_lt b l1
    have l3 : step (step (step 0 a) b) c < 4294967296 := step_lt c l2
    have := byte_lt b
    have := byte_lt c
    have := byte_lt d
    have g4 := burst1 (s := step (step (step 0 a) b) c) (a := d) (by omega) (by omega)
    have g3 := burst1 (s := step (step 0 a) b) (a := c) (by omega) (by omega)
    have g2 := burst1 (s := step 0 a) (a := b) (by omega) (by omega)
    have g1 := burst1 (s := 0) (a := a) (by decide) (by omega)
    have za := z a (by omega)
    have zb := z b (by omega)
    have zc := z c (by omega)
    have zd := z d (by omega)
    simp only [List.mem_cons, List.not_mem_nil, or_false]
    rintro x (rfl | rfl | rfl | rfl)
    · exact za
    · exact zb
    · exact zc
    · exact zd
theorem zip_self (m e : List UInt8) (h : m.length = e.length) : List.zipWith (fun a b => a ^^^ b) m (List.zipWith (fun a b => a ^^^ b) m e) = e := by
  induction m generalizing e with
  | nil => cases e with
    | nil => rfl
    | cons _ _ => simp at h
  | cons a m ih => cases e with
    | nil => simp at h
    | cons b e =>
      simp only [List.zipWith_cons_cons]
      rw [ih e (by simpa using h)]
      congr 1
      rw [← UInt8.xor_assoc]; simp
theorem xor_eq_zero {a b : Nat} (h : a ^^^ b = 0) : a = b := by
  have : a ^^^ (a ^^^ b) = b := by rw [← Nat.xor_assoc, Nat.xor_self, Nat.zero_xor]
  rw [h, Nat.xor_zero] at this
  exact this
/-- What comes of other bytes. -/
def turned (m e : List UInt8) : List UInt8 := List.zipWith (fun a b => a ^^^ b) m e
theorem turned_none (m e : List UInt8) (h : m.length = e.length) (h0 : ∀ b ∈ e, b = 0) : turned m e = m := by
  unfold turned
  induction m generalizing e with
  | nil => simp
  | cons a m ih => cases e with
    | nil => simp at h
    | cons b e =>
      obtain rfl := h0 b (by simp)
      simp only [List.zipWith_cons_cons]
      rw [ih e (by simpa using h) (fun b hb => h0 b (by simp [hb]))]
      simp
/-- Up to four bytes side by side that are others make another sum, and no other bytes the same. -/
theorem crc_burst (p m e r : List UInt8) (hm : m.length = e.length) (he : e.length ≤ 4) : crc (p ++ turned m e ++ r) = crc (p ++ m ++ r) ↔ ∀ b ∈ e, b = 0 := by
  constructor
  · intro h
    unfold crc at h
    have l0 (l) : run 4294967295 l < 4294967296 := run_lt l (by omega)
    have h1 := l0 (p ++ turned m e ++ r)
    have h2 := l0 (p ++ m ++ r)
    have h3 : run 4294967295 (p ++ m ++ r) ^^^ run 4294967295 (p ++ turned m e ++ r) = 0 := by
      rw [show run 4294967295 (p ++ turned m e ++ r) = run 4294967295 (p ++ m ++ r) by omega, Nat.xor_self]
    rw [run_append, run_append, run_append, run_append, run_xor _ _ _ _ rfl] at h3
    have hz : ∀ b ∈ List.zipWith (fun a b => a ^^^ b) r r, b = (0 : UInt8) := by
      intro b hb
      rw [List.zipWith_self] at hb
      simp at hb
      obtain ⟨_, _, rfl⟩ := hb
      rfl
    have h4 := run_zeros (xor_lt (run_lt _ (l0 p)) (run_lt _ (l0 p))) _ hz h3
    unfold turned at h4
    rw [run_xor _ _ _ _ (by simp [hm]), Nat.xor_self, zip_self m e hm] at h4
    exact burst e he h4
  · intro h
    rw [turned_none m e hm h]
end Go.Proofs.YtiacdpfodhggmaaDoor.Tal
