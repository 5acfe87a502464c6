/- Texts OrA, OrB, OrC, one behind the other. -/
import Derived.Test.YtabgbhilbnchnaaVaL
import Derived.Test.YtabgbhilbnchnaaVaJ
/- Keys that stand in their values' order, plainly. No program. -/
namespace Go.Proofs.Ytabgbhilbnchnaa.Or
open Go.RowKit Pac Va

/-- A number's bytes, the highest first. -/
def be : Nat → Nat → List UInt8
  | 0, _ => []
  | f + 1, u => UInt8.ofNat (u / 256 ^ f) :: be f (u % 256 ^ f)
theorem be_len : ∀ (f u : Nat), (be f u).length = f
  | 0, _ => rfl
  | f + 1, u => by simp [be, be_len f]
theorem head_lt {f u : Nat} (h : u < 256 ^ (f + 1)) : u / 256 ^ f < 256 := by
  rw [Nat.pow_succ] at h
  exact Nat.div_lt_of_lt_mul h
theorem be_less : ∀ (f u v : Nat), u < 256 ^ f → v < 256 ^ f → (Op.bytesLess (be f u) (be f v) = true ↔ u < v)
  | 0, u, v, hu, hv => by
    simp at hu hv
    subst hu hv
    simp [be, Op.bytesLess]
  | f + 1, u, v, hu, hv => by
    have hq : 0 < 256 ^ f := Nat.pow_pos (by omega)
    have ih := be_less f (u % 256 ^ f) (v % 256 ^ f) (Nat.mod_lt _ hq) (Nat.mod_lt _ hq)
    have h1 := head_lt hu
    have h2 := head_lt hv
    have d1 := Nat.div_add_mod u (256 ^ f)
    have d2 := Nat.div_add_mod v (256 ^ f)
    have m1 := Nat.mod_lt u hq
    have m2 := Nat.mod_lt v hq
    simp only [be]
    rw [less_cons, ofNat_toNat _ h1, ofNat_toNat _ h2, ih]
    have he : UInt8.ofNat (u / 256 ^ f) = UInt8.ofNat (v / 256 ^ f) ↔ u / 256 ^ f = v / 256 ^ f := by
      constructor
      · intro h
        have := congrArg UInt8.toNat h
        rwa [ofNat_toNat _ h1, ofNat_toNat _ h2] at this
      · intro h
        rw [h]
    rw [he]
    generalize 256 ^ f = q at *
    generalize u / q = a at *
    generalize v / q = b at *
    constructor
    · rintro (h | ⟨rfl, h⟩)
      · have : q * (a + 1) ≤ q * b := Nat.mul_le_mul_left q h
        rw [Nat.mul_add] at this
        omega
      · omega
    · intro h
      rcases Nat.lt_trichotomy a b with h' | h' | h'
      · exact Or.inl h'
      · subst h'
        exact Or.inr ⟨rfl, by omega⟩
      · exfalso
        have : q * (b + 1) ≤ q * a := Nat.mul_le_mul_left q h'
        rw [Nat.mul_add] at this
        omega
theorem be_inj {f u v : Nat} (hu : u < 256 ^ f) (hv : v < 256 ^ f) (h : be f u = be f v) : u = v := by
  have a := be_less f u v hu hv
  have b := be_less f v u hv hu
  rw [h, less_irrefl] at a
  rw [h, less_irrefl] at b
  simp at a b
  omega
/-- A value's key. -/
def keyL (a : V) : List UInt8 := UInt8.ofNat (a.k % 256).toNat :: (if a.k = 1 ∨ a.k = 2 then be 8 ((a.n + 9223372036854775808) % 18446744073709551616).toNat else if a.k = 3 then a.s.data.toList else [])
theorem p8 : (256 : Nat) ^ 8 = 18446744073709551616 := by decide
theorem num_lt (n : Int) : ((n + 9223372036854775808) % 18446744073709551616).toNat < 256 ^ 8 := by
  rw [p8]
  omega
theorem key_less {a b : V} (oa : a.Ok) (ob : b.Ok) (ha : rightV a = true) (hb : rightV b = true) : Op.bytesLess (keyL a) (keyL b) = true ↔ ltV a b := by
  obtain ⟨k, n, s⟩ := a
  obtain ⟨k2, n2, s2⟩ := b
  obtain ⟨_, _, h0, h1⟩ := oa
  obtain ⟨_, _, g0, g1⟩ := ob
  simp only at h0 h1 g0 g1
  have ka := right_kind ha
  have kb := right_kind hb
  have pa := right_parts ha
  have pb := right_parts hb
  unfold keyL ltV
  simp only
  rw [less_cons, ofNat_toNat _ (by omega), ofNat_toNat _ (by omega)]
  have hk : UInt8.ofNat (k % 256).toNat = UInt8.ofNat (k2 % 256).toNat ↔ k = k2 := by
    constructor
    · intro h
      have := congrArg UInt8.toNat h
      rw [ofNat_toNat _ (by omega), ofNat_toNat _ (by omega)] at this
      omega
    · intro h
      rw [h]
  rw [hk]
  have hkl : (k % 256).toNat < (k2 % 256).toNat ↔ k < k2 := by omega
  rw [hkl]
  by_cases hkk : k = k2
  · subst hkk
    have hnl : ((n + 9223372036854775808) % 18446744073709551616).toNat < ((n2 + 9223372036854775808) % 18446744073709551616).toNat ↔ n < n2 := by omega
    have hbl := be_less 8 _ _ (num_lt n) (num_lt n2)
    rw [hnl] at hbl
    rw [ByteArray.toList_eq, ByteArray.toList_eq]
    rcases pa with ⟨rfl, rfl, rfl⟩ | ⟨rfl, rfl⟩ | ⟨rfl, rfl⟩ | ⟨rfl, rfl, _⟩
    · rcases pb with ⟨_, rfl, rfl⟩ | ⟨h, _⟩ | ⟨h, _⟩ | ⟨h, _⟩
      · simp [Op.bytesLess]
      · omega
      · omega
      · omega
    · rcases pb with ⟨h, _⟩ | ⟨_, rfl⟩ | ⟨h, _⟩ | ⟨h, _⟩
      · omega
      · rw [if_pos (Or.inl rfl), if_pos (Or.inl rfl), hbl]
        simp [less_irrefl]
      · omega
      · omega
    · rcases pb with ⟨h, _⟩ | ⟨h, _⟩ | ⟨_, rfl⟩ | ⟨h, _⟩
      · omega
      · omega
      · rw [if_pos (Or.inr rfl), if_pos (Or.inr rfl), hbl]
        simp [less_irrefl]
      · omega
    · rcases pb with ⟨h, _⟩ | ⟨h, _⟩ | ⟨h, _⟩ | ⟨_, rfl, _⟩
      · omega
      · omega
      · omega
      · simp
  · constructor
    · rintro (h | ⟨h, _⟩)
      · exact Or.inl h
      · exact absurd h hkk
    · rintro (h | ⟨h, _⟩)
      · exact Or.inl h
      · exact absurd h hkk
theorem key_eq {a b : V} (oa : a.Ok) (ob : b.Ok) (ha : rightV a = true) (hb : rightV b = true) : keyL a = keyL b ↔ eqV a b := by
  constructor
  · intro h
    have l1 := key_less oa ob ha hb
    have l2 := key_less ob oa hb ha
    rw [h, less_irrefl] at l1
    rw [h, less_irrefl] at l2
    rcases cmp_three a b with ⟨_, h1, _, _⟩ | ⟨_, h1, _, _⟩ | ⟨_, h1, _, _⟩
    · exact absurd (l1.2 h1) (by simp)
    · exact h1
    · exact absurd (l2.2 h1) (by simp)
  · rintro ⟨h1, h2, h3⟩
    rw [ByteArray.toList_eq, ByteArray.toList_eq] at h3
    unfold keyL
    rw [h1, h2, h3]
theorem key_len (a : V) : (keyL a).length = if a.k = 1 ∨ a.k = 2 then 9 else if a.k = 3 then a.s.size + 1 else 1 := by
  unfold keyL
  rw [List.length_cons]
  split
  · rw [be_len]
  · split
    · rw [len_list]
    · rfl
/-- A key's number. -/
def spreadN (n : Nat) (l : List UInt8) : Nat := l.foldl (fun h b => (h ^^^ b.toNat) * 1099511628211 % 18446744073709551616) n
def spread (l : List UInt8) : Nat := spreadN 14695981039346656037 l ^^^ (spreadN 14695981039346656037 l / 4294967296)
end Go.Proofs.Ytabgbhilbnchnaa.Or

/- A key's number: the document's, and the program's, walked. -/
namespace Go.Proofs.Ytabgbhilbnchnaa.Or
open Go.RowKit Pac Va

theorem spreadN_snoc (n : Nat) (l : List UInt8) (b : UInt8) : spreadN n (l ++ [b]) = (spreadN n l ^^^ b.toNat) * 1099511628211 % 18446744073709551616 := by
  unfold spreadN
  rw [List.foldl_append, List.foldl_cons, List.foldl_nil]
theorem xorN (u v : Nat) (hu : u < 18446744073709551616) (hv : v < 18446744073709551616) : ∃ x : Nat, bits .xor .u64 (u : Int) (v : Int) = (x : Int) ∧ x = u ^^^ v := ⟨_, u64_xor_nat _ _ hu hv, rfl⟩
theorem xorU (u : Nat) (b : UInt8) (hu : u < 18446744073709551616) : ∃ x : Nat, bits .xor .u64 (u : Int) (IntKind.u64.wrap (b.toNat : Int)) = (x : Int) ∧ (x < 18446744073709551616 ∧ x = u ^^^ b.toNat) := by
  have hb := b.toNat_lt
  exact ⟨u ^^^ b.toNat, by rw [show IntKind.u64.wrap (b.toNat : Int) = (b.toNat : Int) by rw [wrapU]; omega]; exact u64_xor_nat _ _ hu (by omega), Nat.xor_lt_two_pow (n := 64) hu (by omega), rfl⟩
theorem mulU (x : Nat) (hx : x < 18446744073709551616) : ∃ z : Nat, IntKind.u64.wrap ((x : Int) * 1099511628211) = (z : Int) ∧ (z < 18446744073709551616 ∧ z = x * 1099511628211 % 18446744073709551616) :=
  ⟨x * 1099511628211 % 18446744073709551616, by rw [wrapU]; omega, by omega, rfl⟩
theorem shrU (u : Nat) (hu : u < 18446744073709551616) : ∃ h : Nat, (u : Int) / 4294967296 = (h : Int) ∧ (h < 18446744073709551616 ∧ h = u / 4294967296) := ⟨u / 4294967296, by omega, by omega, rfl⟩

end Go.Proofs.Ytabgbhilbnchnaa.Or

/- A value's key: the document's, walked. -/
namespace Go.Proofs.Ytabgbhilbnchnaa.Or
open Go.RowKit Pac Va

def keyB (a : V) : ByteArray := ⟨(keyL a).toArray⟩
/-- The first q of a number's bytes behind its kind. -/
def partB (c : UInt8) (u q : Nat) : ByteArray := ⟨(c :: (be 8 u).take q).toArray⟩
theorem kindB (k : Int) : ∃ c : UInt8, k % 256 = (c.toNat : Int) ∧ c = UInt8.ofNat (k % 256).toNat := ⟨UInt8.ofNat (k % 256).toNat, by rw [ofNat_toNat _ (by omega)]; omega, rfl⟩
theorem part_num {k : Int} (n : Int) (s : ByteArray) {u : Nat} (hu : u = ((n + 9223372036854775808) % 18446744073709551616).toNat) (hk : k = 1 ∨ k = 2) : partB (UInt8.ofNat (k % 256).toNat) u 8 = keyB ⟨k, n, s⟩ := by
  unfold partB keyB keyL
  rw [List.take_of_length_le (by rw [be_len]; exact Nat.le_refl _), if_pos hk, hu]
theorem be_at : ∀ (f u q : Nat), u < 256 ^ f → q < f → (be f u)[q]? = some (UInt8.ofNat (u / 256 ^ (f - 1 - q) % 256))
  | 0, _, _, _, hq => absurd hq (Nat.not_lt_zero _)
  | f + 1, u, 0, hu, _ => by
    have h1 := head_lt hu
    show some (UInt8.ofNat (u / 256 ^ f)) = _
    rw [show f + 1 - 1 - 0 = f by omega, Nat.mod_eq_of_lt h1]
  | f + 1, u, q + 1, hu, hq => by
    show (be f (u % 256 ^ f))[q]? = _
    have hp : 0 < 256 ^ f := Nat.pow_pos (by omega)
    rw [be_at f (u % 256 ^ f) q (Nat.mod_lt _ hp) (by omega)]
    have e : f + 1 - 1 - (q + 1) = f - 1 - q := by omega
    rw [e]
    have hf : 256 ^ f = 256 ^ (f - 1 - q) * 256 ^ (q + 1) := by rw [← Nat.pow_add]; congr 1; omega
    rw [hf, Nat.mod_mul_right_div_self]
    congr 2
    rw [Nat.pow_succ, Nat.mul_comm, Nat.mod_mul_right_mod]
theorem part_size (c : UInt8) (u q : Nat) (hq : q ≤ 8) : (partB c u q).size = q + 1 := by
  show (c :: (be 8 u).take q).toArray.size = _
  simp [be_len]
  omega
theorem part_step (c : UInt8) (u q : Nat) (hu : u < 18446744073709551616) (hq : q < 8) : ∃ d : UInt8, (u : Int) / 2 ^ (8 * (7 - q)) % 256 = (d.toNat : Int) ∧ partB c u q ++ ⟨#[d]⟩ = partB c u (q + 1) := by
  refine ⟨UInt8.ofNat (u / 256 ^ (7 - q) % 256), ?_, ?_⟩
  · rw [ofNat_toNat _ (by omega)]
    have : (2 : Int) ^ (8 * (7 - q)) = ((256 ^ (7 - q) : Nat) : Int) := by
      rw [Int.pow_mul]
      simp
    rw [this]
    omega
  · have e := be_at 8 u q (by rw [p8]; exact hu) hq
    apply bytesEq'
    unfold partB
    rw [app_list]
    show c :: (be 8 u).take q ++ [_] = c :: (be 8 u).take (q + 1)
    rw [List.take_add_one, e]
    rfl
theorem key_text (n : Int) (s : ByteArray) : ⟨#[3]⟩ ++ s = keyB ⟨3, n, s⟩ := by
  apply bytesEq'
  rw [app_list]
  rfl
theorem key_else {k : Int} (n : Int) (s : ByteArray) (h : ¬ (k = 1 ∨ k = 2)) (h3 : ¬ k = 3) : keyB ⟨k, n, s⟩ = ⟨#[UInt8.ofNat (k % 256).toNat]⟩ := by
  unfold keyB keyL
  rw [if_neg h, if_neg h3]
theorem keyB_list (a : V) : (keyB a).toList = keyL a := by rw [ByteArray.toList_eq]; unfold keyB; simp
theorem keyB_size (a : V) : (keyB a).size = if a.k = 1 ∨ a.k = 2 then 9 else if a.k = 3 then a.s.size + 1 else 1 := by
  rw [← key_len a]
  rfl
theorem numU (n : Int) (h0 : -9223372036854775808 ≤ n) (h1 : n ≤ 9223372036854775807) : ∃ u : Nat, IntKind.u64.wrap (IntKind.u64.wrap n + 9223372036854775808) = (u : Int) ∧ u < 18446744073709551616 ∧ u = ((n + 9223372036854775808) % 18446744073709551616).toNat :=
  ⟨((n + 9223372036854775808) % 18446744073709551616).toNat, by rw [wrapU, wrapU]; omega, by omega, rfl⟩


end Go.Proofs.Ytabgbhilbnchnaa.Or
