/- Texts VaA, VaC, VaE, VaJ, VaL, one behind the other. -/
import Derived.Test.YtocmkjccaajnnaaMgP
/- Values, plainly; whether one may be, which is ahead: the document's, walked. -/
namespace Go.Proofs.Ytocmkjccaajnnaa.Va
open Go.RowKit Pac

/-- A value. -/
structure V where
  k : Int
  n : Int
  s : ByteArray
abbrev V.v (a : V) : Value := .agg #[.int .i64 a.k, .int .i64 a.n, .string a.s]
structure V.Ok (a : V) : Prop where
  k0 : -9223372036854775808 ≤ a.k
  k1 : a.k ≤ 9223372036854775807
  n0 : -9223372036854775808 ≤ a.n
  n1 : a.n ≤ 9223372036854775807
/-- May it be? -/
def rightV (a : V) : Bool :=
  if a.k = 0 then (a.n == 0 && a.s.toList.isEmpty) else if a.k = 1 then a.s.toList.isEmpty else if a.k = 2 then ((a.n == 0 || a.n == 1) && a.s.toList.isEmpty) else if a.k = 3 then (a.n == 0 && decide ((a.s.size : Int) ≤ 60)) else false
theorem less_irrefl (l : List UInt8) : Op.bytesLess l l = false := by
  induction l with
  | nil => rfl
  | cons a l ih => simp [Op.bytesLess, ih]
theorem less_cons (a b : UInt8) (l m : List UInt8) : Op.bytesLess (a :: l) (b :: m) = true ↔ a.toNat < b.toNat ∨ (a = b ∧ Op.bytesLess l m = true) := by
  simp only [Op.bytesLess, Bool.or_eq_true, decide_eq_true_eq, Bool.and_eq_true, beq_iff_eq, UInt8.lt_iff_toNat_lt]
theorem less_asymm : ∀ (l m : List UInt8), Op.bytesLess l m = true → Op.bytesLess m l = false
  | [], [], h => by simp [Op.bytesLess] at h
  | [], _ :: _, _ => by simp [Op.bytesLess]
  | _ :: _, [], h => by simp [Op.bytesLess] at h
  | a :: l, b :: m, h => by
    have ih := less_asymm l m
    cases e : Op.bytesLess (b :: m) (a :: l) with
    | false => rfl
    | true =>
      rw [less_cons] at h e
      rcases h with h | ⟨rfl, h⟩
      · rcases e with e | ⟨rfl, _⟩
        · omega
        · omega
      · rcases e with e | ⟨_, e⟩
        · omega
        · rw [ih h] at e; cases e
theorem less_trans : ∀ (l m r : List UInt8), Op.bytesLess l m = true → Op.bytesLess m r = true → Op.bytesLess l r = true
  | _, [], _, h, _ => by simp [Op.bytesLess] at h
  | _, _ :: _, [], _, h => by simp [Op.bytesLess] at h
  | [], _ :: _, _ :: _, _, _ => by simp [Op.bytesLess]
  | a :: l, b :: m, c :: r, h, h' => by
    have ih := less_trans l m r
    rw [less_cons] at h h' ⊢
    rcases h with h | ⟨rfl, h⟩
    · rcases h' with h' | ⟨rfl, _⟩
      · exact Or.inl (by omega)
      · exact Or.inl h
    · rcases h' with h' | ⟨rfl, h'⟩
      · exact Or.inl h'
      · exact Or.inr ⟨rfl, ih h h'⟩
theorem less_total : ∀ (l m : List UInt8), Op.bytesLess l m = false → Op.bytesLess m l = false → l = m
  | [], [], _, _ => rfl
  | [], _ :: _, h, _ => by simp [Op.bytesLess] at h
  | _ :: _, [], _, h => by simp [Op.bytesLess] at h
  | a :: l, b :: m, h, h' => by
    have ih := less_total l m
    have n1 : ¬ (a.toNat < b.toNat ∨ (a = b ∧ Op.bytesLess l m = true)) := by rw [← less_cons, h]; simp
    have n2 : ¬ (b.toNat < a.toNat ∨ (b = a ∧ Op.bytesLess m l = true)) := by rw [← less_cons, h']; simp
    have e : a = b := UInt8.toNat_inj.1 (by omega)
    subst e
    have e1 : Op.bytesLess l m = false := by
      cases q : Op.bytesLess l m with
      | false => rfl
      | true => exact absurd (Or.inr ⟨rfl, q⟩) n1
    have e2 : Op.bytesLess m l = false := by
      cases q : Op.bytesLess m l with
      | false => rfl
      | true => exact absurd (Or.inr ⟨rfl, q⟩) n2
    rw [ih e1 e2]
end Go.Proofs.Ytocmkjccaajnnaa.Va

/- A value's bytes, plainly; the document's, walked. -/
namespace Go.Proofs.Ytocmkjccaajnnaa.Va
open Go.RowKit Pac

def printV (a : V) : ByteArray :=
  if a.k = 1 ∨ a.k = 2 then ⟨#[UInt8.ofNat a.k.toNat]⟩ ++ encB (zig a.n) else if a.k = 3 then ⟨#[3]⟩ ++ txtB a.s else ⟨#[UInt8.ofNat a.k.toNat]⟩
theorem printV_0 (n : Int) (s : ByteArray) : printV ⟨0, n, s⟩ = ⟨#[0]⟩ := rfl
theorem printV_1 (n : Int) (s : ByteArray) : printV ⟨1, n, s⟩ = ⟨#[1]⟩ ++ encB (zig n) := rfl
theorem printV_2 (n : Int) (s : ByteArray) : printV ⟨2, n, s⟩ = ⟨#[2]⟩ ++ encB (zig n) := rfl
theorem printV_3 (n : Int) (s : ByteArray) : printV ⟨3, n, s⟩ = ⟨#[3]⟩ ++ txtB s := rfl
theorem right_kind {k n : Int} {s : ByteArray} (h : rightV ⟨k, n, s⟩ = true) : k = 0 ∨ k = 1 ∨ k = 2 ∨ k = 3 := by
  unfold rightV at h
  by_cases q0 : k = 0
  · exact Or.inl q0
  · by_cases q1 : k = 1
    · exact Or.inr (Or.inl q1)
    · by_cases q2 : k = 2
      · exact Or.inr (Or.inr (Or.inl q2))
      · by_cases q3 : k = 3
        · exact Or.inr (Or.inr (Or.inr q3))
        · simp [q0, q1, q2, q3] at h
theorem toList_empty {s : ByteArray} (h : s.toList.isEmpty = true) : s = ⟨#[]⟩ := by
  rw [ByteArray.toList_eq] at h
  exact bytesEq (by simpa using h)
theorem right_size {a : V} (h : rightV a = true) : a.s.size ≤ 60 := by
  obtain ⟨k, n, s⟩ := a
  rcases right_kind h with rfl | rfl | rfl | rfl
  · unfold rightV at h
    simp only [if_true, Bool.and_eq_true] at h
    show s.size ≤ 60
    rw [toList_empty h.2]
    decide
  · have h : s.toList.isEmpty = true := by simpa [rightV] using h
    show s.size ≤ 60
    rw [toList_empty h]
    decide
  · have h : ((n == 0 || n == 1) && s.toList.isEmpty) = true := by simpa [rightV] using h
    rw [Bool.and_eq_true] at h
    show s.size ≤ 60
    rw [toList_empty h.2]
    decide
  · have h : (n == 0 && decide ((s.size : Int) ≤ 60)) = true := by simpa [rightV] using h
    rw [Bool.and_eq_true] at h
    have := of_decide_eq_true h.2
    show s.size ≤ 60
    omega
end Go.Proofs.Ytocmkjccaajnnaa.Va

/- The value that bytes begin with, plainly; the document's, walked. -/
namespace Go.Proofs.Ytocmkjccaajnnaa.Va
open Go.RowKit Pac

theorem bar_alloc {g : Nat} {a w : World} (h : Bar g a w) (o : Obj) : Bar g a (w.alloc o) :=
  h.trans (Bar.of_below g ((Below.refl w.heap.size w).alloc (Nat.le_refl _) o) (Nat.le_refl _))
/-- A variable of three cells. -/
structure Box3 (w : World) (g : Nat) (v0 v1 v2 : Value) : Prop where
  c0 : w.cell? ⟨g, 0, none⟩ = some v0
  c1 : w.cell? ⟨g, 1, none⟩ = some v1
  c2 : w.cell? ⟨g, 2, none⟩ = some v2
  f : ∀ i, w.frozen? ⟨g, i, none⟩ = false
theorem Box3.lt {w : World} {g : Nat} {v0 v1 v2 : Value} (h : Box3 w g v0 v1 v2) : g < w.heap.size := World.block_lt_of_cell? w _ h.c0
theorem Box3.bar {g g' : Nat} {w w' : World} {v0 v1 v2 : Value} (h : Box3 w g v0 v1 v2) (hb : Bar g' w w') (hne : g ≠ g') : Box3 w' g v0 v1 v2 :=
  ⟨(hb.cell h.lt hne).trans h.c0, (hb.cell h.lt hne).trans h.c1, (hb.cell h.lt hne).trans h.c2, fun i => (hb.frozen h.lt hne).trans (h.f i)⟩
theorem Box3.below {g B : Nat} {w w' : World} {v0 v1 v2 : Value} (h : Box3 w g v0 v1 v2) (hb : Below B w w') (hB : g < B) : Box3 w' g v0 v1 v2 :=
  ⟨(hb.cell (p := ⟨g, 0, none⟩) hB).trans h.c0, (hb.cell (p := ⟨g, 1, none⟩) hB).trans h.c1, (hb.cell (p := ⟨g, 2, none⟩) hB).trans h.c2, fun i => (hb.frozen (p := ⟨g, i, none⟩) hB).trans (h.f i)⟩
theorem Box3.new (w : World) (v0 v1 v2 : Value) (t : TypeId) : Box3 (w.alloc (.cells #[v0, v1, v2] t)) w.heap.size v0 v1 v2 := by
  constructor <;> simp [go_sem]
theorem Box3.alloc {g : Nat} {w : World} {v0 v1 v2 : Value} (h : Box3 w g v0 v1 v2) (o : Obj) : Box3 (w.alloc o) g v0 v1 v2 :=
  h.below ((Below.refl (g + 1) w).alloc h.lt o) (by omega)

/-- What is read: the value, what is left, whether it went wrong. -/
def seen (k : Nat) (s : ByteArray) : V × ByteArray × Bool :=
  if k = 1 ∨ k = 2 then (⟨k, numR s false, ⟨#[]⟩⟩, numS s false, numBad s false) else if k = 3 then (⟨3, 0, txtR s false 60⟩, txtS s false 60, txtBad s false 60) else (⟨k, 0, ⟨#[]⟩⟩, s, false)
def judged (x : V × ByteArray × Bool) : V × ByteArray × Bool := if (x.2.2 || !rightV x.1) = true then (⟨0, 0, ⟨#[]⟩⟩, x.2.1, true) else x
def readV (s : ByteArray) (bad : Bool) : V × ByteArray × Bool :=
  if bad = true then (⟨0, 0, ⟨#[]⟩⟩, s, true) else if h : 0 < s.size then judged (seen s[0].toNat (s.extract 1 s.size)) else (⟨0, 0, ⟨#[]⟩⟩, s, true)

theorem ready {w : World} {g : Nat} {s : ByteArray} (s1 : ByteArray) (k : Int) (t : TypeId) (hb : IsBox w g s false) :
    IsBox (((w.setCell ⟨g, 0, none⟩ (.string s1)).alloc (.cells #[.int .i64 0, .int .i64 0, .string ⟨#[]⟩] t)).alloc (.cells #[.int .i64 k, .int .i64 0, .string ⟨#[]⟩] t)) g s1 false ∧
    Box3 (((w.setCell ⟨g, 0, none⟩ (.string s1)).alloc (.cells #[.int .i64 0, .int .i64 0, .string ⟨#[]⟩] t)).alloc (.cells #[.int .i64 k, .int .i64 0, .string ⟨#[]⟩] t)) w.heap.size (.int .i64 0) (.int .i64 0) (.string ⟨#[]⟩) ∧
    Box3 (((w.setCell ⟨g, 0, none⟩ (.string s1)).alloc (.cells #[.int .i64 0, .int .i64 0, .string ⟨#[]⟩] t)).alloc (.cells #[.int .i64 k, .int .i64 0, .string ⟨#[]⟩] t)) (w.heap.size + 1) (.int .i64 k) (.int .i64 0) (.string ⟨#[]⟩) ∧
    Bar g w (((w.setCell ⟨g, 0, none⟩ (.string s1)).alloc (.cells #[.int .i64 0, .int .i64 0, .string ⟨#[]⟩] t)).alloc (.cells #[.int .i64 k, .int .i64 0, .string ⟨#[]⟩] t)) := by
  have hb1 := hb.set0 (.string s1)
  have hB1 := (Bar.refl g w).setCell 0 (.string s1)
  have e1 : (w.setCell ⟨g, 0, none⟩ (.string s1)).heap.size = w.heap.size := by simp
  have e2 : ((w.setCell ⟨g, 0, none⟩ (.string s1)).alloc (.cells #[.int .i64 0, .int .i64 0, .string ⟨#[]⟩] t)).heap.size = w.heap.size + 1 := by simp
  have h1 := (Box3.new (w.setCell ⟨g, 0, none⟩ (.string s1)) (.int .i64 0) (.int .i64 0) (.string ⟨#[]⟩) t).alloc (.cells #[.int .i64 k, .int .i64 0, .string ⟨#[]⟩] t)
  have h2 := Box3.new ((w.setCell ⟨g, 0, none⟩ (.string s1)).alloc (.cells #[.int .i64 0, .int .i64 0, .string ⟨#[]⟩] t)) (.int .i64 k) (.int .i64 0) (.string ⟨#[]⟩) t
  rw [e1] at h1
  rw [e2] at h2
  exact ⟨(hb1.alloc _).alloc _, h1, h2, bar_alloc (bar_alloc hB1 _) _⟩
theorem Box3.setOther {w : World} {g : Nat} {v0 v1 v2 : Value} (h : Box3 w g v0 v1 v2) {p : Addr} (hp : p.block ≠ g) (u : Value) : Box3 (w.setCell p u) g v0 v1 v2 := by
  have o : ∀ i, (w.setCell p u).cell? ⟨g, i, none⟩ = w.cell? ⟨g, i, none⟩ := fun i => World.cell?_setCell_other w _ _ u (fun e => hp (by rw [e]))
  exact ⟨(o 0).trans h.c0, (o 1).trans h.c1, (o 2).trans h.c2, fun i => by simp [h.f]⟩
theorem Box3.set0 {w : World} {g : Nat} {v0 v1 v2 : Value} (h : Box3 w g v0 v1 v2) (u : Value) : Box3 (w.setCell ⟨g, 0, none⟩ u) g u v1 v2 :=
  ⟨World.cell?_setCell_same _ _ _ h.c0, (World.cell?_setCell_other w _ _ u (fun e => by injection e with e1 e2; exact absurd e2 (by decide))).trans h.c1, (World.cell?_setCell_other w _ _ u (fun e => by injection e with e1 e2; exact absurd e2 (by decide))).trans h.c2, fun i => by simp [h.f]⟩
theorem Box3.set1 {w : World} {g : Nat} {v0 v1 v2 : Value} (h : Box3 w g v0 v1 v2) (u : Value) : Box3 (w.setCell ⟨g, 1, none⟩ u) g v0 u v2 :=
  ⟨(World.cell?_setCell_other w _ _ u (fun e => by injection e with e1 e2; exact absurd e2 (by decide))).trans h.c0, World.cell?_setCell_same _ _ _ h.c1, (World.cell?_setCell_other w _ _ u (fun e => by injection e with e1 e2; exact absurd e2 (by decide))).trans h.c2, fun i => by simp [h.f]⟩
theorem Box3.set2 {w : World} {g : Nat} {v0 v1 v2 : Value} (h : Box3 w g v0 v1 v2) (u : Value) : Box3 (w.setCell ⟨g, 2, none⟩ u) g v0 v1 u :=
  ⟨(World.cell?_setCell_other w _ _ u (fun e => by injection e with e1 e2; exact absurd e2 (by decide))).trans h.c0, (World.cell?_setCell_other w _ _ u (fun e => by injection e with e1 e2; exact absurd e2 (by decide))).trans h.c1, World.cell?_setCell_same _ _ _ h.c2, fun i => by simp [h.f]⟩
end Go.Proofs.Ytocmkjccaajnnaa.Va

/- The order of values, plainly. -/
namespace Go.Proofs.Ytocmkjccaajnnaa.Va
open Go.RowKit Pac

end Go.Proofs.Ytocmkjccaajnnaa.Va

/- Values, there and back, plainly. -/
namespace Go.Proofs.Ytocmkjccaajnnaa.Va
open Go.RowKit Pac

theorem head_app (c : UInt8) (r : ByteArray) (h : 0 < (⟨#[c]⟩ ++ r : ByteArray).size) : (⟨#[c]⟩ ++ r : ByteArray)[0] = c := by
  have h1 : (⟨#[c]⟩ ++ r : ByteArray).data.toList = c :: r.data.toList := by rw [app_list]; rfl
  have h2 : (⟨#[c]⟩ ++ r : ByteArray).data.toList[0]? = some c := by rw [h1]; rfl
  rw [Array.getElem?_toList] at h2
  have h3 : (⟨#[c]⟩ ++ r : ByteArray).data[0]? = some ((⟨#[c]⟩ ++ r : ByteArray).data[0]'h) := Array.getElem?_eq_getElem h
  rw [h3] at h2
  exact Option.some.inj h2
theorem right_parts {k n : Int} {s : ByteArray} (h : rightV ⟨k, n, s⟩ = true) : (k = 0 ∧ n = 0 ∧ s = ⟨#[]⟩) ∨ (k = 1 ∧ s = ⟨#[]⟩) ∨ (k = 2 ∧ s = ⟨#[]⟩) ∨ (k = 3 ∧ n = 0 ∧ s.size ≤ 60) := by
  have hs := right_size h
  rcases right_kind h with rfl | rfl | rfl | rfl
  · have h : (n == 0 && s.toList.isEmpty) = true := by simpa [rightV] using h
    rw [Bool.and_eq_true, beq_iff_eq] at h
    exact Or.inl ⟨rfl, h.1, toList_empty h.2⟩
  · have h : s.toList.isEmpty = true := by simpa [rightV] using h
    exact Or.inr (Or.inl ⟨rfl, toList_empty h⟩)
  · have h : ((n == 0 || n == 1) && s.toList.isEmpty) = true := by simpa [rightV] using h
    rw [Bool.and_eq_true] at h
    exact Or.inr (Or.inr (Or.inl ⟨rfl, toList_empty h.2⟩))
  · have h : (n == 0 && decide ((s.size : Int) ≤ 60)) = true := by simpa [rightV] using h
    rw [Bool.and_eq_true, beq_iff_eq] at h
    exact Or.inr (Or.inr (Or.inr ⟨rfl, h.1, hs⟩))
theorem read_head (c : UInt8) (r : ByteArray) : readV (⟨#[c]⟩ ++ r) false = judged (seen c.toNat r) := by
  have h0 : 0 < (⟨#[c]⟩ ++ r : ByteArray).size := by
    rw [ByteArray.size_append]
    have : (⟨#[c]⟩ : ByteArray).size = 1 := rfl
    omega
  have hd := drop_app ⟨#[c]⟩ r
  unfold readV
  rw [if_neg (by simp), dif_pos h0, head_app c r h0]
  rw [show (⟨#[c]⟩ : ByteArray).size = 1 from rfl] at hd
  rw [hd]
theorem judged_good {a : V} {r : ByteArray} (h : rightV a = true) : judged (a, r, false) = (a, r, false) := by
  unfold judged
  rw [if_neg (by simp [h])]
theorem back (a : V) (m : ByteArray) (ho : a.Ok) (h : rightV a = true) : readV (printV a ++ m) false = (a, m, false) := by
  obtain ⟨k, n, s⟩ := a
  obtain ⟨_, _, h2, h3⟩ := ho
  simp only at h2 h3
  have hr := h
  rcases right_parts h with ⟨rfl, rfl, rfl⟩ | ⟨rfl, rfl⟩ | ⟨rfl, rfl⟩ | ⟨rfl, rfl, hs⟩
  · rw [printV_0, read_head]
    exact judged_good hr
  · obtain ⟨e1, e2, e3⟩ := num_enc n m h2 h3
    rw [printV_1, app_assoc, read_head]
    have : seen (1 : UInt8).toNat (encB (zig n) ++ m) = (⟨1, n, ⟨#[]⟩⟩, m, false) := by
      show (_, _, _) = _
      rw [e1, e2, e3]
      rfl
    rw [this]
    exact judged_good hr
  · obtain ⟨e1, e2, e3⟩ := num_enc n m h2 h3
    rw [printV_2, app_assoc, read_head]
    have : seen (2 : UInt8).toNat (encB (zig n) ++ m) = (⟨2, n, ⟨#[]⟩⟩, m, false) := by
      show (_, _, _) = _
      rw [e1, e2, e3]
      rfl
    rw [this]
    exact judged_good hr
  · obtain ⟨e1, e2, e3⟩ := text_enc s m 60 (by omega) (by omega)
    rw [printV_3, app_assoc, read_head]
    have : seen (3 : UInt8).toNat (txtB s ++ m) = (⟨3, 0, s⟩, m, false) := by
      show (_, _, _) = _
      rw [e1, e2, e3]
    rw [this]
    exact judged_good hr
end Go.Proofs.Ytocmkjccaajnnaa.Va
