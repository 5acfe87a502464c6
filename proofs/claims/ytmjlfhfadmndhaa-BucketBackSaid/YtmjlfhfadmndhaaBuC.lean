/- Entries in memory; whether two buckets are the same: the document's, walked. -/
import Derived.Test.YtmjlfhfadmndhaaBuB
import Derived.Test.YtmjlfhfadmndhaaLiA
import Derived.Test.YtmjlfhfadmndhaaPacF
namespace Go.Proofs.Ytmjlfhfadmndhaa.Bu
open Go.RowKit Pac Ls

/-- A variable of three cells. -/
structure Box3 (w : World) (g : Nat) (v0 v1 v2 : Value) : Prop where
  c0 : w.cell? ⟨g, 0, none⟩ = some v0
  c1 : w.cell? ⟨g, 1, none⟩ = some v1
  c2 : w.cell? ⟨g, 2, none⟩ = some v2
  f : ∀ i, w.frozen? ⟨g, i, none⟩ = false
theorem Box3.lt {w : World} {g : Nat} {v0 v1 v2 : Value} (h : Box3 w g v0 v1 v2) : g < w.heap.size := World.block_lt_of_cell? w _ h.c0
theorem Box3.bar {g g' : Nat} {w w' : World} {v0 v1 v2 : Value} (h : Box3 w g v0 v1 v2) (hb : Bar g' w w') (hne : g ≠ g') : Box3 w' g v0 v1 v2 :=
  ⟨(hb.cell h.lt hne).trans h.c0, (hb.cell h.lt hne).trans h.c1, (hb.cell h.lt hne).trans h.c2, fun i => (hb.frozen h.lt hne).trans (h.f i)⟩
theorem Box3.below {g B : Nat} {w w' : World} {v0 v1 v2 : Value} (h : Box3 w g v0 v1 v2) (hb : Below B w w') (hB : g < B) : Box3 w' g v0 v1 v2 :=
  ⟨(hb.cell (p := ⟨g, 0, none⟩) hB).trans h.c0, (hb.cell (p := ⟨g, 1, none⟩) hB).trans h.c1, (hb.cell (p := ⟨g, 2, none⟩) hB).trans h.c2, fun i => (hb.frozen (p := ⟨g, i, none⟩) hB).trans (h.f i)⟩
theorem Box3.new (w : World) (v0 v1 v2 : Value) (t : TypeId) : Box3 (w.alloc (.cells #[v0, v1, v2] t)) w.heap.size v0 v1 v2 := by
  constructor <;> simp [go_sem]
theorem Box3.alloc {g : Nat} {w : World} {v0 v1 v2 : Value} (h : Box3 w g v0 v1 v2) (o : Obj) : Box3 (w.alloc o) g v0 v1 v2 :=
  h.below ((Below.refl (g + 1) w).alloc h.lt o) (by omega)

theorem Box3.drew {g : Nat} {w : World} {v0 v1 v2 : Value} (h : Box3 w g v0 v1 v2) : Box3 w.drew g v0 v1 v2 := h.below ((Below.refl (g + 1) w).drew) (by omega)
theorem Box3.setOther {w : World} {g : Nat} {v0 v1 v2 : Value} (h : Box3 w g v0 v1 v2) {p : Addr} (hp : p.block ≠ g) (u : Value) : Box3 (w.setCell p u) g v0 v1 v2 := by
  have o : ∀ i, (w.setCell p u).cell? ⟨g, i, none⟩ = w.cell? ⟨g, i, none⟩ := fun i => World.cell?_setCell_other w _ _ u (fun e => hp (by rw [e]))
  exact ⟨(o 0).trans h.c0, (o 1).trans h.c1, (o 2).trans h.c2, fun i => by simp [h.f]⟩
theorem Box3.set0 {w : World} {g : Nat} {v0 v1 v2 : Value} (h : Box3 w g v0 v1 v2) (u : Value) : Box3 (w.setCell ⟨g, 0, none⟩ u) g u v1 v2 :=
  ⟨World.cell?_setCell_same _ _ _ h.c0, (World.cell?_setCell_other w _ _ u (fun e => by injection e with e1 e2; exact absurd e2 (by decide))).trans h.c1, (World.cell?_setCell_other w _ _ u (fun e => by injection e with e1 e2; exact absurd e2 (by decide))).trans h.c2, fun i => by simp [h.f]⟩
theorem Box3.set1 {w : World} {g : Nat} {v0 v1 v2 : Value} (h : Box3 w g v0 v1 v2) (u : Value) : Box3 (w.setCell ⟨g, 1, none⟩ u) g v0 u v2 :=
  ⟨(World.cell?_setCell_other w _ _ u (fun e => by injection e with e1 e2; exact absurd e2 (by decide))).trans h.c0, World.cell?_setCell_same _ _ _ h.c1, (World.cell?_setCell_other w _ _ u (fun e => by injection e with e1 e2; exact absurd e2 (by decide))).trans h.c2, fun i => by simp [h.f]⟩
theorem Box3.set2 {w : World} {g : Nat} {v0 v1 v2 : Value} (h : Box3 w g v0 v1 v2) (u : Value) : Box3 (w.setCell ⟨g, 2, none⟩ u) g v0 v1 u :=
  ⟨(World.cell?_setCell_other w _ _ u (fun e => by injection e with e1 e2; exact absurd e2 (by decide))).trans h.c0, (World.cell?_setCell_other w _ _ u (fun e => by injection e with e1 e2; exact absurd e2 (by decide))).trans h.c1, World.cell?_setCell_same _ _ _ h.c2, fun i => by simp [h.f]⟩
def E.v (e : E) : Value := .agg #[.string e.key, .int .i64 e.t, .int .i64 e.s]
/-- The numbers are such as a machine's are; the key is not beyond what a machine may hold. -/
structure E.Ok (e : E) : Prop where
  k : e.key.size ≤ 9223372036854775807
  t0 : -9223372036854775808 ≤ e.t
  t1 : e.t ≤ 9223372036854775807
  s0 : -9223372036854775808 ≤ e.s
  s1 : e.s ≤ 9223372036854775807
def cellsE (e : E) : List Value := [.string e.key, .int .i64 e.t, .int .i64 e.s]
theorem cellsE_len (e : E) : (cellsE e).length = 3 := rfl
/-- The slice at A holds these entries. -/
abbrev HasE (w : World) (lo : Nat) (A : Option Addr) (l : List E) : Prop := Li.HasL cellsE 3 w lo A l
theorem HasE.at {w : World} {lo : Nat} {A : Option Addr} {l : List E} (h : HasE w lo A l) {q : Nat} {e : E} (hq : l[q]? = some e) :
    ∃ b o, A = some ⟨b, o, none⟩ ∧ lo ≤ b ∧ b < w.heap.size ∧ w.cell? ⟨b, o + q * 3, none⟩ = some (.string e.key) ∧ w.cell? ⟨b, o + q * 3 + 1, none⟩ = some (.int .i64 e.t) ∧ w.cell? ⟨b, o + q * 3 + 2, none⟩ = some (.int .i64 e.s) := by
  obtain ⟨b, o, hA, hlo, hlt, hc⟩ := h (fun e => by rw [e] at hq; simp at hq)
  exact ⟨b, o, hA, hlo, hlt, hc q e hq 0 _ rfl, hc q e hq 1 _ rfl, hc q e hq 2 _ rfl⟩
theorem infoE : (Try.prog.info? 30).map (fun i => (i.zero, i.size, i.bytes)) = some (some (.agg #[.string ⟨#[]⟩, .int .i64 0, .int .i64 0]), 3, 32) := by kernel_rfl
theorem info_parts {n : TypeId} {z : Option Value} {s b : Nat} (h : (Try.prog.info? n).map (fun i => (i.zero, i.size, i.bytes)) = some (z, s, b)) : ∃ i, Try.prog.info? n = some i ∧ i.zero = z ∧ i.size = s ∧ i.bytes = b := by
  obtain ⟨i, hi, h2⟩ := Option.map_eq_some_iff.1 h
  injection h2 with e1 e2
  injection e2 with e2 e3
  exact ⟨i, hi, e1, e2, e3⟩
theorem bytesV_iff {a b : ByteArray} : (a.toList == b.toList) = true ↔ a = b := by
  rw [beq_iff_eq, ByteArray.toList_eq, ByteArray.toList_eq]
  exact ⟨fun e => bytesEq e, fun e => by rw [e]⟩
theorem ne_at {l1 l2 : List E} {q : Nat} {a b : E} (h1 : l1[q]? = some a) (h2 : l2[q]? = some b) (h : ¬ a = b) : ¬ l1 = l2 := fun e => by
  rw [e, h2] at h1
  injection h1 with h1
  exact h h1.symm
def SamePost (l1 l2 : List E) (w : World) (e : Ending) (w' : World) : Prop := ∃ b : Bool, e = .returned (.bool b) ∧ (b = true ↔ l1 = l2) ∧ Below w.heap.size w w'
set_option maxRecDepth 20000 in
set_option maxHeartbeats 2000000 in
theorem refSame_any (A1 A2 : Option Addr) (p1 p2 : Nat) (l1 l2 : List E) (lo1 lo2 : Nat) (w : World) (ha : HasE w lo1 A1 l1) (hb : HasE w lo2 A2 l2) (hl1 : l1.length ≤ 9223372036854775807) (hl2 : l2.length ≤ 9223372036854775807) :
    Calls Try.prog 16 #[.slice A1 l1.length p1, .slice A2 l2.length p2] w (SamePost l1 l2 w) := by
  obtain ⟨m, hm⟩ : ∃ m, l1.length = m := ⟨_, rfl⟩
  obtain ⟨m2, hm2⟩ : ∃ m, l2.length = m := ⟨_, rfl⟩
  rw [hm] at hl1 ⊢
  rw [hm2] at hl2 ⊢
  have HA := Lib.hid ha
  have HB := Lib.hid hb
  have HM := Lib.hid hm
  have HM2 := Lib.hid hm2
  clear ha hb hm hm2
  go_enter Try.func16, Try.ntmps16
  by_cases hmm : m = m2
  · subst hmm
    go_wp2
    go_loopw [5] (fun i wr => ∃ q : Nat, q ≤ m ∧ i = .int .i64 q ∧ Hid (l1.take q = l2.take q) ∧ Below w.heap.size w wr) (fun i _ => m - (intOf i).toNat)
    case atStart => exact ⟨0, Nat.zero_le _, rfl, Lib.hid rfl, Below.refl _ w⟩
    case round =>
      obtain ⟨q, hq, rfl, hH, hB⟩ := hrel
      by_cases hlt : q < m
      · have hg1 : l1[q]? = some (l1[q]'(by rw [HM.out]; exact hlt)) := List.getElem?_eq_getElem _
        have hg2 : l2[q]? = some (l2[q]'(by rw [HM2.out]; exact hlt)) := List.getElem?_eq_getElem _
        obtain ⟨b1, o1, rfl, hlo1, hlb1, d0, d1, d2⟩ := HasE.at (HA.out.below hB (Nat.le_refl _)) hg1
        obtain ⟨b2, o2, rfl, hlo2, hlb2, e0, e1, e2⟩ := HasE.at (HB.out.below hB (Nat.le_refl _)) hg2
        generalize (l1[q]'(by rw [HM.out]; exact hlt)) = cA at hg1 d0 d1 d2
        generalize (l2[q]'(by rw [HM2.out]; exact hlt)) = cB at hg2 e0 e1 e2
        have HG1 := Lib.hid hg1
        have HG2 := Lib.hid hg2
        obtain ⟨k1, n1, s1⟩ := cA
        obtain ⟨k2, n2, s2⟩ := cB
        simp only at d0 d1 d2 e0 e1 e2
        have i1 : (q : Int) < (m : Int) := by omega
        have i0 : (0 : Int) ≤ (q : Int) := by omega
        clear hg1 hg2
        by_cases q1 : k1 = k2
        · subst q1
          by_cases q2 : n1 = n2
          · subst q2
            by_cases q3 : s1 = s2
            · subst q3
              go_wp2
              go_region
              go_wp2
              go_roundw
              case rel => exact ⟨q + 1, by omega, by go_num, Lib.hid (by rw [List.take_add_one, List.take_add_one, hH.out, HG1.out, HG2.out]), hB.drew⟩
              case measure => simp [intOf]; omega
            · have HQ : Hid (¬ l1 = l2) := Lib.hid (ne_at HG1.out HG2.out (fun e => by injection e with _ _ e; exact q3 e))
              go_wp2
              go_region
              go_wp2
              go_ret
              exact ⟨false, rfl, ⟨fun e => (by cases e), fun e => absurd e HQ.out⟩, hB.drew⟩
          · have HQ : Hid (¬ l1 = l2) := Lib.hid (ne_at HG1.out HG2.out (fun e => by injection e with _ e _; exact q2 e))
            go_wp2
            go_region
            go_wp2
            go_ret
            exact ⟨false, rfl, ⟨fun e => (by cases e), fun e => absurd e HQ.out⟩, hB.drew⟩
        · have q1' : ¬ k1.toList = k2.toList := fun e => q1 (bytesV_iff.1 (beq_iff_eq.2 e))
          have HQ : Hid (¬ l1 = l2) := Lib.hid (ne_at HG1.out HG2.out (fun e => by injection e with e _ _; exact q1 e))
          go_wp2
          go_region
          go_wp2
          go_ret
          exact ⟨false, rfl, ⟨fun e => (by cases e), fun e => absurd e HQ.out⟩, hB.drew⟩
      · obtain rfl : q = m := by omega
        go_wp2
        go_ret
        have h : l1 = l2 := by
          have h := hH.out
          rw [List.take_of_length_le (by rw [HM.out]; exact Nat.le_refl _), List.take_of_length_le (by rw [HM2.out]; exact Nat.le_refl _)] at h
          exact h
        exact ⟨true, rfl, ⟨fun _ => h, fun _ => rfl⟩, hB⟩
  · have HQ : Hid (¬ l1 = l2) := Lib.hid (fun e => hmm (by rw [← HM.out, ← HM2.out, e]))
    go_wp2
    go_ret
    exact ⟨false, rfl, ⟨fun e => (by cases e), fun e => absurd e HQ.out⟩, Below.refl _ w⟩
end Go.Proofs.Ytmjlfhfadmndhaa.Bu
