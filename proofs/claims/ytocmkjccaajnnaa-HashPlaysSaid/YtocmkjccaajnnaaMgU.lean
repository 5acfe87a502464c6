/- Texts BuC, BuD, BuE, BuF, BuG, one behind the other. -/
import Derived.Test.YtocmkjccaajnnaaMgS
import Derived.Test.YtocmkjccaajnnaaMgL
import Derived.Test.YtocmkjccaajnnaaMgP
import Derived.Deep.QuietTactic
import Derived.BigQuiet
/- Entries in memory; whether two buckets are the same: the document's, walked. -/
namespace Go.Proofs.Ytocmkjccaajnnaa.Bu
open Go.RowKit Pac Ls

/-- A variable of three cells. -/
structure Box3 (w : World) (g : Nat) (v0 v1 v2 : Value) : Prop where
  c0 : w.cell? ⟨g, 0, none⟩ = some v0
  c1 : w.cell? ⟨g, 1, none⟩ = some v1
  c2 : w.cell? ⟨g, 2, none⟩ = some v2
  f : ∀ i, w.frozen? ⟨g, i, none⟩ = false
theorem Box3.lt {w : World} {g : Nat} {v0 v1 v2 : Value} (h : Box3 w g v0 v1 v2) : g < w.heap.size := World.block_lt_of_cell? w _ h.c0
theorem Box3.bar {g g' : Nat} {w w' : World} {v0 v1 v2 : Value} (h : Box3 w g v0 v1 v2) (hb : Bar g' w w') (hne : g ≠ g') : Box3 w' g v0 v1 v2 :=
  ⟨(hb.cell h.lt hne).trans h.c0, (hb.cell h.lt hne).trans h.c1, (hb.cell h.lt hne).trans h.c2, fun i => (hb.frozen h.lt hne).trans (h.f i)⟩
theorem Box3.below {g B : Nat} {w w' : World} {v0 v1 v2 : Value} (h : Box3 w g v0 v1 v2) (hb : Below B w w') (hB : g < B) : Box3 w' g v0 v1 v2 :=
  ⟨(hb.cell (p := ⟨g, 0, none⟩) hB).trans h.c0, (hb.cell (p := ⟨g, 1, none⟩) hB).trans h.c1, (hb.cell (p := ⟨g, 2, none⟩) hB).trans h.c2, fun i => (hb.frozen (p := ⟨g, i, none⟩) hB).trans (h.f i)⟩
theorem Box3.new (w : World) (v0 v1 v2 : Value) (t : TypeId) : Box3 (w.alloc (.cells #[v0, v1, v2] t)) w.heap.size v0 v1 v2 := by
  constructor <;> simp [go_sem]
theorem Box3.alloc {g : Nat} {w : World} {v0 v1 v2 : Value} (h : Box3 w g v0 v1 v2) (o : Obj) : Box3 (w.alloc o) g v0 v1 v2 :=
  h.below ((Below.refl (g + 1) w).alloc h.lt o) (by omega)

theorem Box3.drew {g : Nat} {w : World} {v0 v1 v2 : Value} (h : Box3 w g v0 v1 v2) : Box3 w.drew g v0 v1 v2 := h.below ((Below.refl (g + 1) w).drew) (by omega)
theorem Box3.setOther {w : World} {g : Nat} {v0 v1 v2 : Value} (h : Box3 w g v0 v1 v2) {p : Addr} (hp : p.block ≠ g) (u : Value) : Box3 (w.setCell p u) g v0 v1 v2 := by
  have o : ∀ i, (w.setCell p u).cell? ⟨g, i, none⟩ = w.cell? ⟨g, i, none⟩ := fun i => World.cell?_setCell_other w _ _ u (fun e => hp (by rw [e]))
  exact ⟨(o 0).trans h.c0, (o 1).trans h.c1, (o 2).trans h.c2, fun i => by simp [h.f]⟩
theorem Box3.set0 {w : World} {g : Nat} {v0 v1 v2 : Value} (h : Box3 w g v0 v1 v2) (u : Value) : Box3 (w.setCell ⟨g, 0, none⟩ u) g u v1 v2 :=
  ⟨World.cell?_setCell_same _ _ _ h.c0, (World.cell?_setCell_other w _ _ u (fun e => by injection e with e1 e2; exact absurd e2 (by decide))).trans h.c1, (World.cell?_setCell_other w _ _ u (fun e => by injection e with e1 e2; exact absurd e2 (by decide))).trans h.c2, fun i => by simp [h.f]⟩
theorem Box3.set1 {w : World} {g : Nat} {v0 v1 v2 : Value} (h : Box3 w g v0 v1 v2) (u : Value) : Box3 (w.setCell ⟨g, 1, none⟩ u) g v0 u v2 :=
  ⟨(World.cell?_setCell_other w _ _ u (fun e => by injection e with e1 e2; exact absurd e2 (by decide))).trans h.c0, World.cell?_setCell_same _ _ _ h.c1, (World.cell?_setCell_other w _ _ u (fun e => by injection e with e1 e2; exact absurd e2 (by decide))).trans h.c2, fun i => by simp [h.f]⟩
theorem Box3.set2 {w : World} {g : Nat} {v0 v1 v2 : Value} (h : Box3 w g v0 v1 v2) (u : Value) : Box3 (w.setCell ⟨g, 2, none⟩ u) g v0 v1 u :=
  ⟨(World.cell?_setCell_other w _ _ u (fun e => by injection e with e1 e2; exact absurd e2 (by decide))).trans h.c0, (World.cell?_setCell_other w _ _ u (fun e => by injection e with e1 e2; exact absurd e2 (by decide))).trans h.c1, World.cell?_setCell_same _ _ _ h.c2, fun i => by simp [h.f]⟩
def E.v (e : E) : Value := .agg #[.string e.key, .int .i64 e.t, .int .i64 e.s]
/-- The numbers are such as a machine's are; the key is not beyond what a machine may hold. -/
structure E.Ok (e : E) : Prop where
  k : e.key.size ≤ 9223372036854775807
  t0 : -9223372036854775808 ≤ e.t
  t1 : e.t ≤ 9223372036854775807
  s0 : -9223372036854775808 ≤ e.s
  s1 : e.s ≤ 9223372036854775807
def cellsE (e : E) : List Value := [.string e.key, .int .i64 e.t, .int .i64 e.s]
theorem cellsE_len (e : E) : (cellsE e).length = 3 := rfl
/-- The slice at A holds these entries. -/
abbrev HasE (w : World) (lo : Nat) (A : Option Addr) (l : List E) : Prop := Li.HasL cellsE 3 w lo A l
theorem HasE.at {w : World} {lo : Nat} {A : Option Addr} {l : List E} (h : HasE w lo A l) {q : Nat} {e : E} (hq : l[q]? = some e) :
    ∃ b o, A = some ⟨b, o, none⟩ ∧ lo ≤ b ∧ b < w.heap.size ∧ w.cell? ⟨b, o + q * 3, none⟩ = some (.string e.key) ∧ w.cell? ⟨b, o + q * 3 + 1, none⟩ = some (.int .i64 e.t) ∧ w.cell? ⟨b, o + q * 3 + 2, none⟩ = some (.int .i64 e.s) := by
  obtain ⟨b, o, hA, hlo, hlt, hc⟩ := h (fun e => by rw [e] at hq; simp at hq)
  exact ⟨b, o, hA, hlo, hlt, hc q e hq 0 _ rfl, hc q e hq 1 _ rfl, hc q e hq 2 _ rfl⟩
theorem infoE : (Try.prog.info? 51).map (fun i => (i.zero, i.size, i.bytes)) = some (some (.agg #[.string ⟨#[]⟩, .int .i64 0, .int .i64 0]), 3, 32) := by kernel_rfl
theorem info_parts {n : TypeId} {z : Option Value} {s b : Nat} (h : (Try.prog.info? n).map (fun i => (i.zero, i.size, i.bytes)) = some (z, s, b)) : ∃ i, Try.prog.info? n = some i ∧ i.zero = z ∧ i.size = s ∧ i.bytes = b := by
  obtain ⟨i, hi, h2⟩ := Option.map_eq_some_iff.1 h
  injection h2 with e1 e2
  injection e2 with e2 e3
  exact ⟨i, hi, e1, e2, e3⟩
theorem bytesV_iff {a b : ByteArray} : (a.toList == b.toList) = true ↔ a = b := by
  rw [beq_iff_eq, ByteArray.toList_eq, ByteArray.toList_eq]
  exact ⟨fun e => bytesEq e, fun e => by rw [e]⟩
theorem ne_at {l1 l2 : List E} {q : Nat} {a b : E} (h1 : l1[q]? = some a) (h2 : l2[q]? = some b) (h : ¬ a = b) : ¬ l1 = l2 := fun e => by
  rw [e, h2] at h1
  injection h1 with h1
  exact h h1.symm
def SamePost (l1 l2 : List E) (w : World) (e : Ending) (w' : World) : Prop := ∃ b : Bool, e = .returned (.bool b) ∧ (b = true ↔ l1 = l2) ∧ Below w.heap.size w w'
set_option maxRecDepth 20000 in
set_option maxHeartbeats 2000000 in
theorem refSame_any (A1 A2 : Option Addr) (p1 p2 : Nat) (l1 l2 : List E) (lo1 lo2 : Nat) (w : World) (ha : HasE w lo1 A1 l1) (hb : HasE w lo2 A2 l2) (hl1 : l1.length ≤ 9223372036854775807) (hl2 : l2.length ≤ 9223372036854775807) :
    Calls Try.prog 38 #[.slice A1 l1.length p1, .slice A2 l2.length p2] w (SamePost l1 l2 w) := by
  obtain ⟨m, hm⟩ : ∃ m, l1.length = m := ⟨_, rfl⟩
  obtain ⟨m2, hm2⟩ : ∃ m, l2.length = m := ⟨_, rfl⟩
  rw [hm] at hl1 ⊢
  rw [hm2] at hl2 ⊢
  have HA := Lib.hid ha
  have HB := Lib.hid hb
  have HM := Lib.hid hm
  have HM2 := Lib.hid hm2
  clear ha hb hm hm2
  go_enter Try.func38, Try.ntmps38
  by_cases hmm : m = m2
  · subst hmm
    go_wp2
    go_loopw [5] (fun i wr => ∃ q : Nat, q ≤ m ∧ i = .int .i64 q ∧ Hid (l1.take q = l2.take q) ∧ Below w.heap.size w wr) (fun i _ => m - (intOf i).toNat)
    case atStart => exact ⟨0, Nat.zero_le _, rfl, Lib.hid rfl, Below.refl _ w⟩
    case round =>
      obtain ⟨q, hq, rfl, hH, hB⟩ := hrel
      by_cases hlt : q < m
      · have hg1 : l1[q]? = some (l1[q]'(by rw [HM.out]; exact hlt)) := List.getElem?_eq_getElem _
        have hg2 : l2[q]? = some (l2[q]'(by rw [HM2.out]; exact hlt)) := List.getElem?_eq_getElem _
        obtain ⟨b1, o1, rfl, hlo1, hlb1, d0, d1, d2⟩ := HasE.at (HA.out.below hB (Nat.le_refl _)) hg1
        obtain ⟨b2, o2, rfl, hlo2, hlb2, e0, e1, e2⟩ := HasE.at (HB.out.below hB (Nat.le_refl _)) hg2
        generalize (l1[q]'(by rw [HM.out]; exact hlt)) = cA at hg1 d0 d1 d2
        generalize (l2[q]'(by rw [HM2.out]; exact hlt)) = cB at hg2 e0 e1 e2
        have HG1 := Lib.hid hg1
        have HG2 := Lib.hid hg2
        obtain ⟨k1, n1, s1⟩ := cA
        obtain ⟨k2, n2, s2⟩ := cB
        simp only at d0 d1 d2 e0 e1 e2
        have i1 : (q : Int) < (m : Int) := by omega
        have i0 : (0 : Int) ≤ (q : Int) := by omega
        clear hg1 hg2
        by_cases q1 : k1 = k2
        · subst q1
          by_cases q2 : n1 = n2
          · subst q2
            by_cases q3 : s1 = s2
            · subst q3
              go_wp2
              go_region
              go_wp2
              go_roundw
              case rel => exact ⟨q + 1, by omega, by go_num, Lib.hid (by rw [List.take_add_one, List.take_add_one, hH.out, HG1.out, HG2.out]), hB.drew⟩
              case measure => simp [intOf]; omega
            · have HQ : Hid (¬ l1 = l2) := Lib.hid (ne_at HG1.out HG2.out (fun e => by injection e with _ _ e; exact q3 e))
              go_wp2
              go_region
              go_wp2
              go_ret
              exact ⟨false, rfl, ⟨fun e => (by cases e), fun e => absurd e HQ.out⟩, hB.drew⟩
          · have HQ : Hid (¬ l1 = l2) := Lib.hid (ne_at HG1.out HG2.out (fun e => by injection e with _ e _; exact q2 e))
            go_wp2
            go_region
            go_wp2
            go_ret
            exact ⟨false, rfl, ⟨fun e => (by cases e), fun e => absurd e HQ.out⟩, hB.drew⟩
        · have q1' : ¬ k1.toList = k2.toList := fun e => q1 (bytesV_iff.1 (beq_iff_eq.2 e))
          have HQ : Hid (¬ l1 = l2) := Lib.hid (ne_at HG1.out HG2.out (fun e => by injection e with e _ _; exact q1 e))
          go_wp2
          go_region
          go_wp2
          go_ret
          exact ⟨false, rfl, ⟨fun e => (by cases e), fun e => absurd e HQ.out⟩, hB.drew⟩
      · obtain rfl : q = m := by omega
        go_wp2
        go_ret
        have h : l1 = l2 := by
          have h := hH.out
          rw [List.take_of_length_le (by rw [HM.out]; exact Nat.le_refl _), List.take_of_length_le (by rw [HM2.out]; exact Nat.le_refl _)] at h
          exact h
        exact ⟨true, rfl, ⟨fun _ => h, fun _ => rfl⟩, hB⟩
  · have HQ : Hid (¬ l1 = l2) := Lib.hid (fun e => hmm (by rw [← HM.out, ← HM2.out, e]))
    go_wp2
    go_ret
    exact ⟨false, rfl, ⟨fun e => (by cases e), fun e => absurd e HQ.out⟩, Below.refl _ w⟩
end Go.Proofs.Ytocmkjccaajnnaa.Bu

/- Buckets: the document's Find, Drop, Put, walked. -/
namespace Go.Proofs.Ytocmkjccaajnnaa.Bu
open Go.RowKit Pac Ls

def placeV : Option E → Value
  | some e => .agg #[.int .i64 e.t, .int .i64 e.s]
  | none => .agg #[.int .i64 0, .int .i64 0]
def FindPost (o : Option E) (w : World) (e : Ending) (w' : World) : Prop := e = .returned (.tuple #[placeV o, .bool o.isSome]) ∧ Below w.heap.size w w'
def PutPost (l : List E) (w : World) (e : Ending) (w' : World) : Prop := ∃ (A : Option Addr) (n cp : Nat), e = .returned (.slice A n cp) ∧ l.length = n ∧ n ≤ cp ∧ HasE w' w.heap.size A l ∧ Below w.heap.size w w'
theorem put_post {l : List E} {w w0 w' : World} {sv : Value} {n : Nat} (hown : w'.ownsRow w0.heap.size 51 3 sv n (Li.cellsL cellsE l)) (hn : l.length = n) (h0 : w.heap.size ≤ w0.heap.size) (hB : Below w.heap.size w w') : PutPost l w (.returned sv) w' := by
  obtain ⟨A, c, rfl, hc, hl⟩ := Li.list_of_own cellsE_len hown hn
  exact ⟨A, n, c, rfl, hn, hc, hl.lower h0, hB⟩
theorem results_place {fn : Func} {p q : Tmp} (h : fn.results = #[.cell p 30, .tmp q]) (tmps : Array Value) (w : World) (g : Nat) (v0 v1 : Value)
    (hp : tmps.getD p undef = .pointer (some ⟨g, 0, none⟩)) (c0 : w.cell? ⟨g, 0, none⟩ = some v0) (c1 : w.cell? ⟨g, 1, none⟩ = some v1) :
    (results fn tmps).run Try.prog w = .ok (.tuple #[.agg #[v0, v1], tmps.getD q undef]) w := by
  have hp' : tmps[p]?.getD undef = .pointer (some ⟨g, 0, none⟩) := by simpa using hp
  clear hp
  simp only [results, h]
  go_simp
theorem find_first : ∀ {l : List E} {q : Nat} {e : E} {k : List UInt8}, l[q]? = some e → e.k = k → (∀ x ∈ l.take q, x.k ≠ k) → findL l k = some e
  | [], _, _, _, h, _, _ => by simp at h
  | x :: l, 0, e, k, h, hk, _ => by
    have h : x = e := by simpa using h
    subst h
    unfold findL
    rw [if_pos hk]
  | x :: l, q + 1, e, k, h, hk, hn => by
    have h : l[q]? = some e := by simpa using h
    unfold findL
    rw [if_neg (hn x (by simp))]
    exact find_first h hk fun y hy => hn y (by rw [List.take_succ_cons]; exact List.mem_cons_of_mem _ hy)
theorem put_all : ∀ {l : List E} {e : E}, (∀ x ∈ l, lt x.k e.k) → putL l e = l ++ [e]
  | [], _, _ => rfl
  | x :: l, e, h => by
    unfold putL
    rw [if_pos (h x List.mem_cons_self), put_all fun y hy => h y (List.mem_cons_of_mem _ hy)]
    rfl
theorem put_eq : ∀ {l : List E} {e x : E}, (∀ y ∈ l, lt y.k e.k) → x.k = e.k → putL (l ++ [x]) e = l ++ [e]
  | [], e, x, _, hx => by
    show putL [x] e = [e]
    unfold putL
    rw [if_neg (by rw [hx]; exact lt_irrefl _), if_pos hx]
  | y :: l, e, x, h, hx => by
    show putL (y :: (l ++ [x])) e = y :: (l ++ [e])
    unfold putL
    rw [if_pos (h y List.mem_cons_self), put_eq (fun z hz => h z (List.mem_cons_of_mem _ hz)) hx]
theorem put_gt : ∀ {l : List E} {e x : E}, (∀ y ∈ l, lt y.k e.k) → lt e.k x.k → putL (l ++ [x]) e = l ++ [e] ++ [x]
  | [], e, x, _, hx => by
    show putL [x] e = [e, x]
    unfold putL
    rw [if_neg (lt_asymm hx), if_neg (fun h => lt_ne hx h.symm)]
  | y :: l, e, x, h, hx => by
    show putL (y :: (l ++ [x])) e = y :: (l ++ [e] ++ [x])
    unfold putL
    rw [if_pos (h y List.mem_cons_self), put_gt (fun z hz => h z (List.mem_cons_of_mem _ hz)) hx]
theorem put_snoc : ∀ {l : List E} {e x : E}, (∃ y ∈ l, ¬ lt y.k e.k) → lt e.k x.k → putL (l ++ [x]) e = putL l e ++ [x]
  | [], _, _, h, _ => by obtain ⟨y, hy, _⟩ := h; simp at hy
  | y :: l, e, x, h, hx => by
    show putL (y :: (l ++ [x])) e = putL (y :: l) e ++ [x]
    unfold putL
    by_cases h1 : lt y.k e.k
    · rw [if_pos h1, if_pos h1, put_snoc (l := l) (by
        obtain ⟨z, hz, hz2⟩ := h
        rcases List.mem_cons.1 hz with rfl | hz
        · exact absurd h1 hz2
        · exact ⟨z, hz, hz2⟩) hx]
      rfl
    · rw [if_neg h1, if_neg h1]
      by_cases h2 : y.k = e.k
      · rw [if_pos h2, if_pos h2]
        rfl
      · rw [if_neg h2, if_neg h2]
        rfl
theorem drop_snoc (l : List E) (x : E) (k : List UInt8) : dropL (l ++ [x]) k = if x.k = k then dropL l k else dropL l k ++ [x] := by
  unfold dropL
  rw [List.filter_append]
  by_cases h : x.k = k
  · rw [if_pos h, List.filter_cons_of_neg (by simpa using h)]
    simp
  · rw [if_neg h, List.filter_cons_of_pos (by simpa using h)]
    simp
theorem key_list (a : ByteArray) : a.toList = a.data.toList := ByteArray.toList_eq a
theorem key_beq {a b : ByteArray} : (a.toList == b.toList) = decide (a.data.toList = b.data.toList) := by
  rw [key_list, key_list, Bool.eq_iff_iff, beq_iff_eq, decide_eq_true_iff]
end Go.Proofs.Ytocmkjccaajnnaa.Bu

/- Buckets: the document's Find and Drop, walked. -/
namespace Go.Proofs.Ytocmkjccaajnnaa.Bu
open Go.RowKit Pac Ls

section
variable {A : Option Addr} {n cp : Nat} {l : List E} {w : World}
set_option maxRecDepth 20000 in
set_option maxHeartbeats 3200000 in
theorem refFind_any (k : ByteArray) (hl : HasE w 0 A l) (hn : l.length = n) (h9 : n ≤ 100000) :
    Calls Try.prog 37 #[.slice A n cp, .string k] w (FindPost (findL l k.data.toList) w) := by
  have hP := fun (e : E) (W : World) (h : findL l k.data.toList = some e) (hB : Below w.heap.size w W) => (show FindPost (findL l k.data.toList) w (.returned (.tuple #[.agg #[.int .i64 e.t, .int .i64 e.s], .bool true])) W from by rw [h]; exact ⟨rfl, hB⟩)
  have hN := fun (W : World) (h : findL l k.data.toList = none) (hB : Below w.heap.size w W) => (show FindPost (findL l k.data.toList) w (.returned (.tuple #[.agg #[.int .i64 0, .int .i64 0], .bool false])) W from by rw [h]; exact ⟨rfl, hB⟩)
  generalize FindPost (findL l k.data.toList) w = post at hP hN ⊢
  have HP := Lib.hid hP
  have HN := Lib.hid hN
  have hb := (Below.refl w.heap.size w).alloc (Nat.le_refl _) (.cells #[.int .i64 0, .int .i64 0] 30)
  have hx := Box2.new w (.int .i64 0) (.int .i64 0) 30
  have HL := Lib.hid (And.intro (hl.below hb (Nat.le_refl _)) hn)
  clear hP hN hl hn
  go_enter Try.func37, Try.ntmps37
  go_wp2
  generalize w.alloc (.cells #[.int .i64 0, .int .i64 0] 30) = w1 at hb hx HL ⊢
  generalize w.heap.size = g at hb hx HP HN ⊢
  go_loopw [6] (fun i wr => ∃ q : Nat, q ≤ n ∧ i = .int .i64 q ∧ Hid (∀ x ∈ l.take q, x.k ≠ k.data.toList) ∧ w1 = wr) (fun i _ => n - (intOf i).toNat)
  case atStart => exact ⟨0, Nat.zero_le _, rfl, Lib.hid (fun x hx => by simp at hx), rfl⟩
  case round =>
    obtain ⟨q, hq, rfl, hH, rfl⟩ := hrel
    by_cases hlt : q < n
    · have hg := List.getElem?_eq_getElem (l := l) (i := q) (by rw [HL.out.2]; exact hlt)
      generalize (l[q]'(by rw [HL.out.2]; exact hlt)) = e at hg
      obtain ⟨b, o, rfl, _, hlb, d0, d1, d2⟩ := HasE.at HL.out.1 hg
      have HG := Lib.hid hg
      obtain ⟨ek, et, es⟩ := e
      simp only at d0 d1 d2
      have i1 : (q : Int) < (n : Int) := by omega
      have i0 : (0 : Int) ≤ (q : Int) := by omega
      clear hg
      by_cases hk : ek.data.toList = k.data.toList
      · have hbk : (ek.toList == k.toList) = true := by rw [key_beq]; exact decide_eq_true hk
        have HE := Lib.hid (HP.out ⟨ek, et, es⟩ ((w1.setCell ⟨g, 0, none⟩ (.int .i64 et)).setCell ⟨g, 1, none⟩ (.int .i64 es)) (find_first HG.out hk hH.out) ((hb.setCell (p := ⟨g, 0, none⟩) (Nat.le_refl _) _).setCell (p := ⟨g, 1, none⟩) (Nat.le_refl _) _))
        have c0 := hx.c0
        have c1 := hx.c1
        have cf := hx.f
        have hx2 := (hx.set0 (.int .i64 et)).set1 (.int .i64 es)
        clear hk
        go_wp2
        refine bodyPost_ret (results_place rfl _ _ g _ _ rfl hx2.c0 hx2.c1) rfl ?_
        exact HE.out
      · have hbk : (ek.toList == k.toList) = false := by rw [key_beq]; exact decide_eq_false hk
        have HH : Hid (∀ x ∈ l.take (q + 1), x.k ≠ k.data.toList) := Lib.hid (by
          rw [List.take_add_one, HG.out]
          intro x hx
          rcases List.mem_append.1 hx with hx | hx
          · exact hH.out x hx
          · have : x = ⟨ek, et, es⟩ := by simpa using hx
            subst this
            exact hk)
        clear hk
        go_wp2
        go_roundw
        case rel => exact ⟨q + 1, by omega, by go_num, HH, by trivial⟩
        case measure => simp [intOf]; omega
    · obtain rfl : q = n := by omega
      have hnone : findL l k.data.toList = none := find_none.2 fun x hx => hH.out x (by rw [List.take_of_length_le (by rw [HL.out.2]; exact Nat.le_refl _)]; exact hx)
      have HE := Lib.hid (HN.out ((w1.setCell ⟨g, 0, none⟩ (.int .i64 0)).setCell ⟨g, 1, none⟩ (.int .i64 0)) hnone ((hb.setCell (p := ⟨g, 0, none⟩) (Nat.le_refl _) _).setCell (p := ⟨g, 1, none⟩) (Nat.le_refl _) _))
      have c0 := hx.c0
      have c1 := hx.c1
      have cf := hx.f
      have hx2 := (hx.set0 (.int .i64 0)).set1 (.int .i64 0)
      go_wp2
      refine bodyPost_ret (results_place rfl _ _ g _ _ rfl hx2.c0 hx2.c1) rfl ?_
      exact HE.out
set_option maxRecDepth 20000 in
set_option maxHeartbeats 3200000 in
theorem refDrop_any (k : ByteArray) (lo : Nat) (hl : HasE w lo A l) (hn : l.length = n) (h9 : n ≤ 100000) :
    Calls Try.prog 34 #[.slice A n cp, .string k] w (PutPost (dropL l k.data.toList) w) := by
  obtain ⟨iE, hiE, hv0, hv1, hv2⟩ := info_parts infoE
  have HP := Lib.hid (fun (sv : Value) (m : Nat) (W : World) (hown : W.ownsRow w.heap.size 51 3 sv m (Li.cellsL cellsE (dropL l k.data.toList))) (hm : (dropL l k.data.toList).length = m) (hB : Below w.heap.size w W) => put_post hown hm (Nat.le_refl _) hB)
  generalize PutPost (dropL l k.data.toList) w = post at HP ⊢
  have HL := Lib.hid (And.intro hl hn)
  clear hl hn
  go_enter Try.func34, Try.ntmps34
  go_wp2
  go_loopw [5, 6] (fun x i wr => ∃ (q m : Nat) (sv : Value), q ≤ n ∧ m ≤ q ∧ i = .int .i64 q ∧ x = sv ∧ wr.ownsRow w.heap.size 51 3 sv m (Li.cellsL cellsE (dropL (l.take q) k.data.toList)) ∧ Hid ((dropL (l.take q) k.data.toList).length = m) ∧ Below w.heap.size w wr) (fun _ i _ => n - (intOf i).toNat)
  case atStart => exact ⟨0, 0, _, Nat.zero_le _, Nat.le_refl _, rfl, rfl, by simpa [Li.cellsL, dropL] using World.ownsRow_nil _ _ _ _, Lib.hid (by simp [dropL]), Below.refl _ _⟩
  case round =>
    obtain ⟨q, m, sv, hq, hmq, rfl, rfl, hown, hM, hB⟩ := hrel
    by_cases hlt : q < n
    · have hg := List.getElem?_eq_getElem (l := l) (i := q) (by rw [HL.out.2]; exact hlt)
      generalize (l[q]'(by rw [HL.out.2]; exact hlt)) = e at hg
      obtain ⟨b, o, rfl, _, hlb, d0, d1, d2⟩ := HasE.at (HL.out.1.below hB (Nat.le_refl _)) hg
      have HTK : Hid (l.take (q + 1) = l.take q ++ [e]) := Lib.hid (by rw [List.take_add_one, hg]; rfl)
      obtain ⟨ek, et, es⟩ := e
      simp only at d0 d1 d2
      have i1 : (q : Int) < (n : Int) := by omega
      have i0 : (0 : Int) ≤ (q : Int) := by omega
      clear hg
      by_cases hk : ek.data.toList = k.data.toList
      · have hbk : (ek.toList == k.toList) = true := by rw [key_beq]; exact decide_eq_true hk
        have HD : Hid (dropL (l.take (q + 1)) k.data.toList = dropL (l.take q) k.data.toList) := Lib.hid (by rw [HTK.out, drop_snoc, if_pos (show (⟨ek, et, es⟩ : E).k = k.data.toList from hk)])
        clear hk
        go_wp2
        go_roundw
        case rel => exact ⟨q + 1, m, _, by omega, by omega, by go_num, rfl, by rw [HD.out]; exact hown, Lib.hid (by rw [HD.out]; exact hM.out), hB⟩
        case measure => simp [intOf]; omega
      · have hbk : (ek.toList == k.toList) = false := by rw [key_beq]; exact decide_eq_false hk
        have HD : Hid (dropL (l.take (q + 1)) k.data.toList = dropL (l.take q) k.data.toList ++ [⟨ek, et, es⟩]) := Lib.hid (by rw [HTK.out, drop_snoc, if_neg (show ¬ (⟨ek, et, es⟩ : E).k = k.data.toList from hk)])
        have HW := Lib.hid (And.intro (hown.alloc (.cells #[.string ek, .int .i64 et, .int .i64 es] 51)) (And.intro (hB.alloc hB.size (.cells #[.string ek, .int .i64 et, .int .i64 es] 51)) (heap_alloc_new wr (.cells #[.string ek, .int .i64 et, .int .i64 es] 51))))
        clear hk hown hB
        go_wp2_with (at_builtin; go_must (refine wpList_append_own _ rfl _ _ 42 rfl w.heap.size 51 iE (.agg #[.string ⟨#[]⟩, .int .i64 0, .int .i64 0]) 3 32 Try.underlying42 hiE hv0 hv1 hv2 rfl (by decide) u5 m (Li.cellsL cellsE (dropL (l.take q) k.data.toList)) rfl HW.out.1 ⟨wr.heap.size, 0, none⟩ 1 1 [.string ek, .int .i64 et, .int .i64 es] (by go_simp) rfl (World.news_of_block HW.out.2.2) (by simp [Value.oneCell']) (by unfold maxLen; omega) (by omega) HW.out.2.1.size ?_))
        intro v5 y5 hown5 hgrow5 _
        obtain ⟨hownW, hbW, hnW⟩ := HW.out
        have hB5 := hbW.grown hgrow5 hbW.size (fun k hk => (hownW.lt k hk).1)
        clear hownW hbW hnW hgrow5 HW d0 d1 d2
        go_wp2
        go_roundw
        case rel =>
          refine ⟨q + 1, m + 1, _, by omega, by omega, by go_num, rfl, ?_, Lib.hid (by rw [HD.out, List.length_append, hM.out]; rfl), hB5⟩
          rw [HD.out, Li.cellsL_snoc]
          exact hown5
        case measure => simp [intOf]; omega
    · obtain rfl : q = n := by omega
      rw [List.take_of_length_le (by rw [HL.out.2]; exact Nat.le_refl _)] at hown hM
      have HE := Lib.hid (HP.out _ m wr hown hM.out hB)
      clear hown hM
      go_wp2
      exact HE.out
end
end Go.Proofs.Ytocmkjccaajnnaa.Bu

/- Buckets: the document's Put, walked. -/
namespace Go.Proofs.Ytocmkjccaajnnaa.Bu
open Go.RowKit Pac Ls

/-- What Put has behind q entries of rising keys. -/
def outL (l : List E) (e : E) (q : Nat) : Bool → List E
  | false => l.take q
  | true => putL (l.take q) e
/-- All before are less, or one isn't. -/
def DoneP (l : List E) (e : E) (q : Nat) : Bool → Prop
  | false => ∀ x ∈ l.take q, lt x.k e.k
  | true => ∃ x ∈ l.take q, ¬ lt x.k e.k
theorem take_snoc {l : List E} {q : Nat} {x : E} (h : l[q]? = some x) : l.take (q + 1) = l.take q ++ [x] := by rw [List.take_add_one, h]; rfl
theorem mem_snoc {l : List E} {q : Nat} {x : E} (h : l[q]? = some x) : x ∈ l.take (q + 1) := by rw [take_snoc h]; simp
/-- Behind one that isn't less all are greater. -/
theorem rises_gt {l : List E} {e x : E} {q : Nat} (hr : Rises l) (hx : l[q]? = some x) (h : ∃ y ∈ l.take q, ¬ lt y.k e.k) : lt e.k x.k := by
  obtain ⟨y, hy, hn⟩ := h
  have h1 : lt y.k x.k := by
    have h2 : (l.take (q + 1)).Pairwise (fun x y => lt x.k y.k) := hr.sublist (List.take_sublist _ _)
    rw [take_snoc hx, List.pairwise_append] at h2
    exact h2.2.2 y hy x (by simp)
  rcases lt_total y.k e.k with h3 | h3 | h3
  · exact absurd h3 hn
  · rw [← h3]; exact h1
  · exact lt_trans h3 h1
theorem out_less {l : List E} {e x : E} {q : Nat} (hx : l[q]? = some x) (hd : DoneP l e q false) (h : lt x.k e.k) : outL l e (q + 1) false = outL l e q false ++ [x] ∧ DoneP l e (q + 1) false := by
  refine ⟨take_snoc hx, fun y hy => ?_⟩
  rw [take_snoc hx] at hy
  rcases List.mem_append.1 hy with hy | hy
  · exact hd y hy
  · have : y = x := by simpa using hy
    subst this
    exact h
theorem out_eq {l : List E} {e x : E} {q : Nat} (hx : l[q]? = some x) (hd : DoneP l e q false) (h : x.k = e.k) : outL l e (q + 1) true = outL l e q false ++ [e] ∧ DoneP l e (q + 1) true := by
  refine ⟨?_, x, mem_snoc hx, by rw [h]; exact lt_irrefl _⟩
  show putL (l.take (q + 1)) e = l.take q ++ [e]
  rw [take_snoc hx]
  exact put_eq hd h
theorem out_gt {l : List E} {e x : E} {q : Nat} (hx : l[q]? = some x) (hd : DoneP l e q false) (h : lt e.k x.k) : outL l e (q + 1) true = outL l e q false ++ [e] ++ [x] ∧ DoneP l e (q + 1) true := by
  refine ⟨?_, x, mem_snoc hx, lt_asymm h⟩
  show putL (l.take (q + 1)) e = l.take q ++ [e] ++ [x]
  rw [take_snoc hx]
  exact put_gt hd h
theorem out_done {l : List E} {e x : E} {q : Nat} (hr : Rises l) (hx : l[q]? = some x) (hd : DoneP l e q true) : lt e.k x.k ∧ outL l e (q + 1) true = outL l e q true ++ [x] ∧ DoneP l e (q + 1) true := by
  have h := rises_gt hr hx hd
  refine ⟨h, ?_, x, mem_snoc hx, lt_asymm h⟩
  show putL (l.take (q + 1)) e = putL (l.take q) e ++ [x]
  rw [take_snoc hx]
  exact put_snoc hd h
section
variable {A : Option Addr} {n cp : Nat} {l : List E} {w : World}
set_option maxRecDepth 20000 in
set_option maxHeartbeats 6400000 in
theorem refPut_any (e : E) (lo : Nat) (hl : HasE w lo A l) (hn : l.length = n) (h9 : n ≤ 100000) (hr : Rises l) :
    Calls Try.prog 32 #[.slice A n cp, e.v] w (PutPost (putL l e) w) := by
  obtain ⟨iE, hiE, hv0, hv1, hv2⟩ := info_parts infoE
  have hb := (Below.refl w.heap.size w).alloc (Nat.le_refl _) (.cells #[.string e.key, .int .i64 e.t, .int .i64 e.s] 51)
  have hx := Box3.new w (.string e.key) (.int .i64 e.t) (.int .i64 e.s) 51
  have HL := Lib.hid (And.intro (hl.below hb (Nat.le_refl _)) (And.intro hn hr))
  have h0 : w.heap.size ≤ (w.alloc (.cells #[.string e.key, .int .i64 e.t, .int .i64 e.s] 51)).heap.size := hb.size
  clear hl hn hr
  obtain ⟨ek, et, es⟩ := e
  unfold E.v
  simp only at hb hx h0 HL ⊢
  generalize he : (⟨ek, et, es⟩ : E) = e
  have hek : e.k = ek.data.toList := by rw [← he]; rfl
  have HP := Lib.hid (fun (sv : Value) (m : Nat) (W w1 : World) (hown : W.ownsRow w1.heap.size 51 3 sv m (Li.cellsL cellsE (putL l e))) (hm : (putL l e).length = m) (h1 : w.heap.size ≤ w1.heap.size) (hB : Below w.heap.size w W) => put_post hown hm h1 hB)
  generalize PutPost (putL l e) w = post at HP ⊢
  have HE := Lib.hid (And.intro he hek)
  clear he hek
  go_enter Try.func32, Try.ntmps32
  go_wp2
  generalize w.alloc (.cells #[.string ek, .int .i64 et, .int .i64 es] 51) = w1 at hb hx h0 HL ⊢
  have hxl : w.heap.size < w1.heap.size := hx.lt
  generalize hg : w.heap.size = g at hx hxl ⊢
  have HG0 := Lib.hid hg
  clear hg
  go_loopw [5, 6, 7] (fun x d i wr => ∃ (q m : Nat) (dn : Bool) (sv : Value), q ≤ n ∧ m ≤ q + 1 ∧ i = .int .i64 q ∧ x = sv ∧ d = .bool dn ∧ wr.ownsRow w1.heap.size 51 3 sv m (Li.cellsL cellsE (outL l e q dn)) ∧ Hid ((outL l e q dn).length = m) ∧ Hid (DoneP l e q dn) ∧ Below w1.heap.size w1 wr) (fun _ _ i _ => n - (intOf i).toNat)
  case atStart => exact ⟨0, 0, false, _, Nat.zero_le _, by omega, rfl, rfl, rfl, by simpa [Li.cellsL, outL] using World.ownsRow_nil _ _ _ _, Lib.hid (by simp [outL]), Lib.hid (fun x hx => by simp at hx), Below.refl _ _⟩
  case round =>
    obtain ⟨q, m, dn, sv, hq, hmq, rfl, rfl, rfl, hown, hM, hD, hB⟩ := hrel
    have hxq := hx.below hB hxl
    by_cases hlt : q < n
    · have hgt := List.getElem?_eq_getElem (l := l) (i := q) (by rw [HL.out.2.1]; exact hlt)
      generalize (l[q]'(by rw [HL.out.2.1]; exact hlt)) = x at hgt
      obtain ⟨b, o, rfl, _, hlb, D0, D1, D2⟩ := HasE.at HL.out.1 hgt
      have HGT := Lib.hid hgt
      generalize hx0 : x = x' at HGT
      obtain ⟨xk, xt, xs⟩ := x
      simp only at D0 D1 D2
      have HD0 := Lib.hid (And.intro D0 (And.intro D1 D2))
      clear D0 D1 D2
      have d0 := (hB.cell (p := ⟨b, o + q * 3, none⟩) hlb).trans HD0.out.1
      have d1 := (hB.cell (p := ⟨b, o + q * 3 + 1, none⟩) hlb).trans HD0.out.2.1
      have d2 := (hB.cell (p := ⟨b, o + q * 3 + 2, none⟩) hlb).trans HD0.out.2.2
      have hxk : x'.k = xk.data.toList := by rw [← hx0]; rfl
      have i1 : (q : Int) < (n : Int) := by omega
      have i0 : (0 : Int) ≤ (q : Int) := by omega
      have x0 := hxq.c0
      have x1 := hxq.c1
      have x2 := hxq.c2
      clear hgt
      cases dn with
      | true =>
        obtain ⟨hlt2, hO, hD2⟩ := out_done HL.out.2.2 HGT.out hD.out
        have hne : (xk.toList == ek.toList) = false := by
          rw [key_beq]
          exact decide_eq_false (fun h => lt_ne hlt2 (by rw [HE.out.2, hxk, h]))
        have HO := Lib.hid (And.intro hO hD2)
        clear hlt2 hO hD2 hxk
        go_wp2
        go_region
        go_wp2
        go_region
        have hown2 := Li.own_below hown (Below.refl wr.heap.size wr).drew.drew (Nat.le_refl _)
        have hB2 := hB.drew.drew
        clear hown hB
        have HW := Lib.hid (And.intro (hown2.alloc (.cells #[.string xk, .int .i64 xt, .int .i64 xs] 51)) (And.intro (hB2.alloc hB2.size (.cells #[.string xk, .int .i64 xt, .int .i64 xs] 51)) (heap_alloc_new wr.drew.drew (.cells #[.string xk, .int .i64 xt, .int .i64 xs] 51))))
        clear hown2 hB2
        go_wp2_with (at_builtin; go_must (refine wpList_append_own _ rfl _ _ 42 rfl w1.heap.size 51 iE (.agg #[.string ⟨#[]⟩, .int .i64 0, .int .i64 0]) 3 32 Try.underlying42 hiE hv0 hv1 hv2 rfl (by decide) u5 m (Li.cellsL cellsE (outL l e q true)) rfl HW.out.1 ⟨wr.drew.drew.heap.size, 0, none⟩ 1 1 [.string xk, .int .i64 xt, .int .i64 xs] (by go_simp) rfl (World.news_of_block HW.out.2.2) (by simp [Value.oneCell']) (by unfold maxLen; omega) (by omega) HW.out.2.1.size ?_))
        intro v5 y5 howny5 hgrow _
        obtain ⟨hownW, hbW, hnW⟩ := HW.out
        have hBy5 := hbW.grown hgrow hbW.size (fun k hk => (hownW.lt k hk).1)
        clear hownW hbW hnW hgrow HW
        go_wp2
        go_roundw
        case rel =>
          refine ⟨q + 1, m + 1, true, _, by omega, by omega, by go_num, rfl, rfl, ?_, Lib.hid (by rw [HO.out.1, List.length_append, hM.out]; rfl), Lib.hid HO.out.2, hBy5⟩
          rw [HO.out.1, Li.cellsL_snoc, ← hx0]
          exact howny5
        case measure => simp [intOf]; omega
      | false =>
        have hmq2 : m ≤ q := by
          rw [← hM.out]
          show (l.take q).length ≤ q
          exact List.length_take_le q l
        rcases lt_total x'.k e.k with h | h | h
        · obtain ⟨hO, hD2⟩ := out_less HGT.out hD.out h
          have hge : Op.bytesLess xk.toList ek.toList = true := by rw [key_list, key_list, ← hxk, ← HE.out.2]; exact h
          have hne : (xk.toList == ek.toList) = false := by
            rw [key_beq]
            exact decide_eq_false (fun h2 => lt_ne h (by rw [HE.out.2, hxk, h2]))
          have HO := Lib.hid (And.intro hO hD2)
          clear h hO hD2 hxk
          go_wp2
          go_region
          go_wp2
          go_region
          have hown2 := Li.own_below hown (Below.refl wr.heap.size wr).drew.drew (Nat.le_refl _)
          have hB2 := hB.drew.drew
          clear hown hB
          have HW := Lib.hid (And.intro (hown2.alloc (.cells #[.string xk, .int .i64 xt, .int .i64 xs] 51)) (And.intro (hB2.alloc hB2.size (.cells #[.string xk, .int .i64 xt, .int .i64 xs] 51)) (heap_alloc_new wr.drew.drew (.cells #[.string xk, .int .i64 xt, .int .i64 xs] 51))))
          clear hown2 hB2
          go_wp2_with (at_builtin; go_must (refine wpList_append_own _ rfl _ _ 42 rfl w1.heap.size 51 iE (.agg #[.string ⟨#[]⟩, .int .i64 0, .int .i64 0]) 3 32 Try.underlying42 hiE hv0 hv1 hv2 rfl (by decide) u5 m (Li.cellsL cellsE (outL l e q false)) rfl HW.out.1 ⟨wr.drew.drew.heap.size, 0, none⟩ 1 1 [.string xk, .int .i64 xt, .int .i64 xs] (by go_simp) rfl (World.news_of_block HW.out.2.2) (by simp [Value.oneCell']) (by unfold maxLen; omega) (by omega) HW.out.2.1.size ?_))
          intro v5 y5 howny5 hgrow _
          obtain ⟨hownW, hbW, hnW⟩ := HW.out
          have hBy5 := hbW.grown hgrow hbW.size (fun k hk => (hownW.lt k hk).1)
          clear hownW hbW hnW hgrow HW
          go_wp2
          go_roundw
          case rel =>
            refine ⟨q + 1, m + 1, false, _, by omega, by omega, by go_num, rfl, rfl, ?_, Lib.hid (by rw [HO.out.1, List.length_append, hM.out]; rfl), Lib.hid HO.out.2, hBy5⟩
            rw [HO.out.1, Li.cellsL_snoc, ← hx0]
            exact howny5
          case measure => simp [intOf]; omega
        · obtain ⟨hO, hD2⟩ := out_eq HGT.out hD.out h
          have hge : Op.bytesLess xk.toList ek.toList = false := by
            rw [key_list, key_list, ← hxk, ← HE.out.2, h]
            exact less_irrefl _
          have hne : (xk.toList == ek.toList) = true := by
            rw [key_beq]
            exact decide_eq_true (by rw [← hxk, ← HE.out.2]; exact h)
          have HO := Lib.hid (And.intro hO hD2)
          clear h hO hD2 hxk
          go_wp2
          go_region
          have hown2 := Li.own_below hown (Below.refl wr.heap.size wr).drew (Nat.le_refl _)
          have hB2 := hB.drew
          clear hown hB
          have HW := Lib.hid (And.intro (hown2.alloc (.cells #[.string ek, .int .i64 et, .int .i64 es] 51)) (And.intro (hB2.alloc hB2.size (.cells #[.string ek, .int .i64 et, .int .i64 es] 51)) (heap_alloc_new wr.drew (.cells #[.string ek, .int .i64 et, .int .i64 es] 51))))
          clear hown2 hB2
          go_wp2_with (at_builtin; go_must (refine wpList_append_own _ rfl _ _ 42 rfl w1.heap.size 51 iE (.agg #[.string ⟨#[]⟩, .int .i64 0, .int .i64 0]) 3 32 Try.underlying42 hiE hv0 hv1 hv2 rfl (by decide) u5 m (Li.cellsL cellsE (outL l e q false)) rfl HW.out.1 ⟨wr.drew.heap.size, 0, none⟩ 1 1 [.string ek, .int .i64 et, .int .i64 es] (by go_simp) rfl (World.news_of_block HW.out.2.2) (by simp [Value.oneCell']) (by unfold maxLen; omega) (by omega) HW.out.2.1.size ?_))
          intro v5 y5 howny5 hgrow _
          obtain ⟨hownW, hbW, hnW⟩ := HW.out
          have hBy5 := hbW.grown hgrow hbW.size (fun k hk => (hownW.lt k hk).1)
          clear hownW hbW hnW hgrow HW
          have d0 := (hBy5.cell (p := ⟨b, o + q * 3, none⟩) hlb).trans HD0.out.1
          have d1 := (hBy5.cell (p := ⟨b, o + q * 3 + 1, none⟩) hlb).trans HD0.out.2.1
          have d2 := (hBy5.cell (p := ⟨b, o + q * 3 + 2, none⟩) hlb).trans HD0.out.2.2
          have hx5 := hx.below hBy5 hxl
          have x0 := hx5.c0
          have x1 := hx5.c1
          have x2 := hx5.c2
          go_wp2
          go_region
          go_wp2
          go_roundw
          case rel =>
            refine ⟨q + 1, m + 1, true, _, by omega, by omega, by go_num, rfl, rfl, ?_, Lib.hid (by rw [HO.out.1, List.length_append, hM.out]; rfl), Lib.hid HO.out.2, hBy5.drew⟩
            rw [HO.out.1, Li.cellsL_snoc, ← HE.out.1]
            exact Li.own_below howny5 (Below.refl y5.heap.size y5).drew (Nat.le_refl _)
          case measure => simp [intOf]; omega
        · obtain ⟨hO, hD2⟩ := out_gt HGT.out hD.out h
          have hge : Op.bytesLess xk.toList ek.toList = false := by
            rw [key_list, key_list, ← hxk, ← HE.out.2]
            exact less_asymm _ _ h
          have hne : (xk.toList == ek.toList) = false := by
            rw [key_beq]
            exact decide_eq_false (fun h2 => lt_ne h (by rw [HE.out.2, hxk, h2]))
          have HO := Lib.hid (And.intro hO hD2)
          clear h hO hD2 hxk
          go_wp2
          go_region
          have hown2 := Li.own_below hown (Below.refl wr.heap.size wr).drew (Nat.le_refl _)
          have hB2 := hB.drew
          clear hown hB
          have HW := Lib.hid (And.intro (hown2.alloc (.cells #[.string ek, .int .i64 et, .int .i64 es] 51)) (And.intro (hB2.alloc hB2.size (.cells #[.string ek, .int .i64 et, .int .i64 es] 51)) (heap_alloc_new wr.drew (.cells #[.string ek, .int .i64 et, .int .i64 es] 51))))
          clear hown2 hB2
          go_wp2_with (at_builtin; go_must (refine wpList_append_own _ rfl _ _ 42 rfl w1.heap.size 51 iE (.agg #[.string ⟨#[]⟩, .int .i64 0, .int .i64 0]) 3 32 Try.underlying42 hiE hv0 hv1 hv2 rfl (by decide) u5 m (Li.cellsL cellsE (outL l e q false)) rfl HW.out.1 ⟨wr.drew.heap.size, 0, none⟩ 1 1 [.string ek, .int .i64 et, .int .i64 es] (by go_simp) rfl (World.news_of_block HW.out.2.2) (by simp [Value.oneCell']) (by unfold maxLen; omega) (by omega) HW.out.2.1.size ?_))
          intro v5 y5 howny5 hgrow _
          obtain ⟨hownW, hbW, hnW⟩ := HW.out
          have hBy5 := hbW.grown hgrow hbW.size (fun k hk => (hownW.lt k hk).1)
          clear hownW hbW hnW hgrow HW
          have d0 := (hBy5.cell (p := ⟨b, o + q * 3, none⟩) hlb).trans HD0.out.1
          have d1 := (hBy5.cell (p := ⟨b, o + q * 3 + 1, none⟩) hlb).trans HD0.out.2.1
          have d2 := (hBy5.cell (p := ⟨b, o + q * 3 + 2, none⟩) hlb).trans HD0.out.2.2
          have hx5 := hx.below hBy5 hxl
          have x0 := hx5.c0
          have x1 := hx5.c1
          have x2 := hx5.c2
          go_wp2
          go_region
          have howny5 : y5.ownsRow w1.heap.size 51 3 v5 (m + 1) (Li.cellsL cellsE (outL l e q false ++ [e])) := by
            rw [Li.cellsL_snoc, ← HE.out.1]
            exact howny5
          have hown3 := Li.own_below howny5 (Below.refl y5.heap.size y5).drew (Nat.le_refl _)
          have hB3 := hBy5.drew
          clear howny5 hBy5
          have HW := Lib.hid (And.intro (hown3.alloc (.cells #[.string xk, .int .i64 xt, .int .i64 xs] 51)) (And.intro (hB3.alloc hB3.size (.cells #[.string xk, .int .i64 xt, .int .i64 xs] 51)) (heap_alloc_new y5.drew (.cells #[.string xk, .int .i64 xt, .int .i64 xs] 51))))
          clear hown3 hB3
          go_wp2_with (at_builtin; go_must (refine wpList_append_own _ rfl _ _ 42 rfl w1.heap.size 51 iE (.agg #[.string ⟨#[]⟩, .int .i64 0, .int .i64 0]) 3 32 Try.underlying42 hiE hv0 hv1 hv2 rfl (by decide) v5 (m + 1) (Li.cellsL cellsE (outL l e q false ++ [e])) rfl HW.out.1 ⟨y5.drew.heap.size, 0, none⟩ 1 1 [.string xk, .int .i64 xt, .int .i64 xs] (by go_simp) rfl (World.news_of_block HW.out.2.2) (by simp [Value.oneCell']) (by unfold maxLen; omega) (by omega) HW.out.2.1.size ?_))
          intro v6 y6 howny6 hgrow _
          obtain ⟨hownW, hbW, hnW⟩ := HW.out
          have hBy6 := hbW.grown hgrow hbW.size (fun k hk => (hownW.lt k hk).1)
          clear hownW hbW hnW hgrow HW
          go_wp2
          go_roundw
          case rel =>
            refine ⟨q + 1, m + 1 + 1, true, _, by omega, by omega, by go_num, rfl, rfl, ?_, Lib.hid (by rw [HO.out.1, List.length_append, List.length_append, hM.out]; rfl), Lib.hid HO.out.2, hBy6⟩
            rw [HO.out.1, Li.cellsL_snoc, ← hx0]
            exact howny6
          case measure => simp [intOf]; omega
    · obtain rfl : q = n := by omega
      have hfull : l.take q = l := List.take_of_length_le (by rw [HL.out.2.1]; exact Nat.le_refl _)
      have x0 := hxq.c0
      have x1 := hxq.c1
      have x2 := hxq.c2
      cases dn with
      | true =>
        have hO : outL l e q true = putL l e := by
          show putL (l.take q) e = putL l e
          rw [hfull]
        rw [hO] at hown hM
        have HF := Lib.hid (HP.out _ m wr w1 hown hM.out h0 (hb.trans (hB.mono h0)))
        clear hown hM hO hfull
        go_wp2
        exact HF.out
      | false =>
        have hO : putL l e = outL l e q false ++ [e] := by
          have h := hD.out
          have h : ∀ x ∈ l, lt x.k e.k := by
            intro x hx
            exact h x (by rw [hfull]; exact hx)
          rw [put_all h]
          show l ++ [e] = l.take q ++ [e]
          rw [hfull]
        have HO := Lib.hid hO
        clear hO hfull
        have HW := Lib.hid (And.intro (hown.alloc (.cells #[.string ek, .int .i64 et, .int .i64 es] 51)) (And.intro (hB.alloc hB.size (.cells #[.string ek, .int .i64 et, .int .i64 es] 51)) (heap_alloc_new wr (.cells #[.string ek, .int .i64 et, .int .i64 es] 51))))
        clear hown hB
        go_wp2_with (at_builtin; go_must (refine wpList_append_own _ rfl _ _ 42 rfl w1.heap.size 51 iE (.agg #[.string ⟨#[]⟩, .int .i64 0, .int .i64 0]) 3 32 Try.underlying42 hiE hv0 hv1 hv2 rfl (by decide) u5 m (Li.cellsL cellsE (outL l e q false)) rfl HW.out.1 ⟨wr.heap.size, 0, none⟩ 1 1 [.string ek, .int .i64 et, .int .i64 es] (by go_simp) rfl (World.news_of_block HW.out.2.2) (by simp [Value.oneCell']) (by unfold maxLen; omega) (by omega) HW.out.2.1.size ?_))
        intro v5 y5 howny5 hgrow _
        obtain ⟨hownW, hbW, hnW⟩ := HW.out
        have hBy5 := hbW.grown hgrow hbW.size (fun k hk => (hownW.lt k hk).1)
        clear hownW hbW hnW hgrow HW
        have HF := Lib.hid (HP.out _ (m + 1) y5 w1 (by rw [HO.out, Li.cellsL_snoc, ← HE.out.1]; exact howny5) (by rw [HO.out, List.length_append, hM.out]; rfl) h0 (hb.trans (hBy5.mono h0)))
        clear howny5
        go_wp2
        exact HF.out
end
end Go.Proofs.Ytocmkjccaajnnaa.Bu

/- Buckets: the document's Right, walked. -/
namespace Go.Proofs.Ytocmkjccaajnnaa.Bu
open Go.RowKit Pac Ls

def FineE (e : E) : Prop := e.key.size ≤ 61 ∧ (0 ≤ e.t ∧ e.t < 64) ∧ (0 ≤ e.s ∧ e.s < 8)
def RightPost (l : List E) (w : World) (e : Ending) (w' : World) : Prop := ∃ b : Bool, e = .returned (.bool b) ∧ (b = true ↔ IsB l) ∧ Below w.heap.size w w'
theorem rises_at {l : List E} (h : Rises l) {i j : Nat} {a b : E} (hij : i < j) (ha : l[i]? = some a) (hb : l[j]? = some b) : lt a.k b.k := by
  have h1 := List.pairwise_iff_getElem.1 h i j (List.getElem?_eq_some_iff.1 ha).1 (List.getElem?_eq_some_iff.1 hb).1 hij
  rw [(List.getElem?_eq_some_iff.1 ha).2, (List.getElem?_eq_some_iff.1 hb).2] at h1
  exact h1
/-- One more that may be. -/
theorem inv_next {l : List E} {q : Nat} {x : E} (hx : l[q]? = some x) (hr : Rises (l.take q)) (hl : ∀ j p, q = j + 1 → l[j]? = some p → lt p.k x.k) (hf : ∀ y ∈ l.take q, FineE y) (h : FineE x) : Rises (l.take (q + 1)) ∧ ∀ y ∈ l.take (q + 1), FineE y := by
  rw [take_snoc hx]
  refine ⟨List.pairwise_append.2 ⟨hr, List.pairwise_singleton _ _, fun y hy z hz => ?_⟩, fun y hy => ?_⟩
  · have : z = x := by simpa using hz
    subst this
    obtain ⟨i, hi⟩ := List.mem_iff_getElem?.1 hy
    have hiq : i < q := by
      have := (List.getElem?_eq_some_iff.1 hi).1
      rw [List.length_take] at this
      omega
    obtain ⟨j, rfl⟩ : ∃ j, q = j + 1 := ⟨q - 1, by omega⟩
    have hql := (List.getElem?_eq_some_iff.1 hx).1
    have hp := List.getElem?_eq_getElem (l := l) (i := j) (by omega)
    have h1 := hl j _ rfl hp
    by_cases e : i = j
    · subst e
      rw [List.getElem?_take, if_pos hiq, hp] at hi
      injection hi with hi
      rw [← hi]
      exact h1
    · have hp2 : (l.take (j + 1))[j]? = some (l[j]'(by omega)) := by rw [List.getElem?_take, if_pos (by omega), hp]
      exact lt_trans (rises_at hr (by omega) hi hp2) h1
  · rcases List.mem_append.1 hy with hy | hy
    · exact hf y hy
    · have : y = x := by simpa using hy
      subst this
      exact h
section
variable {A : Option Addr} {n cp : Nat} {l : List E} {w : World}
set_option maxRecDepth 20000 in
set_option maxHeartbeats 6400000 in
theorem refRight_any (lo : Nat) (hl : HasE w lo A l) (hn : l.length = n) (h9 : n ≤ 100000) :
    Calls Try.prog 27 #[.slice A n cp] w (RightPost l w) := by
  have HL := Lib.hid (And.intro hl hn)
  clear hl hn
  go_enter Try.func27, Try.ntmps27
  go_wp2
  go_loopw [3] (fun i wr => ∃ q : Nat, q ≤ n ∧ i = .int .i64 q ∧ Hid (Rises (l.take q) ∧ ∀ x ∈ l.take q, FineE x) ∧ Below w.heap.size w wr) (fun i _ => n - (intOf i).toNat)
  case atStart => exact ⟨0, Nat.zero_le _, rfl, Lib.hid ⟨List.Pairwise.nil, fun x hx => by simp at hx⟩, Below.refl _ w⟩
  case round =>
    obtain ⟨q, hq, rfl, hI, hB⟩ := hrel
    by_cases hlt : q < n
    · have hgt := List.getElem?_eq_getElem (l := l) (i := q) (by rw [HL.out.2]; exact hlt)
      generalize (l[q]'(by rw [HL.out.2]; exact hlt)) = x at hgt
      obtain ⟨b, o, rfl, _, hlb, d0, d1, d2⟩ := HasE.at (HL.out.1.below hB (Nat.le_refl _)) hgt
      obtain ⟨ek, et, es⟩ := x
      simp only at d0 d1 d2
      have HM := Lib.hid (List.mem_of_getElem? hgt)
      have HGT := Lib.hid hgt
      have i1 : (q : Int) < (n : Int) := by omega
      have i0 : (0 : Int) ≤ (q : Int) := by omega
      clear hgt
      rcases Nat.eq_zero_or_pos q with hq0 | hq0
      · have HLT : Hid (∀ j p, q = j + 1 → l[j]? = some p → lt p.k (⟨ek, et, es⟩ : E).k) := Lib.hid (fun j p h => by omega)
        have hq0' : decide (0 < q) = false := decide_eq_false (by omega)
        have hq0'' : decide ((0 : Int) < (q : Int)) = false := decide_eq_false (by omega)
        clear hq0
        by_cases kf : 61 < (ek.size : Int)
        · have HQ : Hid (¬ IsB l) := Lib.hid (fun h => by have := h.key _ HM.out; simp only at this; omega)
          clear HGT HM
          go_wp2
          go_quiet (fail)
          have hB := hB.trans (below_drewN (Below.refl w.heap.size wr) nq)
          go_wp2
          go_ret
          exact ⟨false, rfl, ⟨fun e => (by cases e), fun e => absurd e HQ.out⟩, hB⟩
        have kf' : decide (61 < (ek.size : Int)) = false := decide_eq_false kf
        have kf'' : decide (61 < ek.size) = false := decide_eq_false (by omega)
        by_cases t0 : et < 0
        · have HQ : Hid (¬ IsB l) := Lib.hid (fun h => by have := h.t0 _ HM.out; simp only at this; omega)
          clear HGT HM
          go_wp2
          go_quiet (fail)
          have hB := hB.trans (below_drewN (Below.refl w.heap.size wr) nq)
          go_wp2
          go_ret
          exact ⟨false, rfl, ⟨fun e => (by cases e), fun e => absurd e HQ.out⟩, hB⟩
        have t0' : decide (et < 0) = false := decide_eq_false t0
        by_cases t1 : 64 ≤ et
        · have HQ : Hid (¬ IsB l) := Lib.hid (fun h => by have := h.t0 _ HM.out; simp only at this; omega)
          clear HGT HM
          go_wp2
          go_quiet (fail)
          have hB := hB.trans (below_drewN (Below.refl w.heap.size wr) nq)
          go_wp2
          go_ret
          exact ⟨false, rfl, ⟨fun e => (by cases e), fun e => absurd e HQ.out⟩, hB⟩
        have t1' : decide (64 ≤ et) = false := decide_eq_false t1
        by_cases s0 : es < 0
        · have HQ : Hid (¬ IsB l) := Lib.hid (fun h => by have := h.s0 _ HM.out; simp only at this; omega)
          clear HGT HM
          go_wp2
          go_quiet (fail)
          have hB := hB.trans (below_drewN (Below.refl w.heap.size wr) nq)
          go_wp2
          go_ret
          exact ⟨false, rfl, ⟨fun e => (by cases e), fun e => absurd e HQ.out⟩, hB⟩
        have s0' : decide (es < 0) = false := decide_eq_false s0
        by_cases s1 : 8 ≤ es
        · have HQ : Hid (¬ IsB l) := Lib.hid (fun h => by have := h.s0 _ HM.out; simp only at this; omega)
          clear HGT HM
          go_wp2
          go_quiet (fail)
          have hB := hB.trans (below_drewN (Below.refl w.heap.size wr) nq)
          go_wp2
          go_ret
          exact ⟨false, rfl, ⟨fun e => (by cases e), fun e => absurd e HQ.out⟩, hB⟩
        have s1' : decide (8 ≤ es) = false := decide_eq_false s1
        have HI : Hid (Rises (l.take (q + 1)) ∧ ∀ x ∈ l.take (q + 1), FineE x) := Lib.hid (inv_next HGT.out hI.out.1 HLT.out hI.out.2 ⟨by simp only; omega, ⟨by simp only; omega, by simp only; omega⟩, ⟨by simp only; omega, by simp only; omega⟩⟩)
        clear kf t0 t1 s0 s1 HLT HGT HM
        go_wp2
        go_quiet (fail)
        have hB := hB.trans (below_drewN (Below.refl w.heap.size wr) nq)
        go_wp2
        go_roundw
        case rel => exact ⟨q + 1, by omega, by go_num, HI, hB⟩
        case measure => simp [intOf]; omega
      · obtain ⟨j, m1, m3⟩ : ∃ j : Nat, (q : Int) - 1 = (j : Int) ∧ q = j + 1 := ⟨q - 1, by omega, by omega⟩
        have hgp := List.getElem?_eq_getElem (l := l) (i := j) (by rw [HL.out.2]; omega)
        generalize (l[j]'(by rw [HL.out.2]; omega)) = p at hgp
        obtain ⟨b', o', hA', _, hlb', e0, _, _⟩ := HasE.at (HL.out.1.below hB (Nat.le_refl _)) hgp
        injection hA' with hA'
        injection hA' with a1 a2
        subst a1 a2
        obtain ⟨pk, pt, ps⟩ := p
        simp only at e0
        have HGP := Lib.hid hgp
        have M3 := Lib.hid m3
        have j0 : (0 : Int) < (q : Int) := by omega
        have j0' : decide (0 < q) = true := decide_eq_true (by omega)
        have j2 : (j : Int) < (n : Int) := by omega
        have j3 : (0 : Int) ≤ (j : Int) := by omega
        clear hgp m3 hq0
        by_cases hls : lt (⟨pk, pt, ps⟩ : E).k (⟨ek, et, es⟩ : E).k
        · have HLT : Hid (∀ j' p, q = j' + 1 → l[j']? = some p → lt p.k (⟨ek, et, es⟩ : E).k) := Lib.hid (fun j' p h h2 => by
            have h3 := M3.out
            obtain rfl : j = j' := by omega
            rw [HGP.out] at h2
            injection h2 with h2
            rw [← h2]
            exact hls)
          have hbl : Op.bytesLess pk.toList ek.toList = true := by rw [key_list, key_list]; exact hls
          clear hls
          by_cases kf : 61 < (ek.size : Int)
          · have HQ : Hid (¬ IsB l) := Lib.hid (fun h => by have := h.key _ HM.out; simp only at this; omega)
            clear HGT HM
            go_wp2
            go_quiet (fail)
            have hB := hB.trans (below_drewN (Below.refl w.heap.size wr) nq)
            go_wp2
            go_ret
            exact ⟨false, rfl, ⟨fun e => (by cases e), fun e => absurd e HQ.out⟩, hB⟩
          have kf' : decide (61 < (ek.size : Int)) = false := decide_eq_false kf
          have kf'' : decide (61 < ek.size) = false := decide_eq_false (by omega)
          by_cases t0 : et < 0
          · have HQ : Hid (¬ IsB l) := Lib.hid (fun h => by have := h.t0 _ HM.out; simp only at this; omega)
            clear HGT HM
            go_wp2
            go_quiet (fail)
            have hB := hB.trans (below_drewN (Below.refl w.heap.size wr) nq)
            go_wp2
            go_ret
            exact ⟨false, rfl, ⟨fun e => (by cases e), fun e => absurd e HQ.out⟩, hB⟩
          have t0' : decide (et < 0) = false := decide_eq_false t0
          by_cases t1 : 64 ≤ et
          · have HQ : Hid (¬ IsB l) := Lib.hid (fun h => by have := h.t0 _ HM.out; simp only at this; omega)
            clear HGT HM
            go_wp2
            go_quiet (fail)
            have hB := hB.trans (below_drewN (Below.refl w.heap.size wr) nq)
            go_wp2
            go_ret
            exact ⟨false, rfl, ⟨fun e => (by cases e), fun e => absurd e HQ.out⟩, hB⟩
          have t1' : decide (64 ≤ et) = false := decide_eq_false t1
          by_cases s0 : es < 0
          · have HQ : Hid (¬ IsB l) := Lib.hid (fun h => by have := h.s0 _ HM.out; simp only at this; omega)
            clear HGT HM
            go_wp2
            go_quiet (fail)
            have hB := hB.trans (below_drewN (Below.refl w.heap.size wr) nq)
            go_wp2
            go_ret
            exact ⟨false, rfl, ⟨fun e => (by cases e), fun e => absurd e HQ.out⟩, hB⟩
          have s0' : decide (es < 0) = false := decide_eq_false s0
          by_cases s1 : 8 ≤ es
          · have HQ : Hid (¬ IsB l) := Lib.hid (fun h => by have := h.s0 _ HM.out; simp only at this; omega)
            clear HGT HM
            go_wp2
            go_quiet (fail)
            have hB := hB.trans (below_drewN (Below.refl w.heap.size wr) nq)
            go_wp2
            go_ret
            exact ⟨false, rfl, ⟨fun e => (by cases e), fun e => absurd e HQ.out⟩, hB⟩
          have s1' : decide (8 ≤ es) = false := decide_eq_false s1
          have HI : Hid (Rises (l.take (q + 1)) ∧ ∀ x ∈ l.take (q + 1), FineE x) := Lib.hid (inv_next HGT.out hI.out.1 HLT.out hI.out.2 ⟨by simp only; omega, ⟨by simp only; omega, by simp only; omega⟩, ⟨by simp only; omega, by simp only; omega⟩⟩)
          clear kf t0 t1 s0 s1 HLT HGT HM
          go_wp2
          go_quiet (fail)
          have hB := hB.trans (below_drewN (Below.refl w.heap.size wr) nq)
          go_wp2
          go_roundw
          case rel => exact ⟨q + 1, by omega, by go_num, HI, hB⟩
          case measure => simp [intOf]; omega
        · have hbl : Op.bytesLess pk.toList ek.toList = false := by
            rw [key_list, key_list]
            cases h : Op.bytesLess pk.data.toList ek.data.toList
            · rfl
            · exact absurd h hls
          have HQ : Hid (¬ IsB l) := Lib.hid (fun h => hls (rises_at h.ris (by have := M3.out; omega) HGP.out HGT.out))
          clear hls
          go_wp2
          go_quiet (fail)
          have hB := hB.trans (below_drewN (Below.refl w.heap.size wr) nq)
          go_wp2
          go_ret
          exact ⟨false, rfl, ⟨fun e => (by cases e), fun e => absurd e HQ.out⟩, hB⟩
    · obtain rfl : q = n := by omega
      have hfull : l.take q = l := List.take_of_length_le (by rw [HL.out.2]; exact Nat.le_refl _)
      by_cases h5 : q ≤ 512
      · have HY : Hid (IsB l) := Lib.hid (by
          have h := hI.out
          rw [hfull] at h
          exact ⟨h.1, by rw [HL.out.2]; exact h5, fun e he => (h.2 e he).1, fun e he => (h.2 e he).2.1, fun e he => (h.2 e he).2.2⟩)
        have i5 : (q : Int) ≤ 512 := by omega
        clear hfull
        go_wp2
        go_ret
        exact ⟨true, rfl, ⟨fun _ => HY.out, fun _ => rfl⟩, hB⟩
      · have HQ : Hid (¬ IsB l) := Lib.hid (fun h => h5 (by rw [← HL.out.2]; exact h.len))
        have i5 : ¬ (q : Int) ≤ 512 := by omega
        clear hfull
        go_wp2
        go_ret
        exact ⟨false, rfl, ⟨fun e => (by cases e), fun e => absurd e HQ.out⟩, hB⟩
end
end Go.Proofs.Ytocmkjccaajnnaa.Bu
