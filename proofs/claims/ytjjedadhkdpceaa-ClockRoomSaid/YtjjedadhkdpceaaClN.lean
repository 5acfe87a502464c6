/- Deeds at pages at hand: few?, one is done: the law's, walked. -/
import Derived.Test.YtjjedadhkdpceaaClM
namespace Go.Proofs.Ytjjedadhkdpceaa.Cl
open Go.RowKit Pac Lex

structure Box3 (w : World) (g : Nat) (v0 v1 v2 : Value) : Prop where
  c0 : w.cell? ⟨g, 0, none⟩ = some v0
  c1 : w.cell? ⟨g, 1, none⟩ = some v1
  c2 : w.cell? ⟨g, 2, none⟩ = some v2
  f : ∀ i, w.frozen? ⟨g, i, none⟩ = false
section
variable {w w' : World} {g q B : Nat} {v0 v1 v2 : Value}
theorem Box3.lt (h : Box3 w g v0 v1 v2) : g < w.heap.size := World.block_lt_of_cell? w _ h.c0
theorem Box3.bar (h : Box3 w g v0 v1 v2) (hb : Bar q w w') (hne : g ≠ q) : Box3 w' g v0 v1 v2 :=
  ⟨(hb.cell h.lt hne).trans h.c0, (hb.cell h.lt hne).trans h.c1, (hb.cell h.lt hne).trans h.c2, fun i => (hb.frozen h.lt hne).trans (h.f i)⟩
theorem Box3.below (h : Box3 w g v0 v1 v2) (hb : Below B w w') (hB : g < B) : Box3 w' g v0 v1 v2 :=
  ⟨(hb.cell (p := ⟨g, 0, none⟩) hB).trans h.c0, (hb.cell (p := ⟨g, 1, none⟩) hB).trans h.c1, (hb.cell (p := ⟨g, 2, none⟩) hB).trans h.c2, fun i => (hb.frozen (p := ⟨g, i, none⟩) hB).trans (h.f i)⟩
theorem Box3.new (w : World) (v0 v1 v2 : Value) (t : TypeId) : Box3 (w.alloc (.cells #[v0, v1, v2] t)) w.heap.size v0 v1 v2 := by
  constructor <;> simp [go_sem]
end
def cellsA (a : A) : List Value := [.int .i64 a.kind, .int .i64 a.no, .string a.data]
theorem cellsA_len (a : A) : (cellsA a).length = 3 := rfl
abbrev HasA (w : World) (lo : Nat) (D : Option Addr) (l : List A) : Prop := Li.HasL cellsA 3 w lo D l
theorem HasA.at {w : World} {lo : Nat} {D : Option Addr} {l : List A} (h : HasA w lo D l) {q : Nat} {e : A} (hq : l[q]? = some e) :
    ∃ b o, D = some ⟨b, o, none⟩ ∧ b < w.heap.size ∧ w.cell? ⟨b, o + q * 3, none⟩ = some (.int .i64 e.kind) ∧ w.cell? ⟨b, o + q * 3 + 1, none⟩ = some (.int .i64 e.no) ∧ w.cell? ⟨b, o + q * 3 + 2, none⟩ = some (.string e.data) := by
  obtain ⟨b, o, hA, _, hlt, hc⟩ := h (fun e => by rw [e] at hq; simp at hq)
  exact ⟨b, o, hA, hlt, hc q e hq 0 _ rfl, hc q e hq 1 _ rfl, hc q e hq 2 _ rfl⟩
structure SmallA (l : List A) : Prop where
  len : l.length ≤ 100
  d : ∀ a ∈ l, a.data.size ≤ 300
/-- What comes in. -/
structure OkA (a : A) : Prop where
  d : a.data.size ≤ 9223372036854775807
  n0 : -9223372036854775808 ≤ a.no
  n1 : a.no ≤ 9223372036854775807
theorem SmallA.fine {l : List A} (h : SmallA l) (ho : ∀ a ∈ l, OkA a) : ∀ a ∈ l, FineA a := fun a ha => ⟨h.d a ha, (ho a ha).n0, (ho a ha).n1⟩
section
variable {D : Option Addr} {n cp : Nat} {l : List A} {w : World}
set_option maxRecDepth 20000 in
set_option maxHeartbeats 1600000 in
theorem small_any (lo : Nat) (hl : HasA w lo D l) (hn : l.length = n) (h9 : n ≤ 9223372036854775807) :
    Calls Try.prog 9 #[.slice D n cp] w (BoolPost (SmallA l) w) := by
  have HL := Lib.hid (And.intro hl hn)
  clear hl hn
  go_enter Try.func9, Try.ntmps9
  go_wp2
  go_loopw [3] (fun i wr => ∃ q : Nat, q ≤ n ∧ i = .int .i64 q ∧ Hid (∀ a ∈ l.take q, a.data.size ≤ 300) ∧ Below w.heap.size w wr) (fun i _ => n - (intOf i).toNat)
  case atStart => exact ⟨0, Nat.zero_le _, rfl, Lib.hid (fun a ha => by simp at ha), Below.refl _ _⟩
  case round =>
    obtain ⟨q, hq, rfl, hI, hB⟩ := hrel
    by_cases hlt : q < n
    · have hgt := List.getElem?_eq_getElem (l := l) (i := q) (by rw [HL.out.2]; exact hlt)
      generalize (l[q]'(by rw [HL.out.2]; exact hlt)) = x at hgt
      obtain ⟨b, o, rfl, hlb, _, _, d2⟩ := HasA.at (HL.out.1.below hB (Nat.le_refl _)) hgt
      have i1 : (q : Int) < (n : Int) := by omega
      have i0 : (0 : Int) ≤ (q : Int) := by omega
      obtain ⟨ek, en, ed⟩ := x
      simp only at d2
      by_cases kf : ed.size ≤ 300
      · have HI : Hid (∀ a ∈ l.take (q + 1), a.data.size ≤ 300) := Lib.hid (fun a ha => by
          rw [take_snoc hgt] at ha
          rcases List.mem_append.1 ha with h | h
          · exact hI.out a h
          · obtain rfl := List.mem_singleton.1 h
            exact kf)
        have kf' : (ed.size : Int) ≤ 300 := by omega
        clear hgt
        go_wp2
        go_roundw
        case rel => exact ⟨q + 1, by omega, by go_num, HI, hB⟩
        case measure => simp [intOf]; omega
      · have HQ : Hid (¬ SmallA l) := Lib.hid (fun h => kf (h.d _ (List.mem_of_getElem? hgt)))
        have kf' : (300 : Int) < (ed.size : Int) := by omega
        clear hgt
        go_wp2
        go_ret
        exact ⟨false, rfl, ⟨fun e => (by cases e), fun e => absurd e HQ.out⟩, hB⟩
    · obtain rfl : n = q := by omega
      have HI : Hid (∀ a ∈ l, a.data.size ≤ 300) := Lib.hid (by
        have h := hI.out
        rw [List.take_of_length_le (by rw [HL.out.2]; exact Nat.le_refl _)] at h
        exact h)
      by_cases h5 : n ≤ 100
      · have HY : Hid (SmallA l) := Lib.hid ⟨by rw [HL.out.2]; exact h5, HI.out⟩
        have i5 : decide ((n : Int) ≤ 100) = true := decide_eq_true (by omega)
        go_wp2
        go_ret
        exact ⟨true, by rw [← i5]; rfl, ⟨fun _ => HY.out, fun _ => rfl⟩, hB⟩
      · have HQ : Hid (¬ SmallA l) := Lib.hid (fun h => h5 (by rw [← HL.out.2]; exact h.len))
        have i5 : decide ((n : Int) ≤ 100) = false := decide_eq_false (by omega)
        go_wp2
        go_ret
        exact ⟨false, by rw [← i5]; rfl, ⟨fun e => (by cases e), fun e => absurd e HQ.out⟩, hB⟩
end
section
variable {A' : Option Addr} {n cp m : Nat} {w : World}
set_option maxRecDepth 20000 in
set_option maxHeartbeats 6400000 in
theorem does_any (X : Nat → Prop) (c : C) (a : A) (hok : Ok m c) (hm : m ≤ 200) (ha : FineA a) (hl : HasPX w X A' cp c.l) (hn : c.l.length = n) (hc : n ≤ cp) :
    Calls Try.prog 10 #[.agg #[.slice A' n cp, .int .i64 c.h], .agg #[.int .i64 a.kind, .int .i64 a.no, .string a.data]] w (GetPost X (doesC c a) w) := by
  obtain ⟨kind, no, data⟩ := a
  obtain ⟨ha1, ha2, ha3⟩ := ha
  simp only at ha1 ha2 ha3
  obtain ⟨post, hpe⟩ : ∃ post, GetPost X (doesC c ⟨kind, no, data⟩) w = post := ⟨_, rfl⟩
  have HPE := Lib.hid hpe
  rw [hpe]
  clear hpe
  have hB := (Below.refl w.heap.size w).alloc (Nat.le_refl _) (.cells #[.slice A' n cp, .int .i64 c.h] 24)
  have hx := Box2.new w (.slice A' n cp) (.int .i64 c.h) 24
  obtain ⟨g, hg⟩ : ∃ g, w.heap.size = g := ⟨_, rfl⟩
  have hz : (w.alloc (.cells #[.slice A' n cp, .int .i64 c.h] 24)).heap.size = g + 1 := by simp [hg]
  rw [hg] at hx
  generalize hw0 : w.alloc (.cells #[.slice A' n cp, .int .i64 c.h] 24) = wa at hB hx hz
  have hBb := (Below.refl wa.heap.size wa).alloc (Nat.le_refl _) (.cells #[.int .i64 kind, .int .i64 no, .string data] 34)
  have hp := Box3.new wa (.int .i64 kind) (.int .i64 no) (.string data) 34
  have hz2 : (wa.alloc (.cells #[.int .i64 kind, .int .i64 no, .string data] 34)).heap.size = g + 2 := by simp [hz]
  rw [hz] at hp
  have hx := hx.below hBb hx.lt
  have hB := hB.trans (hBb.mono hB.size)
  generalize hw1 : wa.alloc (.cells #[.int .i64 kind, .int .i64 no, .string data] 34) = wb at hB hx hp hz2
  have hBc := (Below.refl wb.heap.size wb).alloc (Nat.le_refl _) (.cells #[.slice none 0 0, .int .i64 0] 24)
  have hy := Box2.new wb (.slice none 0 0) (.int .i64 0) 24
  have hz3 : g + 3 ≤ (wb.alloc (.cells #[.slice none 0 0, .int .i64 0] 24)).heap.size := by simp [hz2]
  rw [hz2] at hy
  have hx := hx.below hBc hx.lt
  have hp := hp.below hBc hp.lt
  have hB := hB.trans (hBc.mono hB.size)
  generalize hw2 : wb.alloc (.cells #[.slice none 0 0, .int .i64 0] 24) = wq at hB hx hp hy hz3
  have HG := Lib.hid (And.intro hg hz3)
  have hl0 : HasPX wq (fun b => X b ∧ b < g) A' cp c.l := (hl.lt.mono (fun b h => ⟨h.1, hg ▸ h.2⟩)).below hB (Nat.le_refl _)
  have x0 := hx.c0
  have x1 := hx.c1
  have p0 := hp.c0
  have p1 := hp.c1
  have p2 := hp.c2
  -- what stands behind the deed
  have HEND : Hid (∀ (W : World) (c2 : C) (v : Value) (A2 : Option Addr) (n2 cp2 : Nat) (s : ByteArray) (b : Bool), v = .agg #[.slice A2 n2 cp2, .int .i64 c2.h] → c2.l.length = n2 → n2 ≤ cp2 → HasPX W (fun b => (X b ∧ b < g) ∨ wq.heap.size ≤ b) A2 cp2 c2.l → Below w.heap.size w W → doesC c ⟨kind, no, data⟩ = (c2, s, b) →
      post (.returned (.tuple #[.agg #[.slice A2 n2 cp2, .int .i64 c2.h], .string s, .bool b])) ((((W.setCell ⟨g, 0, none⟩ (.slice A2 n2 cp2)).setCell ⟨g, 1, none⟩ (.int .i64 c2.h)).setCell ⟨g + 2, 0, none⟩ (.slice A2 n2 cp2)).setCell ⟨g + 2, 1, none⟩ (.int .i64 c2.h))) := Lib.hid (fun W c2 v A2 n2 cp2 s b hv h1 h2 h3 h4 h5 => by
    have hgw := HG.out.1
    have hgz := HG.out.2
    have hbar := ((Bar.refl g W).setCell 0 (.slice A2 n2 cp2)).setCell 1 (.int .i64 c2.h)
    have hbar2 := ((Bar.refl (g + 2) ((W.setCell ⟨g, 0, none⟩ (.slice A2 n2 cp2)).setCell ⟨g, 1, none⟩ (.int .i64 c2.h))).setCell 0 (.slice A2 n2 cp2)).setCell 1 (.int .i64 c2.h)
    rw [← HPE.out, h5]
    refine ⟨_, rfl, ⟨A2, n2, cp2, rfl, h1, h2, ((h3.bar (fun h => by rcases h with h | h <;> omega) hbar).bar (fun h => by rcases h with h | h <;> omega) hbar2).mono (fun b h => by rcases h with h | h; exact Or.inl h.1; exact Or.inr (by omega))⟩, (h4.trans (hbar.below (B := w.heap.size) (by omega) h4.size)).trans (hbar2.below (B := w.heap.size) (by omega) (Nat.le_trans h4.size hbar.size))⟩)
  clear hBb hBc hl
  go_enter Try.func10, Try.ntmps10
  by_cases k0 : kind = 0
  · subst k0
    have hdo : doesC c ⟨0, no, data⟩ = (putC c no data, ⟨#[]⟩, false) := rfl
    have hcall := put_any (m := m) _ no data hok hm hl0 hn hc ha2 ha3 ha1
    go_wp2_with fail
    clear hw0 hw1 hw2 hg hz hz2 hz3
    refine hcall.mono ?_
    rintro e w1 ⟨v, rfl, ⟨A2, n2, cp2, rfl, hn2, hc2, hl2⟩, hv⟩
    have hx := hx.below hv hx.lt
    have hy := hy.below hv hy.lt
    have HE := Lib.hid (HEND.out w1 (putC c no data) _ A2 n2 cp2 ⟨#[]⟩ false rfl hn2 hc2 hl2 (hB.trans (hv.mono hB.size)) hdo)
    have H9 := Lib.hid (((hy.bar (((Bar.refl g w1).setCell 0 (.slice A2 n2 cp2)).setCell 1 (.int .i64 (putC c no data).h)) (by omega)).set0 (.slice A2 n2 cp2)).set1 (.int .i64 (putC c no data).h))
    clear hcall x0 x1 p0 p1 p2 hp hl0 hl2 hdo HEND
    have x0 := hx.c0
    have x1 := hx.c1
    have xf0 := hx.f 0
    have xf1 := hx.f 1
    have y0 := hy.c0
    have y1 := hy.c1
    have yf0 := hy.f 0
    have yf1 := hy.f 1
    go_wp2
    refine bodyPost_ret (results_get rfl _ _ (g + 2) _ _ rfl H9.out.c0 H9.out.c1) rfl ?_
    exact HE.out
  by_cases k1 : kind = 1
  · subst k1
    have hdo : doesC c ⟨1, no, data⟩ = getC c no := rfl
    have hcall := get_any (m := m) _ no hok hm hl0 hn hc ha2 ha3
    go_wp2_with fail
    clear hw0 hw1 hw2 hg hz hz2 hz3
    refine hcall.mono ?_
    rintro e w1 ⟨v, rfl, ⟨A2, n2, cp2, rfl, hn2, hc2, hl2⟩, hv⟩
    have hx := hx.below hv hx.lt
    have hy := hy.below hv hy.lt
    have HE := Lib.hid (HEND.out w1 ((getC c no).1) _ A2 n2 cp2 ((getC c no).2.1) ((getC c no).2.2) rfl hn2 hc2 hl2 (hB.trans (hv.mono hB.size)) hdo)
    have H9 := Lib.hid (((hy.bar (((Bar.refl g w1).setCell 0 (.slice A2 n2 cp2)).setCell 1 (.int .i64 ((getC c no).1).h)) (by omega)).set0 (.slice A2 n2 cp2)).set1 (.int .i64 ((getC c no).1).h))
    clear hcall x0 x1 p0 p1 p2 hp hl0 hl2 hdo HEND
    have x0 := hx.c0
    have x1 := hx.c1
    have xf0 := hx.f 0
    have xf1 := hx.f 1
    have y0 := hy.c0
    have y1 := hy.c1
    have yf0 := hy.f 0
    have yf1 := hy.f 1
    go_wp2
    refine bodyPost_ret (results_get rfl _ _ (g + 2) _ _ rfl H9.out.c0 H9.out.c1) rfl ?_
    exact HE.out
  by_cases k2 : kind = 2
  · subst k2
    have hdo : doesC c ⟨2, no, data⟩ = ((pinC c no true).1, ⟨#[]⟩, (pinC c no true).2) := rfl
    have hcall := pin_any (m := m) _ no true hok hm hl0 hn hc ha2 ha3
    go_wp2_with fail
    clear hw0 hw1 hw2 hg hz hz2 hz3
    refine hcall.mono ?_
    rintro e w1 ⟨v, rfl, ⟨A2, n2, cp2, rfl, hn2, hc2, hl2⟩, hv⟩
    have hx := hx.below hv hx.lt
    have hy := hy.below hv hy.lt
    have HE := Lib.hid (HEND.out w1 ((pinC c no true).1) _ A2 n2 cp2 (⟨#[]⟩) ((pinC c no true).2) rfl hn2 hc2 hl2 (hB.trans (hv.mono hB.size)) hdo)
    have H9 := Lib.hid (((hy.bar (((Bar.refl g w1).setCell 0 (.slice A2 n2 cp2)).setCell 1 (.int .i64 ((pinC c no true).1).h)) (by omega)).set0 (.slice A2 n2 cp2)).set1 (.int .i64 ((pinC c no true).1).h))
    clear hcall x0 x1 p0 p1 p2 hp hl0 hl2 hdo HEND
    have x0 := hx.c0
    have x1 := hx.c1
    have xf0 := hx.f 0
    have xf1 := hx.f 1
    have y0 := hy.c0
    have y1 := hy.c1
    have yf0 := hy.f 0
    have yf1 := hy.f 1
    go_wp2
    refine bodyPost_ret (results_get rfl _ _ (g + 2) _ _ rfl H9.out.c0 H9.out.c1) rfl ?_
    exact HE.out
  by_cases k3 : kind = 3
  · subst k3
    have hdo : doesC c ⟨3, no, data⟩ = ((pinC c no false).1, ⟨#[]⟩, (pinC c no false).2) := rfl
    have hcall := pin_any (m := m) _ no false hok hm hl0 hn hc ha2 ha3
    go_wp2_with fail
    clear hw0 hw1 hw2 hg hz hz2 hz3
    refine hcall.mono ?_
    rintro e w1 ⟨v, rfl, ⟨A2, n2, cp2, rfl, hn2, hc2, hl2⟩, hv⟩
    have hx := hx.below hv hx.lt
    have hy := hy.below hv hy.lt
    have HE := Lib.hid (HEND.out w1 ((pinC c no false).1) _ A2 n2 cp2 (⟨#[]⟩) ((pinC c no false).2) rfl hn2 hc2 hl2 (hB.trans (hv.mono hB.size)) hdo)
    have H9 := Lib.hid (((hy.bar (((Bar.refl g w1).setCell 0 (.slice A2 n2 cp2)).setCell 1 (.int .i64 ((pinC c no false).1).h)) (by omega)).set0 (.slice A2 n2 cp2)).set1 (.int .i64 ((pinC c no false).1).h))
    clear hcall x0 x1 p0 p1 p2 hp hl0 hl2 hdo HEND
    have x0 := hx.c0
    have x1 := hx.c1
    have xf0 := hx.f 0
    have xf1 := hx.f 1
    have y0 := hy.c0
    have y1 := hy.c1
    have yf0 := hy.f 0
    have yf1 := hy.f 1
    go_wp2
    refine bodyPost_ret (results_get rfl _ _ (g + 2) _ _ rfl H9.out.c0 H9.out.c1) rfl ?_
    exact HE.out
  have hdo : doesC c ⟨kind, no, data⟩ = (c, ⟨#[]⟩, false) := by unfold doesC; rw [if_neg k0, if_neg k1, if_neg k2, if_neg k3]
  have q0 : (kind == 0) = false := beq_eq_false_iff_ne.2 k0
  have q1 : (kind == 1) = false := beq_eq_false_iff_ne.2 k1
  have q2 : (kind == 2) = false := beq_eq_false_iff_ne.2 k2
  have q3 : (kind == 3) = false := beq_eq_false_iff_ne.2 k3
  have hbar := ((Bar.refl (g + 2) wq).setCell 0 (.slice A' n cp)).setCell 1 (.int .i64 c.h)
  have HE := Lib.hid (show post (.returned (.tuple #[.agg #[.slice A' n cp, .int .i64 c.h], .string ⟨#[]⟩, .bool false])) ((wq.setCell ⟨g + 2, 0, none⟩ (.slice A' n cp)).setCell ⟨g + 2, 1, none⟩ (.int .i64 c.h)) from by
    rw [← HPE.out, hdo]
    exact ⟨_, rfl, ⟨A', n, cp, rfl, hn, hc, (hl0.bar (fun h => by omega) hbar).mono (fun b h => Or.inl h.1)⟩, hB.trans (hbar.below (B := w.heap.size) (by omega) hB.size)⟩)
  have H9 := Lib.hid ((hy.set0 (.slice A' n cp)).set1 (.int .i64 c.h))
  have y0 := hy.c0
  have y1 := hy.c1
  have yf0 := hy.f 0
  have yf1 := hy.f 1
  clear k0 k1 k2 k3 hdo HEND hbar hB hl0 hx hy hp p1 p2
  go_wp2
  refine bodyPost_ret (results_get rfl _ _ (g + 2) _ _ rfl H9.out.c0 H9.out.c1) rfl ?_
  exact HE.out
end
end Go.Proofs.Ytjjedadhkdpceaa.Cl
