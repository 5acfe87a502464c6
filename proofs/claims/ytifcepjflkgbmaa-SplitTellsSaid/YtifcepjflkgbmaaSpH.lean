/- A split's bytes: the document's, walked; whether groups are few: the law's, walked. -/
import Derived.Test.YtifcepjflkgbmaaSpG
namespace Go.Proofs.Ytifcepjflkgbmaa.Sp
open Go.RowKit Pac Lex

theorem numsB_snoc (c : Int) : ∀ g : List Int, numsB (g ++ [c]) = numsB g ++ encB (zig c)
  | [] => by
    show encB (zig c) ++ (⟨#[]⟩ : ByteArray) = (⟨#[]⟩ : ByteArray) ++ encB (zig c)
    apply bytesEq'
    rw [app_list, app_list]
    simp
  | x :: g => by
    show encB (zig x) ++ numsB (g ++ [c]) = encB (zig x) ++ numsB g ++ encB (zig c)
    rw [numsB_snoc c g, app_assoc]
theorem catG_snoc (g : List Int) : ∀ l : List (List Int), catG (l ++ [g]) = catG l ++ printG g
  | [] => by
    show printG g ++ (⟨#[]⟩ : ByteArray) = (⟨#[]⟩ : ByteArray) ++ printG g
    apply bytesEq'
    rw [app_list, app_list]
    simp
  | k :: l => by
    show printG k ++ catG (l ++ [g]) = printG k ++ catG l ++ printG g
    rw [catG_snoc g l, app_assoc]
theorem numsB_size : ∀ g : List Int, (numsB g).size ≤ 10 * g.length
  | [] => Nat.le_refl _
  | c :: g => by
    have h1 := numsB_size g
    have h2 := (encB_size (zig c)).2
    show (encB (zig c) ++ numsB g).size ≤ _
    rw [ByteArray.size_append, List.length_cons]
    omega
theorem catG_size : ∀ l : List (List Int), (catG l).size ≤ 10 * l.length + 10 * l.flatten.length
  | [] => Nat.le_refl _
  | g :: l => by
    have h1 := catG_size l
    have h2 := numsB_size g
    have h3 := (encB_size (zig (g.length : Int))).2
    show ((encB (zig (g.length : Int)) ++ numsB g) ++ catG l).size ≤ _
    rw [ByteArray.size_append, ByteArray.size_append, List.length_cons, List.flatten_cons, List.length_append]
    omega
theorem take_flat_le (l : List (List Int)) (q : Nat) : (l.take q).flatten.length ≤ l.flatten.length := by
  have h := congrArg (fun x : List (List Int) => x.flatten.length) (List.take_append_drop q l)
  simp only [List.flatten_append, List.length_append] at h
  omega
/-- What is printed by the time when q groups are. -/
def pre1 (l : List (List Int)) (q : Nat) : ByteArray := encB (zig (l.length : Int)) ++ catG (l.take q)
def pre2 (l : List (List Int)) (q : Nat) (g : List Int) (t : Nat) : ByteArray := pre1 l q ++ (encB (zig (g.length : Int)) ++ numsB (g.take t))
theorem pre1_size {l : List (List Int)} {n : Nat} (h : IsSplit l n) (q : Nat) : (pre1 l q).size ≤ 200 := by
  have h1 := catG_size (l.take q)
  have h2 := (encB_size (zig (l.length : Int))).2
  have h3 := take_flat_le l q
  have h4 := h.few
  have h5 := h.len
  have h6 := h.n8
  have h7 : (l.take q).length ≤ l.length := by rw [List.length_take]; omega
  unfold pre1
  rw [ByteArray.size_append]
  omega
theorem IsSplit.short {l : List (List Int)} {n : Nat} (h : IsSplit l n) {g : List Int} (hg : g ∈ l) : g.length ≤ 8 := by
  have := in_len hg
  have := h.len
  have := h.n8
  omega
theorem pre2_size {l : List (List Int)} {n : Nat} (h : IsSplit l n) (q : Nat) {g : List Int} (hg : g ∈ l) (t : Nat) : (pre2 l q g t).size ≤ 400 := by
  have h1 := pre1_size h q
  have h2 := (encB_size (zig (g.length : Int))).2
  have h3 := numsB_size (g.take t)
  have h4 := h.short hg
  have h5 : (g.take t).length ≤ g.length := by rw [List.length_take]; omega
  unfold pre2
  rw [ByteArray.size_append, ByteArray.size_append]
  omega
theorem pre2_zero (l : List (List Int)) (q : Nat) (g : List Int) : pre1 l q ++ encB (zig (g.length : Int)) = pre2 l q g 0 := by
  unfold pre2
  apply bytesEq'
  rw [app_list, app_list, app_list]
  show _ = _ ++ (_ ++ [])
  rw [List.append_nil]
theorem pre2_next (l : List (List Int)) (q : Nat) {g : List Int} {t : Nat} {c : Int} (hc : g[t]? = some c) : pre2 l q g t ++ encB (zig c) = pre2 l q g (t + 1) := by
  unfold pre2
  rw [List.take_add_one, hc]
  show _ = _ ++ (_ ++ numsB (g.take t ++ [c]))
  rw [numsB_snoc, app_assoc, app_assoc]
theorem pre1_next {l : List (List Int)} {q : Nat} {g : List Int} (hg : l[q]? = some g) : pre2 l q g g.length = pre1 l (q + 1) := by
  unfold pre2 pre1
  rw [List.take_add_one, hg, List.take_length]
  show _ = _ ++ catG (l.take q ++ [g])
  rw [catG_snoc, app_assoc]
  rfl

set_option maxRecDepth 20000 in
set_option maxHeartbeats 1600000 in
theorem refPrint_any (A1 : Option Addr) (cp1 : Nat) (l1 : List (List Int)) (n lo1 : Nat) (w : World) (h1 : HasLL w lo1 A1 l1) (hs : IsSplit l1 n) :
    Calls Try.prog 20 #[.slice A1 l1.length cp1] w fun e w' => e = .returned (.string (printSp l1)) ∧ Below w.heap.size w w' := by
  have hm8 : l1.length ≤ 8 := by have := hs.few; have := hs.n8; omega
  have hP0 : encB (zig (l1.length : Int)) = pre1 l1 0 := by
    unfold pre1
    apply bytesEq'
    rw [app_list]
    show _ = _ ++ []
    rw [List.append_nil]
  have hP1 : pre1 l1 l1.length = printSp l1 := by unfold pre1 printSp; rw [List.take_length]
  have hc0 := fun W : World => refNum_any (l1.length : Int) W (by omega) (by omega)
  rw [hP0] at hc0
  generalize printSp l1 = ans at hP1 ⊢
  obtain ⟨m, hm⟩ : ∃ m, l1.length = m := ⟨_, rfl⟩
  rw [hm] at hm8 hP1 hc0 ⊢
  have HA := Lib.hid h1
  have HM := Lib.hid hm
  have HS := Lib.hid hs
  have HP1 := Lib.hid hP1
  clear h1 hm hs hP0 hP1
  have hx0 := pre1_size HS.out 0
  have HX0 : ∃ x, x = pre1 l1 0 := ⟨_, rfl⟩
  obtain ⟨x0, hx00⟩ := HX0
  rw [← hx00] at hc0 hx0
  have HX0 := Lib.hid hx00
  clear hx00
  go_enter Try.func20, Try.ntmps20
  go_wp2_with fail
  refine (hc0 _).mono ?_
  rintro e w1 ⟨rfl, hB⟩
  clear hc0
  go_wp2
  go_loopw [3, 4] (fun x i wr => ∃ (q : Nat) (s : ByteArray), q ≤ m ∧ i = .int .i64 q ∧ x = .string s ∧ Hid (s = pre1 l1 q) ∧ Below w.heap.size w wr) (fun _ i _ => m - (intOf i).toNat)
  case atStart => exact ⟨0, x0, Nat.zero_le _, rfl, rfl, HX0, hB⟩
  case round =>
    clear hB hx0
    obtain ⟨q, s, hq, rfl, rfl, hH, hB⟩ := hrel
    have hz : s.size ≤ 200 := by rw [hH.out]; exact pre1_size HS.out q
    by_cases hlt : q < m
    · have hg1 : l1[q]? = some (l1[q]'(by rw [HM.out]; exact hlt)) := List.getElem?_eq_getElem _
      generalize (l1[q]'(by rw [HM.out]; exact hlt)) = g at hg1
      have hgm := List.mem_of_getElem? hg1
      have hp8 := HS.out.short hgm
      obtain ⟨b1, o1, A3, cp3, rfl, hlo1, hlb1, d1, hI1, _⟩ := (HA.out.below hB (Nat.le_refl _)).at hg1
      have HG1 := Lib.hid hg1
      have HGM := Lib.hid hgm
      have hc1 := fun W : World => refNum_any (g.length : Int) W (by omega) (by omega)
      have hz1 := encB_size (zig (g.length : Int))
      have hpz := pre2_zero l1 q g
      rw [← hH.out] at hpz
      obtain ⟨p, hp⟩ : ∃ p, g.length = p := ⟨_, rfl⟩
      rw [hp] at d1 hp8 hc1 hz1 hpz
      generalize encB (zig (p : Int)) = y at hc1 hz1 hpz
      have HP := Lib.hid hp
      have HPZ := Lib.hid hpz
      have i1 : (q : Int) < (m : Int) := by omega
      have i0 : (0 : Int) ≤ (q : Int) := by omega
      clear hp hg1 hgm hI1 hpz
      go_wp2_with fail
      refine (hc1 _).mono ?_
      rintro e w2 ⟨rfl, hw2⟩
      have hB := hB.trans (hw2.mono hB.size)
      clear hw2 hc1 d1
      go_wp2
      have HPZ2 := HPZ.out
      have hz2 : (s ++ y).size ≤ 400 := by rw [HPZ2]; exact pre2_size HS.out q HGM.out 0
      generalize s ++ y = s0 at HPZ2 hz2 ⊢
      have HPZ3 := Lib.hid HPZ2
      clear HPZ2 HPZ hz1 hz2
      go_loopw [3, 5] (fun x i wr => ∃ (t : Nat) (s : ByteArray), t ≤ p ∧ i = .int .i64 t ∧ x = .string s ∧ Hid (s = pre2 l1 q g t) ∧ Below w.heap.size w wr) (fun _ i _ => p - (intOf i).toNat)
      case atStart => exact ⟨0, s0, Nat.zero_le _, rfl, rfl, HPZ3, hB⟩
      case round =>
        clear hB
        obtain ⟨t, s, ht, rfl, rfl, hT, hB⟩ := hrel
        have hz : s.size ≤ 400 := by rw [hT.out]; exact pre2_size HS.out q HGM.out t
        obtain ⟨b1', o1', A5, cp5, e1, hlo1', hlb1', d1, hI1, _⟩ := (HA.out.below hB (Nat.le_refl _)).at HG1.out
        injection e1 with e1
        injection e1 with e1 e1'
        subst e1 e1'
        rw [HP.out] at d1
        clear hlo1' hlb1'
        by_cases htp : t < p
        · have hx1 : g[t]? = some (g[t]'(by rw [HP.out]; exact htp)) := List.getElem?_eq_getElem _
          generalize (g[t]'(by rw [HP.out]; exact htp)) = c at hx1
          obtain ⟨b5, o5, rfl, _, hlb5, f1⟩ := hI1.at hx1
          have hcr := (HS.out.grp HG1.out).2.2 c (List.mem_of_getElem? hx1)
          have hn8 := HS.out.n8
          have hc1 := fun W : World => refNum_any c W (by omega) (by omega)
          have hz1 := encB_size (zig c)
          have hpn := pre2_next l1 q hx1
          rw [← hT.out] at hpn
          generalize encB (zig c) = y at hc1 hz1 hpn
          have HPN := Lib.hid hpn
          have j1 : (t : Int) < (p : Int) := by omega
          have j0 : (0 : Int) ≤ (t : Int) := by omega
          clear hI1 hx1 hcr hn8 hpn
          go_wp2_with fail
          refine (hc1 _).mono ?_
          rintro e w3 ⟨rfl, hw3⟩
          have hB := hB.trans (hw3.mono hB.size)
          clear hw3 hc1 d1 f1
          go_wp2
          go_roundw
          case rel => exact ⟨t + 1, s ++ y, by omega, by go_num, rfl, HPN, hB⟩
          case measure => simp [intOf]; omega
        · obtain rfl : t = p := by omega
          have HE : Hid (s = pre1 l1 (q + 1)) := Lib.hid (by rw [hT.out, ← pre1_next HG1.out, HP.out])
          go_wp2
          clear d1 hI1
          go_roundw
          case rel => exact ⟨q + 1, s, by omega, by go_num, rfl, HE, hB⟩
          case measure => simp [intOf]; omega
    · obtain rfl : q = m := by omega
      have HQ : Hid (s = ans) := Lib.hid (hH.out.trans HP1.out)
      go_wp2
      go_ret
      exact ⟨by rw [HQ.out]; rfl, hB⟩

/-- Are there few groups, of few columns? -/
def fewB (l : List (List Int)) : Bool := decide (l.length ≤ 20 ∧ ∀ g ∈ l, g.length ≤ 20)
set_option maxRecDepth 20000 in
set_option maxHeartbeats 1600000 in
theorem small_any (A1 : Option Addr) (cp1 : Nat) (l1 : List (List Int)) (lo1 : Nat) (w : World) (h1 : HasLL w lo1 A1 l1) (hl1 : l1.length ≤ 9223372036854775807) (hg1 : ∀ g ∈ l1, g.length ≤ 9223372036854775807) :
    Calls Try.prog 8 #[.slice A1 l1.length cp1] w fun e w' => e = .returned (.bool (fewB l1)) ∧ Below w.heap.size w w' := by
  have hR : (∀ g ∈ l1, 20 < g.length → fewB l1 = false) ∧ ((∀ g ∈ l1, g.length ≤ 20) → fewB l1 = decide (l1.length ≤ 20)) := by
    refine ⟨fun g hg h => decide_eq_false (fun h' => by have := h'.2 g hg; omega), fun h => ?_⟩
    unfold fewB
    exact decide_eq_decide.2 ⟨fun h' => h'.1, fun h' => ⟨h', h⟩⟩
  generalize fewB l1 = r at hR ⊢
  obtain ⟨m, hm⟩ : ∃ m, l1.length = m := ⟨_, rfl⟩
  rw [hm] at hl1 hR ⊢
  have HR := Lib.hid hR
  have HA := Lib.hid h1
  have HM := Lib.hid hm
  have HG := Lib.hid hg1
  clear h1 hm hg1 hR
  go_enter Try.func8, Try.ntmps8
  go_wp2
  go_loopw [3] (fun i wr => ∃ q : Nat, q ≤ m ∧ i = .int .i64 q ∧ Hid (∀ j < q, ∀ g, l1[j]? = some g → g.length ≤ 20) ∧ Below w.heap.size w wr) (fun i _ => m - (intOf i).toNat)
  case atStart => exact ⟨0, Nat.zero_le _, rfl, Lib.hid (fun j hj => absurd hj (Nat.not_lt_zero j)), Below.refl _ w⟩
  case round =>
    obtain ⟨q, hq, rfl, hH, hB⟩ := hrel
    by_cases hlt : q < m
    · have hg1 : l1[q]? = some (l1[q]'(by rw [HM.out]; exact hlt)) := List.getElem?_eq_getElem _
      generalize (l1[q]'(by rw [HM.out]; exact hlt)) = g at hg1
      have sg := HG.out g (List.mem_of_getElem? hg1)
      obtain ⟨b1, o1, A3, cp3, rfl, hlo1, hlb1, d1, _, _⟩ := (HA.out.below hB (Nat.le_refl _)).at hg1
      have HG1 := Lib.hid hg1
      obtain ⟨p, hp⟩ : ∃ p, g.length = p := ⟨_, rfl⟩
      rw [hp] at d1 sg
      have HP := Lib.hid hp
      clear hp hg1
      have i1 : (q : Int) < (m : Int) := by omega
      have i0 : (0 : Int) ≤ (q : Int) := by omega
      by_cases hp20 : 20 < p
      · have HQ : Hid (r = false) := Lib.hid (HR.out.1 g (List.mem_of_getElem? HG1.out) (by rw [HP.out]; exact hp20))
        go_wp2
        go_ret
        exact ⟨by rw [HQ.out]; rfl, hB⟩
      · have HE : Hid (∀ j < q + 1, ∀ g, l1[j]? = some g → g.length ≤ 20) := Lib.hid (fun j hj k hk => by
          by_cases hjq : j < q
          · exact hH.out j hjq k hk
          · obtain rfl : j = q := by omega
            rw [HG1.out] at hk
            injection hk with hk
            rw [← hk, HP.out]
            omega)
        go_wp2
        clear d1
        go_roundw
        case rel => exact ⟨q + 1, by omega, by go_num, HE, hB⟩
        case measure => simp [intOf]; omega
    · obtain rfl : q = m := by omega
      have HQ : Hid (r = decide ((q : Int) ≤ 20)) := Lib.hid (by
        rw [HR.out.2 (fun g hg => by
          obtain ⟨i, hi, e⟩ := List.mem_iff_getElem.1 hg
          exact hH.out i (by rw [← HM.out]; exact hi) g (by rw [List.getElem?_eq_getElem hi, e]))]
        exact decide_eq_decide.2 (by omega))
      go_wp2
      go_ret
      exact ⟨by rw [HQ.out]; rfl, hB⟩
end Go.Proofs.Ytifcepjflkgbmaa.Sp
