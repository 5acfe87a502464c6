/- The three predicates; slices.DeleteFunc over entries. -/
import Derived.Test.YtocmkjccaajnnaaBpB
namespace Go.Proofs.Ytocmkjccaajnnaa.Bu
open Go.RowKit Pac Ls

section
variable {w : World}
set_option maxRecDepth 20000 in
set_option maxHeartbeats 800000 in
theorem pred_drop (kb : Nat) (k : ByteArray) (hk : w.cell? ⟨kb, 0, none⟩ = some (.string k)) (B : Nat) (hB : kb < B) : PredE 50 kb (fun e => decide (e.k = k.data.toList)) B w := by
  intro e W hW hBW
  have c0 := (hW.cell (p := ⟨kb, 0, none⟩) hB).trans hk
  have hlt : kb < W.heap.size := World.block_lt_of_cell? W _ c0
  obtain ⟨ek, et, es⟩ := e
  simp only
  have hx := Box3.new W (.string ek) (.int .i64 et) (.int .i64 es) 51
  have hb := (Below.refl W.heap.size W).alloc (Nat.le_refl _) (.cells #[.string ek, .int .i64 et, .int .i64 es] 51)
  have c0' := (hb.cell (p := ⟨kb, 0, none⟩) hlt).trans c0
  obtain ⟨d, hd⟩ : ∃ d : Bool, decide ((⟨ek, et, es⟩ : E).k = k.data.toList) = d := ⟨_, rfl⟩
  rw [hd]
  have hbk : (ek.toList == k.toList) = d := by rw [key_beq]; exact hd
  have x0 := hx.c0
  clear hd hx hk hW hBW hB c0 hlt
  go_enter Try.func50, Try.ntmps50
  go_wp2
  go_ret
  exact ⟨rfl, hb⟩
set_option maxRecDepth 20000 in
set_option maxHeartbeats 800000 in
theorem pred_find (kb : Nat) (k : ByteArray) (hk : w.cell? ⟨kb, 0, none⟩ = some (.string k)) (B : Nat) (hB : kb < B) : PredE 51 kb (fun e => decide (e.k = k.data.toList)) B w := by
  intro e W hW hBW
  have c0 := (hW.cell (p := ⟨kb, 0, none⟩) hB).trans hk
  have hlt : kb < W.heap.size := World.block_lt_of_cell? W _ c0
  obtain ⟨ek, et, es⟩ := e
  simp only
  have hx := Box3.new W (.string ek) (.int .i64 et) (.int .i64 es) 51
  have hb := (Below.refl W.heap.size W).alloc (Nat.le_refl _) (.cells #[.string ek, .int .i64 et, .int .i64 es] 51)
  have c0' := (hb.cell (p := ⟨kb, 0, none⟩) hlt).trans c0
  obtain ⟨d, hd⟩ : ∃ d : Bool, decide ((⟨ek, et, es⟩ : E).k = k.data.toList) = d := ⟨_, rfl⟩
  rw [hd]
  have hbk : (ek.toList == k.toList) = d := by rw [key_beq]; exact hd
  have x0 := hx.c0
  clear hd hx hk hW hBW hB c0 hlt
  go_enter Try.func51, Try.ntmps51
  go_wp2
  go_ret
  exact ⟨rfl, hb⟩
set_option maxRecDepth 20000 in
set_option maxHeartbeats 800000 in
theorem pred_put (kb : Nat) (k : ByteArray) (hk : w.cell? ⟨kb, 0, none⟩ = some (.string k)) (B : Nat) (hB : kb < B) : PredE 46 kb (fun e => decide (lt k.data.toList e.k)) B w := by
  intro e W hW hBW
  have c0 := (hW.cell (p := ⟨kb, 0, none⟩) hB).trans hk
  have hlt : kb < W.heap.size := World.block_lt_of_cell? W _ c0
  obtain ⟨ek, et, es⟩ := e
  simp only
  have hx := Box3.new W (.string ek) (.int .i64 et) (.int .i64 es) 51
  have hb := (Below.refl W.heap.size W).alloc (Nat.le_refl _) (.cells #[.string ek, .int .i64 et, .int .i64 es] 51)
  have c0' := (hb.cell (p := ⟨kb, 0, none⟩) hlt).trans c0
  obtain ⟨d, hd⟩ : ∃ d : Bool, decide (lt k.data.toList (⟨ek, et, es⟩ : E).k) = d := ⟨_, rfl⟩
  rw [hd]
  have HBK : Hid ((!Op.bytesLess ek.toList k.toList && !(ek.toList == k.toList)) = d) := Lib.hid (by
    rw [key_beq, key_list, key_list, ← hd]
    show _ = decide (Op.bytesLess k.data.toList ek.data.toList = true)
    rcases lt_total k.data.toList ek.data.toList with h | h | h
    · have h1 := lt_asymm h
      have h2 := lt_ne h
      have h3 : Op.bytesLess ek.data.toList k.data.toList = false := by
        cases h4 : Op.bytesLess ek.data.toList k.data.toList
        · rfl
        · exact absurd h4 h1
      rw [h3, show Op.bytesLess k.data.toList ek.data.toList = true from h, decide_eq_false (fun e => h2 e.symm)]
      rfl
    · rw [← h]
      rw [less_irrefl]
      simp
    · have h1 := lt_asymm h
      have h3 : Op.bytesLess k.data.toList ek.data.toList = false := by
        cases h4 : Op.bytesLess k.data.toList ek.data.toList
        · rfl
        · exact absurd h4 h1
      rw [h3, show Op.bytesLess ek.data.toList k.data.toList = true from h]
      rfl)
  have x0 := hx.c0
  clear hd hx hk hW hBW hB c0 hlt
  go_enter Try.func46, Try.ntmps46
  go_wp2
  go_ret
  exact ⟨by rw [← HBK.out]; rfl, hb⟩
end
/-- DeleteFunc in the middle: i kept, j seen. -/
structure KeptE (p : E → Bool) (l d : List E) (i j : Nat) : Prop where
  len : d.length = l.length
  ij : i < j
  jn : j ≤ l.length
  low : d.take i = (l.take j).filter (fun x => !p x)
  high : d.drop j = l.drop j
theorem KeptE.at {p : E → Bool} {l d : List E} {i j : Nat} (h : KeptE p l d i j) {q : Nat} (hq : j ≤ q) : d[q]? = l[q]? := by
  have h1 : (d.drop j)[q - j]? = d[q]? := by rw [List.getElem?_drop]; congr 1; omega
  have h2 : (l.drop j)[q - j]? = l[q]? := by rw [List.getElem?_drop]; congr 1; omega
  rw [← h1, ← h2, h.high]
theorem KeptE.start {p : E → Bool} {l : List E} {k : Nat} {x : E} (h1 : l[k]? = some x) (h2 : p x = true) (h3 : ∀ y ∈ l.take k, p y = false) : KeptE p l l k (k + 1) := by
  have hk := (List.getElem?_eq_some_iff.1 h1).1
  refine ⟨rfl, by omega, by omega, ?_, rfl⟩
  rw [take_snoc h1, List.filter_append, List.filter_cons_of_neg (by simp [h2]), List.filter_nil, List.append_nil, List.filter_eq_self.2 fun y hy => by rw [h3 y hy]; rfl]
theorem KeptE.keep {p : E → Bool} {l d : List E} {i j : Nat} {x : E} (h : KeptE p l d i j) (hx : l[j]? = some x) (hp : p x = false) : KeptE p l (d.set i x) (i + 1) (j + 1) := by
  have hj := (List.getElem?_eq_some_iff.1 hx).1
  have h1 := h.ij
  have h2 := h.len
  refine ⟨by rw [List.length_set, h2], by omega, by omega, ?_, ?_⟩
  · rw [take_snoc hx, List.filter_append, List.filter_cons_of_pos (by rw [hp]; rfl), List.filter_nil, ← h.low]
    have e : (d.set i x)[i]? = some x := List.getElem?_set_self (by omega)
    rw [take_snoc e]
    congr 1
    rw [List.take_set, List.set_eq_of_length_le (by rw [List.length_take]; omega)]
  · have e : (d.set i x).drop (j + 1) = d.drop (j + 1) := List.drop_set_of_lt (by omega)
    have e2 : ∀ L : List E, L.drop (j + 1) = (L.drop j).drop 1 := fun L => by rw [List.drop_drop]
    rw [e, e2, h.high, ← e2]
theorem KeptE.skip {p : E → Bool} {l d : List E} {i j : Nat} {x : E} (h : KeptE p l d i j) (hx : l[j]? = some x) (hp : p x = true) : KeptE p l d i (j + 1) := by
  have hj := (List.getElem?_eq_some_iff.1 hx).1
  have h1 := h.ij
  refine ⟨h.len, by omega, by omega, ?_, ?_⟩
  · rw [take_snoc hx, List.filter_append, List.filter_cons_of_neg (by simp [hp]), List.filter_nil, List.append_nil, h.low]
  · have e2 : ∀ L : List E, L.drop (j + 1) = (L.drop j).drop 1 := fun L => by rw [List.drop_drop]
    rw [e2, h.high, ← e2]
theorem KeptE.done {p : E → Bool} {l d : List E} {i : Nat} (h : KeptE p l d i l.length) : d.take i = l.filter (fun x => !p x) := by rw [h.low, List.take_length]
/-- What DeleteFunc answers: the row cut. -/
def DelPost (base : Nat) (l : List E) (w : World) (e : Ending) (w' : World) : Prop := ∃ (v : Value) (m : Nat), e = .returned v ∧ l.length = m ∧ OwnE w' base v m l ∧ Below base w w'
section
variable {n cp : Nat} {l : List E} {w : World}
set_option maxRecDepth 20000 in
set_option maxHeartbeats 3200000 in
theorem delete_any (kb base : Nat) (v : Value) (k : ByteArray) (hl : OwnE w base v n l) (hn : l.length = n) (h9 : n ≤ 100000) (hB9 : base ≤ w.heap.size) (hkb : kb < base) (hk : w.cell? ⟨kb, 0, none⟩ = some (.string k)) :
    Calls Try.prog 48 #[v, .func (.func 50) #[] #[.pointer (some ⟨kb, 0, none⟩)]] w (DelPost base (dropL l k.data.toList) w) := by
  obtain ⟨A, c, rfl, hc, hA⟩ := Li.list_of_own cellsE_len hl hn
  have hp := pred_drop kb k hk base hkb
  have hidx := index_drop (cp := c) kb (fun e => decide (e.k = k.data.toList)) base base hA hn h9 hB9 hp
  have hfil : l.filter (fun x => !decide (x.k = k.data.toList)) = dropL l k.data.toList := rfl
  generalize dropL l k.data.toList = L at hfil ⊢
  rcases first_or (fun e : E => decide (e.k = k.data.toList)) l with hno | ⟨q0, x0, g1, g2, g3⟩
  · have hcall := hidx.mono (IdxPost.none hno)
    have hL : L = l := by
      rw [← hfil, List.filter_eq_self]
      intro x hx
      rw [show decide (x.k = k.data.toList) = false from hno x hx]
      rfl
    subst hL
    have HL := Lib.hid (And.intro hl hn)
    clear hl hn hidx hno hfil hA hp hk
    go_enter Try.func48, Try.ntmps48
    go_wp2_with fail
    refine hcall.mono ?_
    rintro e w1 ⟨rfl, hB⟩
    go_wp2
    go_ret
    exact ⟨_, n, rfl, HL.out.2, Li.own_below HL.out.1 hB (Nat.le_refl _), hB.mono hB9⟩
  · have hcall := hidx.mono (IdxPost.some g1 g2 g3)
    have hq0 := (List.getElem?_eq_some_iff.1 g1).1
    rw [hn] at hq0
    obtain ⟨b, o, hAe, _⟩ := hA (fun e => by rw [e] at g1; simp at g1)
    subst hAe
    obtain ⟨rfl⟩ : o = 0 := by
      rcases hl.2 with ⟨h', _⟩ | ⟨g', cap', cur, h', _⟩
      · simp at h'
      · simp only [Value.slice.injEq, Option.some.injEq, Addr.mk.injEq, and_true, true_and] at h'
        exact h'.1.2
    have hbb : base ≤ b := (hl.lt b rfl).1
    have hst := KeptE.start (p := fun e : E => decide (e.k = k.data.toList)) g1 g2 g3
    have hq1 : ((q0 : Int) == -1) = false := beq_eq_false_iff_ne.2 (by omega)
    have hc9 : c ≤ 9223372036854775807 := by
      obtain ⟨_, _, _, _, h, _⟩ := own_row hl
      unfold maxLen at h
      omega
    have HL := Lib.hid (And.intro hl (And.intro hn (And.intro hp (And.intro hfil (And.intro hst hB9)))))
    clear hl hn hidx hA hp hk g1 g2 g3 hfil hst
    go_enter Try.func48, Try.ntmps48
    go_wp2_with fail
    refine hcall.mono ?_
    rintro e w1 ⟨rfl, hB⟩
    have HB0 := Lib.hid hB
    clear hcall hB
    go_wp2
    go_loopw [5, 6, 7] (fun vi vj _ wr => ∃ (i j : Nat) (d : List E), j ≤ n ∧ i < j ∧ vi = .int .i64 i ∧ vj = .int .i64 j ∧ OwnE wr base (.slice (some ⟨b, 0, none⟩) n c) n d ∧ Hid (KeptE (fun e : E => decide (e.k = k.data.toList)) l d i j) ∧ Hid (Below base w wr)) (fun _ vj _ _ => n - (intOf vj).toNat)
    case atStart => exact ⟨q0, q0 + 1, l, by omega, by omega, rfl, by go_num, Li.own_below HL.out.1 HB0.out (Nat.le_refl _), Lib.hid HL.out.2.2.2.2.1, Lib.hid (HB0.out.mono HL.out.2.2.2.2.2)⟩
    case round =>
      obtain ⟨i, j, d, hjn, hij, rfl, rfl, hown, hK, hB⟩ := hrel
      have hbs := (hown.lt b rfl).2
      by_cases hlt : j < n
      · have hgt := List.getElem?_eq_getElem (l := l) (i := j) (by rw [HL.out.2.1]; exact hlt)
        generalize (l[j]'(by rw [HL.out.2.1]; exact hlt)) = x at hgt
        have hgd : d[j]? = some x := (hK.out.at (Nat.le_refl _)).trans hgt
        obtain ⟨d0, d1, d2⟩ := own_at hown hgd
        have hgi := List.getElem?_eq_getElem (l := d) (i := i) (by rw [hK.out.len, HL.out.2.1]; omega)
        generalize (d[i]'(by rw [hK.out.len, HL.out.2.1]; omega)) = y at hgi
        have i1 : (j : Int) < (n : Int) := by omega
        have i0 : (0 : Int) ≤ (j : Int) := by omega
        have i3 : (i : Int) < (n : Int) := by omega
        have i2 : (0 : Int) ≤ (i : Int) := by omega
        have HG := Lib.hid (And.intro hgt (And.intro hgi hown))
        have hxk : x.k = x.key.data.toList := rfl
        have hBs := HL.out.2.2.2.2.2
        obtain ⟨xk, xt, xs⟩ := x
        simp only at d0 d1 d2
        have hb2 := (Below.refl wr.heap.size wr).alloc (Nat.le_refl _) (.cells #[.string xk, .int .i64 xt, .int .i64 xs] 51)
        have hx := Box3.new wr (.string xk) (.int .i64 xt) (.int .i64 xs) 51
        have hcall := HL.out.2.2.1 ⟨xk, xt, xs⟩ (wr.alloc (.cells #[.string xk, .int .i64 xt, .int .i64 xs] 51)) (hB.out.trans (hb2.mono (Nat.le_trans hBs hB.out.size))) (Nat.le_trans hBs (Nat.le_trans hB.out.size hb2.size))
        simp only at hcall
        have x0 := hx.c0
        have x1 := hx.c1
        have x2 := hx.c2
        have HX := Lib.hid (And.intro hx (And.intro hb2 hBs))
        clear hgt hgd hgi hown hxk hx hb2 hBs
        cases hq2 : decide ((⟨xk, xt, xs⟩ : E).k = k.data.toList) with
        | true =>
          rw [hq2] at hcall
          have HK : Hid (KeptE (fun e : E => decide (e.k = k.data.toList)) l d i (j + 1)) := Lib.hid (hK.out.skip HG.out.1 hq2)
          clear hq2
          go_wp2_with fail
          refine hcall.mono ?_
          rintro e w2 ⟨rfl, hy⟩
          have hown2 := Li.own_below (Li.own_below HG.out.2.2 HX.out.2.1 (Nat.le_refl _)) hy (Nat.le_refl _)
          have hB2 := Lib.hid ((hB.out.trans (HX.out.2.1.mono (Nat.le_trans HX.out.2.2 hB.out.size))).trans (hy.mono (Nat.le_trans HX.out.2.2 (Nat.le_trans hB.out.size HX.out.2.1.size))))
          clear hy hcall x0 x1 x2 d0 d1 d2
          go_wp2
          go_roundw
          case rel => exact ⟨i, j + 1, d, by omega, by omega, rfl, by go_num, hown2, HK, hB2⟩
          case measure => simp [intOf]; omega
        | false =>
          rw [hq2] at hcall
          have HK : Hid (KeptE (fun e : E => decide (e.k = k.data.toList)) l (d.set i ⟨xk, xt, xs⟩) (i + 1) (j + 1)) := Lib.hid (hK.out.keep HG.out.1 hq2)
          clear hq2
          go_wp2_with fail
          refine hcall.mono ?_
          rintro e w2 ⟨rfl, hy⟩
          have hown2 := Li.own_below (Li.own_below HG.out.2.2 HX.out.2.1 (Nat.le_refl _)) hy (Nat.le_refl _)
          have hB2 := (hB.out.trans (HX.out.2.1.mono (Nat.le_trans HX.out.2.2 hB.out.size))).trans (hy.mono (Nat.le_trans HX.out.2.2 (Nat.le_trans hB.out.size HX.out.2.1.size)))
          have hx2 := HX.out.1.below hy (by simp)
          clear hcall x0 x1 x2 d0 d1 d2
          have x0 := hx2.c0
          have x1 := hx2.c1
          have x2 := hx2.c2
          obtain ⟨y0, y1, y2⟩ := own_at hown2 HG.out.2.1
          have yf := hown2.frozenAt
          have HO := Lib.hid (And.intro (own_storeE hown2 i ⟨xk, xt, xs⟩) (((hB2.setCell (p := ⟨b, i * 3, none⟩) hbb (.string xk)).setCell (p := ⟨b, i * 3 + 1, none⟩) hbb (.int .i64 xt)).setCell (p := ⟨b, i * 3 + 2, none⟩) hbb (.int .i64 xs)))
          clear hy hown2 hB2 hx2
          go_wp2
          go_roundw
          case rel => exact ⟨i + 1, j + 1, _, by omega, by omega, by go_num, by go_num, HO.out.1, HK, Lib.hid HO.out.2⟩
          case measure => simp [intOf]; omega
      · obtain rfl : j = n := by omega
        obtain ⟨w3, hcl, hown3, hgr⟩ := run_clearE hown hij
        have hF : Hid (DelPost base L w (.returned (.slice (some ⟨b, 0, none⟩) i c)) w3) := Lib.hid (by
          have hd : d.take i = L := by
            have h := hK.out
            rw [← HL.out.2.1] at h
            rw [h.done]
            exact HL.out.2.2.2.1
          rw [hd] at hown3
          refine ⟨_, i, rfl, ?_, hown3, hB.out.trans (grown_below hgr hbb (Nat.le_trans HL.out.2.2.2.2.2 hB.out.size))⟩
          have := hown3.1
          rw [cellsE_size] at this
          omega)
        have i3 : (i : Int) ≤ (j : Int) := by omega
        have i4 : (i : Int) ≤ (c : Int) := by omega
        have i2 : (0 : Int) ≤ (i : Int) := by omega
        have i5 : ¬ (c = i) := by omega
        clear hown hown3 hgr
        go_wp2
        go_ret
        exact hF.out
end
end Go.Proofs.Ytocmkjccaajnnaa.Bu
