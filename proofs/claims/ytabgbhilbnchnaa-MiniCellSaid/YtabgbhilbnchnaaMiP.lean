/- MiniCell: whatever cells, walked. -/
import Derived.Test.YtabgbhilbnchnaaMiM
import Derived.Laws.OwnMore
import Derived.Deep.MidRow
namespace Go.Proofs.Ytabgbhilbnchnaa.Mi
open Go.RowKit Pac Va Sc Ro Lex

/-- One value of a row that is one's own is set. -/
theorem hasV_set {w : World} {base g cap m q : Nat} {l : List V} {v : V} (h : w.ownsRow base 36 3 (.slice (some ⟨g, 0, none⟩) m cap) m (Li.cellsL cellsV l)) (hm : l.length = m) (hq : q < m) :
    HasV (((w.setCell ⟨g, q * 3, none⟩ (.int .i64 v.k)).setCell ⟨g, q * 3 + 1, none⟩ (.int .i64 v.n)).setCell ⟨g, q * 3 + 2, none⟩ (.string v.s)) 0 (some ⟨g, 0, none⟩) (l.set q v) := by
  have h3 := ((((h.stored (q * 3) (.int .i64 v.k)).1.stored (q * 3 + 1) (.int .i64 v.n)).1.stored (q * 3 + 2) (.string v.s))).1
  intro _
  have hg := (h3.lt g rfl).2
  refine ⟨g, 0, rfl, Nat.zero_le _, hg, fun j x hj i u hu => ?_⟩
  have hjm : j < m := by have := (List.getElem?_eq_some_iff.1 hj).1; rw [List.length_set] at this; omega
  have hi : i < 3 := (List.getElem?_eq_some_iff.1 hu).1
  rw [Nat.zero_add, h3.cellAt (j * 3 + i) (by omega)]
  have hlen : (Li.cellsL cellsV l).length = m * 3 := by rw [Li.cellsL_len cellsV_len, hm]
  by_cases hjq : j = q
  · subst hjq
    rw [List.getElem?_set_self (by omega)] at hj
    injection hj with hj
    subst hj
    match i, hi, hu with
    | 0, _, hu =>
      show ((((Li.cellsL cellsV l).set (j * 3) (.int .i64 v.k)).set (j * 3 + 1) (.int .i64 v.n)).set (j * 3 + 2) (.string v.s))[j * 3]? = _
      rw [List.getElem?_set_ne (by omega), List.getElem?_set_ne (by omega), List.getElem?_set_self (by omega)]
      exact hu
    | 1, _, hu =>
      rw [List.getElem?_set_ne (by omega), List.getElem?_set_self (by rw [List.length_set]; omega)]
      exact hu
    | 2, _, hu =>
      rw [List.getElem?_set_self (by rw [List.length_set, List.length_set]; omega)]
      exact hu
  · rw [List.getElem?_set_ne (Ne.symm hjq)] at hj
    rw [List.getElem?_set_ne (by omega), List.getElem?_set_ne (by omega), List.getElem?_set_ne (by omega)]
    exact Li.cellsL_at cellsV_len l j x hj i u hu
theorem news_of {α : Type} {R : α → List Value} {k : Nat} (hk : 0 < k) (hR : ∀ x, (R x).length = k) {W : World} {lo b o : Nat} {l : List α} (h : Li.HasL R k W lo (some ⟨b, o, none⟩) l) : ∀ (t : Nat) (u : Value), (Li.cellsL R l)[t]? = some u → W.cell? ((⟨b, o, none⟩ : Addr).add t) = some u := fun t u hu => by
  have ht := (List.getElem?_eq_some_iff.1 hu).1
  rw [Li.cellsL_len hR] at ht
  have htk : t / k < l.length := Nat.div_lt_of_lt_mul (by rw [Nat.mul_comm]; exact ht)
  have hx : l[t / k]? = some (l[t / k]'htk) := List.getElem?_eq_getElem _
  generalize (l[t / k]'htk) = x at hx
  have hmk : t % k < (R x).length := by rw [hR]; exact Nat.mod_lt _ hk
  have hi : (R x)[t % k]? = some ((R x)[t % k]'hmk) := List.getElem?_eq_getElem _
  generalize ((R x)[t % k]'hmk) = y at hi
  have e : t / k * k + t % k = t := by rw [Nat.mul_comm]; exact Nat.div_add_mod t k
  have h1 := Li.cellsL_at hR l _ x hx _ y hi
  rw [e, hu] at h1
  injection h1 with h1
  subst h1
  obtain ⟨b', o', hA, _, _, hc⟩ := h (fun e => by rw [e] at hx; simp at hx)
  injection hA with hA
  injection hA with e1 e2
  subst e1 e2
  have h2 := hc _ x hx _ u hi
  rw [Nat.add_assoc, e] at h2
  have hadd : (⟨b, o, none⟩ : Addr).add t = ⟨b, o + t, none⟩ := by unfold Addr.add; split <;> simp_all
  rw [hadd]
  exact h2
theorem cellsV_one (l : List V) : ∀ u ∈ Li.cellsL cellsV l, u.oneCell' = true := fun u hu => by
  obtain ⟨x, _, hx⟩ := List.mem_flatMap.1 hu
  unfold cellsV at hx
  simp only [List.mem_cons, List.not_mem_nil, or_false] at hx
  rcases hx with rfl | rfl | rfl <;> rfl
theorem cellsG_one (l : List (Li.Gr V)) : ∀ u ∈ Li.cellsL Li.cellsG l, u.oneCell' = true := fun u hu => by
  obtain ⟨x, _, hx⟩ := List.mem_flatMap.1 hu
  unfold Li.cellsG at hx
  rw [List.mem_singleton] at hx
  rw [hx]
  rfl
/-- A copy of rows, with one row of its own, in which one value is nothing. -/
theorem copied {y : World} {base b6 g5 g6 cap5 cap6 m q t : Nat} {hs : List (Li.Gr V)} {r : List V} {cells : List (List V)} {W : World}
    (h5 : y.ownsRow base 34 1 (.slice (some ⟨g5, 0, none⟩) 8 cap5) 8 (Li.cellsL Li.cellsG hs)) (h6 : y.ownsRow b6 36 3 (.slice (some ⟨g6, 0, none⟩) m cap6) m (Li.cellsL cellsV r)) (h56 : g5 < b6)
    (hr : r.length = m) (hq : q < 8) (ht : t < m) (hmc : m ≤ cap6) (hl : hs.map Li.Gr.l = cells) (hlen : hs.length = 8)
    (hW : (((y.setCell ⟨g5, q, none⟩ (.slice (some ⟨g6, 0, none⟩) m cap6)).setCell ⟨g6, t * 3, none⟩ (.int .i64 0)).setCell ⟨g6, t * 3 + 1, none⟩ (.int .i64 0)).setCell ⟨g6, t * 3 + 2, none⟩ (.string ⟨#[]⟩) = W)
    (hv : ∀ x ∈ hs, HasV W 0 x.A x.l ∧ x.l.length ≤ x.cp) : HasVV W 0 (some ⟨g5, 0, none⟩) (cells.set q (r.set t vZ)) := by
  have hg6 := (h6.lt g6 rfl).1
  have h7 := (h5.stored q (.slice (some ⟨g6, 0, none⟩) m cap6)).1
  have h67 := ownsRow_setCell_below h6 (a := ⟨g5, q, none⟩) h56 (.slice (some ⟨g6, 0, none⟩) m cap6)
  have hX := hasV_set (v := vZ) h67 hr ht
  have hX : HasV W 0 (some ⟨g6, 0, none⟩) (r.set t vZ) := hW ▸ hX
  have hne : ∀ i j : Nat, (⟨g6, j, none⟩ : Addr) ≠ ⟨g5, i, none⟩ := fun i j e => by
    injection e with e1
    omega
  have hc : ∀ j, j < 8 → W.cell? ⟨g5, j, none⟩ = ((Li.cellsL Li.cellsG hs).set q (.slice (some ⟨g6, 0, none⟩) m cap6))[j]? := fun j hj => by
    rw [← hW, World.cell?_setCell_other _ _ _ _ (hne _ _), World.cell?_setCell_other _ _ _ _ (hne _ _), World.cell?_setCell_other _ _ _ _ (hne _ _), h7.cellAt j (by omega)]
  have hsz : y.heap.size ≤ W.heap.size := by rw [← hW]; simp
  refine ⟨hs.set q ⟨some ⟨g6, 0, none⟩, cap6, r.set t vZ⟩, by rw [List.map_set, hl], fun _ => ⟨g5, 0, rfl, Nat.zero_le _, Nat.lt_of_lt_of_le (h5.lt g5 rfl).2 hsz, fun j x hj i u hu => ?_⟩, fun x hx => ?_⟩
  · have hj8 : j < 8 := by have := (List.getElem?_eq_some_iff.1 hj).1; rw [List.length_set] at this; omega
    have hi : i < 1 := (List.getElem?_eq_some_iff.1 hu).1
    obtain rfl : i = 0 := by omega
    rw [Nat.zero_add, Nat.mul_one, Nat.add_zero, hc j hj8]
    have hcl : (Li.cellsL Li.cellsG hs).length = 8 := by rw [Li.cellsL_len Li.cellsG_len, hlen]
    by_cases hjq : j = q
    · subst hjq
      rw [List.getElem?_set_self (by omega)] at hj ⊢
      injection hj with hj
      subst hj
      have hu : some (Value.slice (some ⟨g6, 0, none⟩) (r.set t vZ).length cap6) = some u := hu
      rw [List.length_set, hr] at hu
      exact hu
    · rw [List.getElem?_set_ne (Ne.symm hjq)] at hj ⊢
      have := Li.cellsL_at Li.cellsG_len hs j x hj 0 u hu
      rw [Nat.mul_one, Nat.add_zero] at this
      exact this
  · rcases List.mem_or_eq_of_mem_set hx with hx | rfl
    · exact hv x hx
    · exact ⟨hX, by show (r.set t vZ).length ≤ cap6; rw [List.length_set, hr]; exact hmc⟩
theorem set_right {ks : List Int} {cells : List (List V)} {q t : Nat} {r : List V} (h : RightM ks cells) (hk : ∀ k ∈ ks, k = 1 ∨ k = 2 ∨ k = 3) (hq : cells[q]? = some r) : RightM ks (cells.set q (r.set t vZ)) := by
  have hrl := h.row r (List.mem_of_getElem? hq)
  refine ⟨by rw [List.length_set, h.len], fun x hx => ?_, fun p hp => ?_⟩
  · rcases List.mem_or_eq_of_mem_set hx with hx | rfl
    · exact h.row x hx
    · rw [List.length_set]
      exact hrl
  · obtain ⟨x, hx, j, h1, h2⟩ := mem_flat hp
    obtain ⟨k, v⟩ := p
    simp only at h1 h2
    rcases List.mem_or_eq_of_mem_set hx with hx | rfl
    · obtain ⟨i, hi⟩ := List.mem_iff_getElem?.1 hx
      exact h.ok _ (List.mem_of_getElem? (flat_at h.row hi h2 h1))
    · by_cases e : j = t
      · subst e
        have hjl : j < r.length := by have := (List.getElem?_eq_some_iff.1 h2).1; rwa [List.length_set] at this
        rw [List.getElem?_set_self hjl] at h2
        injection h2 with h2
        rw [← h2]
        exact vZ_ok (hk k (List.mem_of_getElem? h1))
      · rw [List.getElem?_set_ne (Ne.symm e)] at h2
        exact h.ok _ (List.mem_of_getElem? (flat_at h.row hq h2 h1))
theorem infoTwo : (Try.prog.info? 34).map (fun i => (i.zero, i.size, i.bytes)) = some (some (.slice none 0 0), 1, 24) := by kernel_rfl
def Four (w : World) (b1 i1 b2 i2 : Nat) (s : Value) (k n : Int) (v : ByteArray) : Prop :=
  w.cell? ⟨b1, i1, none⟩ = some s ∧ w.cell? ⟨b2, i2, none⟩ = some (.int .i64 k) ∧ w.cell? ⟨b2, i2 + 1, none⟩ = some (.int .i64 n) ∧ w.cell? ⟨b2, i2 + 2, none⟩ = some (.string v)
theorem Four.below {w w' : World} {b1 i1 b2 i2 : Nat} {s : Value} {k n : Int} {v : ByteArray} (h : Four w b1 i1 b2 i2 s k n v) (hb : Below w.heap.size w w') : Four w' b1 i1 b2 i2 s k n v :=
  ⟨cell_below hb h.1, cell_below hb h.2.1, cell_below hb h.2.2.1, cell_below hb h.2.2.2⟩

set_option maxRecDepth 20000 in
set_option maxHeartbeats 16000000 in
theorem cell_any (A1 A2 A3 : Option Addr) (cp cp2 cp3 mc m mr : Nat) (nm : ByteArray) (cs : List C) (g : List Int) (cells : List (List V)) (lo1 lo2 lo3 : Nat) (w : World) (h1 : HasCols w lo1 A1 cs) (h2 : HasI w lo2 A2 g) (h3 : HasVV w lo3 A3 cells) (hBD : Bnd nm mc cp cs g cells) (hm : g.length = m) (hmr : cells.length = mr) :
    Calls Try.prog 6 #[.agg #[.string nm, .slice A1 mc cp], .slice A2 m cp2, .slice A3 mr cp3] w fun e w' => e = .returned (.bool true) ∧ Below w.heap.size w w' := by
  obtain ⟨i0, hi, hz0, hz1, hz2⟩ := info_parts infoV
  obtain ⟨i2, hi2, hy0, hy1, hy2⟩ := info_parts infoTwo
  have hI := Inp.new (nm := nm) (mc := mc) (cp := cp) h1 h2 h3
  clear h1 h2 h3
  obtain ⟨rr, hrr⟩ : ∃ rr, rightG nm cs g cells = rr := ⟨_, rfl⟩
  have HBD := Lib.hid (And.intro hBD (And.intro hm (And.intro hmr hrr)))
  clear hBD hm hmr hrr
  go_enter Try.func6, Try.ntmps6
  generalize hw1 : w.alloc (.cells #[.string nm, .slice A1 mc cp] 24) = w1 at hI
  have c0 := hI.x.c0
  have c1 := hI.x.c1
  go_wp2_with fail
  clear hw1 c0 c1
  refine (right_of HBD.out.1 HBD.out.2.2.2 HBD.out.2.1 HBD.out.2.2.1 cp2 cp3 hI).mono ?_
  rintro e w2 ⟨rfl, hy⟩
  have hI := hI.below hy
  clear hy
  cases rr
  · go_wp2_with fail
    refine (awake_any _).mono ?_
    rintro e y9 ⟨rfl, hy⟩
    have hI := hI.below hy
    have hB := hI.b
    clear hy hI
    go_wp2
    go_ret
    exact ⟨rfl, hB⟩
  · obtain ⟨hBD, hm, hmr, hrr⟩ := HBD.out
    have hg := rightG_out hrr
    have hG := hg.grp
    have hM := hg.m hBD.vok
    obtain rfl : mr = 8 := by rw [← hmr, hg.len]
    have hm8 : m ≤ 8 := by rw [← hm]; exact hG.g8
    have hkl : (kindsL cs g).length = m := by rw [kinds_len, hm]
    obtain ⟨u, hu⟩ : ∃ u, printM (kindsL cs g) cells = u := ⟨_, rfl⟩
    have hrow := hg.row
    rw [hm] at hrow
    have HC : Hid ((∀ r ∈ cells, r.length = m) ∧ cells.length = 8 ∧ RightM (kindsL cs g) cells ∧ printM (kindsL cs g) cells = u ∧ (∀ k ∈ kindsL cs g, k = 1 ∨ k = 2 ∨ k = 3)) := Lib.hid ⟨hrow, hmr, hM, hu, kinds_ok hG⟩
    have hcP := Lib.hid (fun (W : World) (h : Inp w w.heap.size lo1 lo2 lo3 nm A1 A2 A3 mc cp cs g cells W) => print_of (cp := cp) hBD.lc hm hG hM hu cp2 cp3 h.c h.i h.v)
    have HK := Lib.hid (And.intro hBD.lc (And.intro hm (And.intro hG hkl)))
    clear hBD hm hmr hrr hg hG hM hu HBD hrow hkl
    generalize hgx : w.heap.size = gx at hI hcP ⊢
    go_wp2
    go_loopw [7] (fun i wr => ∃ (q : Nat), q ≤ 8 ∧ i = .int .i64 q ∧ Inp w gx lo1 lo2 lo3 nm A1 A2 A3 mc cp cs g cells wr) (fun i _ => 8 - (intOf i).toNat)
    case atStart => exact ⟨0, Nat.zero_le _, rfl, hI⟩
    case round =>
      clear hI
      obtain ⟨q, hq, rfl, hI⟩ := hrel
      by_cases hlt : q < 8
      · have i1 : (q : Int) < 8 := by omega
        have i0' : (0 : Int) ≤ (q : Int) := by omega
        go_wp2
        go_loopw [8] (fun i wr => ∃ (t : Nat), t ≤ m ∧ i = .int .i64 t ∧ Inp w gx lo1 lo2 lo3 nm A1 A2 A3 mc cp cs g cells wr) (fun i _ => m - (intOf i).toNat)
        case atStart => exact ⟨0, Nat.zero_le _, rfl, hI⟩
        case round =>
          clear hI
          obtain ⟨t, ht, rfl, hI⟩ := hrel
          by_cases htl : t < m
          · have j1 : (t : Int) < (m : Int) := by omega
            have j0 : (0 : Int) ≤ (t : Int) := by omega
            obtain ⟨hrow, hmr, hM, hu, hko⟩ := HC.out
            have hgr : cells[q]? = some (cells[q]'(by omega)) := List.getElem?_eq_getElem _
            generalize (cells[q]'(by omega)) = r at hgr
            have hrl := hrow r (List.mem_of_getElem? hgr)
            have hgv : r[t]? = some (r[t]'(by omega)) := List.getElem?_eq_getElem _
            generalize (r[t]'(by omega)) = v at hgv
            obtain ⟨hs, hsl, hsA, hsV⟩ := hI.v
            have hsn : hs.length = 8 := by rw [← hmr, ← hsl, List.length_map]
            obtain ⟨b1, o1, rfl, _, _, _⟩ := hsA (fun e => by rw [e] at hsn; cases hsn)
            obtain ⟨_, _, A5, c5, eA, _, _, d1, hV, hc5⟩ := hI.v.at hgr
            injection eA with eA
            injection eA with eA1 eA2
            subst eA1 eA2
            obtain ⟨b2, o2, rfl, _, _, e0, e1, e2⟩ := HasV.at hV hgv
            rw [hrl] at d1
            have hD : Four wr b1 (o1 + q) b2 (o2 + t * 3) (.slice (some ⟨b2, o2, none⟩) m c5) v.k v.n v.s := ⟨d1, e0, e1, e2⟩
            have hkt : (kindsL cs g)[t]? = some ((kindsL cs g)[t]'(by rw [HK.out.2.2.2]; exact htl)) := List.getElem?_eq_getElem _
            have hcv := hM.ok _ (List.mem_of_getElem? (flat_at hM.row hgr hgv hkt))
            have hXM := set_right (t := t) hM hko hgr
            obtain ⟨ux, hux⟩ : ∃ u, printM (kindsL cs g) (cells.set q (r.set t vZ)) = u := ⟨_, rfl⟩
            have huz := printM_le hXM (by rw [HK.out.2.2.2]; exact hm8)
            rw [hux] at huz
            have hXrd : readM (kindsL cs g) ux = some (cells.set q (r.set t vZ)) := by rw [← hux]; exact read_print hXM
            have hUU : (v = vZ → ux = u) ∧ (v.k ≠ 0 → ux ≠ u) := by
              have hback : v = vZ → cells.set q (r.set t vZ) = cells := fun e => by
                rw [e] at hgv
                obtain ⟨hl1, e1⟩ := List.getElem?_eq_some_iff.1 hgv
                obtain ⟨hl2, e2⟩ := List.getElem?_eq_some_iff.1 hgr
                rw [← e1, List.set_getElem_self, ← e2, List.set_getElem_self]
              refine ⟨fun e => by rw [← hux, hback e, hu], fun hk e => ?_⟩
              have e3 := printM_inj hXM hM (by rw [hux, e, hu])
              have e4 : (cells.set q (r.set t vZ))[q]? = cells[q]? := by rw [e3]
              rw [List.getElem?_set_self (by omega), hgr] at e4
              injection e4 with e4
              have e5 : (r.set t vZ)[t]? = r[t]? := by rw [e4]
              rw [List.getElem?_set_self (by omega), hgv] at e5
              injection e5 with e5
              exact hk (by rw [← e5]; rfl)
            have hvz : v.k = 0 → v = vZ := fun hk => by
              have h1 := right_s hcv.r (by rw [hk]; decide)
              have h2 := h1.2.1 hk
              have h3 := h1.1
              obtain ⟨vk, vn, vs⟩ := v
              simp only at hk h2 h3
              rw [hk, h2, h3]
              rfl
            have hcX := Lib.hid (fun (W : World) (A6 : Option Addr) (c6 lo6 : Nat) (h : Inp w gx lo1 lo2 lo3 nm A1 A2 (some ⟨b1, o1, none⟩) mc cp cs g cells W) (h6 : HasVV W lo6 A6 (cells.set q (r.set t vZ))) => print_of (cp := cp) HK.out.1 HK.out.2.1 HK.out.2.2.1 hXM hux cp2 c6 h.c h.i h6)
            have hcR := Lib.hid (fun (W : World) (h : Inp w gx lo1 lo2 lo3 nm A1 A2 (some ⟨b1, o1, none⟩) mc cp cs g cells W) => read_of (cp := cp) (b := true) HK.out.1 HK.out.2.1 HK.out.2.2.1 hXrd rfl (fun x hx => by injection hx with hx; rw [← hx, hXM.len]) (by omega) cp2 h.c h.i)
            have hcS := Lib.hid (fun (W : World) (A5 A6 : Option Addr) (p5 p6 lo5 lo6 : Nat) (h5 : HasVV W lo5 A5 (cells.set q (r.set t vZ))) (h6 : HasVV W lo6 A6 (cells.set q (r.set t vZ))) => same_of hXM.len (fun x hx => by rw [hXM.row x hx, HK.out.2.2.2]; exact hm8) A5 A6 p5 p6 lo5 lo6 h5 h6)
            unfold RdPost at hcR
            have HUU := Lib.hid (And.intro hUU hvz)
            have HS := Lib.hid (And.intro hsl (And.intro hsn (And.intro hsV hrl)))
            have hownW := World.ownsRow_lit (e := 34) (size := 1) (base := wr.heap.size) wr #[] 0 (Nat.le_refl _) (by unfold maxLen; omega) rfl
            have hB1 := (Below.refl wr.heap.size wr).alloc (Nat.le_refl _) (.cells #[] 34)
            have HW := Lib.hid (And.intro hownW hB1)
            have HLN : Hid ((Li.cellsL Li.cellsG hs).length = 8 * 1) := Lib.hid (by rw [Li.cellsL_len Li.cellsG_len, hsn])
            have HNW := Lib.hid (news_of (by decide) Li.cellsG_len (hsA.below hB1 (Nat.le_refl _)))
            have HON := Lib.hid (cellsG_one hs)
            have HI := Lib.hid hI
            have HD := Lib.hid hD
            have HV := Lib.hid hV
            clear hrow hmr hM hu hko hgr hrl hsl hsn hsA hsV hV d1 e0 e1 e2 hXM hux hXrd hUU hvz hownW hB1 hI hD hkt hcv hgv
            go_wp2_with (at_builtin; go_must (refine wpList_append_own _ rfl _ _ 26 rfl wr.heap.size 34 i2 (.slice none 0 0) 1 24 Try.underlying26 hi2 hy0 hy1 hy2 rfl (by decide) (.slice (some ⟨wr.heap.size, 0, none⟩) 0 0) 0 [] rfl HW.out.1 ⟨b1, o1, none⟩ 8 cp3 (Li.cellsL Li.cellsG hs) rfl HLN.out HNW.out HON.out (by unfold maxLen; omega) (by omega) HW.out.2.size ?_))
            intro v5 y5 hown5 hgrow5 _
            have hB5 := HW.out.2.grown hgrow5 HW.out.2.size (fun k hk => (HW.out.1.lt k hk).1)
            clear hgrow5 HW HNW HON HLN
            obtain ⟨g5, cap5, rfl, hb5, hlt5⟩ := hown5.form (by omega)
            have hd5 := (HD.out.below hB5).1
            have HB5 := Lib.hid (And.intro hown5 (And.intro hB5 (And.intro hb5 hlt5)))
            have hownW := World.ownsRow_lit (e := 36) (size := 3) (base := y5.heap.size) y5 #[] 0 (Nat.le_refl _) (by unfold maxLen; omega) rfl
            have hB6 := (Below.refl y5.heap.size y5).alloc (Nat.le_refl _) (.cells #[] 36)
            have hd6 := cell_below hB6 hd5
            have HW := Lib.hid (And.intro hownW hB6)
            have HLN : Hid ((Li.cellsL cellsV r).length = m * 3) := Lib.hid (by rw [Li.cellsL_len cellsV_len, HS.out.2.2.2])
            have HNW := Lib.hid (news_of (by decide) cellsV_len ((HV.out.below hB5 (Nat.le_refl _)).below hB6 (Nat.le_refl _)))
            have HON := Lib.hid (cellsV_one r)
            clear hownW hB6 hown5 hB5 hd5
            go_wp2_with (at_builtin; go_must (refine wpList_append_own _ rfl _ _ 34 rfl y5.heap.size 36 i0 (.agg #[.int .i64 0, .int .i64 0, .string ⟨#[]⟩]) 3 32 Try.underlying34 hi hz0 hz1 hz2 rfl (by decide) (.slice (some ⟨y5.heap.size, 0, none⟩) 0 0) 0 [] rfl HW.out.1 ⟨b2, o2, none⟩ m c5 (Li.cellsL cellsV r) rfl HLN.out HNW.out HON.out (by unfold maxLen; omega) (by omega) HW.out.2.size ?_))
            intro v6 y6 hown6 hgrow6 _
            have hB6 := HW.out.2.grown hgrow6 HW.out.2.size (fun k hk => (HW.out.1.lt k hk).1)
            clear hgrow6 HW HNW HON HLN hd6
            obtain ⟨g6, cap6, rfl, hb6, hlt6⟩ := hown6.form (by omega)
            obtain ⟨hown5, hB5, hb5', hlt5'⟩ := HB5.out
            have hown5 := Li.own_below hown5 hB6 (Nat.le_refl _)
            have hsx : hs[q]? = some (hs[q]'(by rw [HS.out.2.1]; exact hlt)) := List.getElem?_eq_getElem _
            generalize (hs[q]'(by rw [HS.out.2.1]; exact hlt)) = xq at hsx
            have hq1 : (Li.cellsL Li.cellsG hs)[q]? = some (.slice xq.A xq.l.length xq.cp) := by
              have := Li.cellsL_at Li.cellsG_len hs q xq hsx 0 _ rfl
              rw [Nat.mul_one, Nat.add_zero] at this
              exact this
            have s1 := (hown5.cellAt q (by omega)).trans hq1
            have s2 := hown5.frozenAt q
            have hg56 : g5 < y5.heap.size := hlt5'
            have h7 := (hown5.stored q (.slice (some ⟨g6, 0, none⟩) m cap6)).1
            have f7 := h7.cellAt q (by omega)
            rw [List.getElem?_set_self (by rw [Li.cellsL_len Li.cellsG_len, HS.out.2.1]; omega)] at f7
            have h67 := ownsRow_setCell_below hown6 (a := ⟨g5, q, none⟩) hg56 (.slice (some ⟨g6, 0, none⟩) m cap6)
            have hgv2 : r[t]? = some (r[t]'(by rw [HS.out.2.2.2]; exact htl)) := List.getElem?_eq_getElem _
            generalize (r[t]'(by rw [HS.out.2.2.2]; exact htl)) = vq at hgv2
            have x0 := (h67.cellAt (t * 3) (by omega)).trans (Li.cellsL_at cellsV_len r t vq hgv2 0 _ rfl)
            have x1 := (h67.cellAt (t * 3 + 1) (by omega)).trans (Li.cellsL_at cellsV_len r t vq hgv2 1 _ rfl)
            have x2 := (h67.cellAt (t * 3 + 2) (by omega)).trans (Li.cellsL_at cellsV_len r t vq hgv2 2 _ rfl)
            have xf := fun i => h67.frozenAt i
            have hB10 := ((((hB5.trans (hB6.mono hB5.size)).setCell (p := ⟨g5, q, none⟩) hb5 (.slice (some ⟨g6, 0, none⟩) m cap6)).setCell (p := ⟨g6, t * 3, none⟩) (Nat.le_trans hB5.size hb6) (.int .i64 0)).setCell (p := ⟨g6, t * 3 + 1, none⟩) (Nat.le_trans hB5.size hb6) (.int .i64 0)).setCell (p := ⟨g6, t * 3 + 2, none⟩) (Nat.le_trans hB5.size hb6) (.string ⟨#[]⟩)
            have hcap : m ≤ cap6 := by
              obtain ⟨_, _, e, hc, _⟩ := Li.list_of_own cellsV_len hown6 HS.out.2.2.2
              injection e with _ _ e3
              omega
            have HX := Lib.hid (And.intro hown5 (And.intro hown6 (And.intro hg56 hB10)))
            clear hown5 hown6 h7 h67 hB10 hB5 hB6 hgv2 hsx hq1
            go_wp2
            clear s1 s2 f7 x0 x1 x2 xf
            obtain ⟨hown5, hown6, hg56, hB10⟩ := HX.out
            generalize hW : (((y6.setCell ⟨g5, q, none⟩ (.slice (some ⟨g6, 0, none⟩) m cap6)).setCell ⟨g6, t * 3, none⟩ (.int .i64 0)).setCell ⟨g6, t * 3 + 1, none⟩ (.int .i64 0)).setCell ⟨g6, t * 3 + 2, none⟩ (.string ⟨#[]⟩) = w10 at hB10 ⊢
            have hX := copied hown5 hown6 hg56 HS.out.2.2.2 hlt htl hcap HS.out.1 HS.out.2.1 hW (fun x hx => ⟨((HS.out.2.2.1 x hx).1.below hB10 (Nat.le_refl _)).lower (Nat.zero_le _), (HS.out.2.2.1 x hx).2⟩)
            have hI := HI.out.below hB10
            have hD := HD.out.below hB10
            clear hown5 hown6 hg56 hB10 hW HX HB5 HI HD HV HS
            go_wp2_with fail
            have hI := hI.below (Below.refl _ _).drew
            have hX := hX.below (Below.refl _ _).drew (Nat.le_refl _)
            have hD := hD.below (Below.refl _ _).drew
            refine Lex.region_lex (ops := mfops) (calls := mfcalls) mford (fun W => W.cell? ⟨gx, 0, none⟩ = some (.string nm) ∧ W.cell? ⟨gx, 1, none⟩ = some (.slice A1 mc cp)) (by kernel_rfl) (by kernel_rfl) mfsel (by kernel_rfl) (by kernel_rfl) mflex (⟨hI.x.c0, hI.x.c1⟩) ?_
            unfold mford
            refine Lex.step_take (.agg #[.string nm, .slice A1 mc cp]) mf0 rfl (Lex.want_none rfl) (by intro Wx hSw; (try dsimp only at hSw); go_simp; (try (first | (with_reducible rfl) | assumption | rfl))) ?_
            simp only [Act.put, List.setIfInBounds_toArray, List.set_cons_zero, List.set_cons_succ]
            refine Lex.step_take (.slice A2 m cp2) mf1 rfl (Lex.want_none rfl) (by intro Wx hSw; (try dsimp only at hSw); go_simp; (try (first | (with_reducible rfl) | assumption | rfl))) ?_
            simp only [Act.put, List.setIfInBounds_toArray, List.set_cons_zero, List.set_cons_succ]
            refine Lex.step_take (.agg #[.string nm, .slice A1 mc cp]) mf2 rfl (Lex.want_none rfl) (by intro Wx hSw; (try dsimp only at hSw); go_simp; (try (first | (with_reducible rfl) | assumption | rfl))) ?_
            simp only [Act.put, List.setIfInBounds_toArray, List.set_cons_zero, List.set_cons_succ]
            refine Lex.step_take (.slice A2 m cp2) mf3 rfl (Lex.want_none rfl) (by intro Wx hSw; (try dsimp only at hSw); go_simp; (try (first | (with_reducible rfl) | assumption | rfl))) ?_
            simp only [Act.put, List.setIfInBounds_toArray, List.set_cons_zero, List.set_cons_succ]
            refine Lex.step_take (.slice (some ⟨g5, 0, none⟩) 8 cap5) mf4 rfl (Lex.want_none rfl) (by intro Wx hSw; (try dsimp only at hSw); go_simp; (try (first | (with_reducible rfl) | assumption | rfl))) ?_
            simp only [Act.put, List.setIfInBounds_toArray, List.set_cons_zero, List.set_cons_succ]
            refine Lex.step_call mf5 rfl (Lex.want_none rfl) (fun K hK => ?_)
            go_simp
            refine (hcX.out _ _ _ _ hI hX).mono ?_
            rintro e y1 ⟨rfl, hy1⟩
            have hI := hI.below hy1
            have hX := hX.below hy1 (Nat.le_refl _)
            have hD := hD.below hy1
            clear hy1
            refine hK.out _ _ _ (fun _ h => h) ⟨hI.x.c0, hI.x.c1⟩ ?_
            clear hK K
            try simp only [Act.put, List.setIfInBounds_toArray, List.set_cons_zero, List.set_cons_succ]
            refine Lex.step_call mf6 rfl (Lex.want_none rfl) (fun K hK => ?_)
            go_simp
            refine (hcR.out _ hI).mono ?_
            rintro e y2 ⟨vy, rfl, hY0, hy2⟩
            have hI := hI.below hy2
            have hX := hX.below hy2 (Nat.le_refl _)
            have hD := hD.below hy2
            obtain ⟨AY, cy, rfl, hY⟩ := hY0 _ rfl
            clear hy2 hY0
            refine hK.out _ _ _ (fun _ h => h) ⟨hI.x.c0, hI.x.c1⟩ ?_
            clear hK K
            try simp only [Act.put, List.setIfInBounds_toArray, List.set_cons_zero, List.set_cons_succ]
            refine Lex.step_take (.tuple #[.slice AY 8 cy, .bool true]) mf7 rfl (Lex.want_none rfl) (by intro Wx hSw; (try dsimp only at hSw); go_simp; (try (first | (with_reducible rfl) | assumption | rfl))) ?_
            simp only [Act.put, List.setIfInBounds_toArray, List.set_cons_zero, List.set_cons_succ]
            refine Lex.step_take (.slice AY 8 cy) mf8 rfl (Lex.want_none rfl) (by intro Wx hSw; (try dsimp only at hSw); go_simp; (try (first | (with_reducible rfl) | assumption | rfl))) ?_
            simp only [Act.put, List.setIfInBounds_toArray, List.set_cons_zero, List.set_cons_succ]
            refine Lex.step_take (.bool true) mf9 rfl (Lex.want_none rfl) (by intro Wx hSw; (try dsimp only at hSw); go_simp; (try (first | (with_reducible rfl) | assumption | rfl))) ?_
            simp only [Act.put, List.setIfInBounds_toArray, List.set_cons_zero, List.set_cons_succ]
            refine Lex.step_take (.slice AY 8 cy) mf10 rfl (Lex.want_none rfl) (by intro Wx hSw; (try dsimp only at hSw); go_simp; (try (first | (with_reducible rfl) | assumption | rfl))) ?_
            simp only [Act.put, List.setIfInBounds_toArray, List.set_cons_zero, List.set_cons_succ]
            refine Lex.step_take (.bool true) mf11 rfl (Lex.want_none rfl) (by intro Wx hSw; (try dsimp only at hSw); go_simp; (try (first | (with_reducible rfl) | assumption | rfl))) ?_
            simp only [Act.put, List.setIfInBounds_toArray, List.set_cons_zero, List.set_cons_succ]
            refine NoPanic.normal ?_
            clear hcR
            by_cases hvk : v.k = 0
            · obtain rfl := HUU.out.2 hvk
              obtain rfl := HUU.out.1.1 rfl
              clear hvk HUU
              go_wp2_with fail
              have hI := hI.below (Below.refl _ _).drew
              have hX := hX.below (Below.refl _ _).drew (Nat.le_refl _)
              have hY := hY.below (Below.refl _ _).drew (Nat.le_refl _)
              have hD : Four _ b1 (o1 + q) b2 (o2 + t * 3) (.slice (some ⟨b2, o2, none⟩) m c5) 0 0 ⟨#[]⟩ := hD.below (Below.refl _ _).drew
              refine Lex.region_lex (ops := mgops) (calls := mgcalls) mgord (fun W => W.cell? ⟨gx, 0, none⟩ = some (.string nm) ∧ W.cell? ⟨gx, 1, none⟩ = some (.slice A1 mc cp) ∧ W.cell? ⟨b1, o1 + q, none⟩ = some (.slice (some ⟨b2, o2, none⟩) m c5) ∧ W.cell? ⟨b2, o2 + t * 3, none⟩ = some (.int .i64 0) ∧ W.cell? ⟨b2, o2 + t * 3 + 1, none⟩ = some (.int .i64 0) ∧ W.cell? ⟨b2, o2 + t * 3 + 2, none⟩ = some (.string ⟨#[]⟩)) (by kernel_rfl) (by kernel_rfl) mgsel (by kernel_rfl) (by kernel_rfl) mglex (⟨hI.x.c0, hI.x.c1, hD.1, hD.2.1, hD.2.2.1, hD.2.2.2⟩) ?_
              unfold mgord
              refine Lex.step_take (.bool true) mg0 rfl (Lex.want_none rfl) (by intro Wx hSw; (try dsimp only at hSw); go_simp; (try (first | (with_reducible rfl) | assumption | rfl))) ?_
              simp only [Act.put, List.setIfInBounds_toArray, List.set_cons_zero, List.set_cons_succ]
              refine Lex.step_take (.bool false) mg1 rfl (Lex.want_none rfl) (by intro Wx hSw; (try dsimp only at hSw); go_simp; (try (first | (with_reducible rfl) | assumption | rfl))) ?_
              simp only [Act.put, List.setIfInBounds_toArray, List.set_cons_zero, List.set_cons_succ]
              refine Lex.step_take (.bool false) mg2 rfl (Lex.want_none rfl) (by intro Wx hSw; (try dsimp only at hSw); go_simp; (try (first | (with_reducible rfl) | assumption | rfl))) ?_
              simp only [Act.put, List.setIfInBounds_toArray, List.set_cons_zero, List.set_cons_succ]
              refine Lex.step_take (.slice (some ⟨g5, 0, none⟩) 8 cap5) mg3 rfl (Lex.want_some rfl mg2 rfl (b' := false) rfl rfl) (by intro Wx hSw; (try dsimp only at hSw); go_simp; (try (first | (with_reducible rfl) | assumption | rfl))) ?_
              simp only [Act.put, List.setIfInBounds_toArray, List.set_cons_zero, List.set_cons_succ]
              refine Lex.step_take (.slice AY 8 cy) mg4 rfl (Lex.want_some rfl mg2 rfl (b' := false) rfl rfl) (by intro Wx hSw; (try dsimp only at hSw); go_simp; (try (first | (with_reducible rfl) | assumption | rfl))) ?_
              simp only [Act.put, List.setIfInBounds_toArray, List.set_cons_zero, List.set_cons_succ]
              refine Lex.step_call mg5 rfl (Lex.want_some rfl mg2 rfl (b' := false) rfl rfl) (fun K hK => ?_)
              go_simp
              refine (hcS.out _ _ _ _ _ _ _ hX hY).mono ?_
              rintro e y3 ⟨rfl, hy3⟩
              have hI := hI.below hy3
              have hD := hD.below hy3
              have hX := hX.below hy3 (Nat.le_refl _)
              clear hy3
              refine hK.out _ _ _ (fun _ h => h) ⟨hI.x.c0, hI.x.c1, hD.1, hD.2.1, hD.2.2.1, hD.2.2.2⟩ ?_
              clear hK K
              try simp only [Act.put, List.setIfInBounds_toArray, List.set_cons_zero, List.set_cons_succ]
              refine Lex.step_take (.bool false) mg6 rfl (Lex.want_some rfl mg2 rfl (b' := false) rfl rfl) (by intro Wx hSw; (try dsimp only at hSw); go_simp; (try (first | (with_reducible rfl) | assumption | rfl))) ?_
              simp only [Act.put, List.setIfInBounds_toArray, List.set_cons_zero, List.set_cons_succ]
              refine Lex.step_take (.bool false) mg7 rfl (Lex.want_none rfl) (by intro Wx hSw; (try dsimp only at hSw); go_simp; (try (first | (with_reducible rfl) | assumption | rfl))) ?_
              simp only [Act.put, List.setIfInBounds_toArray, List.set_cons_zero, List.set_cons_succ]
              refine Lex.step_take (.bool false) mg8 rfl (Lex.want_none rfl) (by intro Wx hSw; (try dsimp only at hSw); go_simp; (try (first | (with_reducible rfl) | assumption | rfl))) ?_
              simp only [Act.put, List.setIfInBounds_toArray, List.set_cons_zero, List.set_cons_succ]
              refine Lex.step_take (.agg #[.string nm, .slice A1 mc cp]) mg9 rfl (Lex.want_some rfl mg8 rfl (b' := false) rfl rfl) (by intro Wx hSw; (try dsimp only at hSw); go_simp; (try (first | (with_reducible rfl) | assumption | rfl))) ?_
              simp only [Act.put, List.setIfInBounds_toArray, List.set_cons_zero, List.set_cons_succ]
              refine Lex.step_take (.slice A2 m cp2) mg10 rfl (Lex.want_some rfl mg8 rfl (b' := false) rfl rfl) (by intro Wx hSw; (try dsimp only at hSw); go_simp; (try (first | (with_reducible rfl) | assumption | rfl))) ?_
              simp only [Act.put, List.setIfInBounds_toArray, List.set_cons_zero, List.set_cons_succ]
              refine Lex.step_take (.slice (some ⟨g5, 0, none⟩) 8 cap5) mg11 rfl (Lex.want_some rfl mg8 rfl (b' := false) rfl rfl) (by intro Wx hSw; (try dsimp only at hSw); go_simp; (try (first | (with_reducible rfl) | assumption | rfl))) ?_
              simp only [Act.put, List.setIfInBounds_toArray, List.set_cons_zero, List.set_cons_succ]
              refine Lex.step_take (.agg #[.string nm, .slice A1 mc cp]) mg13 rfl (Lex.want_some rfl mg8 rfl (b' := false) rfl rfl) (by intro Wx hSw; (try dsimp only at hSw); go_simp; (try (first | (with_reducible rfl) | assumption | rfl))) ?_
              simp only [Act.put, List.setIfInBounds_toArray, List.set_cons_zero, List.set_cons_succ]
              refine Lex.step_take (.slice A2 m cp2) mg14 rfl (Lex.want_some rfl mg8 rfl (b' := false) rfl rfl) (by intro Wx hSw; (try dsimp only at hSw); go_simp; (try (first | (with_reducible rfl) | assumption | rfl))) ?_
              simp only [Act.put, List.setIfInBounds_toArray, List.set_cons_zero, List.set_cons_succ]
              refine Lex.step_take (.slice (some ⟨b1, o1, none⟩) 8 cp3) mg15 rfl (Lex.want_some rfl mg8 rfl (b' := false) rfl rfl) (by intro Wx hSw; (try dsimp only at hSw); go_simp; (try (first | (with_reducible rfl) | assumption | rfl))) ?_
              simp only [Act.put, List.setIfInBounds_toArray, List.set_cons_zero, List.set_cons_succ]
              refine Lex.step_take (.slice (some ⟨b1, o1, none⟩) 8 cp3) mg18 rfl (Lex.want_some rfl mg8 rfl (b' := false) rfl rfl) (by intro Wx hSw; (try dsimp only at hSw); go_simp; (try (first | (with_reducible rfl) | assumption | rfl))) ?_
              simp only [Act.put, List.setIfInBounds_toArray, List.set_cons_zero, List.set_cons_succ]
              refine Lex.step_take (.int .i64 q) mg19 rfl (Lex.want_some rfl mg8 rfl (b' := false) rfl rfl) (by intro Wx hSw; (try dsimp only at hSw); go_simp; (try (first | (with_reducible rfl) | assumption | rfl))) ?_
              simp only [Act.put, List.setIfInBounds_toArray, List.set_cons_zero, List.set_cons_succ]
              refine Lex.step_take (.pointer (some ⟨b1, o1 + q, none⟩)) mg20 rfl (Lex.want_some rfl mg8 rfl (b' := false) rfl rfl) (by intro Wx hSw; (try dsimp only at hSw); go_simp; (try (first | (with_reducible rfl) | assumption | rfl))) ?_
              simp only [Act.put, List.setIfInBounds_toArray, List.set_cons_zero, List.set_cons_succ]
              refine Lex.step_take (.slice (some ⟨b2, o2, none⟩) m c5) mg21 rfl (Lex.want_some rfl mg8 rfl (b' := false) rfl rfl) (by intro Wx hSw; (try dsimp only at hSw); go_simp; (try (first | (with_reducible rfl) | assumption | rfl))) ?_
              simp only [Act.put, List.setIfInBounds_toArray, List.set_cons_zero, List.set_cons_succ]
              refine Lex.step_take (.int .i64 t) mg22 rfl (Lex.want_some rfl mg8 rfl (b' := false) rfl rfl) (by intro Wx hSw; (try dsimp only at hSw); go_simp; (try (first | (with_reducible rfl) | assumption | rfl))) ?_
              simp only [Act.put, List.setIfInBounds_toArray, List.set_cons_zero, List.set_cons_succ]
              refine Lex.step_take (.pointer (some ⟨b2, o2 + t * 3, none⟩)) mg23 rfl (Lex.want_some rfl mg8 rfl (b' := false) rfl rfl) (by intro Wx hSw; (try dsimp only at hSw); go_simp; (try (first | (with_reducible rfl) | assumption | rfl))) ?_
              simp only [Act.put, List.setIfInBounds_toArray, List.set_cons_zero, List.set_cons_succ]
              refine Lex.step_take (.agg #[.int .i64 0, .int .i64 0, .string ⟨#[]⟩]) mg24 rfl (Lex.want_some rfl mg8 rfl (b' := false) rfl rfl) (by intro Wx hSw; (try dsimp only at hSw); go_simp; (try (first | (with_reducible rfl) | assumption | rfl))) ?_
              simp only [Act.put, List.setIfInBounds_toArray, List.set_cons_zero, List.set_cons_succ]
              refine Lex.step_take (.agg #[.int .i64 0, .int .i64 0, .string ⟨#[]⟩]) mg25 rfl (Lex.want_some rfl mg8 rfl (b' := false) rfl rfl) (by intro Wx hSw; (try dsimp only at hSw); go_simp; (try (first | (with_reducible rfl) | assumption | rfl))) ?_
              simp only [Act.put, List.setIfInBounds_toArray, List.set_cons_zero, List.set_cons_succ]
              refine Lex.step_take (.bool true) mg26 rfl (Lex.want_some rfl mg8 rfl (b' := false) rfl rfl) (by intro Wx hSw; (try dsimp only at hSw); go_simp; (try (first | (with_reducible rfl) | assumption | rfl))) ?_
              simp only [Act.put, List.setIfInBounds_toArray, List.set_cons_zero, List.set_cons_succ]
              refine Lex.step_call mg12 rfl (Lex.want_some rfl mg8 rfl (b' := false) rfl rfl) (fun K hK => ?_)
              go_simp
              refine (hcX.out _ _ _ _ hI hX).mono ?_
              rintro e y4 ⟨rfl, hy4⟩
              have hI := hI.below hy4
              have hD := hD.below hy4
              clear hX hY
              clear hy4
              refine hK.out _ _ _ (fun _ h => h) ⟨hI.x.c0, hI.x.c1, hD.1, hD.2.1, hD.2.2.1, hD.2.2.2⟩ ?_
              clear hK K
              try simp only [Act.put, List.setIfInBounds_toArray, List.set_cons_zero, List.set_cons_succ]
              refine Lex.step_call mg16 rfl (Lex.want_some rfl mg8 rfl (b' := false) rfl rfl) (fun K hK => ?_)
              go_simp
              refine (hcP.out _ hI).mono ?_
              rintro e y5 ⟨rfl, hy5⟩
              have hI := hI.below hy5
              have hD := hD.below hy5
              clear hy5
              refine hK.out _ _ _ (fun _ h => h) ⟨hI.x.c0, hI.x.c1, hD.1, hD.2.1, hD.2.2.1, hD.2.2.2⟩ ?_
              clear hK K
              try simp only [Act.put, List.setIfInBounds_toArray, List.set_cons_zero, List.set_cons_succ]
              refine Lex.step_take (.bool true) mg17 rfl (Lex.want_some rfl mg8 rfl (b' := false) rfl rfl) (by intro Wx hSw; (try dsimp only at hSw); go_simp; (try (first | (with_reducible rfl) | assumption | rfl))) ?_
              simp only [Act.put, List.setIfInBounds_toArray, List.set_cons_zero, List.set_cons_succ]
              refine Lex.step_take (.bool false) mg27 rfl (Lex.want_some rfl mg8 rfl (b' := false) rfl rfl) (by intro Wx hSw; (try dsimp only at hSw); go_simp; (try (first | (with_reducible rfl) | assumption | rfl))) ?_
              simp only [Act.put, List.setIfInBounds_toArray, List.set_cons_zero, List.set_cons_succ]
              refine Lex.step_take (.bool false) mg28 rfl (Lex.want_none rfl) (by intro Wx hSw; (try dsimp only at hSw); go_simp; (try (first | (with_reducible rfl) | assumption | rfl))) ?_
              simp only [Act.put, List.setIfInBounds_toArray, List.set_cons_zero, List.set_cons_succ]
              refine NoPanic.normal ?_
              clear hD
              go_wp2
              go_roundw
              case rel => exact ⟨t + 1, by omega, by go_num, hI⟩
              case measure => simp [intOf]; omega
            · have hne : (ux.toList == u.toList) = false := by
                refine beq_eq_false_iff_ne.2 (fun e => HUU.out.1.2 hvk ?_)
                rw [ByteArray.toList_eq, ByteArray.toList_eq] at e
                exact bytesEq' e
              obtain ⟨vk, vn, vs⟩ := v
              simp only at hvk
              have hvk' : (vk == 0) = false := beq_eq_false_iff_ne.2 hvk
              clear HUU
              go_wp2_with fail
              have hI := hI.below (Below.refl _ _).drew
              have hX := hX.below (Below.refl _ _).drew (Nat.le_refl _)
              have hY := hY.below (Below.refl _ _).drew (Nat.le_refl _)
              have hD : Four _ b1 (o1 + q) b2 (o2 + t * 3) (.slice (some ⟨b2, o2, none⟩) m c5) vk vn vs := hD.below (Below.refl _ _).drew
              refine Lex.region_lex (ops := mgops) (calls := mgcalls) mgord (fun W => W.cell? ⟨gx, 0, none⟩ = some (.string nm) ∧ W.cell? ⟨gx, 1, none⟩ = some (.slice A1 mc cp) ∧ W.cell? ⟨b1, o1 + q, none⟩ = some (.slice (some ⟨b2, o2, none⟩) m c5) ∧ W.cell? ⟨b2, o2 + t * 3, none⟩ = some (.int .i64 vk) ∧ W.cell? ⟨b2, o2 + t * 3 + 1, none⟩ = some (.int .i64 vn) ∧ W.cell? ⟨b2, o2 + t * 3 + 2, none⟩ = some (.string vs)) (by kernel_rfl) (by kernel_rfl) mgsel (by kernel_rfl) (by kernel_rfl) mglex (⟨hI.x.c0, hI.x.c1, hD.1, hD.2.1, hD.2.2.1, hD.2.2.2⟩) ?_
              unfold mgord
              refine Lex.step_take (.bool true) mg0 rfl (Lex.want_none rfl) (by intro Wx hSw; (try dsimp only at hSw); go_simp; (try (first | (with_reducible rfl) | assumption | rfl))) ?_
              simp only [Act.put, List.setIfInBounds_toArray, List.set_cons_zero, List.set_cons_succ]
              refine Lex.step_take (.bool false) mg1 rfl (Lex.want_none rfl) (by intro Wx hSw; (try dsimp only at hSw); go_simp; (try (first | (with_reducible rfl) | assumption | rfl))) ?_
              simp only [Act.put, List.setIfInBounds_toArray, List.set_cons_zero, List.set_cons_succ]
              refine Lex.step_take (.bool false) mg2 rfl (Lex.want_none rfl) (by intro Wx hSw; (try dsimp only at hSw); go_simp; (try (first | (with_reducible rfl) | assumption | rfl))) ?_
              simp only [Act.put, List.setIfInBounds_toArray, List.set_cons_zero, List.set_cons_succ]
              refine Lex.step_take (.slice (some ⟨g5, 0, none⟩) 8 cap5) mg3 rfl (Lex.want_some rfl mg2 rfl (b' := false) rfl rfl) (by intro Wx hSw; (try dsimp only at hSw); go_simp; (try (first | (with_reducible rfl) | assumption | rfl))) ?_
              simp only [Act.put, List.setIfInBounds_toArray, List.set_cons_zero, List.set_cons_succ]
              refine Lex.step_take (.slice AY 8 cy) mg4 rfl (Lex.want_some rfl mg2 rfl (b' := false) rfl rfl) (by intro Wx hSw; (try dsimp only at hSw); go_simp; (try (first | (with_reducible rfl) | assumption | rfl))) ?_
              simp only [Act.put, List.setIfInBounds_toArray, List.set_cons_zero, List.set_cons_succ]
              refine Lex.step_call mg5 rfl (Lex.want_some rfl mg2 rfl (b' := false) rfl rfl) (fun K hK => ?_)
              go_simp
              refine (hcS.out _ _ _ _ _ _ _ hX hY).mono ?_
              rintro e y3 ⟨rfl, hy3⟩
              have hI := hI.below hy3
              have hD := hD.below hy3
              have hX := hX.below hy3 (Nat.le_refl _)
              clear hy3
              refine hK.out _ _ _ (fun _ h => h) ⟨hI.x.c0, hI.x.c1, hD.1, hD.2.1, hD.2.2.1, hD.2.2.2⟩ ?_
              clear hK K
              try simp only [Act.put, List.setIfInBounds_toArray, List.set_cons_zero, List.set_cons_succ]
              refine Lex.step_take (.bool false) mg6 rfl (Lex.want_some rfl mg2 rfl (b' := false) rfl rfl) (by intro Wx hSw; (try dsimp only at hSw); go_simp; (try (first | (with_reducible rfl) | assumption | rfl))) ?_
              simp only [Act.put, List.setIfInBounds_toArray, List.set_cons_zero, List.set_cons_succ]
              refine Lex.step_take (.bool false) mg7 rfl (Lex.want_none rfl) (by intro Wx hSw; (try dsimp only at hSw); go_simp; (try (first | (with_reducible rfl) | assumption | rfl))) ?_
              simp only [Act.put, List.setIfInBounds_toArray, List.set_cons_zero, List.set_cons_succ]
              refine Lex.step_take (.bool false) mg8 rfl (Lex.want_none rfl) (by intro Wx hSw; (try dsimp only at hSw); go_simp; (try (first | (with_reducible rfl) | assumption | rfl))) ?_
              simp only [Act.put, List.setIfInBounds_toArray, List.set_cons_zero, List.set_cons_succ]
              refine Lex.step_take (.agg #[.string nm, .slice A1 mc cp]) mg9 rfl (Lex.want_some rfl mg8 rfl (b' := false) rfl rfl) (by intro Wx hSw; (try dsimp only at hSw); go_simp; (try (first | (with_reducible rfl) | assumption | rfl))) ?_
              simp only [Act.put, List.setIfInBounds_toArray, List.set_cons_zero, List.set_cons_succ]
              refine Lex.step_take (.slice A2 m cp2) mg10 rfl (Lex.want_some rfl mg8 rfl (b' := false) rfl rfl) (by intro Wx hSw; (try dsimp only at hSw); go_simp; (try (first | (with_reducible rfl) | assumption | rfl))) ?_
              simp only [Act.put, List.setIfInBounds_toArray, List.set_cons_zero, List.set_cons_succ]
              refine Lex.step_take (.slice (some ⟨g5, 0, none⟩) 8 cap5) mg11 rfl (Lex.want_some rfl mg8 rfl (b' := false) rfl rfl) (by intro Wx hSw; (try dsimp only at hSw); go_simp; (try (first | (with_reducible rfl) | assumption | rfl))) ?_
              simp only [Act.put, List.setIfInBounds_toArray, List.set_cons_zero, List.set_cons_succ]
              refine Lex.step_take (.agg #[.string nm, .slice A1 mc cp]) mg13 rfl (Lex.want_some rfl mg8 rfl (b' := false) rfl rfl) (by intro Wx hSw; (try dsimp only at hSw); go_simp; (try (first | (with_reducible rfl) | assumption | rfl))) ?_
              simp only [Act.put, List.setIfInBounds_toArray, List.set_cons_zero, List.set_cons_succ]
              refine Lex.step_take (.slice A2 m cp2) mg14 rfl (Lex.want_some rfl mg8 rfl (b' := false) rfl rfl) (by intro Wx hSw; (try dsimp only at hSw); go_simp; (try (first | (with_reducible rfl) | assumption | rfl))) ?_
              simp only [Act.put, List.setIfInBounds_toArray, List.set_cons_zero, List.set_cons_succ]
              refine Lex.step_take (.slice (some ⟨b1, o1, none⟩) 8 cp3) mg15 rfl (Lex.want_some rfl mg8 rfl (b' := false) rfl rfl) (by intro Wx hSw; (try dsimp only at hSw); go_simp; (try (first | (with_reducible rfl) | assumption | rfl))) ?_
              simp only [Act.put, List.setIfInBounds_toArray, List.set_cons_zero, List.set_cons_succ]
              refine Lex.step_take (.slice (some ⟨b1, o1, none⟩) 8 cp3) mg18 rfl (Lex.want_some rfl mg8 rfl (b' := false) rfl rfl) (by intro Wx hSw; (try dsimp only at hSw); go_simp; (try (first | (with_reducible rfl) | assumption | rfl))) ?_
              simp only [Act.put, List.setIfInBounds_toArray, List.set_cons_zero, List.set_cons_succ]
              refine Lex.step_take (.int .i64 q) mg19 rfl (Lex.want_some rfl mg8 rfl (b' := false) rfl rfl) (by intro Wx hSw; (try dsimp only at hSw); go_simp; (try (first | (with_reducible rfl) | assumption | rfl))) ?_
              simp only [Act.put, List.setIfInBounds_toArray, List.set_cons_zero, List.set_cons_succ]
              refine Lex.step_take (.pointer (some ⟨b1, o1 + q, none⟩)) mg20 rfl (Lex.want_some rfl mg8 rfl (b' := false) rfl rfl) (by intro Wx hSw; (try dsimp only at hSw); go_simp; (try (first | (with_reducible rfl) | assumption | rfl))) ?_
              simp only [Act.put, List.setIfInBounds_toArray, List.set_cons_zero, List.set_cons_succ]
              refine Lex.step_take (.slice (some ⟨b2, o2, none⟩) m c5) mg21 rfl (Lex.want_some rfl mg8 rfl (b' := false) rfl rfl) (by intro Wx hSw; (try dsimp only at hSw); go_simp; (try (first | (with_reducible rfl) | assumption | rfl))) ?_
              simp only [Act.put, List.setIfInBounds_toArray, List.set_cons_zero, List.set_cons_succ]
              refine Lex.step_take (.int .i64 t) mg22 rfl (Lex.want_some rfl mg8 rfl (b' := false) rfl rfl) (by intro Wx hSw; (try dsimp only at hSw); go_simp; (try (first | (with_reducible rfl) | assumption | rfl))) ?_
              simp only [Act.put, List.setIfInBounds_toArray, List.set_cons_zero, List.set_cons_succ]
              refine Lex.step_take (.pointer (some ⟨b2, o2 + t * 3, none⟩)) mg23 rfl (Lex.want_some rfl mg8 rfl (b' := false) rfl rfl) (by intro Wx hSw; (try dsimp only at hSw); go_simp; (try (first | (with_reducible rfl) | assumption | rfl))) ?_
              simp only [Act.put, List.setIfInBounds_toArray, List.set_cons_zero, List.set_cons_succ]
              refine Lex.step_take (.agg #[.int .i64 vk, .int .i64 vn, .string vs]) mg24 rfl (Lex.want_some rfl mg8 rfl (b' := false) rfl rfl) (by intro Wx hSw; (try dsimp only at hSw); go_simp; (try (first | (with_reducible rfl) | assumption | rfl))) ?_
              simp only [Act.put, List.setIfInBounds_toArray, List.set_cons_zero, List.set_cons_succ]
              refine Lex.step_take (.agg #[.int .i64 0, .int .i64 0, .string ⟨#[]⟩]) mg25 rfl (Lex.want_some rfl mg8 rfl (b' := false) rfl rfl) (by intro Wx hSw; (try dsimp only at hSw); go_simp; (try (first | (with_reducible rfl) | assumption | rfl))) ?_
              simp only [Act.put, List.setIfInBounds_toArray, List.set_cons_zero, List.set_cons_succ]
              refine Lex.step_take (.bool false) mg26 rfl (Lex.want_some rfl mg8 rfl (b' := false) rfl rfl) (by intro Wx hSw; (try dsimp only at hSw); go_simp; (try (first | (with_reducible rfl) | assumption | rfl))) ?_
              simp only [Act.put, List.setIfInBounds_toArray, List.set_cons_zero, List.set_cons_succ]
              refine Lex.step_call mg12 rfl (Lex.want_some rfl mg8 rfl (b' := false) rfl rfl) (fun K hK => ?_)
              go_simp
              refine (hcX.out _ _ _ _ hI hX).mono ?_
              rintro e y4 ⟨rfl, hy4⟩
              have hI := hI.below hy4
              have hD := hD.below hy4
              clear hX hY
              clear hy4
              refine hK.out _ _ _ (fun _ h => h) ⟨hI.x.c0, hI.x.c1, hD.1, hD.2.1, hD.2.2.1, hD.2.2.2⟩ ?_
              clear hK K
              try simp only [Act.put, List.setIfInBounds_toArray, List.set_cons_zero, List.set_cons_succ]
              refine Lex.step_call mg16 rfl (Lex.want_some rfl mg8 rfl (b' := false) rfl rfl) (fun K hK => ?_)
              go_simp
              refine (hcP.out _ hI).mono ?_
              rintro e y5 ⟨rfl, hy5⟩
              have hI := hI.below hy5
              have hD := hD.below hy5
              clear hy5
              refine hK.out _ _ _ (fun _ h => h) ⟨hI.x.c0, hI.x.c1, hD.1, hD.2.1, hD.2.2.1, hD.2.2.2⟩ ?_
              clear hK K
              try simp only [Act.put, List.setIfInBounds_toArray, List.set_cons_zero, List.set_cons_succ]
              refine Lex.step_take (.bool false) mg17 rfl (Lex.want_some rfl mg8 rfl (b' := false) rfl rfl) (by intro Wx hSw; (try dsimp only at hSw); go_simp; (try (first | (with_reducible rfl) | assumption | rfl))) ?_
              simp only [Act.put, List.setIfInBounds_toArray, List.set_cons_zero, List.set_cons_succ]
              refine Lex.step_take (.bool false) mg27 rfl (Lex.want_some rfl mg8 rfl (b' := false) rfl rfl) (by intro Wx hSw; (try dsimp only at hSw); go_simp; (try (first | (with_reducible rfl) | assumption | rfl))) ?_
              simp only [Act.put, List.setIfInBounds_toArray, List.set_cons_zero, List.set_cons_succ]
              refine Lex.step_take (.bool false) mg28 rfl (Lex.want_none rfl) (by intro Wx hSw; (try dsimp only at hSw); go_simp; (try (first | (with_reducible rfl) | assumption | rfl))) ?_
              simp only [Act.put, List.setIfInBounds_toArray, List.set_cons_zero, List.set_cons_succ]
              refine NoPanic.normal ?_
              clear hD
              go_wp2
              go_roundw
              case rel => exact ⟨t + 1, by omega, by go_num, hI⟩
              case measure => simp [intOf]; omega
          · obtain rfl : t = m := by omega
            go_wp2
            go_roundw
            case rel => exact ⟨q + 1, by omega, by go_num, hI⟩
            case measure => simp [intOf]; omega
      · obtain rfl : q = 8 := by omega
        go_wp2_with fail
        refine (awake_any _).mono ?_
        rintro e y9 ⟨rfl, hy⟩
        have hI := hI.below hy
        have hB := hI.b
        clear hI hy
        subst hgx
        go_wp2
        go_ret
        exact ⟨rfl, hB⟩
end Go.Proofs.Ytabgbhilbnchnaa.Mi
