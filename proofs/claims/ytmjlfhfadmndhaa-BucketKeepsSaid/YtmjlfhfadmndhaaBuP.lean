/- BucketKeeps, walked. -/
import Derived.Test.YtmjlfhfadmndhaaBuO
namespace Go.Proofs.Ytmjlfhfadmndhaa.Bu
open Go.RowKit Pac Ls Lex

def placeN : Option E → Int × Int
  | some e => (e.t, e.s)
  | none => (0, 0)
theorem find_vals {o : Option E} {w w' : World} {e : Ending} (h : FindPost o w e w') : ∃ (p q : Int) (b : Bool), e = .returned (.tuple #[.agg #[.int .i64 p, .int .i64 q], .bool b]) ∧ Hid (placeN o = (p, q) ∧ o.isSome = b) ∧ Below w.heap.size w w' := by
  obtain ⟨h1, h2⟩ := h
  cases o with
  | none => exact ⟨0, 0, false, h1, Lib.hid ⟨rfl, rfl⟩, h2⟩
  | some x => exact ⟨x.t, x.s, true, h1, Lib.hid ⟨rfl, rfl⟩, h2⟩
/-- What was put is found. -/
theorem puts_has : ∀ (l b : List E) (k : List UInt8), Rises b → ((∃ z, findL b k = some z) ∨ ∃ e ∈ l, e.k = k) → ∃ z, findL (puts b l) k = some z
  | [], b, k, _, h => by
    rcases h with h | ⟨e, he, _⟩
    · exact h
    · simp at he
  | x :: l, b, k, hr, h => by
    show ∃ z, findL (puts (putL b x) l) k = some z
    refine puts_has l (putL b x) k (rises_put hr) ?_
    by_cases hx : x.k = k
    · exact Or.inl ⟨x, by rw [← hx]; exact find_put hr⟩
    · rcases h with h | ⟨e, he, hk⟩
      · exact Or.inl (by rw [find_put_other hr (fun q => hx q.symm)]; exact h)
      · rcases List.mem_cons.1 he with rfl | he
        · exact absurd hk hx
        · exact Or.inr ⟨e, he, hk⟩
theorem rises_pred {X : List E} (h : Rises X) {j : Nat} {a b : E} (ha : X[j]? = some a) (hb : X[j + 1]? = some b) : Op.bytesLess a.key.toList b.key.toList = true := by
  rw [key_list, key_list]
  exact rises_at h (Nat.lt_succ_self j) ha hb
section
variable {A : Option Addr} {n cp : Nat} {l : List E} {w : World}
set_option maxRecDepth 20000 in
set_option maxHeartbeats 12800000 in
theorem keeps_any (kk : ByteArray) (kt ks : Int) (hl : HasE w 0 A l) (hn : l.length = n) (hc : n ≤ cp) (hl9 : n ≤ 9223372036854775807) (hk9 : kk.size ≤ 9223372036854775807) :
    Calls Try.prog 5 #[.slice A n cp, .agg #[.string kk, .int .i64 kt, .int .i64 ks]] w fun e w' => e = .returned (.bool true) ∧ Below w.heap.size w w' := by
  have hb := (Below.refl w.heap.size w).alloc (Nat.le_refl _) (.cells #[.string kk, .int .i64 kt, .int .i64 ks] 30)
  have hx := Box3.new w (.string kk) (.int .i64 kt) (.int .i64 ks) 30
  have hlA := hl.below hb (Nat.le_refl _)
  obtain ⟨g, hg⟩ : ∃ g, w.heap.size = g := ⟨_, rfl⟩
  rw [hg] at hx
  generalize hw0 : w.alloc (.cells #[.string kk, .int .i64 kt, .int .i64 ks] 30) = wa at hb hx hlA
  have hcs := small_any (cp := cp) 0 hlA hn hl9
  have HN := Lib.hid hn
  clear hl hn
  go_enter Try.func5, Try.ntmps5
  go_wp2_with fail
  refine hcs.mono ?_
  rintro e w1 ⟨b, rfl, hb0, h1⟩
  have hl := hlA.below h1 (Nat.le_refl _)
  have hx := hx.below h1 hx.lt
  have hb := hb.trans (h1.mono hb.size)
  clear hcs hw0 hlA h1 hg
  cases b
  · clear hb0 hx hl
    go_wp2_with fail
    refine (awake_any _).mono ?_
    rintro e wz ⟨rfl, hz⟩
    go_wp2
    go_ret
    exact ⟨rfl, hb.trans (hz.mono hb.size)⟩
  have hsm := hb0.1 rfl
  have hn60 : n ≤ 60 := by have := hsm.len; rw [HN.out] at this; exact this
  clear hb0 hsm
  have x0 := hx.c0
  by_cases hk : (200 : Int) < (kk.size : Int)
  · clear hx hl
    go_wp2_with fail
    clear x0
    go_wp2_with fail
    refine (awake_any _).mono ?_
    rintro e wz ⟨rfl, hz⟩
    go_wp2
    go_ret
    exact ⟨rfl, hb.trans (hz.mono hb.size)⟩
  go_wp2
  clear x0
  have HX0 := Lib.hid (And.intro hl (And.intro hx hb))
  clear hl hx hb
  go_loopw [5, 6] (fun xv i wr => ∃ (q nx cx : Nat) (Ax : Option Addr), q ≤ n ∧ i = .int .i64 q ∧ xv = .slice Ax nx cx ∧ nx ≤ cx ∧ nx ≤ q ∧ HasE wr 0 Ax (puts [] (l.take q)) ∧ Hid ((puts [] (l.take q)).length = nx) ∧ Below w1.heap.size w1 wr) (fun _ i _ => n - (intOf i).toNat)
  case atStart => exact ⟨0, 0, 0, none, Nat.zero_le _, rfl, rfl, Nat.le_refl _, Nat.le_refl _, hasE_nil _ _ _, Lib.hid rfl, Below.refl _ _⟩
  case round =>
    obtain ⟨q, nx, cx, Ax, hq, rfl, rfl, hcx, hnx, hX, hN, hB⟩ := hrel
    by_cases hlt : q < n
    · have hgt := List.getElem?_eq_getElem (l := l) (i := q) (by rw [HN.out]; exact hlt)
      generalize (l[q]'(by rw [HN.out]; exact hlt)) = x at hgt
      obtain ⟨b, o, rfl, _, hlb, d0, d1, d2⟩ := HasE.at (HX0.out.1.below hB (Nat.le_refl _)) hgt
      have HPX := Lib.hid (puts_next hgt)
      have HLX := Lib.hid (puts_len (l.take (q + 1)))
      obtain ⟨ek, et, es⟩ := x
      simp only at d0 d1 d2
      have i1 : (q : Int) < (n : Int) := by omega
      have i0 : (0 : Int) ≤ (q : Int) := by omega
      clear hgt
      go_wp2_with fail
      refine (put_any ⟨ek, et, es⟩ 0 hX hN.out hcx (by omega) (rises_puts _ rises_nil)).mono ?_
      rintro e y1 ⟨A1, n1, k1, rfl, hn2, hk1, hX1, hy1⟩
      rw [HPX.out] at hn2 hX1
      have hB := hB.trans (hy1.mono hB.size)
      have g1 := HLX.out
      rw [hn2, List.length_take] at g1
      have HN1 := Lib.hid hn2
      clear hn2 hy1 d0 d1 d2 hX
      go_wp2
      go_roundw
      case rel => exact ⟨q + 1, n1, k1, A1, by omega, by go_num, rfl, hk1, by omega, hX1, HN1, hB⟩
      case measure => simp [intOf]; omega
    · obtain rfl : n = q := by omega
      have hfx : l.take n = l := List.take_of_length_le (by rw [HN.out]; exact Nat.le_refl _)
      rw [hfx] at hX hN
      clear hfx
      obtain ⟨Bl, hBl⟩ : ∃ Bl, puts [] l = Bl := ⟨_, rfl⟩
      have HBl := Lib.hid hBl
      have hrB : Rises Bl := by rw [← hBl]; exact rises_puts _ rises_nil
      rw [hBl] at hX hN
      clear hBl
      have hx := HX0.out.2.1.below hB HX0.out.2.1.lt
      have x0 := hx.c0
      have x1 := hx.c1
      have x2 := hx.c2
      go_wp2_with fail
      clear x0 x1 x2
      refine (put_any ⟨kk, kt, ks⟩ 0 hX hN.out hcx (by omega) hrB).mono ?_
      rintro e w2 ⟨Ay, ny, cy, rfl, hny, hcy, hY, h2⟩
      obtain ⟨X, hXe⟩ : ∃ X, putL Bl ⟨kk, kt, ks⟩ = X := ⟨_, rfl⟩
      have hlp := (len_put Bl ⟨kk, kt, ks⟩).2
      rw [hN.out] at hlp
      have hrX : Rises X := by rw [← hXe]; exact rises_put hrB
      rw [hXe] at hny hY hlp
      rw [hny] at hlp
      have hX := hX.below h2 (Nat.le_refl _)
      have hx := hx.below h2 hx.lt
      have hB := hB.trans (h2.mono hB.size)
      have HXe := Lib.hid hXe
      have HNY := Lib.hid hny
      clear h2 hXe hny
      have x0 := hx.c0
      go_wp2_with fail
      clear x0
      refine (drop_any kk 0 hY HNY.out hcy (by omega) hrX).mono ?_
      rintro e w3 ⟨Az, nz, cz, rfl, hnz, hcz, hZ, h3⟩
      obtain ⟨Y, hYe⟩ : ∃ Y, dropL X kk.data.toList = Y := ⟨_, rfl⟩
      have hrY : Rises Y := by rw [← hYe]; exact rises_drop hrX _
      rw [hYe] at hnz hZ
      have hmem : (⟨kk, kt, ks⟩ : E) ∈ X := by rw [← HXe.out]; exact (mem_put hrB _).2 (Or.inl rfl)
      have hnd : nz + 1 = ny := by
        have h := len_drop hrX hmem
        rw [show dropL X (⟨kk, kt, ks⟩ : E).k = Y from hYe, hnz, HNY.out] at h
        exact h
      have hX := hX.below h3 (Nat.le_refl _)
      have hY := hY.below h3 (Nat.le_refl _)
      have hx := hx.below h3 hx.lt
      have hB := hB.trans (h3.mono hB.size)
      have HYe := Lib.hid hYe
      have HNZ := Lib.hid hnz
      clear h3 hYe hnz
      have x0 := hx.c0
      go_wp2_with fail
      clear x0
      refine (find_any kk 0 hY HNY.out hcy (by omega) hrX).mono ?_
      rintro e w4 ⟨he, h4⟩
      rw [show findL X kk.data.toList = some ⟨kk, kt, ks⟩ by rw [← HXe.out]; exact find_put hrB] at he
      have he : e = .returned (.tuple #[.agg #[.int .i64 kt, .int .i64 ks], .bool true]) := he
      subst he
      have hX := hX.below h4 (Nat.le_refl _)
      have hY := hY.below h4 (Nat.le_refl _)
      have hZ := hZ.below h4 (Nat.le_refl _)
      have hx := hx.below h4 hx.lt
      have hB := hB.trans (h4.mono hB.size)
      clear h4
      have x0 := (hx.alloc (.cells #[.int .i64 kt, .int .i64 ks] 28)).c0
      go_wp2_with fail
      clear x0
      have hnw := (Below.refl w4.heap.size w4).alloc (Nat.le_refl _) (.cells #[.int .i64 kt, .int .i64 ks] 28)
      have z4 := Box2.new w4 (.int .i64 kt) (.int .i64 ks) 28
      have hX := hX.below hnw (Nat.le_refl _)
      have hY := hY.below hnw (Nat.le_refl _)
      have hZ := hZ.below hnw (Nat.le_refl _)
      have hx := hx.below hnw hx.lt
      have hB := hB.trans (hnw.mono hB.size)
      obtain ⟨g9, hg9⟩ : ∃ g9, w4.heap.size = g9 := ⟨_, rfl⟩
      rw [hg9] at z4 ⊢
      generalize w4.alloc (.cells #[.int .i64 kt, .int .i64 ks] 28) = v4 at z4 hX hY hZ hx hB ⊢
      clear hnw hg9
      refine (find_any kk 0 hZ HNZ.out hcz (by omega) hrY).mono ?_
      rintro e w5 ⟨he, h5⟩
      rw [show findL Y kk.data.toList = none by rw [← HYe.out]; exact find_drop _] at he
      have he : e = .returned (.tuple #[.agg #[.int .i64 0, .int .i64 0], .bool false]) := he
      subst he
      have h5 := h5.trans ((Below.refl w5.heap.size w5).alloc (Nat.le_refl _) (.cells #[.int .i64 0, .int .i64 0] 28) |>.mono h5.size)
      have HS := Lib.hid (And.intro (HX0.out.1.below (hB.trans (h5.mono hB.size)) (Nat.le_refl _)) (And.intro (hX.below h5 (Nat.le_refl _)) (And.intro (hY.below h5 (Nat.le_refl _)) (And.intro (hZ.below h5 (Nat.le_refl _)) (And.intro (hx.below h5 hx.lt) (And.intro (z4.below h5 z4.lt) (HX0.out.2.2.trans ((hB.trans (h5.mono hB.size)).mono HX0.out.2.2.size))))))))
      have HR := Lib.hid (And.intro hrB (And.intro hrX (And.intro hrY (And.intro HXe.out (And.intro HYe.out HBl.out)))))
      clear hX hY hZ hx hB z4 h5 hrB hrX hrY HXe HYe HBl
      go_wp2
      obtain ⟨g11, hg11⟩ : ∃ g11, w5.heap.size = g11 := ⟨_, rfl⟩
      rw [hg11]
      generalize w5.alloc (.cells #[.int .i64 0, .int .i64 0] 28) = wS at HS ⊢
      clear hg11
      go_loopw [13] (fun i wr => ∃ q : Nat, q ≤ n ∧ i = .int .i64 q ∧ Below wS.heap.size wS wr) (fun i _ => n - (intOf i).toNat)
      case atStart => exact ⟨0, Nat.zero_le _, rfl, Below.refl _ _⟩
      case round =>
        obtain ⟨q, hq, rfl, hB⟩ := hrel
        by_cases hlt : q < n
        · have hgt := List.getElem?_eq_getElem (l := l) (i := q) (by rw [HN.out]; exact hlt)
          generalize (l[q]'(by rw [HN.out]; exact hlt)) = x at hgt
          obtain ⟨b, o, rfl, _, hlb, d0, _, _⟩ := HasE.at (HS.out.1.below hB (Nat.le_refl _)) hgt
          have HM := Lib.hid (List.mem_of_getElem? hgt)
          obtain ⟨xk, xt, xs⟩ := x
          simp only at d0
          have i1 : (q : Int) < (n : Int) := by omega
          have i0 : (0 : Int) ≤ (q : Int) := by omega
          clear hgt
          go_wp2_with fail
          refine (find_any xk 0 (HS.out.2.1.below hB (Nat.le_refl _)) hN.out hcx (by omega) HR.out.1).mono ?_
          rintro e wa hf
          obtain ⟨p1, q1, b1, rfl, HV1, hv⟩ := find_vals hf
          clear hf
          have hnw := hv.trans ((Below.refl wa.heap.size wa).alloc (Nat.le_refl _) (.cells #[.int .i64 p1, .int .i64 q1] 28) |>.mono hv.size)
          have e0 := cell_below hnw d0
          have y1 := Box2.new wa (.int .i64 p1) (.int .i64 q1) 28
          have hB := hB.trans (hnw.mono hB.size)
          clear hv hnw
          go_wp2_with fail
          clear d0
          obtain ⟨h1, hh1⟩ : ∃ h, wa.heap.size = h := ⟨_, rfl⟩
          rw [hh1] at y1 ⊢
          generalize wa.alloc (.cells #[.int .i64 p1, .int .i64 q1] 28) = wa' at e0 y1 hB ⊢
          clear hh1
          have d0 := e0
          clear e0
          refine (find_any xk 0 (HS.out.2.2.1.below hB (Nat.le_refl _)) HNY.out hcy (by omega) HR.out.2.1).mono ?_
          rintro e wb hf
          obtain ⟨p2, q2, b2, rfl, HV2, hv⟩ := find_vals hf
          clear hf
          have hnw := hv.trans ((Below.refl wb.heap.size wb).alloc (Nat.le_refl _) (.cells #[.int .i64 p2, .int .i64 q2] 28) |>.mono hv.size)
          have e0 := cell_below hnw d0
          have y2 := Box2.new wb (.int .i64 p2) (.int .i64 q2) 28
          have y1 := y1.below hnw y1.lt
          have hB := hB.trans (hnw.mono hB.size)
          clear hv hnw
          go_wp2_with fail
          clear d0
          obtain ⟨h2, hh2⟩ : ∃ h, wb.heap.size = h := ⟨_, rfl⟩
          rw [hh2] at y2 ⊢
          generalize wb.alloc (.cells #[.int .i64 p2, .int .i64 q2] 28) = wb' at e0 y2 y1 hB ⊢
          clear hh2
          have d0 := e0
          clear e0
          refine (find_any xk 0 (HS.out.2.2.2.1.below hB (Nat.le_refl _)) HNZ.out hcz (by omega) HR.out.2.2.1).mono ?_
          rintro e wc hf
          obtain ⟨p3, q3, b3, rfl, HV3, hv⟩ := find_vals hf
          clear hf
          have hnw := hv.trans ((Below.refl wc.heap.size wc).alloc (Nat.le_refl _) (.cells #[.int .i64 p3, .int .i64 q3] 28) |>.mono hv.size)
          have e0 := cell_below hnw d0
          have y3 := Box2.new wc (.int .i64 p3) (.int .i64 q3) 28
          have y1 := y1.below hnw y1.lt
          have y2 := y2.below hnw y2.lt
          have hB := hB.trans (hnw.mono hB.size)
          clear hv hnw
          go_wp2
          obtain ⟨h3, hh3⟩ : ∃ h, wc.heap.size = h := ⟨_, rfl⟩
          rw [hh3] at y3 ⊢
          generalize wc.alloc (.cells #[.int .i64 p3, .int .i64 q3] 28) = wc' at e0 y1 y2 y3 hB ⊢
          clear hh3
          have x0 := (HS.out.2.2.2.2.1.below hB HS.out.2.2.2.2.1.lt).c0
          by_cases hk : xk = kk
          · subst hk
            have hbk : (xk.toList == xk.toList) = true := by simp
            clear HV1 HV2 HV3 HM y1 y2 y3
            go_quiet (fail)
            have hB := hB.trans (below_drewN (Below.refl _ _) nq |>.mono hB.size)
            clear e0 x0
            go_wp2
            go_roundw
            case rel => exact ⟨q + 1, by omega, by go_num, hB⟩
            case measure => simp [intOf]; omega
          · have hne : xk.data.toList ≠ kk.data.toList := fun h => hk (bytesEq' h)
            obtain ⟨hrB, hrX, hrY, hXe, hYe, hBe⟩ := HR.out
            obtain ⟨z, hz⟩ := puts_has l [] xk.data.toList rises_nil (Or.inr ⟨_, HM.out, rfl⟩)
            rw [hBe] at hz
            have hzX : findL X xk.data.toList = some z := by rw [← hXe, find_put_other hrB (show xk.data.toList ≠ (⟨kk, kt, ks⟩ : E).k from hne)]; exact hz
            have hzY : findL Y xk.data.toList = some z := by rw [← hYe, find_drop_other hrX hne]; exact hzX
            have a1 := HV1.out
            have a2 := HV2.out
            have a3 := HV3.out
            rw [hz] at a1
            rw [hzX] at a2
            rw [hzY] at a3
            obtain ⟨a1, t1⟩ := a1
            have t1 : true = b1 := t1
            subst t1
            obtain ⟨a2, t2⟩ := a2
            have t2 : true = b2 := t2
            subst t2
            obtain ⟨a3, t3⟩ := a3
            have t3 : true = b3 := t3
            subst t3
            injection a1.symm.trans a2 with e1 e2
            injection a1.symm.trans a3 with e3 e4
            subst e1 e2 e3 e4
            clear a1 a2 a3 t1 t2 t3 hz hzX hzY hrB hrX hrY hXe hYe hBe HV1 HV2 HV3 HM z
            have hbk : (xk.toList == kk.toList) = false := by rw [key_beq]; exact decide_eq_false hne
            have c10 := y1.c0
            have c11 := y1.c1
            have c20 := y2.c0
            have c21 := y2.c1
            have c30 := y3.c0
            have c31 := y3.c1
            clear hk hne y1 y2 y3
            go_quiet (fail)
            have hB := hB.trans (below_drewN (Below.refl _ _) nq |>.mono hB.size)
            clear e0 x0 c10 c11 c20 c21 c30 c31
            go_wp2
            go_roundw
            case rel => exact ⟨q + 1, by omega, by go_num, hB⟩
            case measure => simp [intOf]; omega
        · obtain rfl : n = q := by omega
          go_wp2
          go_loopw [20] (fun i wr => ∃ q : Nat, 1 ≤ q ∧ q ≤ ny ∧ i = .int .i64 q ∧ Below wS.heap.size wS wr) (fun i _ => ny - (intOf i).toNat)
          case atStart => exact ⟨1, Nat.le_refl _, by omega, rfl, hB⟩
          case round =>
            clear hB
            obtain ⟨q, hq1, hq, rfl, hB⟩ := hrel
            by_cases hlt : q < ny
            · obtain ⟨j, m1, m3⟩ : ∃ j : Nat, (q : Int) - 1 = (j : Int) ∧ q = j + 1 := ⟨q - 1, by omega, by omega⟩
              have hgt := List.getElem?_eq_getElem (l := X) (i := j + 1) (by rw [HNY.out]; omega)
              generalize (X[j + 1]'(by rw [HNY.out]; omega)) = x at hgt
              have hgp := List.getElem?_eq_getElem (l := X) (i := j) (by rw [HNY.out]; omega)
              generalize (X[j]'(by rw [HNY.out]; omega)) = y at hgp
              have hless := rises_pred HR.out.2.1 hgp hgt
              obtain ⟨b, o, rfl, _, hlb, d0, _, _⟩ := HasE.at (HS.out.2.2.1.below hB (Nat.le_refl _)) hgt
              obtain ⟨b', o', hA', _, hlb', e0, _, _⟩ := HasE.at (HS.out.2.2.1.below hB (Nat.le_refl _)) hgp
              injection hA' with hA'
              injection hA' with a1 a2
              subst a1 a2
              rw [← m3] at d0
              have j1 : (j : Int) < (ny : Int) := by omega
              have j2 : (0 : Int) ≤ (j : Int) := by omega
              have i1 : (q : Int) < (ny : Int) := by omega
              have i0 : (0 : Int) ≤ (q : Int) := by omega
              clear hgt hgp m3
              go_wp2
              go_quiet (fail)
              have hB := hB.trans (below_drewN (Below.refl _ _) nq |>.mono hB.size)
              clear d0 e0 hless m1
              go_wp2
              go_roundw
              case rel => exact ⟨q + 1, by omega, by omega, by go_num, hB⟩
              case measure => simp [intOf]; omega
            · obtain rfl : ny = q := by omega
              go_wp2_with fail
              refine (awake_any _).mono ?_
              rintro e wz ⟨rfl, hz⟩
              have hB := hB.trans (hz.mono hB.size)
              have hbx := HS.out.2.2.2.2.1.below hB HS.out.2.2.2.2.1.lt
              have hb9 := HS.out.2.2.2.2.2.1.below hB HS.out.2.2.2.2.2.1.lt
              have c0 := hbx.c0
              have c1 := hbx.c1
              have c2 := hbx.c2
              have b0 := hb9.c0
              have b1 := hb9.c1
              have hfin := HS.out.2.2.2.2.2.2.trans (hB.mono HS.out.2.2.2.2.2.2.size)
              have m1 : (ny : Int) - 1 = (nz : Int) := by omega
              have m2 : (ny : Int) ≤ (nx : Int) + 1 := by omega
              clear hz hbx hb9 hB HS HR
              go_wp2
              go_ret
              exact ⟨rfl, hfin⟩
end
end Go.Proofs.Ytmjlfhfadmndhaa.Bu
