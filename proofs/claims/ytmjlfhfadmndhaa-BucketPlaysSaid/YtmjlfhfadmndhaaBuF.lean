/- Buckets: the document's Put, walked. -/
import Derived.Test.YtmjlfhfadmndhaaBuE
namespace Go.Proofs.Ytmjlfhfadmndhaa.Bu
open Go.RowKit Pac Ls

/-- What Put has behind q entries of rising keys. -/
def outL (l : List E) (e : E) (q : Nat) : Bool → List E
  | false => l.take q
  | true => putL (l.take q) e
/-- All before are less, or one isn't. -/
def DoneP (l : List E) (e : E) (q : Nat) : Bool → Prop
  | false => ∀ x ∈ l.take q, lt x.k e.k
  | true => ∃ x ∈ l.take q, ¬ lt x.k e.k
theorem take_snoc {l : List E} {q : Nat} {x : E} (h : l[q]? = some x) : l.take (q + 1) = l.take q ++ [x] := by rw [List.take_add_one, h]; rfl
theorem mem_snoc {l : List E} {q : Nat} {x : E} (h : l[q]? = some x) : x ∈ l.take (q + 1) := by rw [take_snoc h]; simp
/-- Behind one that isn't less all are greater. -/
theorem rises_gt {l : List E} {e x : E} {q : Nat} (hr : Rises l) (hx : l[q]? = some x) (h : ∃ y ∈ l.take q, ¬ lt y.k e.k) : lt e.k x.k := by
  obtain ⟨y, hy, hn⟩ := h
  have h1 : lt y.k x.k := by
    have h2 : (l.take (q + 1)).Pairwise (fun x y => lt x.k y.k) := hr.sublist (List.take_sublist _ _)
    rw [take_snoc hx, List.pairwise_append] at h2
    exact h2.2.2 y hy x (by simp)
  rcases lt_total y.k e.k with h3 | h3 | h3
  · exact absurd h3 hn
  · rw [← h3]; exact h1
  · exact lt_trans h3 h1
theorem out_less {l : List E} {e x : E} {q : Nat} (hx : l[q]? = some x) (hd : DoneP l e q false) (h : lt x.k e.k) : outL l e (q + 1) false = outL l e q false ++ [x] ∧ DoneP l e (q + 1) false := by
  refine ⟨take_snoc hx, fun y hy => ?_⟩
  rw [take_snoc hx] at hy
  rcases List.mem_append.1 hy with hy | hy
  · exact hd y hy
  · have : y = x := by simpa using hy
    subst this
    exact h
theorem out_eq {l : List E} {e x : E} {q : Nat} (hx : l[q]? = some x) (hd : DoneP l e q false) (h : x.k = e.k) : outL l e (q + 1) true = outL l e q false ++ [e] ∧ DoneP l e (q + 1) true := by
  refine ⟨?_, x, mem_snoc hx, by rw [h]; exact lt_irrefl _⟩
  show putL (l.take (q + 1)) e = l.take q ++ [e]
  rw [take_snoc hx]
  exact put_eq hd h
theorem out_gt {l : List E} {e x : E} {q : Nat} (hx : l[q]? = some x) (hd : DoneP l e q false) (h : lt e.k x.k) : outL l e (q + 1) true = outL l e q false ++ [e] ++ [x] ∧ DoneP l e (q + 1) true := by
  refine ⟨?_, x, mem_snoc hx, lt_asymm h⟩
  show putL (l.take (q + 1)) e = l.take q ++ [e] ++ [x]
  rw [take_snoc hx]
  exact put_gt hd h
theorem out_done {l : List E} {e x : E} {q : Nat} (hr : Rises l) (hx : l[q]? = some x) (hd : DoneP l e q true) : lt e.k x.k ∧ outL l e (q + 1) true = outL l e q true ++ [x] ∧ DoneP l e (q + 1) true := by
  have h := rises_gt hr hx hd
  refine ⟨h, ?_, x, mem_snoc hx, lt_asymm h⟩
  show putL (l.take (q + 1)) e = putL (l.take q) e ++ [x]
  rw [take_snoc hx]
  exact put_snoc hd h
section
variable {A : Option Addr} {n cp : Nat} {l : List E} {w : World}
set_option maxRecDepth 20000 in
set_option maxHeartbeats 6400000 in
theorem refPut_any (e : E) (lo : Nat) (hl : HasE w lo A l) (hn : l.length = n) (h9 : n ≤ 100000) (hr : Rises l) :
    Calls Try.prog 11 #[.slice A n cp, e.v] w (PutPost (putL l e) w) := by
  obtain ⟨iE, hiE, hv0, hv1, hv2⟩ := info_parts infoE
  have hb := (Below.refl w.heap.size w).alloc (Nat.le_refl _) (.cells #[.string e.key, .int .i64 e.t, .int .i64 e.s] 30)
  have hx := Box3.new w (.string e.key) (.int .i64 e.t) (.int .i64 e.s) 30
  have HL := Lib.hid (And.intro (hl.below hb (Nat.le_refl _)) (And.intro hn hr))
  have h0 : w.heap.size ≤ (w.alloc (.cells #[.string e.key, .int .i64 e.t, .int .i64 e.s] 30)).heap.size := hb.size
  clear hl hn hr
  obtain ⟨ek, et, es⟩ := e
  unfold E.v
  simp only at hb hx h0 HL ⊢
  generalize he : (⟨ek, et, es⟩ : E) = e
  have hek : e.k = ek.data.toList := by rw [← he]; rfl
  have HP := Lib.hid (fun (sv : Value) (m : Nat) (W w1 : World) (hown : W.ownsRow w1.heap.size 30 3 sv m (Li.cellsL cellsE (putL l e))) (hm : (putL l e).length = m) (h1 : w.heap.size ≤ w1.heap.size) (hB : Below w.heap.size w W) => put_post hown hm h1 hB)
  generalize PutPost (putL l e) w = post at HP ⊢
  have HE := Lib.hid (And.intro he hek)
  clear he hek
  go_enter Try.func11, Try.ntmps11
  go_wp2
  generalize w.alloc (.cells #[.string ek, .int .i64 et, .int .i64 es] 30) = w1 at hb hx h0 HL ⊢
  have hxl : w.heap.size < w1.heap.size := hx.lt
  generalize hg : w.heap.size = g at hx hxl ⊢
  have HG0 := Lib.hid hg
  clear hg
  go_loopw [5, 6, 7] (fun x d i wr => ∃ (q m : Nat) (dn : Bool) (sv : Value), q ≤ n ∧ m ≤ q + 1 ∧ i = .int .i64 q ∧ x = sv ∧ d = .bool dn ∧ wr.ownsRow w1.heap.size 30 3 sv m (Li.cellsL cellsE (outL l e q dn)) ∧ Hid ((outL l e q dn).length = m) ∧ Hid (DoneP l e q dn) ∧ Below w1.heap.size w1 wr) (fun _ _ i _ => n - (intOf i).toNat)
  case atStart => exact ⟨0, 0, false, _, Nat.zero_le _, by omega, rfl, rfl, rfl, by simpa [Li.cellsL, outL] using World.ownsRow_nil _ _ _ _, Lib.hid (by simp [outL]), Lib.hid (fun x hx => by simp at hx), Below.refl _ _⟩
  case round =>
    obtain ⟨q, m, dn, sv, hq, hmq, rfl, rfl, rfl, hown, hM, hD, hB⟩ := hrel
    have hxq := hx.below hB hxl
    by_cases hlt : q < n
    · have hgt := List.getElem?_eq_getElem (l := l) (i := q) (by rw [HL.out.2.1]; exact hlt)
      generalize (l[q]'(by rw [HL.out.2.1]; exact hlt)) = x at hgt
      obtain ⟨b, o, rfl, _, hlb, D0, D1, D2⟩ := HasE.at HL.out.1 hgt
      have HGT := Lib.hid hgt
      generalize hx0 : x = x' at HGT
      obtain ⟨xk, xt, xs⟩ := x
      simp only at D0 D1 D2
      have HD0 := Lib.hid (And.intro D0 (And.intro D1 D2))
      clear D0 D1 D2
      have d0 := (hB.cell (p := ⟨b, o + q * 3, none⟩) hlb).trans HD0.out.1
      have d1 := (hB.cell (p := ⟨b, o + q * 3 + 1, none⟩) hlb).trans HD0.out.2.1
      have d2 := (hB.cell (p := ⟨b, o + q * 3 + 2, none⟩) hlb).trans HD0.out.2.2
      have hxk : x'.k = xk.data.toList := by rw [← hx0]; rfl
      have i1 : (q : Int) < (n : Int) := by omega
      have i0 : (0 : Int) ≤ (q : Int) := by omega
      have x0 := hxq.c0
      have x1 := hxq.c1
      have x2 := hxq.c2
      clear hgt
      cases dn with
      | true =>
        obtain ⟨hlt2, hO, hD2⟩ := out_done HL.out.2.2 HGT.out hD.out
        have hne : (xk.toList == ek.toList) = false := by
          rw [key_beq]
          exact decide_eq_false (fun h => lt_ne hlt2 (by rw [HE.out.2, hxk, h]))
        have HO := Lib.hid (And.intro hO hD2)
        clear hlt2 hO hD2 hxk
        go_wp2
        go_region
        go_wp2
        go_region
        have hown2 := Li.own_below hown (Below.refl wr.heap.size wr).drew.drew (Nat.le_refl _)
        have hB2 := hB.drew.drew
        clear hown hB
        have HW := Lib.hid (And.intro (hown2.alloc (.cells #[.string xk, .int .i64 xt, .int .i64 xs] 30)) (And.intro (hB2.alloc hB2.size (.cells #[.string xk, .int .i64 xt, .int .i64 xs] 30)) (heap_alloc_new wr.drew.drew (.cells #[.string xk, .int .i64 xt, .int .i64 xs] 30))))
        clear hown2 hB2
        go_wp2_with (at_builtin; go_must (refine wpList_append_own _ rfl _ _ 22 rfl w1.heap.size 30 iE (.agg #[.string ⟨#[]⟩, .int .i64 0, .int .i64 0]) 3 32 Try.underlying22 hiE hv0 hv1 hv2 rfl (by decide) u5 m (Li.cellsL cellsE (outL l e q true)) rfl HW.out.1 ⟨wr.drew.drew.heap.size, 0, none⟩ 1 1 [.string xk, .int .i64 xt, .int .i64 xs] (by go_simp) rfl (World.news_of_block HW.out.2.2) (by simp [Value.oneCell']) (by unfold maxLen; omega) (by omega) HW.out.2.1.size ?_))
        intro v5 y5 howny5 hgrow _
        obtain ⟨hownW, hbW, hnW⟩ := HW.out
        have hBy5 := hbW.grown hgrow hbW.size (fun k hk => (hownW.lt k hk).1)
        clear hownW hbW hnW hgrow HW
        go_wp2
        go_roundw
        case rel =>
          refine ⟨q + 1, m + 1, true, _, by omega, by omega, by go_num, rfl, rfl, ?_, Lib.hid (by rw [HO.out.1, List.length_append, hM.out]; rfl), Lib.hid HO.out.2, hBy5⟩
          rw [HO.out.1, Li.cellsL_snoc, ← hx0]
          exact howny5
        case measure => simp [intOf]; omega
      | false =>
        have hmq2 : m ≤ q := by
          rw [← hM.out]
          show (l.take q).length ≤ q
          exact List.length_take_le q l
        rcases lt_total x'.k e.k with h | h | h
        · obtain ⟨hO, hD2⟩ := out_less HGT.out hD.out h
          have hge : Op.bytesLess xk.toList ek.toList = true := by rw [key_list, key_list, ← hxk, ← HE.out.2]; exact h
          have hne : (xk.toList == ek.toList) = false := by
            rw [key_beq]
            exact decide_eq_false (fun h2 => lt_ne h (by rw [HE.out.2, hxk, h2]))
          have HO := Lib.hid (And.intro hO hD2)
          clear h hO hD2 hxk
          go_wp2
          go_region
          go_wp2
          go_region
          have hown2 := Li.own_below hown (Below.refl wr.heap.size wr).drew.drew (Nat.le_refl _)
          have hB2 := hB.drew.drew
          clear hown hB
          have HW := Lib.hid (And.intro (hown2.alloc (.cells #[.string xk, .int .i64 xt, .int .i64 xs] 30)) (And.intro (hB2.alloc hB2.size (.cells #[.string xk, .int .i64 xt, .int .i64 xs] 30)) (heap_alloc_new wr.drew.drew (.cells #[.string xk, .int .i64 xt, .int .i64 xs] 30))))
          clear hown2 hB2
          go_wp2_with (at_builtin; go_must (refine wpList_append_own _ rfl _ _ 22 rfl w1.heap.size 30 iE (.agg #[.string ⟨#[]⟩, .int .i64 0, .int .i64 0]) 3 32 Try.underlying22 hiE hv0 hv1 hv2 rfl (by decide) u5 m (Li.cellsL cellsE (outL l e q false)) rfl HW.out.1 ⟨wr.drew.drew.heap.size, 0, none⟩ 1 1 [.string xk, .int .i64 xt, .int .i64 xs] (by go_simp) rfl (World.news_of_block HW.out.2.2) (by simp [Value.oneCell']) (by unfold maxLen; omega) (by omega) HW.out.2.1.size ?_))
          intro v5 y5 howny5 hgrow _
          obtain ⟨hownW, hbW, hnW⟩ := HW.out
          have hBy5 := hbW.grown hgrow hbW.size (fun k hk => (hownW.lt k hk).1)
          clear hownW hbW hnW hgrow HW
          go_wp2
          go_roundw
          case rel =>
            refine ⟨q + 1, m + 1, false, _, by omega, by omega, by go_num, rfl, rfl, ?_, Lib.hid (by rw [HO.out.1, List.length_append, hM.out]; rfl), Lib.hid HO.out.2, hBy5⟩
            rw [HO.out.1, Li.cellsL_snoc, ← hx0]
            exact howny5
          case measure => simp [intOf]; omega
        · obtain ⟨hO, hD2⟩ := out_eq HGT.out hD.out h
          have hge : Op.bytesLess xk.toList ek.toList = false := by
            rw [key_list, key_list, ← hxk, ← HE.out.2, h]
            exact less_irrefl _
          have hne : (xk.toList == ek.toList) = true := by
            rw [key_beq]
            exact decide_eq_true (by rw [← hxk, ← HE.out.2]; exact h)
          have HO := Lib.hid (And.intro hO hD2)
          clear h hO hD2 hxk
          go_wp2
          go_region
          have hown2 := Li.own_below hown (Below.refl wr.heap.size wr).drew (Nat.le_refl _)
          have hB2 := hB.drew
          clear hown hB
          have HW := Lib.hid (And.intro (hown2.alloc (.cells #[.string ek, .int .i64 et, .int .i64 es] 30)) (And.intro (hB2.alloc hB2.size (.cells #[.string ek, .int .i64 et, .int .i64 es] 30)) (heap_alloc_new wr.drew (.cells #[.string ek, .int .i64 et, .int .i64 es] 30))))
          clear hown2 hB2
          go_wp2_with (at_builtin; go_must (refine wpList_append_own _ rfl _ _ 22 rfl w1.heap.size 30 iE (.agg #[.string ⟨#[]⟩, .int .i64 0, .int .i64 0]) 3 32 Try.underlying22 hiE hv0 hv1 hv2 rfl (by decide) u5 m (Li.cellsL cellsE (outL l e q false)) rfl HW.out.1 ⟨wr.drew.heap.size, 0, none⟩ 1 1 [.string ek, .int .i64 et, .int .i64 es] (by go_simp) rfl (World.news_of_block HW.out.2.2) (by simp [Value.oneCell']) (by unfold maxLen; omega) (by omega) HW.out.2.1.size ?_))
          intro v5 y5 howny5 hgrow _
          obtain ⟨hownW, hbW, hnW⟩ := HW.out
          have hBy5 := hbW.grown hgrow hbW.size (fun k hk => (hownW.lt k hk).1)
          clear hownW hbW hnW hgrow HW
          have d0 := (hBy5.cell (p := ⟨b, o + q * 3, none⟩) hlb).trans HD0.out.1
          have d1 := (hBy5.cell (p := ⟨b, o + q * 3 + 1, none⟩) hlb).trans HD0.out.2.1
          have d2 := (hBy5.cell (p := ⟨b, o + q * 3 + 2, none⟩) hlb).trans HD0.out.2.2
          have hx5 := hx.below hBy5 hxl
          have x0 := hx5.c0
          have x1 := hx5.c1
          have x2 := hx5.c2
          go_wp2
          go_region
          go_wp2
          go_roundw
          case rel =>
            refine ⟨q + 1, m + 1, true, _, by omega, by omega, by go_num, rfl, rfl, ?_, Lib.hid (by rw [HO.out.1, List.length_append, hM.out]; rfl), Lib.hid HO.out.2, hBy5.drew⟩
            rw [HO.out.1, Li.cellsL_snoc, ← HE.out.1]
            exact Li.own_below howny5 (Below.refl y5.heap.size y5).drew (Nat.le_refl _)
          case measure => simp [intOf]; omega
        · obtain ⟨hO, hD2⟩ := out_gt HGT.out hD.out h
          have hge : Op.bytesLess xk.toList ek.toList = false := by
            rw [key_list, key_list, ← hxk, ← HE.out.2]
            exact less_asymm _ _ h
          have hne : (xk.toList == ek.toList) = false := by
            rw [key_beq]
            exact decide_eq_false (fun h2 => lt_ne h (by rw [HE.out.2, hxk, h2]))
          have HO := Lib.hid (And.intro hO hD2)
          clear h hO hD2 hxk
          go_wp2
          go_region
          have hown2 := Li.own_below hown (Below.refl wr.heap.size wr).drew (Nat.le_refl _)
          have hB2 := hB.drew
          clear hown hB
          have HW := Lib.hid (And.intro (hown2.alloc (.cells #[.string ek, .int .i64 et, .int .i64 es] 30)) (And.intro (hB2.alloc hB2.size (.cells #[.string ek, .int .i64 et, .int .i64 es] 30)) (heap_alloc_new wr.drew (.cells #[.string ek, .int .i64 et, .int .i64 es] 30))))
          clear hown2 hB2
          go_wp2_with (at_builtin; go_must (refine wpList_append_own _ rfl _ _ 22 rfl w1.heap.size 30 iE (.agg #[.string ⟨#[]⟩, .int .i64 0, .int .i64 0]) 3 32 Try.underlying22 hiE hv0 hv1 hv2 rfl (by decide) u5 m (Li.cellsL cellsE (outL l e q false)) rfl HW.out.1 ⟨wr.drew.heap.size, 0, none⟩ 1 1 [.string ek, .int .i64 et, .int .i64 es] (by go_simp) rfl (World.news_of_block HW.out.2.2) (by simp [Value.oneCell']) (by unfold maxLen; omega) (by omega) HW.out.2.1.size ?_))
          intro v5 y5 howny5 hgrow _
          obtain ⟨hownW, hbW, hnW⟩ := HW.out
          have hBy5 := hbW.grown hgrow hbW.size (fun k hk => (hownW.lt k hk).1)
          clear hownW hbW hnW hgrow HW
          have d0 := (hBy5.cell (p := ⟨b, o + q * 3, none⟩) hlb).trans HD0.out.1
          have d1 := (hBy5.cell (p := ⟨b, o + q * 3 + 1, none⟩) hlb).trans HD0.out.2.1
          have d2 := (hBy5.cell (p := ⟨b, o + q * 3 + 2, none⟩) hlb).trans HD0.out.2.2
          have hx5 := hx.below hBy5 hxl
          have x0 := hx5.c0
          have x1 := hx5.c1
          have x2 := hx5.c2
          go_wp2
          go_region
          have howny5 : y5.ownsRow w1.heap.size 30 3 v5 (m + 1) (Li.cellsL cellsE (outL l e q false ++ [e])) := by
            rw [Li.cellsL_snoc, ← HE.out.1]
            exact howny5
          have hown3 := Li.own_below howny5 (Below.refl y5.heap.size y5).drew (Nat.le_refl _)
          have hB3 := hBy5.drew
          clear howny5 hBy5
          have HW := Lib.hid (And.intro (hown3.alloc (.cells #[.string xk, .int .i64 xt, .int .i64 xs] 30)) (And.intro (hB3.alloc hB3.size (.cells #[.string xk, .int .i64 xt, .int .i64 xs] 30)) (heap_alloc_new y5.drew (.cells #[.string xk, .int .i64 xt, .int .i64 xs] 30))))
          clear hown3 hB3
          go_wp2_with (at_builtin; go_must (refine wpList_append_own _ rfl _ _ 22 rfl w1.heap.size 30 iE (.agg #[.string ⟨#[]⟩, .int .i64 0, .int .i64 0]) 3 32 Try.underlying22 hiE hv0 hv1 hv2 rfl (by decide) v5 (m + 1) (Li.cellsL cellsE (outL l e q false ++ [e])) rfl HW.out.1 ⟨y5.drew.heap.size, 0, none⟩ 1 1 [.string xk, .int .i64 xt, .int .i64 xs] (by go_simp) rfl (World.news_of_block HW.out.2.2) (by simp [Value.oneCell']) (by unfold maxLen; omega) (by omega) HW.out.2.1.size ?_))
          intro v6 y6 howny6 hgrow _
          obtain ⟨hownW, hbW, hnW⟩ := HW.out
          have hBy6 := hbW.grown hgrow hbW.size (fun k hk => (hownW.lt k hk).1)
          clear hownW hbW hnW hgrow HW
          go_wp2
          go_roundw
          case rel =>
            refine ⟨q + 1, m + 1 + 1, true, _, by omega, by omega, by go_num, rfl, rfl, ?_, Lib.hid (by rw [HO.out.1, List.length_append, List.length_append, hM.out]; rfl), Lib.hid HO.out.2, hBy6⟩
            rw [HO.out.1, Li.cellsL_snoc, ← hx0]
            exact howny6
          case measure => simp [intOf]; omega
    · obtain rfl : q = n := by omega
      have hfull : l.take q = l := List.take_of_length_le (by rw [HL.out.2.1]; exact Nat.le_refl _)
      have x0 := hxq.c0
      have x1 := hxq.c1
      have x2 := hxq.c2
      cases dn with
      | true =>
        have hO : outL l e q true = putL l e := by
          show putL (l.take q) e = putL l e
          rw [hfull]
        rw [hO] at hown hM
        have HF := Lib.hid (HP.out _ m wr w1 hown hM.out h0 (hb.trans (hB.mono h0)))
        clear hown hM hO hfull
        go_wp2
        exact HF.out
      | false =>
        have hO : putL l e = outL l e q false ++ [e] := by
          have h := hD.out
          have h : ∀ x ∈ l, lt x.k e.k := by
            intro x hx
            exact h x (by rw [hfull]; exact hx)
          rw [put_all h]
          show l ++ [e] = l.take q ++ [e]
          rw [hfull]
        have HO := Lib.hid hO
        clear hO hfull
        have HW := Lib.hid (And.intro (hown.alloc (.cells #[.string ek, .int .i64 et, .int .i64 es] 30)) (And.intro (hB.alloc hB.size (.cells #[.string ek, .int .i64 et, .int .i64 es] 30)) (heap_alloc_new wr (.cells #[.string ek, .int .i64 et, .int .i64 es] 30))))
        clear hown hB
        go_wp2_with (at_builtin; go_must (refine wpList_append_own _ rfl _ _ 22 rfl w1.heap.size 30 iE (.agg #[.string ⟨#[]⟩, .int .i64 0, .int .i64 0]) 3 32 Try.underlying22 hiE hv0 hv1 hv2 rfl (by decide) u5 m (Li.cellsL cellsE (outL l e q false)) rfl HW.out.1 ⟨wr.heap.size, 0, none⟩ 1 1 [.string ek, .int .i64 et, .int .i64 es] (by go_simp) rfl (World.news_of_block HW.out.2.2) (by simp [Value.oneCell']) (by unfold maxLen; omega) (by omega) HW.out.2.1.size ?_))
        intro v5 y5 howny5 hgrow _
        obtain ⟨hownW, hbW, hnW⟩ := HW.out
        have hBy5 := hbW.grown hgrow hbW.size (fun k hk => (hownW.lt k hk).1)
        clear hownW hbW hnW hgrow HW
        have HF := Lib.hid (HP.out _ (m + 1) y5 w1 (by rw [HO.out, Li.cellsL_snoc, ← HE.out.1]; exact howny5) (by rw [HO.out, List.length_append, hM.out]; rfl) h0 (hb.trans (hBy5.mono h0)))
        clear howny5
        go_wp2
        exact HF.out
end
end Go.Proofs.Ytmjlfhfadmndhaa.Bu
