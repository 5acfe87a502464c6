/- The program's Drop, Put and Find. -/
import Derived.Test.YtocmkjccaajnnaaBpE
import Derived.Test.YtocmkjccaajnnaaBuJ
namespace Go.Proofs.Ytocmkjccaajnnaa.Bu
open Go.RowKit Pac Ls

section
variable {A : Option Addr} {n cp : Nat} {l : List E} {w : World}
set_option maxRecDepth 20000 in
set_option maxHeartbeats 1600000 in
theorem drop_own (k : ByteArray) (lo : Nat) (hl : HasE w lo A l) (hn : l.length = n) (h9 : n ≤ 100000) :
    Calls Try.prog 33 #[.slice A n cp, .string k] w (DelPost w.heap.size (dropL l k.data.toList) w) := by
  have hb := (Below.refl w.heap.size w).alloc (Nat.le_refl _) (.cells #[.string k] 9)
  have hc0 : (w.alloc (.cells #[.string k] 9)).cell? ⟨w.heap.size, 0, none⟩ = some (.string k) := by simp [go_sem]
  have hlt : w.heap.size < (w.alloc (.cells #[.string k] 9)).heap.size := by simp
  have hclone := clone_any (cp := cp) lo (hl.below hb (Nat.le_refl _)) hn h9
  have HN := Lib.hid hn
  generalize hL : dropL l k.data.toList = L
  have HL := Lib.hid hL
  clear hl hn hL
  go_enter Try.func33, Try.ntmps33
  go_wp2_with fail
  generalize w.alloc (.cells #[.string k] 9) = w0 at hb hc0 hlt hclone ⊢
  refine hclone.mono ?_
  rintro e w1 ⟨v, rfl, hown, hB1⟩
  have hk1 := (hB1.cell (p := ⟨w.heap.size, 0, none⟩) hlt).trans hc0
  have hdel := delete_any w.heap.size w0.heap.size v k hown HN.out h9 hB1.size hlt hk1
  rw [HL.out] at hdel
  have HB := Lib.hid (And.intro hb (And.intro hlt hB1))
  clear hb hlt hB1 hown hk1 hclone hc0
  go_wp2_with fail
  refine hdel.mono ?_
  rintro e w2 ⟨v2, m, rfl, hm, hown2, hB2⟩
  have HF := Lib.hid (show DelPost w.heap.size L w (.returned v2) w2 from ⟨v2, m, rfl, hm, own_weak hown2 (Nat.le_of_lt HB.out.2.1), (HB.out.1.trans (HB.out.2.2.mono (Nat.le_of_lt HB.out.2.1))).trans (hB2.mono (Nat.le_of_lt HB.out.2.1))⟩)
  clear hown2 hB2 hdel hm
  go_wp2
  go_ret
  exact HF.out
theorem DelPost.put {L : List E} (e : Ending) (w' : World) (h : DelPost w.heap.size L w e w') : PutPost L w e w' := by
  obtain ⟨v, m, rfl, hm, hown, hB⟩ := h
  exact put_post hown hm (Nat.le_refl _) hB
theorem drop_new (k : ByteArray) (lo : Nat) (hl : HasE w lo A l) (hn : l.length = n) (h9 : n ≤ 100000) :
    Calls Try.prog 33 #[.slice A n cp, .string k] w (PutPost (dropL l k.data.toList) w) := (drop_own k lo hl hn h9).mono DelPost.put
theorem DelPost.put0 {L : List E} (e : Ending) (w' : World) (h : DelPost w.heap.size L w e w') : PutPost0 L w e w' := by
  obtain ⟨v, m, rfl, hm, hown, hB⟩ := h
  exact PutPost.weak _ _ (put_post hown hm (Nat.le_refl _) hB)
theorem drop_any (k : ByteArray) (lo : Nat) (hl : HasE w lo A l) (hn : l.length = n) (hc : n ≤ cp) (h9 : n ≤ 100000) (hr : Rises l) :
    Calls Try.prog 33 #[.slice A n cp, .string k] w (PutPost0 (dropL l k.data.toList) w) := (drop_own k lo hl hn h9).mono DelPost.put0
end
section
variable {A : Option Addr} {n cp : Nat} {l : List E} {w : World}
set_option maxRecDepth 20000 in
set_option maxHeartbeats 3200000 in
theorem put_new (e : E) (lo : Nat) (hl : HasE w lo A l) (hn : l.length = n) (hc : n ≤ cp) (h9 : n ≤ 100000) (hr : Rises l) :
    Calls Try.prog 30 #[.slice A n cp, .agg #[.string e.key, .int .i64 e.t, .int .i64 e.s]] w (PutPost (putL l e) w) := by
  have hb := (Below.refl w.heap.size w).alloc (Nat.le_refl _) (.cells #[.string e.key, .int .i64 e.t, .int .i64 e.s] 51)
  have hx := Box3.new w (.string e.key) (.int .i64 e.t) (.int .i64 e.s) 51
  have hlt := hx.lt
  have hdrop := drop_own (cp := cp) e.key lo (hl.below hb (Nat.le_refl _)) hn h9
  have hdl : (dropL l e.key.data.toList).length ≤ n := by rw [← hn]; exact List.length_filter_le _ _
  have hput := fun k => put_first (l := l) (e := e) (k := k) hr
  have hek : e.k = e.key.data.toList := rfl
  rw [hek] at hput
  have HP := Lib.hid (fun (W W0 : World) (sv : Value) (m : Nat) (hown : OwnE W W0.heap.size sv m (putL l e)) (hm : (putL l e).length = m) (h0 : w.heap.size ≤ W0.heap.size) (hB : Below w.heap.size w W) => put_post (l := putL l e) (w := w) hown hm h0 hB)
  generalize putL l e = PL at hput HP ⊢
  generalize PutPost PL w = post at HP ⊢
  generalize dropL l e.key.data.toList = d at hdrop hdl hput
  have HPUT := Lib.hid hput
  obtain ⟨ek, et, es⟩ := e
  simp only at hb hx hdrop hlt hek HPUT
  have x0 := hx.c0
  have x1 := hx.c1
  have x2 := hx.c2
  clear hl hn hr hput
  go_enter Try.func30, Try.ntmps30
  go_wp2_with fail
  generalize w.alloc (.cells #[.string ek, .int .i64 et, .int .i64 es] 51) = w0 at hb hx hlt hdrop x0 x1 x2 ⊢
  refine hdrop.mono ?_
  rintro e w1 ⟨v, m, rfl, hm, hown, hB1⟩
  have hx1 := hx.below hB1 hlt
  obtain ⟨A1, c1, rfl, hc1, hA1⟩ := Li.list_of_own cellsE_len hown hm
  have hidx := index_put (cp := c1) w.heap.size (fun y => decide (lt ek.data.toList y.k)) w0.heap.size w0.heap.size hA1 hm (by omega) hB1.size (pred_put w.heap.size ek hx1.c0 w0.heap.size hlt)
  have hm9 : m ≤ 100000 := by omega
  have HB := Lib.hid (And.intro hb (And.intro hB1 (And.intro hm (And.intro hown (Nat.le_of_lt hlt)))))
  rcases first_or (fun y : E => decide (lt ek.data.toList y.k)) d with hno | ⟨q, x, g1, g2, g3⟩
  · have hcall := hidx.mono (IdxPost.none hno)
    have HQ := Lib.hid (HPUT.out d.length (Nat.le_refl _) (fun y hy => by
      rw [List.take_length] at hy
      have := hno y hy
      simpa using this) (fun y hy => by
      rw [List.getElem?_eq_none (Nat.le_refl _)] at hy
      cases hy))
    rw [hm] at HQ
    clear hidx hno hdrop hB1 hown hA1 hx x0 x1 x2 hb hc1 HPUT hm
    have hx2 := hx1.c0
    go_wp2_with fail
    refine hcall.mono ?_
    rintro e w2 ⟨rfl, hB2⟩
    have hxx := hx1.below hB2 (by have := HB.out.2.1.size; omega)
    have y0 := hxx.c0
    have y1 := hxx.c1
    have y2 := hxx.c2
    have hownW := (Li.own_below HB.out.2.2.2.1 hB2 (Nat.le_refl _)).alloc (.cells #[.string ek, .int .i64 et, .int .i64 es] 51)
    have hlo := (Li.own_below HB.out.2.2.2.1 hB2 (Nat.le_refl _)).lt
    have hB3 := hB2.alloc hB2.size (.cells #[.string ek, .int .i64 et, .int .i64 es] 51)
    have hins := insert_any (i := m) (vb := w2.heap.size) ⟨ek, et, es⟩ hownW HB.out.2.2.1 (Nat.le_refl _) hm9 (Nat.le_trans HB.out.2.1.size hB3.size) (by
      intro h
      have := (hlo _ h).2
      omega) (heap_alloc_new w2 _)
    rw [HQ.out] at hins
    have HH := Lib.hid (HB.out.1.trans ((HB.out.2.1.mono HB.out.2.2.2.2).trans (hB3.mono (Nat.le_trans HB.out.2.2.2.2 HB.out.2.1.size))))
    clear hcall hx1 hx2 hxx hownW hlo hB3 hB2
    go_wp2_with fail
    refine hins.mono ?_
    rintro e w4 ⟨v4, m4, rfl, hm4, hown4, hB4⟩
    have HF := Lib.hid (HP.out w4 w0 v4 m4 hown4 hm4 HB.out.2.2.2.2 (HH.out.trans (hB4.mono HB.out.2.2.2.2)))
    clear hins hown4 hB4 hm4
    go_wp2
    exact HF.out
  · have hcall := hidx.mono (IdxPost.some g1 g2 g3)
    have hqm : q < m := by rw [← hm]; exact (List.getElem?_eq_some_iff.1 g1).1
    have HQ := Lib.hid (HPUT.out q (by omega) (fun y hy => by
      have := g3 y hy
      simpa using this) (fun y hy => by
      rw [g1] at hy
      injection hy with hy
      subst hy
      simpa using g2))
    clear hidx hdrop hB1 hown hA1 hx x0 x1 x2 hb hc1 HPUT hm g1 g2 g3
    have hx2 := hx1.c0
    have hq0 : ¬ ((q : Int) < 0) := by omega
    go_wp2_with fail
    refine hcall.mono ?_
    rintro e w2 ⟨rfl, hB2⟩
    have hxx := hx1.below hB2 (by have := HB.out.2.1.size; omega)
    have y0 := hxx.c0
    have y1 := hxx.c1
    have y2 := hxx.c2
    have hownW := (Li.own_below HB.out.2.2.2.1 hB2 (Nat.le_refl _)).alloc (.cells #[.string ek, .int .i64 et, .int .i64 es] 51)
    have hlo := (Li.own_below HB.out.2.2.2.1 hB2 (Nat.le_refl _)).lt
    have hB3 := hB2.alloc hB2.size (.cells #[.string ek, .int .i64 et, .int .i64 es] 51)
    have hins := insert_any (i := q) (vb := w2.heap.size) ⟨ek, et, es⟩ hownW HB.out.2.2.1 (by omega) hm9 (Nat.le_trans HB.out.2.1.size hB3.size) (by
      intro h
      have := (hlo _ h).2
      omega) (heap_alloc_new w2 _)
    rw [HQ.out] at hins
    have HH := Lib.hid (HB.out.1.trans ((HB.out.2.1.mono HB.out.2.2.2.2).trans (hB3.mono (Nat.le_trans HB.out.2.2.2.2 HB.out.2.1.size))))
    clear hcall hx1 hx2 hxx hownW hlo hB3 hB2
    go_wp2_with fail
    refine hins.mono ?_
    rintro e w4 ⟨v4, m4, rfl, hm4, hown4, hB4⟩
    have HF := Lib.hid (HP.out w4 w0 v4 m4 hown4 hm4 HB.out.2.2.2.2 (HH.out.trans (hB4.mono HB.out.2.2.2.2)))
    clear hins hown4 hB4 hm4
    go_wp2
    exact HF.out
theorem put_any (e : E) (lo : Nat) (hl : HasE w lo A l) (hn : l.length = n) (hc : n ≤ cp) (h9 : n ≤ 100000) (hr : Rises l) :
    Calls Try.prog 30 #[.slice A n cp, .agg #[.string e.key, .int .i64 e.t, .int .i64 e.s]] w (PutPost0 (putL l e) w) := (put_new e lo hl hn hc h9 hr).mono PutPost.weak
end
section
variable {A : Option Addr} {n cp : Nat} {l : List E} {w : World}
theorem find_of_first : ∀ {l : List E} {q : Nat} {x : E} {k : List UInt8}, l[q]? = some x → decide (x.k = k) = true → (∀ y ∈ l.take q, decide (y.k = k) = false) → findL l k = some x := fun h1 h2 h3 =>
  find_first h1 (of_decide_eq_true h2) (fun y hy => of_decide_eq_false (h3 y hy))
set_option maxRecDepth 20000 in
set_option maxHeartbeats 3200000 in
theorem find_any (k : ByteArray) (lo : Nat) (hl : HasE w lo A l) (hn : l.length = n) (hc : n ≤ cp) (h9 : n ≤ 100000) (hr : Rises l) :
    Calls Try.prog 36 #[.slice A n cp, .string k] w (FindPost (findL l k.data.toList) w) := by
  have hb := ((Below.refl w.heap.size w).alloc (Nat.le_refl _) (.cells #[.string k] 9))
  have hc0 : (w.alloc (.cells #[.string k] 9)).cell? ⟨w.heap.size, 0, none⟩ = some (.string k) := by simp [go_sem]
  have hlt : w.heap.size < (w.alloc (.cells #[.string k] 9)).heap.size := by simp
  have HL0 := Lib.hid (And.intro hl hn)
  have HP := Lib.hid (fun (e : E) (W : World) (h : findL l k.data.toList = some e) (hB : Below w.heap.size w W) => (show FindPost (findL l k.data.toList) w (.returned (.tuple #[.agg #[.int .i64 e.t, .int .i64 e.s], .bool true])) W from by rw [h]; exact ⟨rfl, hB⟩))
  have HN := Lib.hid (fun (W : World) (h : findL l k.data.toList = none) (hB : Below w.heap.size w W) => (show FindPost (findL l k.data.toList) w (.returned (.tuple #[.agg #[.int .i64 0, .int .i64 0], .bool false])) W from by rw [h]; exact ⟨rfl, hB⟩))
  generalize FindPost (findL l k.data.toList) w = post at HP HN ⊢
  generalize hw1 : w.alloc (.cells #[.string k] 9) = w1 at hb hc0 hlt
  have hb2 := (Below.refl w1.heap.size w1).alloc (Nat.le_refl _) (.cells #[.int .i64 0, .int .i64 0] 30)
  have hx := Box2.new w1 (.int .i64 0) (.int .i64 0) 30
  have hxl := hx.lt
  have hk2 := (hb2.cell (p := ⟨w.heap.size, 0, none⟩) hlt).trans hc0
  have hA2 := (HL0.out.1.below hb (Nat.le_refl _)).below hb2 (Nat.le_refl _)
  generalize hw2 : w1.alloc (.cells #[.int .i64 0, .int .i64 0] 30) = w2 at hb2 hx hxl hk2 hA2
  have hidx := index_find (cp := cp) w.heap.size (fun y => decide (y.k = k.data.toList)) lo w1.heap.size hA2 hn h9 hb2.size (pred_find w.heap.size k hk2 w1.heap.size hlt)
  have hBB := hb.trans (hb2.mono hb.size)
  have hgg : w.heap.size ≤ w1.heap.size := hb.size
  have HX := Lib.hid (And.intro hx (And.intro hBB (And.intro hA2 (And.intro hgg hxl))))
  rcases first_or (fun y : E => decide (y.k = k.data.toList)) l with hno | ⟨q, x, g1, g2, g3⟩
  · have hcall := hidx.mono (IdxPost.none hno)
    have HNO := Lib.hid (find_none.2 (fun x hx => of_decide_eq_false (hno x hx)))
    clear hidx hno hl hn hb hb2 hx hxl hBB hA2 hgg hk2 hc0 hlt HL0 hr
    go_enter Try.func36, Try.ntmps36
    go_wp2_with fail
    clear hw1 hw2
    refine hcall.mono ?_
    rintro e w3 ⟨rfl, hB3⟩
    obtain ⟨hx, hBB, _, hgg, hxl⟩ := HX.out
    have hx3 := hx.below hB3 hxl
    have hB4 := hBB.trans (hB3.mono hBB.size)
    generalize w1.heap.size = g at hx3 hgg ⊢
    have HE := Lib.hid (HN.out ((w3.setCell ⟨g, 0, none⟩ (.int .i64 0)).setCell ⟨g, 1, none⟩ (.int .i64 0)) HNO.out ((hB4.setCell (p := ⟨g, 0, none⟩) hgg _).setCell (p := ⟨g, 1, none⟩) hgg _))
    have c0 := hx3.c0
    have c1 := hx3.c1
    have cf := hx3.f
    have hx4 := (hx3.set0 (.int .i64 0)).set1 (.int .i64 0)
    clear hx hBB hxl hgg hB4 hB3 hcall
    go_wp2
    refine bodyPost_ret (results_place rfl _ _ g _ _ rfl hx4.c0 hx4.c1) rfl ?_
    exact HE.out
  · have hcall := hidx.mono (IdxPost.some g1 g2 g3)
    have HNO := Lib.hid (find_of_first g1 g2 g3)
    have hqm : q < n := by rw [← hn]; exact (List.getElem?_eq_some_iff.1 g1).1
    have HG := Lib.hid g1
    have hq0 : ¬ ((q : Int) < 0) := by omega
    clear hidx hl hn hb hb2 hx hxl hBB hA2 hgg hk2 hc0 hlt HL0 hr g1 g2 g3
    go_enter Try.func36, Try.ntmps36
    go_wp2_with fail
    clear hw1 hw2
    refine hcall.mono ?_
    rintro e w3 ⟨rfl, hB3⟩
    obtain ⟨hx, hBB, hA2, hgg, hxl⟩ := HX.out
    have hx3 := hx.below hB3 hxl
    have hB4 := hBB.trans (hB3.mono hBB.size)
    obtain ⟨b, o, rfl, _, hlb, d0, d1, d2⟩ := HasE.at (hA2.below hB3 (Nat.le_refl _)) HG.out
    generalize w1.heap.size = g at hx3 hgg ⊢
    obtain ⟨xk, xt, xs⟩ := x
    simp only at d0 d1 d2
    have HE := Lib.hid (HP.out ⟨xk, xt, xs⟩ ((w3.setCell ⟨g, 0, none⟩ (.int .i64 xt)).setCell ⟨g, 1, none⟩ (.int .i64 xs)) HNO.out ((hB4.setCell (p := ⟨g, 0, none⟩) hgg _).setCell (p := ⟨g, 1, none⟩) hgg _))
    have c0 := hx3.c0
    have c1 := hx3.c1
    have cf := hx3.f
    have hx4 := (hx3.set0 (.int .i64 xt)).set1 (.int .i64 xs)
    have i1 : (q : Int) < (n : Int) := by omega
    have i0 : (0 : Int) ≤ (q : Int) := by omega
    clear hx hBB hxl hgg hB4 hB3 hcall hlb hA2 HX
    go_wp2
    refine bodyPost_ret (results_place rfl _ _ g _ _ rfl hx4.c0 hx4.c1) rfl ?_
    exact HE.out
end
end Go.Proofs.Ytocmkjccaajnnaa.Bu
