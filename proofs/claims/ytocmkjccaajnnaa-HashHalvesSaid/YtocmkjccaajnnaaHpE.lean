/- A row of buckets of one's own: what lies in it, and what does not reach it. -/
import Derived.Test.YtocmkjccaajnnaaHpD
namespace Go.Proofs.Ytocmkjccaajnnaa.Ha
open Go.RowKit Pac Bu Ls Lex Go.Proofs.Ytocmkjccaajnnaa.Or

theorem own_barN {w w' : World} {g base : Nat} {e : TypeId} {size : Nat} {v : Value} {n : Nat} {xs : List Value} (h : w.ownsRow base e size v n xs) (hb : Bar g w w') (hg : v.ownBlock ≠ some g) : w'.ownsRow base e size v n xs := by
  refine ⟨h.1, ?_⟩
  rcases h.2 with h2 | ⟨k, cap, cur, e1, e2, e3, r⟩
  · exact Or.inl h2
  · refine Or.inr ⟨k, cap, cur, e1, e2, ?_, r⟩
    have hk : k < w.heap.size := (Array.getElem?_eq_some_iff.1 e3).1
    rw [hb.block k hk (fun e => hg (by rw [e1, ← e]; rfl))]
    exact e3
theorem put_end : ∀ {l : List E} {e : E}, (∀ x ∈ l, lt x.k e.k) → putL l e = l ++ [e]
  | [], _, _ => rfl
  | x :: l, e, h => by
    show (if lt x.k e.k then x :: putL l e else _) = _
    rw [if_pos (h x (List.mem_cons_self ..)), put_end fun y hy => h y (List.mem_cons_of_mem _ hy)]
    rfl
/-- A row of its own that holds these buckets, whose entries lie in X. -/
def RowX (W : World) (base : Nat) (X : Nat → Prop) (g6 n c6 : Nat) (bs : List (List E)) : Prop :=
  ∃ gs : List (Li.Gr E), gs.map Li.Gr.l = bs ∧ W.ownsRow base 42 1 (.slice (some ⟨g6, 0, none⟩) n c6) n (Li.cellsL Li.cellsG gs) ∧ (∀ x ∈ gs, HasE W 0 x.A x.l ∧ x.l.length ≤ x.cp) ∧ ∀ x ∈ gs, x.l ≠ [] → Adr X x.A
section
variable {W W' : World} {base g6 n c6 : Nat} {X : Nat → Prop} {bs : List (List E)}
theorem RowX.below {B : Nat} (h : RowX W base X g6 n c6 bs) (hb : Below B W W') (hB : W.heap.size ≤ B) : RowX W' base X g6 n c6 bs := by
  obtain ⟨gs, h1, h2, h3, h4⟩ := h
  exact ⟨gs, h1, Li.own_below h2 hb hB, fun x hx => ⟨(h3 x hx).1.below hb hB, (h3 x hx).2⟩, h4⟩
theorem RowX.bar {g : Nat} (h : RowX W base X g6 n c6 bs) (hx : ¬ X g) (hg : g6 ≠ g) (hb : Bar g W W') : RowX W' base X g6 n c6 bs := by
  obtain ⟨gs, h1, h2, h3, h4⟩ := h
  exact ⟨gs, h1, own_barN h2 hb (fun e => hg (Option.some.inj (show some g6 = some g from e))), fun x hx' => ⟨hasL_bar (h3 x hx').1 (h4 x hx') hx hb, (h3 x hx').2⟩, h4⟩
theorem RowX.mono {Y : Nat → Prop} (h : RowX W base X g6 n c6 bs) (hXY : ∀ b, X b → Y b) : RowX W base Y g6 n c6 bs := by
  obtain ⟨gs, h1, h2, h3, h4⟩ := h
  exact ⟨gs, h1, h2, h3, fun x hx hn b o s e => hXY _ (h4 x hx hn b o s e)⟩
theorem RowX.len (h : RowX W base X g6 n c6 bs) : bs.length = n := by
  obtain ⟨gs, rfl, h2, _, _⟩ := h
  have := h2.1
  rw [Li.cellsL_len Li.cellsG_len] at this
  rw [List.length_map]
  omega
theorem RowX.at {q : Nat} {r : List E} (h : RowX W base X g6 n c6 bs) (hq : bs[q]? = some r) : ∃ A c, W.cell? ⟨g6, q, none⟩ = some (.slice A r.length c) ∧ HasE W 0 A r ∧ r.length ≤ c := by
  obtain ⟨gs, rfl, h2, h3, _⟩ := h
  rw [List.getElem?_map] at hq
  obtain ⟨x, hx, rfl⟩ := Option.map_eq_some_iff.1 hq
  have hlt := (List.getElem?_eq_some_iff.1 hx).1
  have hl := h2.1
  rw [Li.cellsL_len Li.cellsG_len] at hl
  have s1 := h2.cellAt q (by omega)
  rw [Li.cellsG_map, List.getElem?_map, hx] at s1
  obtain ⟨h5, h6⟩ := h3 x (List.mem_of_getElem? hx)
  exact ⟨x.A, x.cp, s1, h5, h6⟩
theorem RowX.frozen (h : RowX W base X g6 n c6 bs) (q : Nat) : W.frozen? ⟨g6, q, none⟩ = false := by
  obtain ⟨gs, rfl, h2, _, _⟩ := h
  exact h2.frozenAt q
theorem RowX.store {A : Option Addr} {q m c : Nat} {r : List E} (h : RowX W base X g6 n c6 bs) (hX : ¬ X g6) (hr : HasE W 0 A r) (hm : r.length = m) (hc : m ≤ c) (hA : r ≠ [] → Adr X A) : RowX (W.setCell ⟨g6, q, none⟩ (.slice A m c)) base X g6 n c6 (bs.set q r) := by
  subst hm
  obtain ⟨gs, rfl, h2, h3, h4⟩ := h
  have hbar := (Bar.refl g6 W).setCell q (.slice A r.length c)
  have h5 := (h2.stored q (.slice A r.length c)).1
  rw [show (Li.cellsL Li.cellsG gs).set q (.slice A r.length c) = Li.cellsL Li.cellsG (gs.set q ⟨A, c, r⟩) from cellsG_setE gs q ⟨A, c, r⟩] at h5
  refine ⟨gs.set q ⟨A, c, r⟩, by rw [List.map_set], h5, fun x hx => ?_, fun x hx => ?_⟩
  · rcases List.mem_or_eq_of_mem_set hx with h | rfl
    · exact ⟨hasL_bar (h3 x h).1 (h4 x h) hX hbar, (h3 x h).2⟩
    · exact ⟨hasL_bar hr hA hX hbar, hc⟩
  · rcases List.mem_or_eq_of_mem_set hx with h | rfl
    · exact h4 x h
    · exact hA
theorem RowX.bsx {Y : Nat → Prop} (h : RowX W base X g6 n c6 bs) (hXY : ∀ b, X b → Y b) (hg : Y g6) : HasBsX W Y (some ⟨g6, 0, none⟩) bs ∧ n ≤ c6 := by
  obtain ⟨gs, rfl, h2, h3, h4⟩ := h
  have hl := h2.1
  rw [Li.cellsL_len Li.cellsG_len] at hl
  obtain ⟨A', c', e, hcc, hl2⟩ := Li.list_of_own Li.cellsG_len h2 (n := n) (by omega)
  injection e with e1 e2 e3
  subst e1 e3
  refine ⟨⟨gs, rfl, hl2.lower (Nat.zero_le _), h3, fun _ b o s e => ?_, fun x hx hn b o s e => hXY _ (h4 x hx hn b o s e)⟩, hcc⟩
  injection e with e
  injection e with e1
  subst e1
  exact hg
theorem RowX.lt (h : RowX W base X g6 n c6 bs) : base ≤ g6 ∧ g6 < W.heap.size := by
  obtain ⟨gs, rfl, h2, _, _⟩ := h
  exact h2.lt g6 rfl
/-- A row that nothing but its own boxes and lists reaches: as with leaves it. -/
theorem rowX_of {w W : World} {hs gs : List (Li.Gr E)} (hall : ∀ x ∈ hs, HasE w 0 x.A x.l ∧ x.l.length ≤ x.cp) (hX : ∀ x ∈ hs, x.l ≠ [] → Adr X x.A) (hown : W.ownsRow base 42 1 (.slice (some ⟨g6, 0, none⟩) n c6) n (Li.cellsL Li.cellsG gs)) (hB : Below w.heap.size w W) (hgs : ∀ x ∈ gs, x ∈ hs ∨ x = ⟨none, 0, []⟩) : RowX W base X g6 n c6 (gs.map Li.Gr.l) := by
  refine ⟨gs, rfl, hown, fun x hx => ?_, fun x hx => ?_⟩
  · rcases hgs x hx with h | rfl
    · exact ⟨(hall x h).1.below hB (Nat.le_refl _), (hall x h).2⟩
    · exact ⟨fun h => absurd rfl h, Nat.le_refl _⟩
  · rcases hgs x hx with h | rfl
    · exact hX x h
    · exact fun hn => absurd rfl hn
end
theorem bar_of_grown {w w' : World} {g : Nat} (hg : w.grownBy w' (some g)) : Bar g w w' := ⟨hg.os, hg.tape, hg.output, hg.size, fun k hk hne => hg.block k hk (fun e => hne (Option.some.inj e))⟩
theorem HasBsX.at {w : World} {X : Nat → Prop} {A : Option Addr} {bs : List (List E)} (h : HasBsX w X A bs) {q : Nat} {r : List E} (hq : bs[q]? = some r) :
    ∃ b o A2 cp2, A = some ⟨b, o, none⟩ ∧ X b ∧ b < w.heap.size ∧ w.cell? ⟨b, o + q, none⟩ = some (.slice A2 r.length cp2) ∧ HasE w 0 A2 r ∧ r.length ≤ cp2 ∧ (r ≠ [] → Adr X A2) := by
  obtain ⟨hs, rfl, hA, hI, hX1, hX2⟩ := h
  rw [List.getElem?_map] at hq
  obtain ⟨x, hx, rfl⟩ := Option.map_eq_some_iff.1 hq
  have hne : hs ≠ [] := fun e => by rw [e] at hx; simp at hx
  obtain ⟨b, o, hA, hlo, hlt, hc⟩ := hA hne
  have := hc q x hx 0 _ rfl
  rw [Nat.mul_one, Nat.add_zero] at this
  obtain ⟨h1, h2⟩ := hI x (List.mem_of_getElem? hx)
  exact ⟨b, o, x.A, x.cp, hA, hX1 hne b o none hA, hlt, this, h1, h2, hX2 x (List.mem_of_getElem? hx)⟩
/-- What holds while a bucket is halved. -/
structure Hv (w : World) (g g3 g6 b o n cp c6 lv nx lv' nx' base : Nat) (X9 : Nat → Prop) (A3 : Option Addr) (bk : List E) (bs : List (List E)) (W : World) : Prop where
  x : Box3 W g3 (.int .i64 lv') (.int .i64 nx') (.slice (some ⟨g6, 0, none⟩) (n + 1) c6)
  y : Box3 W (g + 1) (.int .i64 0) (.int .i64 0) (.slice none 0 0)
  r : RowX W base X9 g6 (n + 1) c6 bs
  k : HasE W 0 A3 bk
  B : Below w.heap.size w W
theorem Hv.below {w : World} {g g3 g6 b o n cp c6 lv nx lv' nx' base : Nat} {X9 : Nat → Prop} {A3 : Option Addr} {bk : List E} {bs : List (List E)} {W W' : World} (h : Hv w g g3 g6 b o n cp c6 lv nx lv' nx' base X9 A3 bk bs W) (hb : Below W.heap.size W W') : Hv w g g3 g6 b o n cp c6 lv nx lv' nx' base X9 A3 bk bs W' :=
  ⟨h.x.below hb h.x.lt, h.y.below hb h.y.lt, h.r.below hb (Nat.le_refl _), h.k.below hb (Nat.le_refl _), h.B.trans (hb.mono h.B.size)⟩
theorem Hv.size {w : World} {g g3 g6 b o n cp c6 lv nx lv' nx' base : Nat} {X9 : Nat → Prop} {A3 : Option Addr} {bk : List E} {bs : List (List E)} {W : World} (h : Hv w g g3 g6 b o n cp c6 lv nx lv' nx' base X9 A3 bk bs W) : g3 < W.heap.size ∧ g6 < W.heap.size ∧ g + 1 < W.heap.size := ⟨h.x.lt, h.r.lt.2, h.y.lt⟩
theorem Hv.frozen {w : World} {g g3 g6 b o n cp c6 lv nx lv' nx' base : Nat} {X9 : Nat → Prop} {A3 : Option Addr} {bk : List E} {bs : List (List E)} {W : World} (h : Hv w g g3 g6 b o n cp c6 lv nx lv' nx' base X9 A3 bk bs W) (c : Nat) : W.frozen? ⟨g6, c, none⟩ = false := h.r.frozen c
theorem halve_last {lv nx lv' nx' : Nat} {bs : List (List E)} {bk : List E} (h7 : lv ≤ 7) (hs : stepL lv nx = (lv', nx')) (hbk : bs[nx]? = some bk) : halveH spread ⟨lv, nx, bs⟩ = ⟨lv', nx', bs.set nx (fa lv' nx' nx bk) ++ [fb lv' nx' nx bk]⟩ := by
  unfold halveH
  rw [if_neg (by show ¬ 8 ≤ lv; omega)]
  simp only [hs, hbk, Option.getD_some]
  rfl
/-- A bucket's round: where its next entry goes, and what is there then. -/
theorem hv_round {lv nx lv' nx' n q : Nat} {bs : List (List E)} {bk : List E} {x : E} (hnx : nx < 2 ^ lv) (hs : stepL lv nx = (lv', nx')) (hn : bs.length = n) (hlen : n = 2 ^ lv + nx) (hbk : bs[nx]? = some bk) (hris : Rises bk) (hown : ∀ e ∈ bk, atN lv nx (spread e.k) = nx) (hx : bk[q]? = some x) :
    ∃ (c : Nat) (r : List E), atN lv' nx' (spread x.k) = c ∧ c < n + 1 ∧ (bs.set nx (fa lv' nx' nx (bk.take q)) ++ [fb lv' nx' nx (bk.take q)])[c]? = some r ∧ Rises r ∧ r.length ≤ bk.length ∧ putL r x = r ++ [x] ∧
      (bs.set nx (fa lv' nx' nx (bk.take q)) ++ [fb lv' nx' nx (bk.take q)]).set c (r ++ [x]) = bs.set nx (fa lv' nx' nx (bk.take (q + 1))) ++ [fb lv' nx' nx (bk.take (q + 1))] := by
  have hlt : nx < bs.length := (List.getElem?_eq_some_iff.1 hbk).1
  have hst := atN_step hnx (spread x.k)
  rw [hs] at hst
  simp only at hst
  have ho := hown x (List.mem_of_getElem? hx)
  have hks : ∀ y ∈ bk.take q, lt y.k x.k := fun y hy => by
    obtain ⟨j, hj⟩ := List.mem_iff_getElem?.1 hy
    have hjq : j < q := by
      have := (List.getElem?_eq_some_iff.1 hj).1
      rw [List.length_take] at this
      omega
    rw [List.getElem?_take_of_lt hjq] at hj
    obtain ⟨h1, rfl⟩ := List.getElem?_eq_some_iff.1 hj
    obtain ⟨h2, rfl⟩ := List.getElem?_eq_some_iff.1 hx
    exact List.pairwise_iff_getElem.1 hris j q h1 h2 hjq
  have hrt : Rises (bk.take q) := List.Pairwise.sublist (List.take_sublist _ _) hris
  have hql : (bk.take q).length ≤ bk.length := by rw [List.length_take]; omega
  have htk : bk.take (q + 1) = bk.take q ++ [x] := take_snoc hx
  rw [htk]
  have hset : (bs.set nx (fa lv' nx' nx (bk.take q))).length = n := by rw [List.length_set, hn]
  rcases hst with ⟨h1, _⟩ | ⟨_, h2 | h2⟩
  · exact absurd ho h1
  · obtain ⟨e1, e2⟩ := fa_in (l := bk.take q) h2
    rw [e1, e2]
    refine ⟨nx, fa lv' nx' nx (bk.take q), h2, by omega, ?_, List.Pairwise.sublist List.filter_sublist hrt, Nat.le_trans (fa_len lv' nx' nx _).1 hql, put_end fun y hy => hks y (List.mem_filter.1 hy).1, ?_⟩
    · rw [List.getElem?_append_left (by rw [hset]; omega), List.getElem?_set_self hlt]
    · rw [List.set_append_left _ _ (by rw [hset]; omega), List.set_set]
  · have hne : ¬ atN lv' nx' (spread x.k) = nx := by rw [h2]; have := pow_pos2 lv; omega
    obtain ⟨e1, e2⟩ := fa_out (l := bk.take q) hne
    rw [e1, e2]
    refine ⟨n, fb lv' nx' nx (bk.take q), by rw [h2, hlen], by omega, ?_, List.Pairwise.sublist List.filter_sublist hrt, Nat.le_trans (fa_len lv' nx' nx _).2 hql, put_end fun y hy => hks y (List.mem_filter.1 hy).1, ?_⟩
    · rw [List.getElem?_append_right (by rw [hset]; exact Nat.le_refl _), hset, Nat.sub_self]
      rfl
    · rw [List.set_append_right _ _ (by rw [hset]; exact Nat.le_refl _), hset, Nat.sub_self]
      rfl
end Go.Proofs.Ytocmkjccaajnnaa.Ha
