/- A device that heads have been put on, walked. -/
import Derived.Test.YtdbemkdfndjakaaDoorHdN
import Derived.Test.YtdbemkdfndjakaaDoorLiD
import Derived.Test.YtdbemkdfndjakaaDoorMgX
namespace Go.Proofs.YtdbemkdfndjakaaDoor.Hd
open Go.RowKit Tal Sla Fr Lex
abbrev HasH (w : World) (lo : Nat) (A : Option Addr) (l : List H) : Prop := Li.HasL (fun h : H => [Value.int .i64 h.p, .int .i64 h.l, .int .i64 h.e]) 3 w lo A l
noncomputable def headsD (l : List H) : Dev := l.foldl (fun D h => (putH D h).1) (fresh 4)
theorem putH_ok {K : Nat} {D : Dev} (h : D.Ok K) (hn : 2 ≤ D.n) (f : H) : (putH D f).1.Ok (K + 2) ∧ (putH D f).1.n = D.n := by
  unfold putH
  split
  · rename_i hr
    have hx : D.has (f.e % 2) = true := by
      unfold Dev.has
      exact decide_eq_true ⟨by omega, by omega⟩
    have h1 := putR_ok h (headB f) hx (by rw [headB_size]; decide)
    split
    · exact ⟨flushR_ok h1, (flushR_n _).trans (putR_n _ _ _)⟩
    · exact ⟨h1.more (by omega), putR_n _ _ _⟩
  · exact ⟨h.more (by omega), rfl⟩
theorem headsD_ok : ∀ (l : List H), (headsD l).Ok (2 * l.length) ∧ (headsD l).n = 4 := by
  intro l
  have : ∀ (l : List H) (D : Dev) (K : Nat), D.Ok K → D.n = 4 → (l.foldl (fun D h => (putH D h).1) D).Ok (K + 2 * l.length) ∧ (l.foldl (fun D h => (putH D h).1) D).n = 4 := by
    intro l
    induction l with
    | nil => intro D K h hn; exact ⟨h, hn⟩
    | cons f l ih =>
      intro D K h hn
      obtain ⟨h1, h2⟩ := putH_ok h (by omega) f
      obtain ⟨h3, h4⟩ := ih (putH D f).1 (K + 2) h1 (h2.trans hn)
      exact ⟨h3.more (by rw [List.length_cons]; omega), h4⟩
  obtain ⟨h1, h2⟩ := this l (fresh 4) 0 (fresh_ok 4 (by decide) (by decide)) rfl
  exact ⟨by unfold headsD; simpa using h1, h2⟩
theorem headsD_snoc {l : List H} {q : Nat} {f : H} (h : l[q]? = some f) : headsD (l.take (q + 1)) = (putH (headsD (l.take q)) f).1 := by
  unfold headsD
  rw [List.take_add_one, h, List.foldl_append]
  rfl
theorem results_d1 {fn : Func} {p : Tmp} (h : fn.results = #[.cell p 39]) (tmps : Array Value) (w : World) (g : Nat) (v0 v1 v2 v3 v4 : Value)
    (hp : tmps.getD p undef = .pointer (some ⟨g, 0, none⟩)) (c0 : w.cell? ⟨g, 0, none⟩ = some v0) (c1 : w.cell? ⟨g, 1, none⟩ = some v1) (c2 : w.cell? ⟨g, 2, none⟩ = some v2) (c3 : w.cell? ⟨g, 3, none⟩ = some v3) (c4 : w.cell? ⟨g, 4, none⟩ = some v4) :
    (results fn tmps).run Tryd.prog w = .ok (.agg #[v0, v1, v2, v3, v4]) w := by
  have hp' : tmps[p]?.getD undef = .pointer (some ⟨g, 0, none⟩) := by simpa using hp
  clear hp
  simp only [results, h]
  go_simp
set_option maxRecDepth 20000 in
set_option maxHeartbeats 6400000 in
theorem heads_any {A : Option Addr} {n cp : Nat} {l : List H} {lo : Nat} (w : World) (hl : HasH w lo A l) (hn : l.length = n) (h9 : n ≤ 20) :
    Calls Tryd.prog 21 #[.slice A n cp] w (DevRet (headsD l) w) := by
  have HL := Lib.hid (And.intro hl hn)
  clear hl hn
  have hy := Box5.new w (.slice none 0 0) (.slice none 0 0) (.bool false) (.int .i64 0) (.int .i64 0) 39
  have hB := (Below.refl w.heap.size w).alloc (Nat.le_refl _) (.cells #[.slice none 0 0, .slice none 0 0, .bool false, .int .i64 0, .int .i64 0] 39)
  obtain ⟨gy, hgy⟩ : ∃ x, w.heap.size = x := ⟨_, rfl⟩
  have hwy : w.heap.size ≤ gy := by omega
  rw [hgy] at hy
  generalize hwa : w.alloc (.cells #[.slice none 0 0, .slice none 0 0, .bool false, .int .i64 0, .int .i64 0] 39) = wa at hB hy
  go_enter Tryd.func21, Tryd.ntmps21
  go_wp2_with fail
  clear hwa hgy
  refine (refNew_any 4 _ (by decide) (by decide)).mono ?_
  rintro e w1 ⟨v0, rfl, hd, hv⟩
  have hy := hy.below hv hy.lt5
  have hB := hB.trans (hv.mono hB.size)
  clear hv
  obtain ⟨A0, n0, c0, B0, m0, k0, dd0, lf0, ds0, rfl⟩ := dev_form hd
  go_wp2
  have hv := (Below.refl w1.heap.size w1).alloc (Nat.le_refl _) (.cells #[.slice A0 n0 c0, .slice B0 m0 k0, .bool dd0, .int .i64 lf0, .int .i64 ds0] 39)
  have hs : Box5 (w1.alloc (.cells #[.slice A0 n0 c0, .slice B0 m0 k0, .bool dd0, .int .i64 lf0, .int .i64 ds0] 39)) w1.heap.size (.slice A0 n0 c0) (.slice B0 m0 k0) (.bool dd0) (.int .i64 lf0) (.int .i64 ds0) := Box5.new w1 (.slice A0 n0 c0) (.slice B0 m0 k0) (.bool dd0) (.int .i64 lf0) (.int .i64 ds0) 39
  have hly := hy.lt5
  have hw3 : w.heap.size ≤ w1.heap.size := hB.size
  have hy := hy.below hv hy.lt5
  have hd := hd.below hv (Nat.le_refl _)
  have hB := hB.trans (hv.mono hB.size)
  clear hv
  generalize w1.alloc (.cells #[.slice A0 n0 c0, .slice B0 m0 k0, .bool dd0, .int .i64 lf0, .int .i64 ds0] 39) = w2 at hs hy hd hB ⊢
  generalize w1.heap.size = g3 at hs hw3 hly ⊢
  have hne : gy ≠ g3 := by omega
  have hd : IsDev w2 (.agg #[.slice A0 n0 c0, .slice B0 m0 k0, .bool dd0, .int .i64 lf0, .int .i64 ds0]) (headsD (l.take 0)) := hd
  go_loopw [5] (fun i wr => ∃ (q : Nat) (A0 : Option Addr) (n0 c0 : Nat) (B0 : Option Addr) (m0 k0 : Nat) (dd0 : Bool) (lf0 ds0 : Int), q ≤ n ∧ i = .int .i64 q ∧ Box5 wr g3 (.slice A0 n0 c0) (.slice B0 m0 k0) (.bool dd0) (.int .i64 lf0) (.int .i64 ds0) ∧ IsDev wr (.agg #[.slice A0 n0 c0, .slice B0 m0 k0, .bool dd0, .int .i64 lf0, .int .i64 ds0]) (headsD (l.take q)) ∧ Box5 wr gy (.slice none 0 0) (.slice none 0 0) (.bool false) (.int .i64 0) (.int .i64 0) ∧ Below w.heap.size w wr) (fun i _ => n - (intOf i).toNat)
  case atStart => exact ⟨0, _, _, _, _, _, _, _, _, _, Nat.zero_le _, rfl, hs, hd, hy, hB⟩
  case round =>
    clear hs hd hy hB
    obtain ⟨q, A0, n0, c0, B0, m0, k0, dd0, lf0, ds0, hq, rfl, hs, hd, hy, hB⟩ := hrel
    by_cases hlt : q < n
    · have hqs : l[q]? = some (l[q]'(by rw [HL.out.2]; exact hlt)) := List.getElem?_eq_getElem _
      generalize (l[q]'(by rw [HL.out.2]; exact hlt)) = f at hqs
      obtain ⟨b, o, rfl, _, hbl, hc⟩ := HL.out.1 (fun e => by rw [e] at hqs; simp at hqs)
      have HSN := Lib.hid (headsD_snoc hqs)
      obtain ⟨hp, hl, he⟩ := f
      have l0 : wr.cell? ⟨b, o + q * 3, none⟩ = some (.int .i64 hp) := (hB.cell (p := ⟨b, o + q * 3, none⟩) hbl).trans (hc q _ hqs 0 _ rfl)
      have l1 : wr.cell? ⟨b, o + q * 3 + 1, none⟩ = some (.int .i64 hl) := (hB.cell (p := ⟨b, o + q * 3 + 1, none⟩) hbl).trans (hc q _ hqs 1 _ rfl)
      have l2 : wr.cell? ⟨b, o + q * 3 + 2, none⟩ = some (.int .i64 he) := (hB.cell (p := ⟨b, o + q * 3 + 2, none⟩) hbl).trans (hc q _ hqs 2 _ rfl)
      obtain ⟨hok, hn4⟩ := headsD_ok (l.take q)
      have hlq : (l.take q).length ≤ 20 := by rw [List.length_take]; omega
      have hPut := fun W (hd : IsDev W (.agg #[.slice A0 n0 c0, .slice B0 m0 k0, .bool dd0, .int .i64 lf0, .int .i64 ds0]) (headsD (l.take q))) => refPutH (.agg #[.slice A0 n0 c0, .slice B0 m0 k0, .bool dd0, .int .i64 lf0, .int .i64 ds0]) (headsD (l.take q)) ⟨hp, hl, he⟩ W hd hok (by omega) (by omega)
      have hn1 : 1 ≤ (putH (headsD (l.take q)) ⟨hp, hl, he⟩).1.n := by rw [(putH_ok hok (by omega) _).2, hn4]; decide
      unfold cellsH at hPut
      simp only at hPut
      generalize putH (headsD (l.take q)) ⟨hp, hl, he⟩ = PP at HSN hPut hn1
      obtain ⟨D1, er⟩ := PP
      simp only at HSN hPut hn1
      have i0 : (q : Int) < (n : Int) := by omega
      have i1 : (0 : Int) ≤ (q : Int) := by omega
      clear hc hqs hok hn4 hlq
      go_upto_region 5 with fail
      have hdr := (Below.refl wr.heap.size wr).drew
      have hs := hs.below hdr hs.lt5
      have hy := hy.below hdr hy.lt5
      have l0 := cell_belowH hdr l0
      have l1 := cell_belowH hdr l1
      have l2 := cell_belowH hdr l2
      have hB := hB.trans (hdr.mono hB.size)
      refine Lex.region_parts (ops := heraw) (ops1 := heops) (calls := hecalls) 7 heord (fun W => W.cell? ⟨g3, 0, none⟩ = some (.slice A0 n0 c0) ∧ W.cell? ⟨g3, 1, none⟩ = some (.slice B0 m0 k0) ∧ W.cell? ⟨g3, 2, none⟩ = some (.bool dd0) ∧ W.cell? ⟨g3, 3, none⟩ = some (.int .i64 lf0) ∧ W.cell? ⟨g3, 4, none⟩ = some (.int .i64 ds0) ∧ W.cell? ⟨b, o + q * 3, none⟩ = some (.int .i64 hp) ∧ W.cell? ⟨b, o + q * 3 + 1, none⟩ = some (.int .i64 hl) ∧ W.cell? ⟨b, o + q * 3 + 2, none⟩ = some (.int .i64 he)) (by kernel_rfl) hecut (by rw [hesize]; decide) (by kernel_rfl) (by kernel_rfl) (by kernel_rfl) hesel (by kernel_rfl) (by kernel_rfl) helex (⟨hs.c0, hs.c1, hs.c2, hs.c3, hs.c4, l0, l1, l2⟩) ?_
      unfold heord
      refine Lex.step_take (.agg #[.slice A0 n0 c0, .slice B0 m0 k0, .bool dd0, .int .i64 lf0, .int .i64 ds0]) he0 rfl (Lex.want_none rfl) (by intro Wx hSw; (try dsimp only at hSw); go_simp; (try (first | (with_reducible rfl) | assumption | rfl))) ?_
      simp only [Act.put, List.setIfInBounds_toArray, List.set_cons_zero, List.set_cons_succ]
      refine Lex.step_take (.slice (some ⟨b, o, none⟩) n cp) he1 rfl (Lex.want_none rfl) (by intro Wx hSw; (try dsimp only at hSw); go_simp; (try (first | (with_reducible rfl) | assumption | rfl))) ?_
      simp only [Act.put, List.setIfInBounds_toArray, List.set_cons_zero, List.set_cons_succ]
      refine Lex.step_take (.int .i64 (q : Int)) he2 rfl (Lex.want_none rfl) (by intro Wx hSw; (try dsimp only at hSw); go_simp; (try (first | (with_reducible rfl) | assumption | rfl))) ?_
      simp only [Act.put, List.setIfInBounds_toArray, List.set_cons_zero, List.set_cons_succ]
      refine Lex.step_take (.pointer (some ⟨b, o + q * 3, none⟩)) he3 rfl (Lex.want_none rfl) (by intro Wx hSw; (try dsimp only at hSw); go_simp; (try (first | (with_reducible rfl) | assumption | rfl))) ?_
      simp only [Act.put, List.setIfInBounds_toArray, List.set_cons_zero, List.set_cons_succ]
      refine Lex.step_take (.agg #[.int .i64 hp, .int .i64 hl, .int .i64 he]) he4 rfl (Lex.want_none rfl) (by intro Wx hSw; (try dsimp only at hSw); go_simp; (try (first | (with_reducible rfl) | assumption | rfl))) ?_
      simp only [Act.put, List.setIfInBounds_toArray, List.set_cons_zero, List.set_cons_succ]
      refine Lex.step_call he5 rfl (Lex.want_none rfl) (fun K hK => ?_)
      go_simp
      refine (hPut _ (hd.below hdr (Nat.le_refl _))).mono ?_
      rintro e y1 ⟨v1, rfl, hd1, hv⟩
      obtain ⟨A1, n1, c1, B1, m1, k1, dd1, lf1, ds1, rfl⟩ := dev_form hd1
      have hs := hs.below hv hs.lt5
      have hy := hy.below hv hy.lt5
      have l0 := cell_belowH hv l0
      have l1 := cell_belowH hv l1
      have l2 := cell_belowH hv l2
      have hB := hB.trans (hv.mono hB.size)
      clear hv
      refine hK.out _ _ _ (fun _ h => h) ⟨hs.c0, hs.c1, hs.c2, hs.c3, hs.c4, l0, l1, l2⟩ ?_
      clear hK K
      try simp only [Act.put, List.setIfInBounds_toArray, List.set_cons_zero, List.set_cons_succ]
      refine Lex.step_take (.tuple #[.agg #[.slice A1 n1 c1, .slice B1 m1 k1, .bool dd1, .int .i64 lf1, .int .i64 ds1], .int .i64 er]) he6 rfl (Lex.want_none rfl) (by intro Wx hSw; (try dsimp only at hSw); go_simp; (try (first | (with_reducible rfl) | assumption | rfl))) ?_
      simp only [Act.put, List.setIfInBounds_toArray, List.set_cons_zero, List.set_cons_succ]
      refine Lex.tail_lex (ops := heraw) (calls := [9]) (n := 7) [7, 8, 9] (fun _ => True) hersel (by rw [hesize]; rfl) (by kernel_rfl) hetlex trivial ?_
      refine Lex.step_take (.agg #[.slice A1 n1 c1, .slice B1 m1 k1, .bool dd1, .int .i64 lf1, .int .i64 ds1]) het7 rfl (Lex.want_none rfl) (by intro Wx hSw; go_simp; (try (first | (with_reducible rfl) | assumption | rfl))) ?_
      simp only [Act.put, List.setIfInBounds_toArray, List.set_cons_zero, List.set_cons_succ]
      refine Lex.step_take (.int .i64 er) het8 rfl (Lex.want_none rfl) (by intro Wx hSw; go_simp; (try (first | (with_reducible rfl) | assumption | rfl))) ?_
      simp only [Act.put, List.setIfInBounds_toArray, List.set_cons_zero, List.set_cons_succ]
      refine Lex.step_call het9 rfl (Lex.want_none rfl) (fun K hK => ?_)
      have x0 := hs.c0
      have x1 := hs.c1
      have x2 := hs.c2
      have x3 := hs.c3
      have x4 := hs.c4
      have xf := hs.f
      go_simp
      refine hK.out _ _ _ (fun _ h => h) trivial ?_
      clear hK K x0 x1 x2 x3 x4 xf
      try simp only [Act.put, List.setIfInBounds_toArray, List.set_cons_zero, List.set_cons_succ]
      refine NoPanic.normal ?_
      have hb := but5 y1 g3 (.slice A1 n1 c1) (.slice B1 m1 k1) (.bool dd1) (.int .i64 lf1) (.int .i64 ds1)
      have hs7 := hs.set (.slice A1 n1 c1) (.slice B1 m1 k1) (.bool dd1) (.int .i64 lf1) (.int .i64 ds1)
      have hy7 := hy.but hb hne
      have hd7 := hd1.but hn1 hs.c0 hb
      have hB7 := below_box5 hB hw3 (.slice A1 n1 c1) (.slice B1 m1 k1) (.bool dd1) (.int .i64 lf1) (.int .i64 ds1)
      clear hb hs hy hd1 hB l0 l1 l2 hdr
      generalize (((((y1).setCell ⟨g3, 0, none⟩ (.slice A1 n1 c1)).setCell ⟨g3, 1, none⟩ (.slice B1 m1 k1)).setCell ⟨g3, 2, none⟩ (.bool dd1)).setCell ⟨g3, 3, none⟩ (.int .i64 lf1)).setCell ⟨g3, 4, none⟩ (.int .i64 ds1) = w7 at hs7 hy7 hd7 hB7 ⊢
      have HF := Lib.hid (And.intro hs7 (And.intro hy7 (And.intro hd7 hB7)))
      clear hs7 hy7 hd7 hB7
      go_wp2
      go_roundw
      case rel => exact ⟨q + 1, _, _, _, _, _, _, _, _, _, by omega, by go_num, HF.out.1, HSN.out ▸ HF.out.2.2.1, HF.out.2.1, HF.out.2.2.2⟩
      case measure => simp [intOf]; omega
    · obtain rfl : q = n := by omega
      have i0 : ¬ (q : Int) < (q : Int) := by omega
      have hall : headsD (l.take q) = headsD l := by rw [List.take_of_length_le (Nat.le_of_eq HL.out.2)]
      rw [hall] at hd
      have hW := below_box5 hB hwy (.slice A0 n0 c0) (.slice B0 m0 k0) (.bool dd0) (.int .i64 lf0) (.int .i64 ds0)
      have HF := Lib.hid (hy.set (.slice A0 n0 c0) (.slice B0 m0 k0) (.bool dd0) (.int .i64 lf0) (.int .i64 ds0))
      have hd4 := (headsD_ok l).2
      have HD := Lib.hid (And.intro (dev_box hd (by omega) hy (.slice A0 n0 c0) (.slice B0 m0 k0) (.bool dd0) (.int .i64 lf0) (.int .i64 ds0)) hW)
      have x0 := hs.c0
      have x1 := hs.c1
      have x2 := hs.c2
      have x3 := hs.c3
      have x4 := hs.c4
      have y0 := hy.c0
      have y1 := hy.c1
      have y2 := hy.c2
      have y3 := hy.c3
      have y4 := hy.c4
      have yf := hy.f
      clear hs hy hd hB hW hall
      go_wp2
      refine bodyPost_ret (results_d1 rfl _ _ gy _ _ _ _ _ rfl HF.out.c0 HF.out.c1 HF.out.c2 HF.out.c3 HF.out.c4) rfl ?_
      exact ⟨_, rfl, HD.out.1, HD.out.2⟩
end Go.Proofs.YtdbemkdfndjakaaDoor.Hd
