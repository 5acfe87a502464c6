/- A group's kinds, whether cells may be: the program's, walked. -/
import Derived.Test.YtabgbhilbnchnaaMiR
import Derived.Test.YtabgbhilbnchnaaXmb
namespace Go.Proofs.Ytabgbhilbnchnaa.Mi
open Go.RowKit Pac Va Sc Ro Lex Go.Proofs.Ytabgbhilbnchnaa.Or

def KindsOfPost (ks : List Int) (w : World) (e : Ending) (w' : World) : Prop :=
  ∃ A c, e = .returned (.tuple #[.slice A ks.length c, .bool true]) ∧ ks.length ≤ c ∧ HasI w' w.heap.size A ks ∧ Below w.heap.size w w'
set_option maxRecDepth 20000 in
set_option maxHeartbeats 3200000 in
theorem kindsOf_any (nm : ByteArray) (A1 A2 : Option Addr) (cp cp2 : Nat) (cs : List C) (g : List Int) (lo1 lo2 : Nat) (w : World) (h1 : HasCols w lo1 A1 cs) (h2 : HasI w lo2 A2 g) (hl1 : cs.length ≤ 9223372036854775807) (hl2 : g.length ≤ 1000000) (hg : ∀ c ∈ g, 0 ≤ c ∧ c < cs.length) :
    Calls Try.prog 19 #[.agg #[.string nm, .slice A1 cs.length cp], .slice A2 g.length cp2] w (KindsOfPost (kindsL cs g) w) := by
  obtain ⟨i0, hi, hz0, hz1, hz2⟩ := info_parts infoInt
  obtain ⟨ks, hks⟩ : ∃ ks, kindsL cs g = ks := ⟨_, rfl⟩
  have hkl : ks.length = g.length := by rw [← hks, kinds_len]
  have HAT : Hid (∀ (q : Nat) (c : Int) (x : C), g[q]? = some c → cs[c.toNat]? = some x → ks[q]? = some x.k) := Lib.hid (fun q c x h1 h2 => by rw [← hks]; exact kinds_at h1 h2)
  rw [hks]
  clear hks
  have hP := fun (w' : World) (A : Option Addr) (c : Nat) (hc : ks.length ≤ c) (hi : HasI w' w.heap.size A ks) (hB : Below w.heap.size w w') => (show KindsOfPost ks w (.returned (.tuple #[.slice A ks.length c, .bool true])) w' from ⟨A, c, rfl, hc, hi, hB⟩)
  generalize KindsOfPost ks w = post at hP ⊢
  obtain ⟨m, hm⟩ : ∃ m, g.length = m := ⟨_, rfl⟩
  obtain ⟨mc, hmc⟩ : ∃ m, cs.length = m := ⟨_, rfl⟩
  have hnew := (Below.refl w.heap.size w).alloc (Nat.le_refl _) (.cells #[.string nm, .slice A1 cs.length cp] 24)
  have hx0 := Box2.new w (.string nm) (.slice A1 cs.length cp) 24
  have h1 := h1.below hnew (Nat.le_refl _)
  have h2 := h2.below hnew (Nat.le_refl _)
  rw [hm] at hl2 hkl ⊢
  rw [hmc] at hl1 hg hx0 hnew h1 h2 ⊢
  rw [hkl] at hP
  generalize hw1 : w.alloc (.cells #[.string nm, .slice A1 mc cp] 24) = w1 at hx0 hnew h1 h2
  have hgb := hx0.lt
  have hbw := hnew.size
  have HP := Lib.hid hP
  have HA := Lib.hid h1
  have HB := Lib.hid h2
  have HM := Lib.hid (And.intro hm (And.intro hmc (And.intro hg hkl)))
  have HN := Lib.hid hnew
  clear h1 h2 hm hmc hg hkl hP hnew
  go_enter Try.func19, Try.ntmps19
  go_wp2
  clear hw1
  generalize hg0 : w.heap.size = g0 at hx0 hgb hbw ⊢
  generalize hbase : w1.heap.size = base at hgb hbw
  go_loopw [6, 11] (fun x i wr => ∃ (q : Nat) (sv : Value), q ≤ m ∧ i = .int .i64 q ∧ x = sv ∧ wr.ownsRow base 3 1 sv q (Li.cellsL cellsI (ks.take q)) ∧ Below base w1 wr) (fun _ i _ => m - (intOf i).toNat)
  case atStart => exact ⟨0, _, Nat.zero_le _, rfl, rfl, World.ownsRow_nil _ _ _ _, hbase ▸ Below.refl _ w1⟩
  case round =>
    obtain ⟨q, sv, hq, rfl, rfl, hown, hB⟩ := hrel
    by_cases hlt : q < m
    · obtain ⟨hm, hmc, hg, hkl⟩ := HM.out
      have hg2 : g[q]? = some (g[q]'(by rw [hm]; exact hlt)) := List.getElem?_eq_getElem _
      have hr := hg _ (List.mem_of_getElem? hg2)
      generalize (g[q]'(by rw [hm]; exact hlt)) = c at hg2 hr
      obtain ⟨cn, rfl⟩ : ∃ cn : Nat, c = (cn : Int) := ⟨c.toNat, by omega⟩
      have hcn : cn < mc := by omega
      have hg1 : cs[cn]? = some (cs[cn]'(by rw [hmc]; exact hcn)) := List.getElem?_eq_getElem _
      generalize (cs[cn]'(by rw [hmc]; exact hcn)) = x at hg1
      have hkx := HAT.out q (cn : Int) x hg2 (by rw [Int.toNat_natCast]; exact hg1)
      obtain ⟨b2, o2, rfl, hlo2, hlb2, e0⟩ := HasI.at HB.out hg2
      obtain ⟨b1, o1, rfl, hlo1, hlb1, hcc⟩ := HA.out (fun e => by rw [e] at hg1; simp at hg1)
      obtain ⟨_, d1, _⟩ := hcc cn x hg1
      obtain ⟨_, ck, _⟩ := x
      simp only at d1 hkx
      have e0 := cell_below (hbase ▸ hB) e0
      have d1 := cell_below (hbase ▸ hB) d1
      have x1 := (hx0.below hB hgb).c1
      have HKX : Hid (ks.take (q + 1) = ks.take q ++ [ck]) := Lib.hid (by
        obtain ⟨hlt', e⟩ := List.getElem?_eq_some_iff.1 hkx
        rw [List.take_succ_eq_append_getElem hlt', e])
      clear hcc hg1 hg2 hkx hm hmc hg hkl
      have i1 : (q : Int) < (m : Int) := by omega
      have i0' : (0 : Int) ≤ (q : Int) := by omega
      have j1 : (cn : Int) < (mc : Int) := by omega
      have j0 : (0 : Int) ≤ (cn : Int) := by omega
      have HW := Lib.hid (And.intro (hown.alloc (.cells #[.int .i64 ck] 3)) (And.intro (hB.alloc (hbase ▸ hB.size) (.cells #[.int .i64 ck] 3)) (heap_alloc_new wr (.cells #[.int .i64 ck] 3))))
      have hbs := hB.size
      clear hown hB
      go_wp2_with (at_builtin; go_must (refine wpList_append_own _ rfl _ _ 25 rfl base 3 i0 (.int .i64 0) 1 8 Try.underlying25 hi hz0 hz1 hz2 rfl (by decide) u6 q (Li.cellsL cellsI (ks.take q)) rfl HW.out.1 ⟨wr.heap.size, 0, none⟩ 1 1 [.int .i64 ck] rfl rfl (World.news_of_block HW.out.2.2) (by simp [Value.oneCell']) (by unfold maxLen; omega) (by omega) (hbase ▸ HW.out.2.1.size) ?_))
      intro v5 y5 hown5 hgrow5 _
      have hB5 := HW.out.2.1.grown hgrow5 (hbase ▸ HW.out.2.1.size) (fun k hk => (HW.out.1.lt k hk).1)
      clear hgrow5 HW x1 d1 e0
      go_wp2
      go_roundw
      case rel =>
        refine ⟨q + 1, _, by omega, by go_num, rfl, ?_, hB5⟩
        rw [HKX.out, Li.cellsL_snoc]
        exact hown5
      case measure => simp [intOf]; omega
    · obtain rfl : q = m := by omega
      have hkl := HM.out.2.2.2
      rw [List.take_of_length_le (by omega)] at hown
      obtain ⟨A, c, rfl, hc, hl⟩ := Li.list_of_own (R := cellsI) (fun _ => rfl) hown hkl
      have hQ := HP.out _ A c (by omega) (hl.lower (hg0 ▸ hbw)) (HN.out.trans (hB.mono (hg0 ▸ hbw)))
      have HQ := Lib.hid hQ
      clear hQ
      go_wp2
      exact HQ.out

set_option maxRecDepth 20000 in
set_option maxHeartbeats 6400000 in
theorem areCells_any (A A3 : Option Addr) (c cp3 lo lo3 : Nat) (ks : List Int) (cells : List (List V)) (w : World) (h : HasI w lo A ks) (h3 : HasVV w lo3 A3 cells) (hl8 : cells.length = 8) (hrow : ∀ r ∈ cells, r.length = ks.length) (hk8 : ks.length ≤ 8) :
    Calls Try.prog 20 #[.slice A ks.length c, .slice A3 8 cp3] w fun e w' => e = .returned (.bool ((flat ks cells).all fun p => fitM p.1 p.2)) ∧ Below w.heap.size w w' := by
  obtain ⟨ans, hans⟩ : ∃ b, ((flat ks cells).all fun p => fitM p.1 p.2) = b := ⟨_, rfl⟩
  rw [hans]
  obtain ⟨K, hK⟩ : ∃ m, ks.length = m := ⟨_, rfl⟩
  rw [hK] at hrow hk8 ⊢
  have HA := Lib.hid h
  have HV := Lib.hid h3
  have HM := Lib.hid (And.intro hl8 (And.intro hrow (And.intro hK hans)))
  clear h h3 hl8 hrow hK hans
  go_enter Try.func20, Try.ntmps20
  go_wp2
  go_loopw [14] (fun i wr => ∃ (q : Nat), q ≤ 8 ∧ i = .int .i64 q ∧ Hid (((flat ks cells).take (q * K)).all (fun p => fitM p.1 p.2) = true) ∧ Below w.heap.size w wr) (fun i _ => 8 - (intOf i).toNat)
  case atStart => exact ⟨0, Nat.zero_le _, rfl, Lib.hid (by simp), Below.refl _ w⟩
  case round =>
    obtain ⟨q, hq, rfl, hH, hB⟩ := hrel
    by_cases hlt : q < 8
    · have i1 : (q : Int) < 8 := by omega
      have i0' : (0 : Int) ≤ (q : Int) := by omega
      have hgr : cells[q]? = some (cells[q]'(by rw [HM.out.1]; exact hlt)) := List.getElem?_eq_getElem _
      have hrw := HM.out.2.1 _ (List.mem_of_getElem? hgr)
      generalize (cells[q]'(by rw [HM.out.1]; exact hlt)) = r at hgr hrw
      obtain ⟨b1, o1, A5, c5, rfl, _, _, d1, hI1, _⟩ := (HV.out.below hB (Nat.le_refl _)).at hgr
      rw [hrw] at d1
      have HR := Lib.hid (And.intro hgr (And.intro hrw hI1))
      clear hgr hrw hI1
      go_wp2
      clear d1
      obtain ⟨wq, rfl⟩ : ∃ wq, wq = wr := ⟨_, rfl⟩
      go_loopw [25] (fun i wx => ∃ (t : Nat), t ≤ K ∧ i = .int .i64 t ∧ Hid (((flat ks cells).take (q * K + t)).all (fun p => fitM p.1 p.2) = true) ∧ Below wq.heap.size wq wx) (fun i _ => K - (intOf i).toNat)
      case atStart => exact ⟨0, Nat.zero_le _, rfl, hH, Below.refl _ _⟩
      case round =>
        clear hH
        obtain ⟨t, ht, rfl, hH, hBv⟩ := hrel
        by_cases htl : t < K
        · have j1 : (t : Int) < (K : Int) := by omega
          have j0 : (0 : Int) ≤ (t : Int) := by omega
          obtain ⟨hl8, hrow, hK, hans⟩ := HM.out
          obtain ⟨hgr, hrw, hI1⟩ := HR.out
          have hgv : r[t]? = some (r[t]'(by omega)) := List.getElem?_eq_getElem _
          generalize (r[t]'(by omega)) = v at hgv
          have hgk : ks[t]? = some (ks[t]'(by omega)) := List.getElem?_eq_getElem _
          generalize (ks[t]'(by omega)) = kk at hgk
          have hfl := flat_at (ks := ks) (by rw [hK]; exact hrow) hgr hgv hgk
          rw [hK] at hfl
          obtain ⟨b2, o2, rfl, _, _, e0, e1, e2⟩ := HasV.at (hI1.below hBv (Nat.le_refl _)) hgv
          obtain ⟨b3, o3, rfl, _, _, f1⟩ := HasI.at ((HA.out.below hB (Nat.le_refl _)).below hBv (Nat.le_refl _)) hgk
          obtain ⟨vk, vn, vs⟩ := v
          simp only at e0 e1 e2
          have hts := take_snoc hfl
          have HBad : Hid (fitM kk ⟨vk, vn, vs⟩ = false → ans = false) := Lib.hid (fun e => by
            rw [← hans, List.all_eq_false]
            exact ⟨_, List.mem_of_getElem? hfl, by rw [show fitM kk ⟨vk, vn, vs⟩ = false from e]; exact Bool.false_ne_true⟩)
          have HGood : Hid (fitM kk ⟨vk, vn, vs⟩ = true → ((flat ks cells).take (q * K + (t + 1))).all (fun p => fitM p.1 p.2) = true) := Lib.hid (fun e => by
            rw [show q * K + (t + 1) = q * K + t + 1 by omega, hts, List.all_append, hH.out]
            show (true && (fitM kk ⟨vk, vn, vs⟩ && true)) = true
            rw [e]
            rfl)
          have hcf := fun W : World => fits_any kk ⟨vk, vn, vs⟩ W
          generalize fitM kk ⟨vk, vn, vs⟩ = fb at HBad HGood hcf
          have hY := Sc.Box3.new wr (.int .i64 vk) (.int .i64 vn) (.string vs) 36
          have hBw := (Below.refl wr.heap.size wr).alloc (Nat.le_refl _) (.cells #[.int .i64 vk, .int .i64 vn, .string vs] 36)
          have HD0 : Hid (∀ W : World, Sc.Box3 W wr.heap.size (.int .i64 vk) (.int .i64 vn) (.string vs) → Below wr.heap.size wr W → W.cell? ⟨b3, o3 + t, none⟩ = some (.int .i64 kk) ∧ W.cell? ⟨wr.heap.size, 0, none⟩ = some (.int .i64 vk) ∧ W.cell? ⟨wr.heap.size, 1, none⟩ = some (.int .i64 vn) ∧ W.cell? ⟨wr.heap.size, 2, none⟩ = some (.string vs)) := Lib.hid (fun W hX hW => ⟨cell_below hW f1, hX.c0, hX.c1, hX.c2⟩)
          have HY := Lib.hid (And.intro hY hBw)
          clear hfl hts hgr hrw hI1 hgv hgk hl8 hrow hK hans hY hBw f1
          go_wp2_with fail
          have hYv := HY.out.1.drew
          have hBw := HY.out.2.drew
          have hD0 := HD0.out
          have hD := hD0 _ hYv hBw
          generalize hgv0 : wr.heap.size = gv at hYv hBw hD hD0 ⊢
          cases fb with
          | true =>
            have HG2 := Lib.hid (HGood.out rfl)
            clear HGood HBad
            refine Lex.region_lex (ops := naops) (calls := nacalls) naord (fun W => W.cell? ⟨b3, o3 + t, none⟩ = some (.int .i64 kk) ∧ W.cell? ⟨gv, 0, none⟩ = some (.int .i64 vk) ∧ W.cell? ⟨gv, 1, none⟩ = some (.int .i64 vn) ∧ W.cell? ⟨gv, 2, none⟩ = some (.string vs)) (by kernel_rfl) (by kernel_rfl) nasel (by kernel_rfl) (by kernel_rfl) nalex (hD) ?_
            unfold naord
            refine Lex.step_take (.slice (some ⟨b3, o3, none⟩) K c) na0 rfl (Lex.want_none rfl) (by intro Wx hSw; (try dsimp only at hSw); go_simp; (try (first | (with_reducible rfl) | assumption | rfl))) ?_
            simp only [Act.put, List.setIfInBounds_toArray, List.set_cons_zero, List.set_cons_succ]
            refine Lex.step_take (.int .i64 t) na1 rfl (Lex.want_none rfl) (by intro Wx hSw; (try dsimp only at hSw); go_simp; (try (first | (with_reducible rfl) | assumption | rfl))) ?_
            simp only [Act.put, List.setIfInBounds_toArray, List.set_cons_zero, List.set_cons_succ]
            refine Lex.step_take (.pointer (some ⟨b3, o3 + t, none⟩)) na2 rfl (Lex.want_none rfl) (by intro Wx hSw; (try dsimp only at hSw); go_simp; (try (first | (with_reducible rfl) | assumption | rfl))) ?_
            simp only [Act.put, List.setIfInBounds_toArray, List.set_cons_zero, List.set_cons_succ]
            refine Lex.step_take (.int .i64 kk) na3 rfl (Lex.want_none rfl) (by intro Wx hSw; (try dsimp only at hSw); go_simp; (try (first | (with_reducible rfl) | assumption | rfl))) ?_
            simp only [Act.put, List.setIfInBounds_toArray, List.set_cons_zero, List.set_cons_succ]
            refine Lex.step_take (.agg #[.int .i64 vk, .int .i64 vn, .string vs]) na4 rfl (Lex.want_none rfl) (by intro Wx hSw; (try dsimp only at hSw); go_simp; (try (first | (with_reducible rfl) | assumption | rfl))) ?_
            simp only [Act.put, List.setIfInBounds_toArray, List.set_cons_zero, List.set_cons_succ]
            refine Lex.step_call na5 rfl (Lex.want_none rfl) (fun K hK => ?_)
            go_simp
            refine (hcf _).mono ?_
            rintro e y1 ⟨rfl, hy1⟩
            have hD := hD0 _ (hYv.below hy1 hYv.lt) (hBw.trans (hy1.mono (hgv0 ▸ hBw.size)))
            have hBw := hBw.trans (hy1.mono (hgv0 ▸ hBw.size))
            clear hy1 hcf
            refine hK.out _ _ _ (fun _ h => h) hD ?_
            clear hK K
            try simp only [Act.put, List.setIfInBounds_toArray, List.set_cons_zero, List.set_cons_succ]
            refine Lex.step_take (.bool false) na6 rfl (Lex.want_none rfl) (by intro Wx hSw; (try dsimp only at hSw); go_simp; (try (first | (with_reducible rfl) | assumption | rfl))) ?_
            simp only [Act.put, List.setIfInBounds_toArray, List.set_cons_zero, List.set_cons_succ]
            refine NoPanic.normal ?_
            clear hD hD0 hYv
            go_wp2
            go_roundw
            case rel => exact ⟨t + 1, by omega, by go_num, HG2, hBv.trans (hBw.mono (hgv0 ▸ hBv.size))⟩
            case measure => simp [intOf]; omega
          | false =>
            have HQ := Lib.hid (HBad.out rfl)
            clear HGood HBad
            refine Lex.region_lex (ops := naops) (calls := nacalls) naord (fun W => W.cell? ⟨b3, o3 + t, none⟩ = some (.int .i64 kk) ∧ W.cell? ⟨gv, 0, none⟩ = some (.int .i64 vk) ∧ W.cell? ⟨gv, 1, none⟩ = some (.int .i64 vn) ∧ W.cell? ⟨gv, 2, none⟩ = some (.string vs)) (by kernel_rfl) (by kernel_rfl) nasel (by kernel_rfl) (by kernel_rfl) nalex (hD) ?_
            unfold naord
            refine Lex.step_take (.slice (some ⟨b3, o3, none⟩) K c) na0 rfl (Lex.want_none rfl) (by intro Wx hSw; (try dsimp only at hSw); go_simp; (try (first | (with_reducible rfl) | assumption | rfl))) ?_
            simp only [Act.put, List.setIfInBounds_toArray, List.set_cons_zero, List.set_cons_succ]
            refine Lex.step_take (.int .i64 t) na1 rfl (Lex.want_none rfl) (by intro Wx hSw; (try dsimp only at hSw); go_simp; (try (first | (with_reducible rfl) | assumption | rfl))) ?_
            simp only [Act.put, List.setIfInBounds_toArray, List.set_cons_zero, List.set_cons_succ]
            refine Lex.step_take (.pointer (some ⟨b3, o3 + t, none⟩)) na2 rfl (Lex.want_none rfl) (by intro Wx hSw; (try dsimp only at hSw); go_simp; (try (first | (with_reducible rfl) | assumption | rfl))) ?_
            simp only [Act.put, List.setIfInBounds_toArray, List.set_cons_zero, List.set_cons_succ]
            refine Lex.step_take (.int .i64 kk) na3 rfl (Lex.want_none rfl) (by intro Wx hSw; (try dsimp only at hSw); go_simp; (try (first | (with_reducible rfl) | assumption | rfl))) ?_
            simp only [Act.put, List.setIfInBounds_toArray, List.set_cons_zero, List.set_cons_succ]
            refine Lex.step_take (.agg #[.int .i64 vk, .int .i64 vn, .string vs]) na4 rfl (Lex.want_none rfl) (by intro Wx hSw; (try dsimp only at hSw); go_simp; (try (first | (with_reducible rfl) | assumption | rfl))) ?_
            simp only [Act.put, List.setIfInBounds_toArray, List.set_cons_zero, List.set_cons_succ]
            refine Lex.step_call na5 rfl (Lex.want_none rfl) (fun K hK => ?_)
            go_simp
            refine (hcf _).mono ?_
            rintro e y1 ⟨rfl, hy1⟩
            have hD := hD0 _ (hYv.below hy1 hYv.lt) (hBw.trans (hy1.mono (hgv0 ▸ hBw.size)))
            have hBw := hBw.trans (hy1.mono (hgv0 ▸ hBw.size))
            clear hy1 hcf
            refine hK.out _ _ _ (fun _ h => h) hD ?_
            clear hK K
            try simp only [Act.put, List.setIfInBounds_toArray, List.set_cons_zero, List.set_cons_succ]
            refine Lex.step_take (.bool true) na6 rfl (Lex.want_none rfl) (by intro Wx hSw; (try dsimp only at hSw); go_simp; (try (first | (with_reducible rfl) | assumption | rfl))) ?_
            simp only [Act.put, List.setIfInBounds_toArray, List.set_cons_zero, List.set_cons_succ]
            refine NoPanic.normal ?_
            clear hD hD0 hYv
            have HB := Lib.hid (hB.trans ((hBv.trans (hBw.mono (hgv0 ▸ hBv.size))).mono hB.size))
            go_wp2
            go_ret
            exact ⟨by rw [HQ.out]; rfl, HB.out⟩
        · obtain rfl : t = K := by omega
          have HH : Hid (((flat ks cells).take ((q + 1) * t)).all (fun p => fitM p.1 p.2) = true) := Lib.hid (by rw [Nat.add_mul, Nat.one_mul]; exact hH.out)
          have HB := Lib.hid (hB.trans (hBv.mono hB.size))
          go_wp2
          go_roundw
          case rel => exact ⟨q + 1, by omega, by go_num, HH, HB.out⟩
          case measure => simp [intOf]; omega
    · obtain rfl : q = 8 := by omega
      have HQ : Hid (ans = true) := Lib.hid (by
        obtain ⟨hl8, hrow, hK, hans⟩ := HM.out
        have h1 := hH.out
        rw [List.take_of_length_le (by rw [flat_len (ks := ks) (by rw [hK]; exact hrow), hl8, hK]; exact Nat.le_refl _)] at h1
        rw [← hans]
        exact h1)
      go_wp2
      go_ret
      exact ⟨by rw [HQ.out]; rfl, hB⟩
end Go.Proofs.Ytabgbhilbnchnaa.Mi
