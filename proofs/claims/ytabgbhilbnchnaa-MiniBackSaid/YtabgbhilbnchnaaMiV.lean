/- A group's bytes: the program's, walked. -/
import Derived.Test.YtabgbhilbnchnaaMiU
import Derived.Test.YtabgbhilbnchnaaByB
namespace Go.Proofs.Ytabgbhilbnchnaa.Mi
open Go.RowKit Pac Va Sc Ro Lex Go.Proofs.Ytabgbhilbnchnaa.Or

theorem box_grown {w w' : World} {g : Nat} {v0 v1 v2 : Value} {row : Option Nat} (h : Sc.Box3 w g v0 v1 v2) (hg : w.grownBy w' row) (hne : row ≠ some g) : Sc.Box3 w' g v0 v1 v2 := by
  have hb := hg.block g h.lt (fun e => hne e.symm)
  have hc : ∀ i, w'.cell? ⟨g, i, none⟩ = w.cell? ⟨g, i, none⟩ := fun i => by simp [World.cell?, hb]
  have hf : ∀ i, w'.frozen? ⟨g, i, none⟩ = w.frozen? ⟨g, i, none⟩ := fun i => by simp [World.frozen?, hb]
  exact ⟨(hc 0).trans h.c0, (hc 1).trans h.c1, (hc 2).trans h.c2, fun i => (hf i).trans (h.f i)⟩
theorem fit_cell {k : Int} {v : V} (hk : k = 1 ∨ k = 2 ∨ k = 3) (ho : v.Ok) (h : fitM k v = true) : CellOk (k, v) := by
  unfold fitM at h
  simp only [Bool.and_eq_true, Bool.or_eq_true, beq_iff_eq] at h
  exact ⟨hk, h.1, h.2, ho⟩
theorem cell_fit {k : Int} {v : V} (h : CellOk (k, v)) : fitM k v = true := by
  unfold fitM
  simp only [Bool.and_eq_true, Bool.or_eq_true, beq_iff_eq]
  exact ⟨h.r, h.z⟩
theorem flat_mem {ks : List Int} {cells : List (List V)} {p : Int × V} (h : p ∈ flat ks cells) : p.1 ∈ ks ∧ ∃ r ∈ cells, p.2 ∈ r := by
  unfold flat at h
  obtain ⟨r, hr, hp⟩ := List.mem_flatMap.1 h
  obtain ⟨k, v⟩ := p
  have := List.of_mem_zip hp
  exact ⟨this.1, r, hr, this.2⟩
theorem all_right {ks : List Int} {cells : List (List V)} (hl : cells.length = 8) (hrow : ∀ r ∈ cells, r.length = ks.length) (hkk : ∀ k ∈ ks, k = 1 ∨ k = 2 ∨ k = 3) (hok : ∀ r ∈ cells, ∀ v ∈ r, v.Ok) (h : ((flat ks cells).all fun p => fitM p.1 p.2) = true) : RightM ks cells :=
  ⟨hl, hrow, fun p hp => by
    obtain ⟨h1, r, hr, h2⟩ := flat_mem hp
    exact fit_cell (hkk _ h1) (hok r hr _ h2) (List.all_eq_true.1 h p hp)⟩
theorem right_all {ks : List Int} {cells : List (List V)} (h : RightM ks cells) : ((flat ks cells).all fun p => fitM p.1 p.2) = true := List.all_eq_true.2 (fun p hp => cell_fit (h.ok p hp))
/-- What is printed of any rows. -/
noncomputable def printW (ks : List Int) (cells : List (List V)) : ByteArray := if ((flat ks cells).all fun p => fitM p.1 p.2) = true then printM ks cells else ⟨#[]⟩
set_option maxRecDepth 20000 in
set_option maxHeartbeats 16000000 in
theorem printW_any (nm : ByteArray) (A1 A2 A3 : Option Addr) (cp cp2 cp3 : Nat) (cs : List C) (g : List Int) (cells : List (List V)) (lo1 lo2 lo3 : Nat) (w : World) (h1 : HasCols w lo1 A1 cs) (h2 : HasI w lo2 A2 g) (h3 : HasVV w lo3 A3 cells) (hl1 : cs.length ≤ 9223372036854775807) (hg : ∀ c ∈ g, 0 ≤ c ∧ c < cs.length) (hg1 : 1 ≤ g.length) (hg8 : g.length ≤ 8) (hkk : ∀ k ∈ kindsL cs g, k = 1 ∨ k = 2 ∨ k = 3) (hl8 : cells.length = 8) (hrow : ∀ r ∈ cells, r.length = g.length) (hok : ∀ r ∈ cells, ∀ v ∈ r, v.Ok) :
    Calls Try.prog 9 #[.agg #[.string nm, .slice A1 cs.length cp], .slice A2 g.length cp2, .slice A3 8 cp3] w fun e w' => e = .returned (.string (printW (kindsL cs g) cells)) ∧ Below w.heap.size w w' := by
  obtain ⟨i0, hi, hz0, hz1, hz2⟩ := info_parts infoByte
  have hnew := (Below.refl w.heap.size w).alloc (Nat.le_refl _) (.cells #[.string nm, .slice A1 cs.length cp] 24)
  have hx0 := Box2.new w (.string nm) (.slice A1 cs.length cp) 24
  have h1 := h1.below hnew (Nat.le_refl _)
  have h2 := h2.below hnew (Nat.le_refl _)
  have h3 := h3.below hnew (Nat.le_refl _)
  generalize hw1 : w.alloc (.cells #[.string nm, .slice A1 cs.length cp] 24) = w1 at hx0 hnew h1 h2 h3
  have hck := kindsOf_any nm A1 A2 cp cp2 cs g lo1 lo2 w1 h1 h2 hl1 (by omega) hg
  obtain ⟨ks, hks⟩ : ∃ ks, kindsL cs g = ks := ⟨_, rfl⟩
  have hkl : ks.length = g.length := by rw [← hks, kinds_len]
  rw [hks] at hck hkk ⊢
  rw [← hkl] at hrow
  clear hks h1 h2 hg
  obtain ⟨K, hK⟩ : ∃ m, g.length = m := ⟨_, rfl⟩
  rw [hK] at hkl hg1 hg8 hck ⊢
  unfold KindsOfPost at hck
  have hca := fun (A : Option Addr) (c : Nat) (W : World) (hI : HasI W w1.heap.size A ks) (hV : HasVV W lo3 A3 cells) => areCells_any A A3 c cp3 w1.heap.size lo3 ks cells W hI hV hl8 hrow (by omega)
  have hW1 : ((flat ks cells).all fun p => fitM p.1 p.2) = true → printW ks cells = printM ks cells := fun h => by unfold printW; rw [if_pos h]
  have hW0 : ((flat ks cells).all fun p => fitM p.1 p.2) = false → printW ks cells = ⟨#[]⟩ := fun h => by unfold printW; rw [if_neg (by rw [h]; decide)]
  have hRM : ((flat ks cells).all fun p => fitM p.1 p.2) = true → RightM ks cells := all_right hl8 hrow hkk hok
  rw [hkl] at hck hca
  generalize ((flat ks cells).all fun p => fitM p.1 p.2) = ok at hca hW1 hW0 hRM
  generalize hA : printM ks cells = ans at hW1
  generalize printW ks cells = pw at hW1 hW0 ⊢
  have HKK := Lib.hid (And.intro hkl hA)
  have HV := Lib.hid h3
  have HCA := Lib.hid hca
  have c0 := hx0.c0
  have c1 := hx0.c1
  clear hkl hA hK h3 hrow hkk hok hca
  go_enter Try.func9, Try.ntmps9
  go_wp2_with fail
  clear hw1 c0 c1 hx0
  refine hck.mono ?_
  rintro e w2 ⟨AK, ck, rfl, _, hI, hy⟩
  have hca := HCA.out AK ck w2 hI (HV.out.below hy (Nat.le_refl _))
  have HV := Lib.hid (HV.out.below hy (Nat.le_refl _))
  have HI := Lib.hid hI
  have hB2 := hnew.trans (hy.mono hnew.size)
  have hgs := hy.size
  clear hck hy hnew hI HCA
  go_wp2_with fail
  refine hca.mono ?_
  rintro e w3 ⟨rfl, hy⟩
  have HV := Lib.hid (HV.out.below hy (Nat.le_refl _))
  have HI := Lib.hid (HI.out.below hy (Nat.le_refl _))
  have hB3 := hB2.trans (hy.mono hB2.size)
  clear hca hy hB2
  cases ok with
  | false =>
    have HQ := Lib.hid (hW0 rfl)
    clear hW0 hW1 hRM
    go_wp2
    go_ret
    exact ⟨by rw [HQ.out]; rfl, hB3⟩
  | true =>
    have HW := Lib.hid (hW1 rfl)
    have hr := hRM rfl
    have hcm := fun W : World => marks_any AK K ck W (by omega)
    clear hW0 hW1 hRM
    go_wp2_with fail
    refine (hcm _).mono ?_
    rintro e w4 ⟨rfl, rfl⟩
    clear hcm
    go_wp2_with (at_make; go_must (refine wpList_make_full _ rfl _ _ 47 rfl w4.heap.size 5 i0 (.int .u8 0) 1 Try.underlying47 hi hz0 hz1 _ _ _ _ K rfl rfl rfl rfl (by rw [hz2]; omega) (by unfold maxLen; omega) (Nat.le_refl _) ?_))
    intro w5 hown5 hgrow5
    rw [made_mask] at hown5
    have hy : Below w4.heap.size w4 w5 := (Below.refl _ _).grown hgrow5 (Nat.le_refl _) (fun k hk => by cases hk)
    have HA := Lib.hid (And.intro HV.out HI.out)
    have HB3 := Lib.hid hB3
    have HR := Lib.hid (And.intro hr (And.intro HKK.out.1 HKK.out.2))
    have hTh0 : Three w5 w4.heap.size K (mask ((flat ks cells).take 0) K) (fix 0 ((flat ks cells).take 0)) (hp ((flat ks cells).take 0)) (.slice none 0 0) (.slice none 0 0) := ⟨hown5, World.ownsRow_nil _ _ _ _, World.ownsRow_nil _ _ _ _, fun b e => by cases e⟩
    clear hgrow5 hB3 hr hown5 HV HI HKK
    generalize hbase : w4.heap.size = base at hTh0 hy ⊢
    go_wp2
    go_loopw [10, 11, 12, 36] (fun x y z i wr => ∃ (q n : Nat) (sv hv : Value), q ≤ 8 ∧ i = .int .i64 q ∧ z = .int .i64 n ∧ x = sv ∧ y = hv ∧ Hid (q * K = n) ∧ Three wr base K (mask ((flat ks cells).take n) K) (fix 0 ((flat ks cells).take n)) (hp ((flat ks cells).take n)) sv hv ∧ Below base w4 wr) (fun _ _ _ i _ => 8 - (intOf i).toNat)
    case atStart => exact ⟨0, 0, _, _, Nat.zero_le _, rfl, rfl, rfl, rfl, Lib.hid (by simp), hTh0, hy⟩
    case round =>
      clear hTh0 hy
      obtain ⟨q, n0, sv, hv, hq, rfl, rfl, rfl, rfl, hN, hTh, hB⟩ := hrel
      by_cases hlt : q < 8
      · have i1 : (q : Int) < 8 := by omega
        have i0' : (0 : Int) ≤ (q : Int) := by omega
        have hl8 := HR.out.1.len
        have hgr : cells[q]? = some (cells[q]'(by omega)) := List.getElem?_eq_getElem _
        have hrw := HR.out.1.row _ (List.mem_of_getElem? hgr)
        generalize (cells[q]'(by omega)) = r at hgr hrw
        rw [HR.out.2.1] at hrw
        have hB0 : Below w4.heap.size w4 wr := hbase ▸ hB
        obtain ⟨b1, o1, A5, c5, rfl, _, _, d1, hI1, _⟩ := HA.out.1.at hgr
        rw [hrw] at d1
        have d1 := cell_below hB0 d1
        have HRr := Lib.hid (And.intro hgr (And.intro hrw hI1))
        have HTh := Lib.hid (And.intro hTh hB)
        clear hgr hrw hI1 hB0 hl8 hTh hB
        go_wp2
        clear d1
        go_loopw [10, 11, 12, 42] (fun x y z i wr => ∃ (t n : Nat) (sv hv : Value), t ≤ K ∧ i = .int .i64 t ∧ z = .int .i64 n ∧ x = sv ∧ y = hv ∧ Hid (q * K + t = n) ∧ Three wr base K (mask ((flat ks cells).take n) K) (fix 0 ((flat ks cells).take n)) (hp ((flat ks cells).take n)) sv hv ∧ Below base w4 wr) (fun _ _ _ i _ => K - (intOf i).toNat)
        case atStart => exact ⟨0, n0, _, _, Nat.zero_le _, rfl, rfl, rfl, rfl, Lib.hid (by rw [Nat.add_zero]; exact hN.out), HTh.out.1, HTh.out.2⟩
        case round =>
          clear HTh
          obtain ⟨t, n, sv, hv, ht, rfl, rfl, rfl, rfl, HN, hTh, hB⟩ := hrel
          by_cases htl : t < K
          · have j1 : (t : Int) < (K : Int) := by omega
            have j0 : (0 : Int) ≤ (t : Int) := by omega
            obtain ⟨hr, hkl, _⟩ := HR.out
            obtain ⟨hgr, hrw, hI1⟩ := HRr.out
            have hgv : r[t]? = some (r[t]'(by omega)) := List.getElem?_eq_getElem _
            generalize (r[t]'(by omega)) = v at hgv
            have hgk : ks[t]? = some (ks[t]'(by omega)) := List.getElem?_eq_getElem _
            generalize (ks[t]'(by omega)) = kk at hgk
            have hfl := flat_at hr.row hgr hgv hgk
            rw [hkl, HN.out] at hfl
            have hokv := hr.ok _ (List.mem_of_getElem? hfl)
            have hfew := hr.few
            rw [hkl] at hfew
            have hnlt := (List.getElem?_eq_some_iff.1 hfl).1
            have hts := take_snoc hfl
            have hdl : ((flat ks cells).take n).length = n := by rw [List.length_take]; omega
            have hTs := HB_le (d := (flat ks cells).take n) (fun p hp => hr.ok p (List.mem_of_mem_take hp))
            have hSs := FB_size ((flat ks cells).take n)
            have hSl : (FB ((flat ks cells).take n)).size = (fix 0 ((flat ks cells).take n)).length := by unfold FB; simp [ByteArray.size]
            rw [HB_size, hdl] at hTs
            rw [hSl, hdl] at hSs
            have hn64 : n < 64 := by omega
            obtain ⟨d, hd⟩ : ∃ d, (flat ks cells).take n = d := ⟨_, rfl⟩
            rw [hd] at hdl hTs hSs hTh hts
            have HTS : Hid ((flat ks cells).take (n + 1) = d ++ [(kk, v)]) := Lib.hid hts
            obtain ⟨fl, hfl'⟩ : ∃ m, (fix 0 d).length = m := ⟨_, rfl⟩
            obtain ⟨hl, hhl'⟩ : ∃ m, (hp d).length = m := ⟨_, rfl⟩
            rw [hfl'] at hSs
            rw [hhl'] at hTs
            have hfx := hTh.fx
            rw [hfl'] at hfx
            obtain ⟨Af, cf, rfl⟩ := own_form hfx
            have hhx := hTh.hp
            rw [hhl'] at hhx
            obtain ⟨Ah, ch, rfl⟩ := own_form hhx
            have hB0 : Below w4.heap.size w4 wr := hbase ▸ hB
            obtain ⟨b2, o2, rfl, _, _, e0, e1, e2⟩ := HasV.at (hI1.below hB0 (Nat.le_refl _)) hgv
            obtain ⟨b3, o3, rfl, _, hlb3, f1⟩ := HasI.at HA.out.2 hgk
            obtain ⟨vk, vn, vs⟩ := v
            simp only at e0 e1 e2
            have hvs := right_sz hokv.r
            simp only at hvs
            have HK := Lib.hid hfl'
            have hgf : (Value.slice Af fl cf).ownBlock ≠ some wr.heap.size := fun e => by
              have := (hTh.fx.lt _ e).2
              omega
            have hD0 : ∀ W' : World, Below base w4 W' → Sc.Box3 W' wr.heap.size (.int .i64 vk) (.int .i64 vn) (.string vs) → W'.cell? ⟨b3, o3 + t, none⟩ = some (.int .i64 kk) ∧ W'.cell? ⟨wr.heap.size, 0, none⟩ = some (.int .i64 vk) ∧ W'.cell? ⟨wr.heap.size, 1, none⟩ = some (.int .i64 vn) ∧ W'.cell? ⟨wr.heap.size, 2, none⟩ = some (.string vs) := fun W' hW hX => ⟨cell_below (hbase ▸ hW) f1, hX.c0, hX.c1, hX.c2⟩
            have hX := Sc.Box3.new wr (.int .i64 vk) (.int .i64 vn) (.string vs) 36
            have hThA := hTh.below ((Below.refl wr.heap.size wr).alloc (Nat.le_refl _) (.cells #[.int .i64 vk, .int .i64 vn, .string vs] 36)) (Nat.le_refl _)
            have hBw := hB.alloc (Nat.le_of_lt hTh.lt) (.cells #[.int .i64 vk, .int .i64 vn, .string vs] 36)
            have hbl := hTh.lt
            by_cases hvk : vk = 0
            · subst hvk
              have hmz := mask_zero (d := d) (k := kk) (v := ⟨0, vn, vs⟩) (M := K) rfl
              rw [← hts] at hmz
              rw [← hmz] at hThA
              have HT0 := Lib.hid (And.intro hThA (And.intro hX (And.intro hBw (And.intro hgf hD0))))
              clear hThA hX hBw hgf hD0 hTh hB hB0 hfx hhx hmz hts hfl hgv hgk hgr hrw hI1 hr hkl hfew hnlt hd f1 hSl
              go_wp2_with fail
              obtain ⟨hTh, hX, hBw, hgf, hD0⟩ := HT0.out
              clear HT0 e0 e1 e2
              generalize hgv0 : wr.heap.size = gv at hX hgf hD0 ⊢
              generalize wr.alloc (.cells #[.int .i64 0, .int .i64 vn, .string vs] 36) = W at hTh hX hBw ⊢
              obtain ⟨vk, hvk⟩ : ∃ k : Int, (0 : Int) = k := ⟨_, rfl⟩
              rw [hvk] at hX hD0 hokv HTS
              clear hvk
              have hcp := fun W' : World => printCell_any kk ⟨vk, vn, vs⟩ hl W' hokv (by omega)
              have hol := one_len kk ⟨vk, vn, vs⟩ hl
              obtain ⟨oz, hoz1⟩ : ∃ m, oneW kk = m := ⟨_, rfl⟩
              rw [hoz1] at hol
              have hoz : 0 < oz := by rw [← hoz1]; unfold oneW; split <;> (try split) <;> omega
              have hoz8 : oz ≤ 8 := by rw [← hoz1]; unfold oneW; split <;> (try split) <;> omega
              unfold BytesPost at hcp
              have HD0 := Lib.hid hD0
              have HT := Lib.hid (And.intro hTh (And.intro hX hBw))
              have HC := Lib.hid (And.intro hcp (And.intro hol hfl'))
              clear hTh hX hBw hcp hol hD0 hfl'
              go_wp2_with fail
              have hTh := HT.out.1.below (Below.refl W.heap.size W).drew (Nat.le_refl _)
              have hX := HT.out.2.1.drew
              have hBw := HT.out.2.2.drew
              have hD0 := HD0.out
              have hcp := HC.out.1
              have hol := HC.out.2.1
              have hfl' := HC.out.2.2
              have hD := hD0 _ hBw hX
              refine Lex.region_lex (ops := ncops) (calls := nccalls) ncord (fun W => W.cell? ⟨b3, o3 + t, none⟩ = some (.int .i64 kk) ∧ W.cell? ⟨gv, 0, none⟩ = some (.int .i64 vk) ∧ W.cell? ⟨gv, 1, none⟩ = some (.int .i64 vn) ∧ W.cell? ⟨gv, 2, none⟩ = some (.string vs)) (by kernel_rfl) (by kernel_rfl) ncsel (by kernel_rfl) (by kernel_rfl) nclex (hD) ?_
              unfold ncord
              refine Lex.step_take (.slice Af fl cf) nc0 rfl (Lex.want_none rfl) (by intro Wx hSw; (try dsimp only at hSw); go_simp; (try (first | (with_reducible rfl) | assumption | rfl))) ?_
              simp only [Act.put, List.setIfInBounds_toArray, List.set_cons_zero, List.set_cons_succ]
              refine Lex.step_take (.slice (some ⟨b3, o3, none⟩) K ck) nc1 rfl (Lex.want_none rfl) (by intro Wx hSw; (try dsimp only at hSw); go_simp; (try (first | (with_reducible rfl) | assumption | rfl))) ?_
              simp only [Act.put, List.setIfInBounds_toArray, List.set_cons_zero, List.set_cons_succ]
              refine Lex.step_take (.int .i64 t) nc2 rfl (Lex.want_none rfl) (by intro Wx hSw; (try dsimp only at hSw); go_simp; (try (first | (with_reducible rfl) | assumption | rfl))) ?_
              simp only [Act.put, List.setIfInBounds_toArray, List.set_cons_zero, List.set_cons_succ]
              refine Lex.step_take (.pointer (some ⟨b3, o3 + t, none⟩)) nc3 rfl (Lex.want_none rfl) (by intro Wx hSw; (try dsimp only at hSw); go_simp; (try (first | (with_reducible rfl) | assumption | rfl))) ?_
              simp only [Act.put, List.setIfInBounds_toArray, List.set_cons_zero, List.set_cons_succ]
              refine Lex.step_take (.int .i64 kk) nc4 rfl (Lex.want_none rfl) (by intro Wx hSw; (try dsimp only at hSw); go_simp; (try (first | (with_reducible rfl) | assumption | rfl))) ?_
              simp only [Act.put, List.setIfInBounds_toArray, List.set_cons_zero, List.set_cons_succ]
              refine Lex.step_take (.agg #[.int .i64 vk, .int .i64 vn, .string vs]) nc5 rfl (Lex.want_none rfl) (by intro Wx hSw; (try dsimp only at hSw); go_simp; (try (first | (with_reducible rfl) | assumption | rfl))) ?_
              simp only [Act.put, List.setIfInBounds_toArray, List.set_cons_zero, List.set_cons_succ]
              refine Lex.step_take (.slice Ah hl ch) nc6 rfl (Lex.want_none rfl) (by intro Wx hSw; (try dsimp only at hSw); go_simp; (try (first | (with_reducible rfl) | assumption | rfl))) ?_
              simp only [Act.put, List.setIfInBounds_toArray, List.set_cons_zero, List.set_cons_succ]
              refine Lex.step_take (.int .i64 (hl : Int)) nc7 rfl (Lex.want_none rfl) (by intro Wx hSw; (try dsimp only at hSw); go_simp; (try (first | (with_reducible rfl) | assumption | rfl))) ?_
              simp only [Act.put, List.setIfInBounds_toArray, List.set_cons_zero, List.set_cons_succ]
              refine Lex.step_call nc8 rfl (Lex.want_none rfl) (fun K hK => ?_)
              go_simp
              refine (hcp _).mono ?_
              rintro e y1 ⟨pb, pc, rfl, hnl, hy1⟩
              rw [hol]
              have hD := hD0 _ (hBw.trans (hy1.mono (Nat.le_of_lt hTh.lt))) (hX.below hy1 hX.lt)
              have hX := hX.below hy1 hX.lt
              have hBw := hBw.trans (hy1.mono (Nat.le_of_lt hTh.lt))
              have hTh := hTh.below hy1 (Nat.le_refl _)
              clear hcp hy1
              refine hK.out _ _ _ (fun _ h => h) hD ?_
              clear hK K
              try simp only [Act.put, List.setIfInBounds_toArray, List.set_cons_zero, List.set_cons_succ]
              refine Lex.step_call nc9 rfl (Lex.want_none rfl) (fun K hK => ?_)
              refine wp_append_lies _ (.tmp 60) (.tmp 68) 47 (by rfl) (base + 1) 5 i0 (.int .u8 0) 1 1 Try.underlying47 hi hz0 hz1 hz2 rfl (by omega) (.slice Af fl cf) fl (nums (fix 0 d)) (by rfl) (hfl' ▸ hTh.fx) ⟨pb, 0, none⟩ oz pc (nums (one kk ⟨vk, vn, vs⟩ hl)) (by rfl) (by rw [nums_len, hol, Nat.mul_one]) hnl (nums_one _) hoz (by unfold maxLen; omega) (by omega) hTh.lt _ rfl ?_
              intro g5 cap5 y3 hown5 hgrow5 hat5 hlt5
              have hTh3 := hTh.fix (l := one kk ⟨vk, vn, vs⟩ hl) (n := fl + oz) (c := cap5) (by rw [nums_app]; exact hown5) (by rw [List.length_append, hfl', hol]) hgrow5 hat5
              have hX3 := box_grown hX hgrow5 hgf
              have hB3 := hBw.grown hgrow5 (Nat.le_of_lt hTh.lt) (fun k hk => Nat.le_of_succ_le (hTh.fx.lt k hk).1)
              have hD := hD0 _ hB3 hX3
              refine hK.out _ _ _ (fun _ h => h) hD ?_
              clear hK K
              try simp only [Act.put, List.setIfInBounds_toArray, List.set_cons_zero, List.set_cons_succ]
              refine Lex.step_take (.slice (some ⟨g5, 0, none⟩) (fl + oz) cap5) nc10 rfl (Lex.want_none rfl) (by intro Wx hSw; (try dsimp only at hSw); go_simp; (try (first | (with_reducible rfl) | assumption | rfl))) ?_
              simp only [Act.put, List.setIfInBounds_toArray, List.set_cons_zero, List.set_cons_succ]
              refine NoPanic.normal ?_
              have x2 := hX3.c2
              have HT3 := Lib.hid hTh3
              have HB3 := Lib.hid hB3
              clear hD hD0 hTh hX hBw hown5 hgrow5 hat5 hnl hX3 hTh3 hB3 hfl' hol HC HT HD0
              go_wp2_with (at_builtin; go_must (refine wpList_append_string_lies _ rfl _ _ 47 9 rfl (base + 1) 5 i0 Try.underlying47 Try.underlying9 hi hz0 hz1 hz2 (.slice Ah hl ch) hl (nums (hp d)) rfl (hhl' ▸ HT3.out.hp) vs rfl (by omega) HT3.out.lt ?_))
              intro v6 y6 hown6 hgrow6 hat6
              rw [nums_str, ← nums_app] at hown6
              have hTh6 := HT3.out.heap (l := vs.data.toList) hown6 (by rw [List.length_append, hhl']; simp) hgrow6 hat6
              have hB6 := HB3.out.grown hgrow6 (Nat.le_of_lt HT3.out.lt) (fun k hk => Nat.le_of_succ_le (HT3.out.hp.lt k hk).1)
              have HT6 : Hid (Three y6 base K (mask ((flat ks cells).take (n + 1)) K) (fix 0 ((flat ks cells).take (n + 1))) (hp ((flat ks cells).take (n + 1))) (.slice (some ⟨g5, 0, none⟩) (fl + oz) cap5) v6) := Lib.hid (by
                rw [HTS.out, fix_snoc, hp_snoc, Nat.zero_add, hhl', ← HTS.out]
                exact hTh6)
              clear hown6 hgrow6 hat6 hTh6 HT3 HB3 x2
              go_wp2
              go_roundw
              case rel => exact ⟨t + 1, n + 1, _, _, by omega, by go_num, by go_num, rfl, rfl, Lib.hid (by rw [← HN.out]; omega), HT6.out, hB6⟩
              case measure => simp [intOf]; omega
            · have hvk' : (vk != 0) = true := bne_iff_ne.2 hvk
              obtain ⟨z, hz⟩ : ∃ z : UInt8, z = UInt8.ofNat (partAt d n + 2 ^ (n % 8)) := ⟨_, rfl⟩
              have hp8 := partAt_lt hdl
              have h28 : (2 : Nat) ^ (n % 8) ≤ 2 ^ 7 := Nat.pow_le_pow_right (by decide) (by omega)
              have ez0 : bits .or .u8 ((partAt d n : Nat) : Int) ((2 : Int) ^ (n % 8) % 256) = (z.toNat : Int) := by
                rw [hz, ← or_bit hp8 (by omega)]
                congr 1
                have : ((2 ^ (n % 8) : Nat) : Int) = (2 : Int) ^ (n % 8) := by push_cast; rfl
                rw [← this]
                omega
              have hma := nums_at (mask_at (d := d) (n := n) (M := K) (by omega))
              rw [ofNat_toNat _ (by omega)] at hma
              have s1 := hThA.mar.cellAt (n / 8) (by omega)
              have s2 := hThA.mar.frozenAt (n / 8)
              rw [hma] at s1
              have n1 : (n : Int) / 8 < (K : Int) := by omega
              have n0 : (0 : Int) ≤ (n : Int) / 8 := by omega
              have hmk := hThA.mark (n / 8) z
              have hms := mask_snoc (d := d) (k := kk) (v := ⟨vk, vn, vs⟩) (n := n) (M := K) hdl (by omega) hvk
              rw [← hts, ← hz] at hms
              rw [← hms] at hmk
              have hX2 := box_grown hX hmk.2 (fun e => by injection e with e; omega)
              have hBw2 := hBw.grown hmk.2 (Nat.le_of_lt hThA.lt) (fun k hk => by have hk : some base = some k := hk; injection hk with hk; omega)
              have hbne : base ≠ wr.heap.size := Nat.ne_of_lt hbl
              have hwc : (wr.alloc (.cells #[.int .i64 vk, .int .i64 vn, .string vs] 36)).setCell ⟨base, n / 8, none⟩ (.int .u8 (z.toNat : Int)) = (wr.setCell ⟨base, n / 8, none⟩ (.int .u8 (z.toNat : Int))).alloc (.cells #[.int .i64 vk, .int .i64 vn, .string vs] 36) := by go_simp
              rw [hwc] at hmk hX2 hBw2
              have HT0 := Lib.hid (And.intro hmk.1 (And.intro hX2 (And.intro hBw2 (And.intro hgf hD0))))
              clear hwc hbne
              generalize partAt d n = pb at ez0 s1
              clear hThA hX hBw hgf hD0 hTh hB hB0 hfx hhx hts hfl hgv hgk hgr hrw hI1 hr hkl hfew hnlt hd f1 hSl hmk hX2 hBw2 hms hz hma hp8 h28
              go_wp2_with fail
              go_region
              obtain ⟨hTh, hX, hBw, hgf, hD0⟩ := HT0.out
              clear HT0 e0 e1 e2 s1 s2 ez0
              generalize hgv0 : wr.heap.size = gv at hX hgf hD0 ⊢
              have hTh := hTh.below (Below.refl _ _).drew (Nat.le_refl _)
              have hX := hX.drew
              have hBw := hBw.drew
              generalize ((wr.setCell ⟨base, n / 8, none⟩ (.int .u8 (z.toNat : Int))).alloc (.cells #[.int .i64 vk, .int .i64 vn, .string vs] 36)).drew = W at hTh hX hBw ⊢
              have hcp := fun W' : World => printCell_any kk ⟨vk, vn, vs⟩ hl W' hokv (by omega)
              have hol := one_len kk ⟨vk, vn, vs⟩ hl
              obtain ⟨oz, hoz1⟩ : ∃ m, oneW kk = m := ⟨_, rfl⟩
              rw [hoz1] at hol
              have hoz : 0 < oz := by rw [← hoz1]; unfold oneW; split <;> (try split) <;> omega
              have hoz8 : oz ≤ 8 := by rw [← hoz1]; unfold oneW; split <;> (try split) <;> omega
              unfold BytesPost at hcp
              have HD0 := Lib.hid hD0
              have HT := Lib.hid (And.intro hTh (And.intro hX hBw))
              have HC := Lib.hid (And.intro hcp (And.intro hol hfl'))
              clear hTh hX hBw hcp hol hD0 hfl'
              go_wp2_with fail
              have hTh := HT.out.1.below (Below.refl W.heap.size W).drew (Nat.le_refl _)
              have hX := HT.out.2.1.drew
              have hBw := HT.out.2.2.drew
              have hD0 := HD0.out
              have hcp := HC.out.1
              have hol := HC.out.2.1
              have hfl' := HC.out.2.2
              have hD := hD0 _ hBw hX
              refine Lex.region_lex (ops := ncops) (calls := nccalls) ncord (fun W => W.cell? ⟨b3, o3 + t, none⟩ = some (.int .i64 kk) ∧ W.cell? ⟨gv, 0, none⟩ = some (.int .i64 vk) ∧ W.cell? ⟨gv, 1, none⟩ = some (.int .i64 vn) ∧ W.cell? ⟨gv, 2, none⟩ = some (.string vs)) (by kernel_rfl) (by kernel_rfl) ncsel (by kernel_rfl) (by kernel_rfl) nclex (hD) ?_
              unfold ncord
              refine Lex.step_take (.slice Af fl cf) nc0 rfl (Lex.want_none rfl) (by intro Wx hSw; (try dsimp only at hSw); go_simp; (try (first | (with_reducible rfl) | assumption | rfl))) ?_
              simp only [Act.put, List.setIfInBounds_toArray, List.set_cons_zero, List.set_cons_succ]
              refine Lex.step_take (.slice (some ⟨b3, o3, none⟩) K ck) nc1 rfl (Lex.want_none rfl) (by intro Wx hSw; (try dsimp only at hSw); go_simp; (try (first | (with_reducible rfl) | assumption | rfl))) ?_
              simp only [Act.put, List.setIfInBounds_toArray, List.set_cons_zero, List.set_cons_succ]
              refine Lex.step_take (.int .i64 t) nc2 rfl (Lex.want_none rfl) (by intro Wx hSw; (try dsimp only at hSw); go_simp; (try (first | (with_reducible rfl) | assumption | rfl))) ?_
              simp only [Act.put, List.setIfInBounds_toArray, List.set_cons_zero, List.set_cons_succ]
              refine Lex.step_take (.pointer (some ⟨b3, o3 + t, none⟩)) nc3 rfl (Lex.want_none rfl) (by intro Wx hSw; (try dsimp only at hSw); go_simp; (try (first | (with_reducible rfl) | assumption | rfl))) ?_
              simp only [Act.put, List.setIfInBounds_toArray, List.set_cons_zero, List.set_cons_succ]
              refine Lex.step_take (.int .i64 kk) nc4 rfl (Lex.want_none rfl) (by intro Wx hSw; (try dsimp only at hSw); go_simp; (try (first | (with_reducible rfl) | assumption | rfl))) ?_
              simp only [Act.put, List.setIfInBounds_toArray, List.set_cons_zero, List.set_cons_succ]
              refine Lex.step_take (.agg #[.int .i64 vk, .int .i64 vn, .string vs]) nc5 rfl (Lex.want_none rfl) (by intro Wx hSw; (try dsimp only at hSw); go_simp; (try (first | (with_reducible rfl) | assumption | rfl))) ?_
              simp only [Act.put, List.setIfInBounds_toArray, List.set_cons_zero, List.set_cons_succ]
              refine Lex.step_take (.slice Ah hl ch) nc6 rfl (Lex.want_none rfl) (by intro Wx hSw; (try dsimp only at hSw); go_simp; (try (first | (with_reducible rfl) | assumption | rfl))) ?_
              simp only [Act.put, List.setIfInBounds_toArray, List.set_cons_zero, List.set_cons_succ]
              refine Lex.step_take (.int .i64 (hl : Int)) nc7 rfl (Lex.want_none rfl) (by intro Wx hSw; (try dsimp only at hSw); go_simp; (try (first | (with_reducible rfl) | assumption | rfl))) ?_
              simp only [Act.put, List.setIfInBounds_toArray, List.set_cons_zero, List.set_cons_succ]
              refine Lex.step_call nc8 rfl (Lex.want_none rfl) (fun K hK => ?_)
              go_simp
              refine (hcp _).mono ?_
              rintro e y1 ⟨pb, pc, rfl, hnl, hy1⟩
              rw [hol]
              have hD := hD0 _ (hBw.trans (hy1.mono (Nat.le_of_lt hTh.lt))) (hX.below hy1 hX.lt)
              have hX := hX.below hy1 hX.lt
              have hBw := hBw.trans (hy1.mono (Nat.le_of_lt hTh.lt))
              have hTh := hTh.below hy1 (Nat.le_refl _)
              clear hcp hy1
              refine hK.out _ _ _ (fun _ h => h) hD ?_
              clear hK K
              try simp only [Act.put, List.setIfInBounds_toArray, List.set_cons_zero, List.set_cons_succ]
              refine Lex.step_call nc9 rfl (Lex.want_none rfl) (fun K hK => ?_)
              refine wp_append_lies _ (.tmp 60) (.tmp 68) 47 (by rfl) (base + 1) 5 i0 (.int .u8 0) 1 1 Try.underlying47 hi hz0 hz1 hz2 rfl (by omega) (.slice Af fl cf) fl (nums (fix 0 d)) (by rfl) (hfl' ▸ hTh.fx) ⟨pb, 0, none⟩ oz pc (nums (one kk ⟨vk, vn, vs⟩ hl)) (by rfl) (by rw [nums_len, hol, Nat.mul_one]) hnl (nums_one _) hoz (by unfold maxLen; omega) (by omega) hTh.lt _ rfl ?_
              intro g5 cap5 y3 hown5 hgrow5 hat5 hlt5
              have hTh3 := hTh.fix (l := one kk ⟨vk, vn, vs⟩ hl) (n := fl + oz) (c := cap5) (by rw [nums_app]; exact hown5) (by rw [List.length_append, hfl', hol]) hgrow5 hat5
              have hX3 := box_grown hX hgrow5 hgf
              have hB3 := hBw.grown hgrow5 (Nat.le_of_lt hTh.lt) (fun k hk => Nat.le_of_succ_le (hTh.fx.lt k hk).1)
              have hD := hD0 _ hB3 hX3
              refine hK.out _ _ _ (fun _ h => h) hD ?_
              clear hK K
              try simp only [Act.put, List.setIfInBounds_toArray, List.set_cons_zero, List.set_cons_succ]
              refine Lex.step_take (.slice (some ⟨g5, 0, none⟩) (fl + oz) cap5) nc10 rfl (Lex.want_none rfl) (by intro Wx hSw; (try dsimp only at hSw); go_simp; (try (first | (with_reducible rfl) | assumption | rfl))) ?_
              simp only [Act.put, List.setIfInBounds_toArray, List.set_cons_zero, List.set_cons_succ]
              refine NoPanic.normal ?_
              have x2 := hX3.c2
              have HT3 := Lib.hid hTh3
              have HB3 := Lib.hid hB3
              clear hD hD0 hTh hX hBw hown5 hgrow5 hat5 hnl hX3 hTh3 hB3 hfl' hol HC HT HD0
              go_wp2_with (at_builtin; go_must (refine wpList_append_string_lies _ rfl _ _ 47 9 rfl (base + 1) 5 i0 Try.underlying47 Try.underlying9 hi hz0 hz1 hz2 (.slice Ah hl ch) hl (nums (hp d)) rfl (hhl' ▸ HT3.out.hp) vs rfl (by omega) HT3.out.lt ?_))
              intro v6 y6 hown6 hgrow6 hat6
              rw [nums_str, ← nums_app] at hown6
              have hTh6 := HT3.out.heap (l := vs.data.toList) hown6 (by rw [List.length_append, hhl']; simp) hgrow6 hat6
              have hB6 := HB3.out.grown hgrow6 (Nat.le_of_lt HT3.out.lt) (fun k hk => Nat.le_of_succ_le (HT3.out.hp.lt k hk).1)
              have HT6 : Hid (Three y6 base K (mask ((flat ks cells).take (n + 1)) K) (fix 0 ((flat ks cells).take (n + 1))) (hp ((flat ks cells).take (n + 1))) (.slice (some ⟨g5, 0, none⟩) (fl + oz) cap5) v6) := Lib.hid (by
                rw [HTS.out, fix_snoc, hp_snoc, Nat.zero_add, hhl', ← HTS.out]
                exact hTh6)
              clear hown6 hgrow6 hat6 hTh6 HT3 HB3 x2
              go_wp2
              go_roundw
              case rel => exact ⟨t + 1, n + 1, _, _, by omega, by go_num, by go_num, rfl, rfl, Lib.hid (by rw [← HN.out]; omega), HT6.out, hB6⟩
              case measure => simp [intOf]; omega
          · obtain rfl : t = K := by omega
            go_wp2
            go_roundw
            case rel => exact ⟨q + 1, n, _, _, by omega, by go_num, rfl, rfl, rfl, Lib.hid (by rw [Nat.add_mul, Nat.one_mul]; exact HN.out), hTh, hB⟩
            case measure => simp [intOf]; omega
      · obtain rfl : q = 8 := by omega
        obtain ⟨hr, hkl, hans⟩ := HR.out
        have hfl : (flat ks cells).length = 8 * K := by rw [flat_len hr.row, hr.len, hkl]
        rw [List.take_of_length_le (by rw [hfl, ← hN.out]; exact Nat.le_refl _)] at hTh
        have e4 := str_own hTh.mar
        have e5 := str_own hTh.fx
        have e6 := str_own hTh.hp
        have hQ : ((⟨(mask (flat ks cells) K).toArray⟩ : ByteArray) ++ (⟨(fix 0 (flat ks cells)).toArray⟩ : ByteArray)) ++ (⟨(hp (flat ks cells)).toArray⟩ : ByteArray) = ans := by
          rw [← hans]
          apply bytesEq'
          rw [app_list, app_list, printM_list, hkl]
          rfl
        have hSs := FB_size (flat ks cells)
        have hTs := HB_le hr.ok
        have hMs : (⟨(mask (flat ks cells) K).toArray⟩ : ByteArray).size = K := by simp [ByteArray.size, mask_len]
        rw [hfl] at hSs hTs
        have hSs : (⟨(fix 0 (flat ks cells)).toArray⟩ : ByteArray).size ≤ 8 * (8 * K) := hSs
        have hTs : (⟨(hp (flat ks cells)).toArray⟩ : ByteArray).size ≤ 60 * (8 * K) := hTs
        generalize (⟨(mask (flat ks cells) K).toArray⟩ : ByteArray) = MB at hQ hMs e4
        generalize (⟨(fix 0 (flat ks cells)).toArray⟩ : ByteArray) = S at hQ hSs e5
        generalize (⟨(hp (flat ks cells)).toArray⟩ : ByteArray) = T at hQ hTs e6
        have HQ := Lib.hid hQ
        have hms2 : (MB ++ S).size = K + S.size := by rw [ByteArray.size_append, hMs]
        have HB9 := Lib.hid (HB3.out.trans ((hbase ▸ hB : Below w4.heap.size w4 wr).mono HB3.out.size))
        clear hQ hTh hans hr hB
        go_wp2
        go_ret
        exact ⟨by rw [HW.out, ← HQ.out]; rfl, HB9.out⟩
end Go.Proofs.Ytabgbhilbnchnaa.Mi
