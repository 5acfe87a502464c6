/- A group's bytes: the document's, walked. -/
import Derived.Test.YtabgbhilbnchnaaMiD
namespace Go.Proofs.Ytabgbhilbnchnaa.Mi
open Go.RowKit Pac Va Sc Ro Lex Go.Proofs.Ytabgbhilbnchnaa.Or

theorem infoByte : (Try.prog.info? 5).map (fun i => (i.zero, i.size, i.bytes)) = some (some (.int .u8 0), 1, 1) := by kernel_rfl
set_option maxRecDepth 20000 in
set_option maxHeartbeats 16000000 in
theorem refPrint_any (nm : ByteArray) (A1 A2 A3 : Option Addr) (cp cp2 cp3 : Nat) (cs : List C) (g : List Int) (cells : List (List V)) (lo1 lo2 lo3 : Nat) (w : World) (h1 : HasCols w lo1 A1 cs) (h2 : HasI w lo2 A2 g) (h3 : HasVV w lo3 A3 cells) (hl1 : cs.length ≤ 9223372036854775807) (hg : ∀ c ∈ g, 0 ≤ c ∧ c < cs.length) (hg1 : 1 ≤ g.length) (hg8 : g.length ≤ 8) (hr : RightM (kindsL cs g) cells) :
    Calls Try.prog 10 #[.agg #[.string nm, .slice A1 cs.length cp], .slice A2 g.length cp2, .slice A3 8 cp3] w fun e w' => e = .returned (.string (printM (kindsL cs g) cells)) ∧ Below w.heap.size w w' := by
  obtain ⟨i0, hi, hz0, hz1, hz2⟩ := info_parts infoByte
  have hnew := (Below.refl w.heap.size w).alloc (Nat.le_refl _) (.cells #[.string nm, .slice A1 cs.length cp] 24)
  have hx0 := Box2.new w (.string nm) (.slice A1 cs.length cp) 24
  have h1 := h1.below hnew (Nat.le_refl _)
  have h2 := h2.below hnew (Nat.le_refl _)
  have h3 := h3.below hnew (Nat.le_refl _)
  generalize hw1 : w.alloc (.cells #[.string nm, .slice A1 cs.length cp] 24) = w1 at hx0 hnew h1 h2 h3
  have hck := refKinds_any nm A1 A2 cp cp2 cs g lo1 lo2 w1 h1 h2 hl1 (by omega) hg
  obtain ⟨ks, hks⟩ : ∃ ks, kindsL cs g = ks := ⟨_, rfl⟩
  have hkl : ks.length = g.length := by rw [← hks, kinds_len]
  rw [hks] at hck hr ⊢
  clear hks h1 h2 hg
  generalize hA : printM ks cells = ans
  obtain ⟨K, hK⟩ : ∃ m, g.length = m := ⟨_, rfl⟩
  rw [hK] at hkl hg1 hg8 hck ⊢
  unfold KindsPost at hck
  rw [hkl] at hck
  have HR := Lib.hid (And.intro hr (And.intro hkl hA))
  have c0 := hx0.c0
  have c1 := hx0.c1
  clear hr hkl hA hK
  go_enter Try.func10, Try.ntmps10
  go_wp2_with fail
  clear hw1 c0 c1 hx0
  refine hck.mono ?_
  rintro e w2 ⟨AK, ck, rfl, _, hI, hy⟩
  have h3 := h3.below hy (Nat.le_refl _)
  have hB2 := hnew.trans (hy.mono hnew.size)
  clear hck hy hnew
  have eK : (8 * (K : Int) + 7) / 8 = (K : Int) := by omega
  go_wp2_with (at_make; go_must (refine wpList_make_full _ rfl _ _ 47 rfl w2.heap.size 5 i0 (.int .u8 0) 1 Try.underlying47 hi hz0 hz1 _ _ _ _ K rfl rfl (by first | rfl | exact eK) (by first | rfl | exact eK) (by rw [hz2]; omega) (by unfold maxLen; omega) (Nat.le_refl _) ?_))
  intro w3 hown3 hgrow3
  rw [made_mask] at hown3
  have hy : Below w2.heap.size w2 w3 := (Below.refl _ _).grown hgrow3 (Nat.le_refl _) (fun k hk => by cases hk)
  have HA := Lib.hid (And.intro h3 hI)
  have HB2 := Lib.hid hB2
  clear hgrow3 eK h3 hI hB2
  generalize hbase : w2.heap.size = base at hown3 hy ⊢
  go_wp2
  go_loopw [9, 10, 11] (fun x y i wr => ∃ (q : Nat) (S T : ByteArray), q ≤ 8 ∧ i = .int .i64 q ∧ x = .string S ∧ y = .string T ∧ wr.ownsRow base 5 1 (.slice (some ⟨base, 0, none⟩) K K) K (nums (mask ((flat ks cells).take (q * K)) K)) ∧ Hid (S = FB ((flat ks cells).take (q * K)) ∧ T = HB ((flat ks cells).take (q * K))) ∧ Below base w2 wr) (fun _ _ i _ => 8 - (intOf i).toNat)
  case atStart => exact ⟨0, _, _, Nat.zero_le _, rfl, rfl, rfl, by simpa using hown3, Lib.hid ⟨by simp [FB, fix], by simp [HB, hp]⟩, hy⟩
  case round =>
    clear hown3 hy
    obtain ⟨q, S, T, hq, rfl, rfl, rfl, hown, hH, hB⟩ := hrel
    by_cases hlt : q < 8
    · have i1 : (q : Int) < 8 := by omega
      go_wp2
      go_loopw [9, 10, 12] (fun x y i wr => ∃ (t : Nat) (S T : ByteArray), t ≤ K ∧ i = .int .i64 t ∧ x = .string S ∧ y = .string T ∧ wr.ownsRow base 5 1 (.slice (some ⟨base, 0, none⟩) K K) K (nums (mask ((flat ks cells).take (q * K + t)) K)) ∧ Hid (S = FB ((flat ks cells).take (q * K + t)) ∧ T = HB ((flat ks cells).take (q * K + t))) ∧ Below base w2 wr) (fun _ _ i _ => K - (intOf i).toNat)
      case atStart => exact ⟨0, S, T, Nat.zero_le _, rfl, rfl, rfl, hown, hH, hB⟩
      case round =>
        clear hown hH hB
        obtain ⟨t, S, T, ht, rfl, rfl, rfl, hown, hH, hB⟩ := hrel
        by_cases htl : t < K
        · have j1 : (t : Int) < (K : Int) := by omega
          obtain ⟨hr, hkl, _⟩ := HR.out
          have hl8 := hr.len
          have hgr : cells[q]? = some (cells[q]'(by omega)) := List.getElem?_eq_getElem _
          have hrw := hr.row _ (List.mem_of_getElem? hgr)
          generalize (cells[q]'(by omega)) = r at hgr hrw
          have hgv : r[t]? = some (r[t]'(by omega)) := List.getElem?_eq_getElem _
          generalize (r[t]'(by omega)) = v at hgv
          have hgk : ks[t]? = some (ks[t]'(by omega)) := List.getElem?_eq_getElem _
          generalize (ks[t]'(by omega)) = kk at hgk
          have hfl := flat_at hr.row hgr hgv hgk
          rw [hkl] at hfl hrw
          obtain ⟨n, hn⟩ : ∃ n, q * K + t = n := ⟨_, rfl⟩
          rw [hn] at hown hH hfl
          have hok := hr.ok _ (List.mem_of_getElem? hfl)
          have hfew := hr.few
          rw [hkl] at hfew
          have hnlt := (List.getElem?_eq_some_iff.1 hfl).1
          have hts := take_snoc hfl
          have hdl : ((flat ks cells).take n).length = n := by rw [List.length_take]; omega
          have hdk : ∀ p ∈ (flat ks cells).take n, CellOk p := fun p hp => hr.ok p (List.mem_of_mem_take hp)
          have hB0 : Below w2.heap.size w2 wr := hbase ▸ hB
          obtain ⟨b1, o1, A5, c5, rfl, _, _, d1, hI1, _⟩ := (HA.out.1.below hB0 (Nat.le_refl _)).at hgr
          obtain ⟨b2, o2, rfl, _, _, e0, e1, e2⟩ := HasV.at hI1 hgv
          obtain ⟨b3, o3, rfl, _, hlb3, f1⟩ := HasI.at HA.out.2 hgk
          have f1 := cell_below hB0 f1
          rw [hbase] at hlb3
          rw [hrw] at d1
          have eN : (q : Int) * (K : Int) + (t : Int) = (n : Int) := by rw [← hn]; push_cast; rfl
          obtain ⟨vk, vn, vs⟩ := v
          simp only at e0 e1 e2
          have i0' : (0 : Int) ≤ (q : Int) := by omega
          have j0 : (0 : Int) ≤ (t : Int) := by omega
          have hma := nums_at (mask_at (d := (flat ks cells).take n) (n := n) (M := K) (by omega))
          have hp8 := partAt_lt hdl
          have h28 : (2 : Nat) ^ (n % 8) ≤ 2 ^ 7 := Nat.pow_le_pow_right (by decide) (by omega)
          rw [ofNat_toNat _ (by omega)] at hma
          generalize hpp : partAt ((flat ks cells).take n) n = pb at hma hp8
          have hownW := hown.alloc (.cells #[.int .i64 vk, .int .i64 vn, .string vs] 36)
          have s1 := hownW.cellAt (n / 8) (by omega)
          have s2 := hownW.frozenAt (n / 8)
          rw [hma] at s1
          have n1 : (n : Int) / 8 < (K : Int) := by omega
          have n0 : (0 : Int) ≤ (n : Int) / 8 := by omega
          have hSs := FB_size ((flat ks cells).take n)
          have hTs := HB_le hdk
          rw [← hH.out.1, hdl] at hSs
          rw [← hH.out.2, hdl] at hTs
          have hbs : base < wr.heap.size := by
            rcases hown.2 with ⟨e, _⟩ | ⟨g0, _, _, e, _, hg0, _⟩
            · cases e
            · injection e with e
              injection e with e
              injection e with e
              subst e
              exact (Array.getElem?_eq_some_iff.1 hg0).1
          have hB1 := hB.alloc (by omega) (.cells #[.int .i64 vk, .int .i64 vn, .string vs] 36)
          have hx := Sc.Box3.new wr (.int .i64 vk) (.int .i64 vn) (.string vs) 36
          by_cases hvk : vk = 0
          · subst hvk
            have hrs := right_s hok.r (show (0 : Int) ≠ 3 by decide)
            have evs : vs = ⟨#[]⟩ := hrs.1
            have evn : vn = 0 := hrs.2.1 rfl
            subst evs evn
            have f2 : (wr.alloc (.cells #[.int .i64 0, .int .i64 0, .string ⟨#[]⟩] 36)).cell? ⟨b3, o3 + t, none⟩ = some (.int .i64 kk) := cell_below ((Below.refl wr.heap.size wr).alloc (Nat.le_refl _) _) f1
            have hmz := mask_zero (d := (flat ks cells).take n) (k := kk) (v := ⟨0, 0, ⟨#[]⟩⟩) (M := K) rfl
            rw [← hts] at hmz
            rw [← hmz] at hownW
            have HST := Lib.hid (And.intro hownW hB1)
            have HX := Lib.hid hx
            clear hownW hB1 hx hmz s1 s2 n1 n0 hma hp8 h28 hI1 hB0 hr hkl hown hB
            rcases hok.k with hk1 | hk2 | hk3
            · simp only at hk1
              subst hk1
              obtain ⟨u, eu, hu, hu2⟩ := numW (0 : Int) hok.ok.n0 hok.ok.n1
              have HS' : Hid (∀ X : ByteArray, X.data.toList = S.data.toList ++ (be 8 u).take 8 → X = FB ((flat ks cells).take (n + 1))) := Lib.hid (fun X hX => by
                rw [hts, ← FB_snoc _ _ _ (b := ⟨(be 8 u).toArray⟩) (by show (be 8 u) = one 1 _ _; unfold one; rw [if_pos rfl]; show be 8 u = be 8 ((0 : Int) % 18446744073709551616).toNat; rw [hu2]), ← hH.out.1]
                apply bytesEq'
                rw [hX, app_list, List.take_of_length_le (by rw [be_len]; exact Nat.le_refl _)])
              have HT' : Hid (T = HB ((flat ks cells).take (n + 1))) := Lib.hid (by rw [hts, ← HB_snoc, ← hH.out.2, (right_s hok.r (show (0 : Int) ≠ 3 by decide)).1]; exact (app_empty T).symm)
              clear hu2 hok hts hH
              go_wp2
              generalize hW : wr.alloc (.cells #[.int .i64 0, .int .i64 0, .string ⟨#[]⟩] 36) = W at HST HX f2 ⊢
              clear f2
              go_loopw [9, 15] (fun x i wr2 => ∃ (p : Nat) (X : ByteArray), p ≤ 8 ∧ i = .int .i64 (7 - (p : Int)) ∧ x = .string X ∧ Hid (X.data.toList = S.data.toList ++ (be 8 u).take p) ∧ X.size = S.size + p ∧ Below W.heap.size W wr2) (fun _ i _ => (intOf i + 1).toNat)
              case atStart => exact ⟨0, S, by omega, rfl, rfl, Lib.hid (by simp), by omega, Below.refl _ _⟩
              case round =>
                obtain ⟨p, X, hp, rfl, rfl, hX, hXs, hBW⟩ := hrel
                have g1 := (HX.out.below hBW HX.out.lt).c1
                by_cases hp8' : p < 8
                · obtain ⟨d, ed, hd⟩ := be_step u p hu hp8'
                  have e3 := oneByte wr d
                  have HN := Lib.hid (hBW.alloc hBW.size (.cells #[.int .u8 (d.toNat : Int)] 5))
                  have HX2 : Hid ((X ++ ⟨#[d]⟩ : ByteArray).data.toList = S.data.toList ++ (be 8 u).take (p + 1) ∧ (X ++ ⟨#[d]⟩ : ByteArray).size = S.size + (p + 1)) := Lib.hid ⟨by rw [app_list, hX.out, List.append_assoc, ← hd], by rw [ByteArray.size_append, hXs]; show S.size + p + 1 = _; omega⟩
                  clear hd
                  go_wp2
                  go_roundw
                  case rel => exact ⟨p + 1, _, by omega, by go_num, rfl, Lib.hid HX2.out.1, HX2.out.2, HN.out⟩
                  case measure => simp [intOf]; omega
                · obtain rfl : p = 8 := by omega
                  have HR' := Lib.hid (HS'.out X hX.out)
                  have HO := Lib.hid (And.intro (Li.own_below HST.out.1 hBW (Nat.le_refl _)) (HST.out.2.trans (hBW.mono (hbase ▸ HST.out.2.size))))
                  clear g1
                  go_wp2
                  go_roundw
                  case rel =>
                    refine ⟨t + 1, _, _, by omega, by go_num, rfl, rfl, ?_, ?_, ?_⟩
                    · rw [show q * K + (t + 1) = n + 1 by omega]
                      exact HO.out.1
                    · exact Lib.hid ⟨by rw [show q * K + (t + 1) = n + 1 by omega]; exact HR'.out, by rw [show q * K + (t + 1) = n + 1 by omega]; exact HT'.out⟩
                    · exact HO.out.2
                  case measure => simp [intOf]; omega
            · simp only at hk2
              subst hk2
              have HS' : Hid (S ++ ⟨#[0]⟩ = FB ((flat ks cells).take (n + 1))) := Lib.hid (by rw [hts, ← FB_snoc _ _ _ (b := ⟨#[0]⟩) (by show [0] = one 2 _ _; unfold one; rw [if_neg (by decide), if_pos rfl]; rfl), ← hH.out.1])
              have HT' : Hid (T = HB ((flat ks cells).take (n + 1))) := Lib.hid (by rw [hts, ← HB_snoc, ← hH.out.2]; exact (app_empty T).symm)
              have e3 := oneByte (wr.alloc (.cells #[.int .i64 0, .int .i64 0, .string ⟨#[]⟩] 36)) 0
              rw [show (wr.alloc (.cells #[.int .i64 0, .int .i64 0, .string ⟨#[]⟩] 36)).heap.size = wr.heap.size + 1 by simp] at e3
              have e3 : (convert 47 9 (.slice (some ⟨wr.heap.size + 1, 0, none⟩) 1 1)).run Try.prog ((wr.alloc (.cells #[.int .i64 0, .int .i64 0, .string ⟨#[]⟩] 36)).alloc (.cells #[.int .u8 0] 5)) = .ok (.string ⟨#[0]⟩) ((wr.alloc (.cells #[.int .i64 0, .int .i64 0, .string ⟨#[]⟩] 36)).alloc (.cells #[.int .u8 0] 5)) := e3
              have HST := Lib.hid (And.intro (HST.out.1.alloc (.cells #[.int .u8 0] 5)) (HST.out.2.alloc (hbase ▸ HST.out.2.size) (.cells #[.int .u8 0] 5)))
              clear hok hts hH
              go_wp2
              go_roundw
              case rel =>
                refine ⟨t + 1, _, _, by omega, by go_num, rfl, rfl, ?_, ?_, ?_⟩
                · rw [show q * K + (t + 1) = n + 1 by omega]
                  exact HST.out.1
                · exact Lib.hid ⟨by rw [show q * K + (t + 1) = n + 1 by omega]; exact HS'.out, by rw [show q * K + (t + 1) = n + 1 by omega]; exact HT'.out⟩
                · exact HST.out.2
              case measure => simp [intOf]; omega
            · simp only at hk3
              subst hk3
              have HS' : Hid (S ++ ⟨#[0, 0, 0]⟩ = FB ((flat ks cells).take (n + 1))) := Lib.hid (by rw [hts, ← FB_snoc _ _ _ (b := ⟨#[0, 0, 0]⟩) (by show [0, 0, 0] = one 3 _ _; unfold one; rw [if_neg (by decide), if_neg (by decide)]; have h0 : (⟨#[]⟩ : ByteArray).size = 0 := rfl; simp only [h0, if_true]; rfl), ← hH.out.1])
              have HT' : Hid (T ++ ⟨#[]⟩ = HB ((flat ks cells).take (n + 1))) := Lib.hid (by rw [hts, ← HB_snoc, ← hH.out.2])
              have e3 := threeBytes (wr.alloc (.cells #[.int .i64 0, .int .i64 0, .string ⟨#[]⟩] 36)) 0 0 0
              rw [show (wr.alloc (.cells #[.int .i64 0, .int .i64 0, .string ⟨#[]⟩] 36)).heap.size = wr.heap.size + 1 by simp] at e3
              have e3 : (convert 47 9 (.slice (some ⟨wr.heap.size + 1, 0, none⟩) 3 3)).run Try.prog ((wr.alloc (.cells #[.int .i64 0, .int .i64 0, .string ⟨#[]⟩] 36)).alloc (.cells #[.int .u8 0, .int .u8 0, .int .u8 0] 5)) = .ok (.string ⟨#[0, 0, 0]⟩) ((wr.alloc (.cells #[.int .i64 0, .int .i64 0, .string ⟨#[]⟩] 36)).alloc (.cells #[.int .u8 0, .int .u8 0, .int .u8 0] 5)) := e3
              have HST := Lib.hid (And.intro (HST.out.1.alloc (.cells #[.int .u8 0, .int .u8 0, .int .u8 0] 5)) (HST.out.2.alloc (hbase ▸ HST.out.2.size) (.cells #[.int .u8 0, .int .u8 0, .int .u8 0] 5)))
              clear hok hts hH
              go_wp2
              go_roundw
              case rel =>
                refine ⟨t + 1, _, _, by omega, by go_num, rfl, rfl, ?_, ?_, ?_⟩
                · rw [show q * K + (t + 1) = n + 1 by omega]
                  exact HST.out.1
                · exact Lib.hid ⟨by rw [show q * K + (t + 1) = n + 1 by omega]; exact HS'.out, by rw [show q * K + (t + 1) = n + 1 by omega]; exact HT'.out⟩
                · exact HST.out.2
              case measure => simp [intOf]; omega
          · have hkk : vk = kk := by
              rcases hok.z with h | h
              · exact absurd h hvk
              · exact h
            subst hkk
            obtain ⟨z, hz⟩ : ∃ z : UInt8, z = UInt8.ofNat (pb + 2 ^ (n % 8)) := ⟨_, rfl⟩
            have ez0 : bits .or .u8 (pb : Int) ((2 : Int) ^ (n % 8) % 256) = (z.toNat : Int) := by
              rw [hz, ← or_bit hp8 (by omega)]
              congr 1
              have : ((2 ^ (n % 8) : Nat) : Int) = (2 : Int) ^ (n % 8) := by push_cast; rfl
              rw [← this]
              omega
            have hst := hownW.stored (n / 8) (.int .u8 (z.toNat : Int))
            rw [nums_set] at hst
            have hms := mask_snoc (d := (flat ks cells).take n) (k := vk) (v := ⟨vk, vn, vs⟩) (n := n) (M := K) hdl (by omega) hvk
            rw [← hts, hpp, ← hz] at hms
            rw [← hms] at hst
            have hB2' := hB1.grown hst.2 (hbase ▸ hB1.size) (fun k hk => (hownW.lt k hk).1)
            have f2 : ((wr.alloc (.cells #[.int .i64 vk, .int .i64 vn, .string vs] 36)).setCell ⟨base, n / 8, none⟩ (.int .u8 (z.toNat : Int))).cell? ⟨b3, o3 + t, none⟩ = some (.int .i64 vk) := hst.2.cell (cell_below ((Below.refl wr.heap.size wr).alloc (Nat.le_refl _) _) f1) (fun e => by injection e with e; have e : b3 = base := e; omega)
            have hx2 : Sc.Box3 ((wr.alloc (.cells #[.int .i64 vk, .int .i64 vn, .string vs] 36)).setCell ⟨base, n / 8, none⟩ (.int .u8 (z.toNat : Int))) wr.heap.size (.int .i64 vk) (.int .i64 vn) (.string vs) := hx.setOther (by show base ≠ wr.heap.size; omega) _
            have g0 := hx2.c0
            have g1 := hx2.c1
            have g2 := hx2.c2
            have HST := Lib.hid (And.intro hst.1 hB2')
            have HX := Lib.hid hx2
            clear hst hB2' hownW hB1 hx hms hma hp8 h28 hI1 hB0 hr hkl hown hB hx2 hz hbs hlb3
            have hvk' : (vk != 0) = true := bne_iff_ne.2 hvk
            rcases hok.k with hk1 | hk2 | hk3
            · simp only at hk1
              subst hk1
              obtain ⟨u, eu, hu, hu2⟩ := numW vn hok.ok.n0 hok.ok.n1
              have HS' : Hid (∀ X : ByteArray, X.data.toList = S.data.toList ++ (be 8 u).take 8 → X = FB ((flat ks cells).take (n + 1))) := Lib.hid (fun X hX => by
                rw [hts, ← FB_snoc _ _ _ (b := ⟨(be 8 u).toArray⟩) (by show (be 8 u) = one 1 _ _; unfold one; rw [if_pos rfl]; show be 8 u = be 8 (vn % 18446744073709551616).toNat; rw [hu2]), ← hH.out.1]
                apply bytesEq'
                rw [hX, app_list, List.take_of_length_le (by rw [be_len]; exact Nat.le_refl _)])
              have HT' : Hid (T = HB ((flat ks cells).take (n + 1))) := Lib.hid (by rw [hts, ← HB_snoc, ← hH.out.2, (right_s hok.r (show (1 : Int) ≠ 3 by decide)).1]; exact (app_empty T).symm)
              clear hu2 hok hts hH
              go_wp2
              generalize hW : (wr.alloc (.cells #[.int .i64 1, .int .i64 vn, .string vs] 36)).setCell ⟨base, n / 8, none⟩ (.int .u8 (z.toNat : Int)) = W at HST HX f2 ⊢
              clear f2
              go_loopw [9, 15] (fun x i wr2 => ∃ (p : Nat) (X : ByteArray), p ≤ 8 ∧ i = .int .i64 (7 - (p : Int)) ∧ x = .string X ∧ Hid (X.data.toList = S.data.toList ++ (be 8 u).take p) ∧ X.size = S.size + p ∧ Below W.heap.size W wr2) (fun _ i _ => (intOf i + 1).toNat)
              case atStart => exact ⟨0, S, by omega, rfl, rfl, Lib.hid (by simp), by omega, Below.refl _ _⟩
              case round =>
                obtain ⟨p, X, hp, rfl, rfl, hX, hXs, hBW⟩ := hrel
                have g1 := (HX.out.below hBW HX.out.lt).c1
                by_cases hp8' : p < 8
                · obtain ⟨d, ed, hd⟩ := be_step u p hu hp8'
                  have e3 := oneByte wr d
                  have HN := Lib.hid (hBW.alloc hBW.size (.cells #[.int .u8 (d.toNat : Int)] 5))
                  have HX2 : Hid ((X ++ ⟨#[d]⟩ : ByteArray).data.toList = S.data.toList ++ (be 8 u).take (p + 1) ∧ (X ++ ⟨#[d]⟩ : ByteArray).size = S.size + (p + 1)) := Lib.hid ⟨by rw [app_list, hX.out, List.append_assoc, ← hd], by rw [ByteArray.size_append, hXs]; show S.size + p + 1 = _; omega⟩
                  clear hd
                  go_wp2
                  go_roundw
                  case rel => exact ⟨p + 1, _, by omega, by go_num, rfl, Lib.hid HX2.out.1, HX2.out.2, HN.out⟩
                  case measure => simp [intOf]; omega
                · obtain rfl : p = 8 := by omega
                  have HR' := Lib.hid (HS'.out X hX.out)
                  have HO := Lib.hid (And.intro (Li.own_below HST.out.1 hBW (Nat.le_refl _)) (HST.out.2.trans (hBW.mono (hbase ▸ HST.out.2.size))))
                  clear g1
                  go_wp2
                  go_roundw
                  case rel =>
                    refine ⟨t + 1, _, _, by omega, by go_num, rfl, rfl, ?_, ?_, ?_⟩
                    · rw [show q * K + (t + 1) = n + 1 by omega]
                      exact HO.out.1
                    · exact Lib.hid ⟨by rw [show q * K + (t + 1) = n + 1 by omega]; exact HR'.out, by rw [show q * K + (t + 1) = n + 1 by omega]; exact HT'.out⟩
                    · exact HO.out.2
                  case measure => simp [intOf]; omega
            · simp only at hk2
              subst hk2
              obtain ⟨d, hd⟩ : ∃ d : UInt8, d = UInt8.ofNat (vn % 256).toNat := ⟨_, rfl⟩
              have ed : vn % 256 = (d.toNat : Int) := by rw [hd, ofNat_toNat _ (by omega)]; omega
              have HS' : Hid (S ++ ⟨#[d]⟩ = FB ((flat ks cells).take (n + 1))) := Lib.hid (by rw [hts, ← FB_snoc _ _ _ (b := ⟨#[d]⟩) (by show [d] = one 2 _ _; unfold one; rw [if_neg (by decide), if_pos rfl]; show [d] = [UInt8.ofNat (vn % 256).toNat]; rw [hd]), ← hH.out.1])
              have HT' : Hid (T = HB ((flat ks cells).take (n + 1))) := Lib.hid (by rw [hts, ← HB_snoc, ← hH.out.2, (right_s hok.r (show (2 : Int) ≠ 3 by decide)).1]; exact (app_empty T).symm)
              have e3 := oneByte ((wr.alloc (.cells #[.int .i64 2, .int .i64 vn, .string vs] 36)).setCell ⟨base, n / 8, none⟩ (.int .u8 (z.toNat : Int))) d
              rw [show ((wr.alloc (.cells #[.int .i64 2, .int .i64 vn, .string vs] 36)).setCell ⟨base, n / 8, none⟩ (.int .u8 (z.toNat : Int))).heap.size = wr.heap.size + 1 by simp] at e3
              have HST := Lib.hid (And.intro (HST.out.1.alloc (.cells #[.int .u8 (d.toNat : Int)] 5)) (HST.out.2.alloc (hbase ▸ HST.out.2.size) (.cells #[.int .u8 (d.toNat : Int)] 5)))
              clear hd hok hts hH
              go_wp2
              go_roundw
              case rel =>
                refine ⟨t + 1, _, _, by omega, by go_num, rfl, rfl, ?_, ?_, ?_⟩
                · rw [show q * K + (t + 1) = n + 1 by omega]
                  exact HST.out.1
                · exact Lib.hid ⟨by rw [show q * K + (t + 1) = n + 1 by omega]; exact HS'.out, by rw [show q * K + (t + 1) = n + 1 by omega]; exact HT'.out⟩
                · exact HST.out.2
              case measure => simp [intOf]; omega
            · simp only at hk3
              by_cases hvs : vs.size = 0
              · have evs := empty_of hvs
                subst evs
                subst hk3
                have HS' : Hid (S ++ ⟨#[0, 0, 0]⟩ = FB ((flat ks cells).take (n + 1))) := Lib.hid (by rw [hts, ← FB_snoc _ _ _ (b := ⟨#[0, 0, 0]⟩) (by show [0, 0, 0] = one 3 _ _; unfold one; rw [if_neg (by decide), if_neg (by decide)]; have h0 : (⟨#[]⟩ : ByteArray).size = 0 := rfl; simp only [h0, if_true]; rfl), ← hH.out.1])
                have HT' : Hid (T ++ ⟨#[]⟩ = HB ((flat ks cells).take (n + 1))) := Lib.hid (by rw [hts, ← HB_snoc, ← hH.out.2])
                have e3 := threeBytes ((wr.alloc (.cells #[.int .i64 3, .int .i64 vn, .string ⟨#[]⟩] 36)).setCell ⟨base, n / 8, none⟩ (.int .u8 (z.toNat : Int))) 0 0 0
                rw [show ((wr.alloc (.cells #[.int .i64 3, .int .i64 vn, .string ⟨#[]⟩] 36)).setCell ⟨base, n / 8, none⟩ (.int .u8 (z.toNat : Int))).heap.size = wr.heap.size + 1 by simp] at e3
                have e3 : (convert 47 9 (.slice (some ⟨wr.heap.size + 1, 0, none⟩) 3 3)).run Try.prog (((wr.alloc (.cells #[.int .i64 3, .int .i64 vn, .string ⟨#[]⟩] 36)).setCell ⟨base, n / 8, none⟩ (.int .u8 (z.toNat : Int))).alloc (.cells #[.int .u8 0, .int .u8 0, .int .u8 0] 5)) = .ok (.string ⟨#[0, 0, 0]⟩) (((wr.alloc (.cells #[.int .i64 3, .int .i64 vn, .string ⟨#[]⟩] 36)).setCell ⟨base, n / 8, none⟩ (.int .u8 (z.toNat : Int))).alloc (.cells #[.int .u8 0, .int .u8 0, .int .u8 0] 5)) := e3
                have HST := Lib.hid (And.intro (HST.out.1.alloc (.cells #[.int .u8 0, .int .u8 0, .int .u8 0] 5)) (HST.out.2.alloc (hbase ▸ HST.out.2.size) (.cells #[.int .u8 0, .int .u8 0, .int .u8 0] 5)))
                clear hok hts hH
                go_wp2
                go_roundw
                case rel =>
                  refine ⟨t + 1, _, _, by omega, by go_num, rfl, rfl, ?_, ?_, ?_⟩
                  · rw [show q * K + (t + 1) = n + 1 by omega]
                    exact HST.out.1
                  · exact Lib.hid ⟨by rw [show q * K + (t + 1) = n + 1 by omega]; exact HS'.out, by rw [show q * K + (t + 1) = n + 1 by omega]; exact HT'.out⟩
                  · exact HST.out.2
                case measure => simp [intOf]; omega
              · skip
                subst hk3
                have hsz := right_sz hok.r
                simp only at hsz
                obtain ⟨x, hx⟩ : ∃ x : UInt8, x = UInt8.ofNat (T.size / 256) := ⟨_, rfl⟩
                obtain ⟨y, hy⟩ : ∃ y : UInt8, y = UInt8.ofNat T.size := ⟨_, rfl⟩
                obtain ⟨zz, hz⟩ : ∃ z : UInt8, z = UInt8.ofNat vs.size := ⟨_, rfl⟩
                have ex : (x.toNat : Int) = (T.size : Int) / 256 := by rw [hx, ofNat_toNat _ (by omega)]; omega
                have ey : (T.size : Int) % 256 = (y.toNat : Int) := by rw [hy]; simp
                have ezz : (zz.toNat : Int) = (vs.size : Int) := by rw [hz, ofNat_toNat _ (by omega)]
                have HS' : Hid (S ++ ⟨#[x, y, zz]⟩ = FB ((flat ks cells).take (n + 1))) := Lib.hid (by
                  rw [hts, ← FB_snoc _ _ _ (b := ⟨#[x, y, zz]⟩) (by
                    show [x, y, zz] = one 3 _ _
                    unfold one
                    rw [if_neg (by decide), if_neg (by decide), if_neg (by simpa using hvs), ← hH.out.2, hx, hy, hz]), ← hH.out.1])
                have HT' : Hid (T ++ vs = HB ((flat ks cells).take (n + 1))) := Lib.hid (by rw [hts, ← HB_snoc, ← hH.out.2])
                have hv0 : vs.toList.isEmpty = false := by
                  cases e : vs.toList.isEmpty with
                  | false => rfl
                  | true =>
                    refine absurd ?_ hvs
                    have := List.isEmpty_iff.1 e
                    rw [ByteArray.toList_eq] at this
                    have h1 : vs.data.toList.length = vs.size := by simp
                    rw [← h1, this]
                    rfl
                have e3 := threeBytes ((wr.alloc (.cells #[.int .i64 3, .int .i64 vn, .string vs] 36)).setCell ⟨base, n / 8, none⟩ (.int .u8 (z.toNat : Int))) x y zz
                rw [show ((wr.alloc (.cells #[.int .i64 3, .int .i64 vn, .string vs] 36)).setCell ⟨base, n / 8, none⟩ (.int .u8 (z.toNat : Int))).heap.size = wr.heap.size + 1 by simp, ex, ezz] at e3
                have HST := Lib.hid (And.intro (HST.out.1.alloc (.cells #[.int .u8 ((T.size : Int) / 256), .int .u8 (y.toNat : Int), .int .u8 (vs.size : Int)] 5)) (HST.out.2.alloc (hbase ▸ HST.out.2.size) (.cells #[.int .u8 ((T.size : Int) / 256), .int .u8 (y.toNat : Int), .int .u8 (vs.size : Int)] 5)))
                clear hx hy hz ex ezz
                clear hok hts hH
                go_wp2
                go_roundw
                case rel =>
                  refine ⟨t + 1, _, _, by omega, by go_num, rfl, rfl, ?_, ?_, ?_⟩
                  · rw [show q * K + (t + 1) = n + 1 by omega]
                    exact HST.out.1
                  · exact Lib.hid ⟨by rw [show q * K + (t + 1) = n + 1 by omega]; exact HS'.out, by rw [show q * K + (t + 1) = n + 1 by omega]; exact HT'.out⟩
                  · exact HST.out.2
                case measure => simp [intOf]; omega
        · obtain rfl : t = K := by omega
          go_wp2
          go_roundw
          case rel =>
            refine ⟨q + 1, S, T, by omega, by go_num, rfl, rfl, ?_, ?_, hB⟩
            · rw [Nat.succ_mul]
              exact hown
            · rw [Nat.succ_mul]
              exact hH
          case measure => simp [intOf]; omega
    · obtain rfl : q = 8 := by omega
      obtain ⟨hr, hkl, hans⟩ := HR.out
      have hfl : (flat ks cells).length = 8 * K := by rw [flat_len hr.row, hr.len, hkl]
      rw [List.take_of_length_le (by omega)] at hown hH
      have hml := mask_len (flat ks cells) K
      have e4 := str_of_own hown (fun e => by rw [e] at hml; simp at hml; omega)
      have hQ : ((⟨(mask (flat ks cells) K).toArray⟩ : ByteArray) ++ S) ++ T = ans := by
        rw [← hans, hH.out.1, hH.out.2]
        apply bytesEq'
        rw [app_list, app_list, printM_list, hkl]
        rfl
      have hSs := FB_size (flat ks cells)
      have hTs := HB_le hr.ok
      have hMs : (⟨(mask (flat ks cells) K).toArray⟩ : ByteArray).size = K := by simp [ByteArray.size, hml]
      rw [← hH.out.1, hfl] at hSs
      rw [← hH.out.2, hfl] at hTs
      generalize (⟨(mask (flat ks cells) K).toArray⟩ : ByteArray) = MB at hQ hMs e4
      have HQ := Lib.hid hQ
      have hms2 : (MB ++ S).size = K + S.size := by rw [ByteArray.size_append, hMs]
      have HB9 := Lib.hid (HB2.out.trans ((hbase ▸ hB : Below w2.heap.size w2 wr).mono HB2.out.size))
      clear hQ hown hH hans hr hB
      go_wp2
      go_ret
      exact ⟨by first | rfl | (rw [HQ.out]; rfl), HB9.out⟩
end Go.Proofs.Ytabgbhilbnchnaa.Mi
