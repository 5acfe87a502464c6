/- A group's cells out of any bytes: the program's, walked. -/
import Derived.Test.YtabgbhilbnchnaaMiW
namespace Go.Proofs.Ytabgbhilbnchnaa.Mi
open Go.RowKit Pac Va Sc Ro Lex Go.Proofs.Ytabgbhilbnchnaa.Or

theorem wide_le : ∀ ks : List Int, wide ks ≤ 8 * ks.length
  | [] => Nat.le_refl _
  | k :: ks => by
    have h := wide_le ks
    show oneW k + wide ks ≤ 8 * (ks.length + 1)
    have : oneW k ≤ 8 := by unfold oneW; split <;> (try split) <;> omega
    omega
/-- Reading, so far. -/
structure Rd (ks : List Int) (s : ByteArray) (K base n : Nat) (f h : ByteArray) (os : List (Li.OG V)) (w : World) : Prop where
  row : w.ownsRow base 34 1 (.slice (some ⟨base, 0, none⟩) 8 8) 8 (os.map Li.OG.v)
  free : Li.FreeG cellsV 3 36 w base os
  len : os.length = 8
  k : ∀ r ∈ os.map Li.OG.l, r.length = K
  ok : ∀ r ∈ os.map Li.OG.l, ∀ v ∈ r, v.Ok
  upto : Upto ks s (os.map Li.OG.l) n f h
  blank : Blank ks (os.map Li.OG.l) n
  fs : f.size = wide ((kindsA ks).drop n)
  hs : h.size ≤ 1000000
section
variable {ks : List Int} {s f h : ByteArray} {K base n q t b c B : Nat} {os : List (Li.OG V)} {w w' : World} {l : List V} {k : Int}
theorem Rd.below (r : Rd ks s K base n f h os w) (hb : Below B w w') (hB : w.heap.size ≤ B) : Rd ks s K base n f h os w' := ⟨Li.own_below r.row hb hB, r.free.below hb hB, r.len, r.k, r.ok, r.upto, r.blank, r.fs, r.hs⟩
theorem Rd.lt (r : Rd ks s K base n f h os w) : base < w.heap.size := (r.row.lt base rfl).2
theorem Rd.lrow (r : Rd ks s K base n f h os w) (hq : os[q]? = some ⟨b, c, l⟩) : l.length = K ∧ (os.map Li.OG.l)[q]? = some l := by
  have h1 : (os.map Li.OG.l)[q]? = some l := by rw [List.getElem?_map, hq]; rfl
  exact ⟨r.k l (List.mem_of_getElem? h1), h1⟩
theorem Rd.wide (r : Rd ks s K base n f h os w) (hkl : ks.length = K) (hq : q < 8) (hk : ks[t]? = some k) (hn : q * K + t = n) : f.size = oneW k + wide ((kindsA ks).drop (n + 1)) := by
  have h1 := kindsA_at hq hk
  rw [hkl, hn] at h1
  rw [r.fs, drop_cons h1]
  rfl
theorem Rd.cell (r : Rd ks s K base n f h os w) (hq : os[q]? = some ⟨b, c, l⟩) {v : V} (ht : l[t]? = some v) : w.cell? ⟨b, t * 3, none⟩ = some (.int .i64 v.k) ∧ w.cell? ⟨b, t * 3 + 1, none⟩ = some (.int .i64 v.n) ∧ w.cell? ⟨b, t * 3 + 2, none⟩ = some (.string v.s) ∧ ∀ i, w.frozen? ⟨b, i, none⟩ = false := by
  have hx := r.free.own _ (List.mem_of_getElem? hq)
  have hl := (List.getElem?_eq_some_iff.1 ht).1
  have hlen : (Li.cellsL cellsV l).length = l.length * 3 := Li.cellsL_len cellsV_len l
  have e : ∀ i < 3, ∀ u, (cellsV v)[i]? = some u → w.cell? ⟨b, t * 3 + i, none⟩ = some u := fun i hi u hu => by
    rw [hx.cellAt (t * 3 + i) (by show t * 3 + i < l.length * 3; omega)]
    exact Li.cellsL_at cellsV_len l t v ht i u hu
  exact ⟨e 0 (by decide) _ rfl, e 1 (by decide) _ rfl, e 2 (by decide) _ rfl, fun i => hx.frozenAt i⟩
theorem Rd.skip (r : Rd ks s K base n f h os w) (hkl : ks.length = K) (hk8 : K ≤ 8) (hq : os[q]? = some ⟨b, c, l⟩) (hk : ks[t]? = some k) (hn : q * K + t = n) (hb : bitA s n = false) : Rd ks s K base (n + 1) (f.extract (oneW k) f.size) h os w := by
  obtain ⟨h1, h2⟩ := r.lrow hq
  have hq8 : q < 8 := by have := (List.getElem?_eq_some_iff.1 hq).1; have := r.len; omega
  have hu := upto_skip r.upto r.blank (by rw [hkl]; exact r.k) (by rw [List.length_map]; exact r.len) (by omega) h2 hk (by rw [hkl]; exact hn) hb
  have hw := r.wide hkl hq8 hk hn
  exact ⟨r.row, r.free, r.len, r.k, r.ok, hu.1, hu.2, by rw [ByteArray.size_extract]; omega, r.hs⟩
theorem Rd.zero (r : Rd ks s K base n f h os w) (hkl : ks.length = K) (hq : os[q]? = some ⟨b, c, l⟩) (hk : ks[t]? = some k) (hn : q * K + t = n) : l[t]? = some vZ := by
  obtain ⟨h1, h2⟩ := r.lrow hq
  have ht := (List.getElem?_eq_some_iff.1 hk).1
  have hl : l[t]? = some (l[t]'(by omega)) := List.getElem?_eq_getElem _
  have hf := flat_at (by rw [hkl]; exact r.k) h2 hl hk
  rw [hkl, hn] at hf
  have := r.blank n _ (Nat.le_refl _) hf
  rw [hl]
  exact congrArg some this
theorem Rd.read (r : Rd ks s K base n f h os w) (hkl : ks.length = K) (hk8 : K ≤ 8) (hq : os[q]? = some ⟨b, c, l⟩) (hk : ks[t]? = some k) (hkk : k = 1 ∨ k = 2 ∨ k = 3) (hn : q * K + t = n) (hb : bitA s n = true) :
    Rd ks s K base (n + 1) (f.extract (oneW k) f.size) (h.extract (readC k f h).s.size h.size) (os.set q ⟨b, c, l.set t (readC k f h)⟩) (putV w b t (readC k f h)) := by
  obtain ⟨h1, h2⟩ := r.lrow hq
  have ht := (List.getElem?_eq_some_iff.1 hk).1
  have hq8 : q < 8 := by have := (List.getElem?_eq_some_iff.1 hq).1; have := r.len; omega
  have hu := upto_read r.upto r.blank (by rw [hkl]; exact r.k) (by rw [List.length_map]; exact r.len) (by omega) h2 hk (by rw [hkl]; exact hn) hb
  have hw := r.wide hkl hq8 hk hn
  have hm : (os.set q ⟨b, c, l.set t (readC k f h)⟩).map Li.OG.l = (os.map Li.OG.l).set q (l.set t (readC k f h)) := by rw [List.map_set]
  have hi : t < l.length := by omega
  refine ⟨putV_row (x := ⟨b, c, l⟩) r.free hq r.row, putV_free (x := ⟨b, c, l⟩) r.free hq hi, by rw [List.length_set]; exact r.len, fun x hx => ?_, fun x hx v hv => ?_, by rw [hm]; exact hu.1, by rw [hm]; exact hu.2, by rw [ByteArray.size_extract]; omega, by have := r.hs; rw [ByteArray.size_extract]; omega⟩
  · rw [hm] at hx
    rcases List.mem_or_eq_of_mem_set hx with hx | rfl
    · exact r.k x hx
    · rw [List.length_set]
      exact h1
  · rw [hm] at hx
    rcases List.mem_or_eq_of_mem_set hx with hx | rfl
    · exact r.ok x hx v hv
    · rcases List.mem_or_eq_of_mem_set hv with hv | rfl
      · exact r.ok l (List.mem_of_getElem? h2) v hv
      · exact readC_ok hkk
end
set_option maxRecDepth 20000 in
set_option maxHeartbeats 16000000 in
theorem readF_any (nm : ByteArray) (A1 A2 : Option Addr) (cp cp2 : Nat) (cs : List C) (g : List Int) (s : ByteArray) (lo1 lo2 : Nat) (w : World) (h1 : HasCols w lo1 A1 cs) (h2 : HasI w lo2 A2 g) (hl1 : cs.length ≤ 9223372036854775807) (hg : ∀ c ∈ g, 0 ≤ c ∧ c < cs.length) (hg1 : 1 ≤ g.length) (hg8 : g.length ≤ 8) (hkk : ∀ k ∈ kindsL cs g, k = 1 ∨ k = 2 ∨ k = 3) (hs : s.size ≤ 1000000) :
    Calls Try.prog 14 #[.agg #[.string nm, .slice A1 cs.length cp], .slice A2 g.length cp2, .string s] w (ReadPostF g.length (readM (kindsL cs g) s) w) := by
  have hnew := (Below.refl w.heap.size w).alloc (Nat.le_refl _) (.cells #[.string nm, .slice A1 cs.length cp] 24)
  have hx0 := Box2.new w (.string nm) (.slice A1 cs.length cp) 24
  have h1 := h1.below hnew (Nat.le_refl _)
  have h2 := h2.below hnew (Nat.le_refl _)
  generalize hw1 : w.alloc (.cells #[.string nm, .slice A1 cs.length cp] 24) = w1 at hx0 hnew h1 h2
  have hck := kindsOf_any nm A1 A2 cp cp2 cs g lo1 lo2 w1 h1 h2 hl1 (by omega) hg
  obtain ⟨ks, hks⟩ : ∃ ks, kindsL cs g = ks := ⟨_, rfl⟩
  have hkl : ks.length = g.length := by rw [← hks, kinds_len]
  rw [hks] at hck hkk ⊢
  have hPB := fun (v : Value) (w' : World) (h : readM ks s = none) => ReadPostF.bad (m := g.length) (v := v) (w := w) (w' := w') h
  have hPG := fun (R cp base : Nat) (w' : World) (os : List (Li.OG V)) (h : readM ks s = some (os.map Li.OG.l)) => ReadPostF.good (m := g.length) (R := R) (cp := cp) (base := base) (w := w) (w' := w') (os := os) h
  generalize ReadPostF g.length (readM ks s) w = post at hPB hPG ⊢
  have HPB := Lib.hid hPB
  have HPG := Lib.hid hPG
  clear hPB hPG
  have hcf := fun (A : Option Addr) (c lo : Nat) (W : World) (hI : HasI W lo A ks) => fixed_any A c lo ks W hI hkk (by omega)
  obtain ⟨K, hK⟩ : ∃ m, g.length = m := ⟨_, rfl⟩
  rw [hK] at hkl hg1 hg8 hck ⊢
  unfold KindsOfPost at hck
  rw [hkl] at hck hcf
  obtain ⟨u, hu⟩ : ∃ u, 8 * wide ks = u := ⟨_, rfl⟩
  have hub : u ≤ 512 := by have := wide_le ks; omega
  rw [hu] at hcf
  have HG := Lib.hid (And.intro hg (And.intro hK hks))
  have HK := Lib.hid (And.intro hkl (And.intro hkk hu))
  have HC := Lib.hid (And.intro h1 h2)
  have HX0 := Lib.hid hx0
  have HCF := Lib.hid hcf
  have c0 := hx0.c0
  have c1 := hx0.c1
  clear hkl hkk h1 h2 hg hK hu hcf hx0
  go_enter Try.func14, Try.ntmps14
  go_wp2_with fail
  clear hw1 c0 c1
  refine hck.mono ?_
  rintro e w2 ⟨AK, ck, rfl, _, hI, hy⟩
  have HX0 := Lib.hid (HX0.out.below hy HX0.out.lt)
  have HC := Lib.hid (And.intro (HC.out.1.below hy (Nat.le_refl _)) (HC.out.2.below hy (Nat.le_refl _)))
  have hB2 := hnew.trans (hy.mono hnew.size)
  have HI := Lib.hid hI
  have HCF := Lib.hid (fun (W : World) (h : HasI W w1.heap.size AK ks) => HCF.out AK ck w1.heap.size W h)
  have hcm := fun W : World => marks_any AK K ck W (by omega)
  clear hck hy hnew hI
  go_wp2_with fail
  refine (hcm _).mono ?_
  rintro e w3 ⟨rfl, rfl⟩
  have hcf := HCF.out w3 HI.out
  go_wp2_with fail
  refine hcf.mono ?_
  rintro e w4 ⟨rfl, rfl⟩
  clear hcf
  by_cases hsz : s.size < K + u
  · have HQ := Lib.hid (HPB.out (.slice none 0 0) w4 (small_none (by unfold heapA; rw [HK.out.1, HK.out.2.2]; exact hsz)) hB2)
    have hsi : (s.size : Int) < (K : Int) + (u : Int) := by omega
    clear hcm
    go_wp2
    exact HQ.out
  · have hsi : ¬ (s.size : Int) < (K : Int) + (u : Int) := by omega
    have k0 : (0 : Int) ≤ (K : Int) := by omega
    have k1 : (K : Int) ≤ (s.size : Int) := by omega
    have hcfN := fun n : Nat => HCF.out (w4.drewN n) (HI.out.below (below_drewN (Below.refl w4.heap.size w4) n) (Nat.le_refl _))
    go_wp2_with fail
    go_quiet ((go_at_call 21; exact Calls.quiet_of_same (hcm _)))
    have hb5 := below_drewN (Below.refl w4.heap.size w4) nq
    generalize w4.drewN nq = w5 at hb5 ⊢
    have hcfN := fun n : Nat => HCF.out (w5.drewN n) ((HI.out.below hb5 (Nat.le_refl _)).below (below_drewN (Below.refl w5.heap.size w5) n) (Nat.le_refl _))
    have hrs : (s.extract K s.size).size = s.size - K := by rw [ByteArray.size_extract]; omega
    have hmk : (s.extract 0 K).size = K := by rw [ByteArray.size_extract]; omega
    have HBIT : Hid (∀ n, n / 8 < K → bitA (s.extract 0 K) n = bitA s n) := Lib.hid (fun n hn => bit_sub hn (by omega))
    have HUP : Hid (∀ M, Upto ks s M 0 ((s.extract K s.size).extract 0 u) ((s.extract K s.size).extract u (s.extract K s.size).size)) := Lib.hid (fun M => by
      have := upto_start (ks := ks) (s := s) M s.size rfl
      rw [HK.out.1, HK.out.2.2] at this
      exact this)
    generalize s.extract K s.size = F0 at hrs HUP ⊢
    generalize s.extract 0 K = mk at hmk HBIT ⊢
    have u0 : (0 : Int) ≤ (u : Int) := by omega
    have u1 : (u : Int) ≤ (F0.size : Int) := by omega
    have HRS := Lib.hid hrs
    clear hrs
    have hb5 := Lib.hid hb5
    go_wp2_with fail
    go_quiet ((go_at_call 25; exact Calls.quiet_of_same (hcfN _)))
    have hb6 := hb5.out.trans ((below_drewN (Below.refl w5.heap.size w5) nq).mono hb5.out.size)
    generalize w5.drewN nq = w6 at hb6 ⊢
    have hf0 : (F0.extract 0 u).size = u := by have := HRS.out; rw [ByteArray.size_extract]; omega
    have hh0 : (F0.extract u F0.size).size ≤ 1000000 := by have := HRS.out; rw [ByteArray.size_extract]; omega
    generalize F0.extract 0 u = f0 at hf0 HUP ⊢
    generalize F0.extract u F0.size = h0 at hh0 HUP ⊢
    have hce := emptyF_any A2 cp2 K w6 (by omega)
    clear hcfN hcm u0 u1 k0 k1 hsi hb5
    go_wp2_with fail
    refine hce.mono ?_
    rintro e w7 ⟨os0, rfl, hel, hown, hF, hy⟩
    have hB6 := hB2.trans (hb6.mono hB2.size)
    have HI := Lib.hid (HI.out.below hb6 (Nat.le_refl _))
    have HC := Lib.hid (And.intro (HC.out.1.below hb6 (Nat.le_refl _)) (HC.out.2.below hb6 (Nat.le_refl _)))
    have HX0 := Lib.hid (HX0.out.below hb6 HX0.out.lt)
    have hR0 : Rd ks s K w6.heap.size 0 f0 h0 os0 w7 := ⟨hown, hF, by have := congrArg List.length hel; rw [List.length_map] at this; simpa [emptyM] using this, fun r hr => by
      rw [hel] at hr
      unfold emptyM at hr
      rw [List.eq_of_mem_replicate hr, List.length_replicate], fun r hr v hv => by
      rw [hel] at hr
      unfold emptyM at hr
      rw [List.eq_of_mem_replicate hr] at hv
      rw [List.eq_of_mem_replicate hv]
      exact ok_of (by decide) (by decide) (by decide) (by decide), HUP.out _, by
      rw [hel, ← HK.out.1]
      exact blank_empty, by
      rw [hf0, ← HK.out.2.2, List.drop_zero]
      unfold kindsA
      rw [wide_rep], hh0⟩
    clear hce hel hown hF hb6 hf0 hh0 HUP hb5
    generalize hbase : w6.heap.size = base at hR0 hy ⊢
    go_wp2
    go_loopw [12, 13, 15, 58] (fun x y z i wr => ∃ (q n : Nat) (f h : ByteArray) (os : List (Li.OG V)), q ≤ 8 ∧ i = .int .i64 q ∧ z = .int .i64 n ∧ x = .string f ∧ y = .string h ∧ Hid (q * K = n) ∧ Rd ks s K base n f h os wr ∧ Below base w6 wr) (fun _ _ _ i _ => 8 - (intOf i).toNat)
    case atStart => exact ⟨0, 0, f0, h0, os0, Nat.zero_le _, rfl, rfl, rfl, rfl, Lib.hid (by simp), hR0, hy⟩
    case round =>
      clear hR0 hy
      obtain ⟨q, n0, f, h, os, hq, rfl, rfl, rfl, rfl, hN, hR, hB⟩ := hrel
      by_cases hlt : q < 8
      · have i1 : (q : Int) < 8 := by omega
        have i0 : (0 : Int) ≤ (q : Int) := by omega
        have hxq : os[q]? = some (os[q]'(by have := hR.len; omega)) := List.getElem?_eq_getElem _
        generalize (os[q]'(by have := hR.len; omega)) = x at hxq
        obtain ⟨xb, xc, xl⟩ := x
        have hxl := (hR.lrow hxq).1
        have d0 := hR.row.cellAt q (by omega)
        rw [List.getElem?_map, hxq] at d0
        have d1 : wr.cell? ⟨base, q, none⟩ = some (.slice (some ⟨xb, 0, none⟩) xl.length xc) := d0
        rw [hxl] at d1
        clear d0
        have HX : Hid (∃ l, os[q]? = some ⟨xb, xc, l⟩) := Lib.hid ⟨xl, hxq⟩
        have HR := Lib.hid (And.intro hR hB)
        clear hR hB hxl hxq
        go_wp2
        clear d1
        go_loopw [12, 13, 15, 64] (fun x y z i wr => ∃ (t n : Nat) (f h : ByteArray) (os : List (Li.OG V)), t ≤ K ∧ i = .int .i64 t ∧ z = .int .i64 n ∧ x = .string f ∧ y = .string h ∧ Hid (q * K + t = n) ∧ Hid (∃ l, os[q]? = some ⟨xb, xc, l⟩) ∧ Rd ks s K base n f h os wr ∧ Below base w6 wr) (fun _ _ _ i _ => K - (intOf i).toNat)
        case atStart => exact ⟨0, n0, f, h, os, Nat.zero_le _, rfl, rfl, rfl, rfl, Lib.hid (by rw [Nat.add_zero]; exact hN.out), HX, HR.out.1, HR.out.2⟩
        case round =>
          clear HR HX
          obtain ⟨t, n, f, h, os, ht, rfl, rfl, rfl, rfl, HN, HX, hR, hB⟩ := hrel
          by_cases htl : t < K
          · have j1 : (t : Int) < (K : Int) := by omega
            have j0 : (0 : Int) ≤ (t : Int) := by omega
            have hgk : ks[t]? = some (ks[t]'(by rw [HK.out.1]; exact htl)) := List.getElem?_eq_getElem _
            generalize (ks[t]'(by rw [HK.out.1]; exact htl)) = kk at hgk
            have hkv := HK.out.2.1 kk (List.mem_of_getElem? hgk)
            have hw := hR.wide HK.out.1 hlt hgk HN.out
            have hn8 : n < 8 * K := by
              have h1 : (q + 1) * K ≤ 8 * K := Nat.mul_le_mul_right _ hlt
              rw [Nat.add_mul] at h1
              have := HN.out
              omega
            obtain ⟨b3, o3, rfl, _, hlb3, f1⟩ := HasI.at HI.out hgk
            have f1 := cell_below (hbase ▸ hB) f1
            obtain ⟨j8, hj8⟩ : ∃ j8 : Nat, (n : Int) / 8 = (j8 : Int) := ⟨n / 8, by omega⟩
            obtain ⟨m8, hm8⟩ : ∃ m8 : Nat, (n : Int) % 8 = (m8 : Int) := ⟨n % 8, by omega⟩
            have hj8s : j8 < mk.size := by omega
            have hm88 : m8 < 8 := by omega
            have hbit := bit_read hj8s (show n / 8 = j8 by omega) (show n % 8 = m8 by omega)
            rw [HBIT.out n (by omega)] at hbit
            have hcw := fun W : World => width_any kk W hkv
            have hfs : f.size ≤ 1000000 := by
              have h1 := wide_le ((kindsA ks).drop n)
              rw [List.length_drop, kindsA_len, HK.out.1] at h1
              have h2 := hR.fs
              omega
            have hhs := hR.hs
            obtain ⟨z, hz⟩ : ∃ z, oneW kk = z := ⟨_, rfl⟩
            have hzf : z ≤ f.size := by omega
            have z0 : (0 : Int) ≤ (z : Int) := by omega
            have z1 : (z : Int) ≤ (f.size : Int) := by omega
            obtain ⟨xl, hxq⟩ := HX.out
            cases hbb : bitA s n with
            | false =>
              rw [hbb] at hbit
              have hc := hR.cell hxq (hR.zero HK.out.1 hxq hgk HN.out)
              have c2 : wr.cell? ⟨xb, t * 3 + 2, none⟩ = some (.string ⟨#[]⟩) := hc.2.2.1
              have hR2 := hR.skip HK.out.1 hg8 hxq hgk HN.out hbb
              rw [hz] at hR2 hcw
              have HR2 := Lib.hid (And.intro hR2 hB)
              clear hc hR hR2 hB hxq hgk hw hbb hz
              go_wp2_with fail
              refine (hcw _).mono ?_
              rintro e w8 ⟨rfl, rfl⟩
              clear hcw hbit
              go_wp2
              go_roundw
              case rel => exact ⟨t + 1, n + 1, _, h, os, by omega, by go_num, by go_num, rfl, by trivial, Lib.hid (by rw [← HN.out]; omega), HX, HR2.out.1, HR2.out.2⟩
              case measure => simp [intOf]; omega
            | true =>
              rw [hbb] at hbit
              have hcr := fun W : World => readCell_any kk f h W hkv (by omega) hfs hhs
              have hus := readC_size (f := f) (h := h) hkv
              have hc := hR.cell hxq (hR.zero HK.out.1 hxq hgk HN.out)
              have HRD := Lib.hid (fun (W : World) (hR : Rd ks s K base n f h os W) => hR.read HK.out.1 hg8 hxq hgk hkv HN.out hbb)
              have HRB := Lib.hid (fun (W : World) (hR : Rd ks s K base n f h os W) (hB : Below base w6 W) => (putV_below (x := ⟨xb, xc, xl⟩) (i := t) (v := readC kk f h) hR.free hxq hB (Nat.le_refl _)))
              have htl2 : t < xl.length := by rw [(hR.lrow hxq).1]; exact htl
              have HX2 : Hid ((os.set q ⟨xb, xc, xl.set t (readC kk f h)⟩)[q]? = some ⟨xb, xc, xl.set t (readC kk f h)⟩) := Lib.hid (by rw [List.getElem?_set_self (by have := hR.len; omega)])
              have HX3 : Hid ((xl.set t (readC kk f h))[t]? = some (readC kk f h)) := Lib.hid (by rw [List.getElem?_set_self htl2])
              rw [hz] at HRD hcw
              generalize readC kk f h = uv at hcr hus HRD HRB HX2 HX3
              obtain ⟨uk, un, us⟩ := uv
              have hcr : ∀ W : World, Calls Try.prog 26 #[.int .i64 kk, .string f, .string h] W fun e w' => e = .returned (.agg #[.int .i64 uk, .int .i64 un, .string us]) ∧ Below W.heap.size W w' := hcr
              have hus : us.size ≤ h.size := hus
              have v0 : (0 : Int) ≤ (us.size : Int) := by omega
              have v1 : (us.size : Int) ≤ (h.size : Int) := by omega
              have HR := Lib.hid (And.intro hR hB)
              have HCC := Lib.hid hc
              clear hc hR hB hxq hgk hw hbb hz
              go_wp2_with fail
              refine (hcr _).mono ?_
              rintro e w8 ⟨rfl, hy8⟩
              have hlt8 := HR.out.1.lt
              have hR8 := HR.out.1.below hy8 (Nat.le_refl _)
              have hB8 := HR.out.2.trans (hy8.mono (Nat.le_of_lt hlt8))
              have hR9 := HRD.out w8 hR8
              have hB9 := HRB.out w8 hR8 hB8
              have hc9 := (hR9.cell HX2.out HX3.out).2.2.1
              have x0 := cell_below hy8 HCC.out.1
              have x1 := cell_below hy8 HCC.out.2.1
              have x2 := cell_below hy8 HCC.out.2.2.1
              obtain ⟨xl8, hx8⟩ := HX.out
              have xf := fun i => (hR8.free.own _ (List.mem_of_getElem? hx8)).frozenAt i
              have xf : ∀ i, w8.frozen? ⟨xb, i, none⟩ = false := xf
              have HR9 := Lib.hid (And.intro hR9 (And.intro hB9 hc9))
              clear hcr hy8 hR8 hB8 hR9 hB9 hc9 hlt8 hbit hx8
              go_wp2_with fail
              obtain ⟨hR9, hB9, c2⟩ := HR9.out
              clear x0 x1 x2 xf HR9 HCC HRD HRB
              unfold putV at hR9 hB9 c2
              simp only at hR9 hB9 c2
              generalize ((w8.setCell ⟨xb, t * 3, none⟩ (.int .i64 uk)).setCell ⟨xb, t * 3 + 1, none⟩ (.int .i64 un)).setCell ⟨xb, t * 3 + 2, none⟩ (.string us) = w9 at hR9 hB9 c2 ⊢
              have HR9 := Lib.hid (And.intro hR9 hB9)
              clear hR9 hB9
              refine (hcw _).mono ?_
              rintro e w10 ⟨rfl, rfl⟩
              clear hcw
              go_wp2
              go_roundw
              case rel => exact ⟨t + 1, n + 1, _, _, _, by omega, by go_num, by go_num, rfl, rfl, Lib.hid (by rw [← HN.out]; omega), Lib.hid ⟨_, HX2.out⟩, HR9.out.1, HR9.out.2⟩
              case measure => simp [intOf]; omega
          · obtain rfl : t = K := by omega
            go_wp2
            go_roundw
            case rel => exact ⟨q + 1, n, f, h, os, by omega, by go_num, by trivial, rfl, rfl, Lib.hid (by rw [Nat.add_mul, Nat.one_mul]; exact HN.out), hR, hB⟩
            case measure => simp [intOf]; omega
      · obtain rfl : q = 8 := by omega
        have hB0 : Below w6.heap.size w6 wr := hbase ▸ hB
        have hlen8 : os.length = 8 := hR.len
        have hl8 : (os.map Li.OG.l).length = 8 := by rw [List.length_map]; exact hlen8
        have hown' := hR.row
        rw [← Li.cells_og] at hown'
        obtain ⟨A', c', e', hcc, hl⟩ := Li.list_of_own Li.cellsG_len hown' (by rw [List.length_map, hlen8])
        injection e' with e1 _ e3
        subst e1 e3
        have hVV : HasVV wr base (some ⟨base, 0, none⟩) (os.map Li.OG.l) := ⟨os.map Li.OG.gr, by rw [List.map_map]; rfl, hl, fun x hx => hR.free.has cellsV_len hx⟩
        have hcP := printW_any nm A1 A2 (some ⟨base, 0, none⟩) cp cp2 8 cs g (os.map Li.OG.l) lo1 lo2 base wr (HC.out.1.below hB0 (Nat.le_refl _)) (HC.out.2.below hB0 (Nat.le_refl _)) hVV hl1 HG.out.1 (by rw [HG.out.2.1]; exact hg1) (by rw [HG.out.2.1]; exact hg8) (by rw [HG.out.2.2]; exact HK.out.2.1) hl8 (by rw [HG.out.2.1]; exact hR.k) hR.ok
        rw [HG.out.2.1, HG.out.2.2] at hcP
        have hxq := HX0.out.below hB0 HX0.out.lt
        have c0 := hxq.c0
        have c1 := hxq.c1
        have hrw : ∀ r ∈ os.map Li.OG.l, r.length = ks.length := by rw [HK.out.1]; exact hR.k
        by_cases hsame : printW ks (os.map Li.OG.l) = s
        · have hall : ((flat ks (os.map Li.OG.l)).all fun p => fitM p.1 p.2) = true := by
            cases e : ((flat ks (os.map Li.OG.l)).all fun p => fitM p.1 p.2) with
            | true => rfl
            | false =>
              unfold printW at hsame
              rw [if_neg (by rw [e]; decide)] at hsame
              rw [← hsame] at hsz
              exact absurd (show (⟨#[]⟩ : ByteArray).size < K + u from by show 0 < K + u; omega) hsz
          have hRM := all_right hl8 hrw HK.out.2.1 hR.ok hall
          have hpm : printM ks (os.map Li.OG.l) = s := by
            unfold printW at hsame
            rwa [if_pos hall] at hsame
          have HQ := Lib.hid (fun (w' : World) => HPG.out base 8 base w' os (by rw [← hpm]; exact read_print hRM) (hbase ▸ hB6.size))
          have HF := Lib.hid (And.intro hR.row (And.intro hR.free hB0))
          rw [hsame] at hcP
          have HB6 := Lib.hid hB6
          clear hown' hcc hl hVV hRM hsame hxq hpm hall hR hB hB0 hB6 hrw
          go_wp2_with fail
          refine hcP.mono ?_
          rintro e w8 ⟨rfl, hw8⟩
          have HE := Lib.hid (HQ.out w8 (Li.own_below HF.out.1 hw8 (Nat.le_refl _)) (HF.out.2.1.below hw8 (Nat.le_refl _)) (HB6.out.trans ((HF.out.2.2.trans (hw8.mono HF.out.2.2.size)).mono HB6.out.size)))
          clear hcP hw8 c0 c1
          go_wp2
          exact HE.out
        · have hnone : readM ks s = none := read_none fun cells hc e => hsame (by
            have hU := hR.upto
            rw [← hN.out, ← HK.out.1] at hU
            have hM := upto_end hU hrw hl8 hc e
            rw [hM]
            unfold printW
            rw [if_pos (right_all hc), e])
          have HQ := Lib.hid (fun (w' : World) => HPB.out (.slice none 0 0) w' hnone)
          have HF := Lib.hid (And.intro hB0 hB6)
          generalize printW ks (os.map Li.OG.l) = x at hcP hsame
          clear hown' hcc hl hVV hxq hnone hR hB hB0 hB6 hrw
          go_wp2_with fail
          refine hcP.mono ?_
          rintro e w8 ⟨rfl, hw8⟩
          have HE := Lib.hid (HQ.out w8 (HF.out.2.trans ((HF.out.1.trans (hw8.mono HF.out.1.size)).mono HF.out.2.size)))
          have hne : (x.toList == s.toList) = false := beq_eq_false_iff_ne.2 (fun e => hsame (by apply bytesEq'; rw [← ByteArray.toList_eq, ← ByteArray.toList_eq]; exact e))
          clear hcP hw8 c0 c1
          go_wp2
          exact HE.out
end Go.Proofs.Ytabgbhilbnchnaa.Mi
