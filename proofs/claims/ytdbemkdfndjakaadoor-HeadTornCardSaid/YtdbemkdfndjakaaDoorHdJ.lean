/- The document's device: Start, walked. -/
import Derived.Test.YtdbemkdfndjakaaDoorHdI
namespace Go.Proofs.YtdbemkdfndjakaaDoor.Hd
open Go.RowKit Go.Shelf Tal Sla
theorem extract_full (d : ByteArray) (h : d.size = 256) : d.extract 0 256 = d := by
  rw [← h]
  exact ByteArray.extract_zero_size
theorem laid_torn (o d : ByteArray) (n : Nat) (ho : o.size = 256) (hd : d.size = 256) (hn : n ≤ 256) : laidB o (d.extract 0 n) = d.extract 0 n ++ o.extract n 256 := by
  have hs : (d.extract 0 n).size = n := by rw [ByteArray.size_extract]; omega
  unfold laidB
  rw [hs, ho]
  split
  · have hn2 : n = 256 := by omega
    subst hn2
    apply ByteArray.ext
    simp [ByteArray.data_append, ByteArray.data_extract]
  · rfl
theorem laid_all (o d : ByteArray) (ho : o.size = 256) (hd : d.size = 256) : laidB o (d.extract 0 d.size) = d := by
  unfold laidB
  rw [hd, extract_full d hd, if_pos (by omega)]
theorem laid_none (o d : ByteArray) (ho : o.size = 256) : laidB o (d.extract 0 0) = o := by
  unfold laidB
  have hs : (d.extract 0 0).size = 0 := by rw [ByteArray.size_extract]; omega
  rw [hs, ho, if_neg (by decide), extract_full o ho]
  apply ByteArray.ext
  simp [ByteArray.data_append, ByteArray.data_extract]
set_option maxRecDepth 20000 in
set_option maxHeartbeats 6400000 in
theorem refStart_any {K : Nat} (v : Value) (D : Dev) (f : Fat) (w : World) (h : IsDev w v D) (hok : D.Ok K) (hK : K ≤ 100000) (f0 : 0 ≤ f.stay) (f1 : f.stay < 18446744073709551616) :
    Calls Tryd.prog 28 #[v, .agg #[.int .u64 f.stay, .int .i64 f.torn, .int .i64 f.bytes]] w (DevRet (D.started f) w) := by
  obtain ⟨b, B, c, k, rfl, hlt, hnc, hc, hl, h0⟩ := h
  have hm := hok.m2
  have hn1 := hok.n1
  have hn2 := hok.n2
  have HLA := Lib.hid hok.la
  have HLZ := Lib.hid hok.lz
  have HSZ := Lib.hid hok.sz
  have HC := Lib.hid hc
  have HL := Lib.hid hl
  have F1 := Lib.hid (And.intro f0 f1)
  clear hc hl h0 hok f1 f0
  obtain ⟨n, S, m, LA, LD, dead, left, deeds⟩ := D
  simp only at hm hnc hn1 hn2
  have HC2 : Hid (∀ j, j < n → w.cell? ⟨b, j, none⟩ = some (.string (S j))) := HC
  have HLA2 : Hid (∀ j, j < m → 0 ≤ LA j ∧ LA j < n) := HLA
  have HLZ2 : Hid (∀ j, j < m → (LD j).size = 256) := HLZ
  have HSZ2 : Hid (∀ j, j < n → (S j).size = 256) := HSZ
  clear HC HLA HLZ HSZ
  obtain ⟨i9, hi9, hv0, hv1, hv2⟩ := info_parts info9
  -- the three variables, and the list
  have hx := Box5.new w (.slice (some ⟨b, 0, none⟩) n c) (.slice B m k) (.bool dead) (.int .i64 left) (.int .i64 deeds) 39
  have hB := (Below.refl w.heap.size w).alloc (Nat.le_refl _) (.cells #[.slice (some ⟨b, 0, none⟩) n c, .slice B m k, .bool dead, .int .i64 left, .int .i64 deeds] 39)
  obtain ⟨gx, hgx⟩ : ∃ x, w.heap.size = x := ⟨_, rfl⟩
  rw [hgx] at hx
  have hwx : w.heap.size ≤ gx := by omega
  generalize hwa : w.alloc (.cells #[.slice (some ⟨b, 0, none⟩) n c, .slice B m k, .bool dead, .int .i64 left, .int .i64 deeds] 39) = wa at hB hx
  have hF := Box3.new wa (.int .u64 f.stay) (.int .i64 f.torn) (.int .i64 f.bytes) 52
  have hv := (Below.refl wa.heap.size wa).alloc (Nat.le_refl _) (.cells #[.int .u64 f.stay, .int .i64 f.torn, .int .i64 f.bytes] 52)
  have hx := hx.below hv hx.lt5
  have hwf : w.heap.size ≤ wa.heap.size := hB.size
  have hxlt := hx.lt5
  have hgxf : gx < wa.heap.size := by rw [← hwa]; simp; omega
  have hB := hB.trans (hv.mono hB.size)
  clear hv
  obtain ⟨gf, hgf⟩ : ∃ x, wa.heap.size = x := ⟨_, rfl⟩
  rw [hgf] at hF hwf hgxf
  generalize hwb : wa.alloc (.cells #[.int .u64 f.stay, .int .i64 f.torn, .int .i64 f.bytes] 52) = wb at hB hx hF
  have hFlt : gf < wb.heap.size := World.block_lt_of_cell? wb _ hF.c0
  have hy := Box5.new wb (.slice none 0 0) (.slice none 0 0) (.bool false) (.int .i64 0) (.int .i64 0) 39
  have hv := (Below.refl wb.heap.size wb).alloc (Nat.le_refl _) (.cells #[.slice none 0 0, .slice none 0 0, .bool false, .int .i64 0, .int .i64 0] 39)
  have hx := hx.below hv hx.lt5
  have hF := hF.below hv hFlt
  have hwy : w.heap.size ≤ wb.heap.size := hB.size
  have hB := hB.trans (hv.mono hB.size)
  clear hv
  obtain ⟨gy, hgy⟩ : ∃ x, wb.heap.size = x := ⟨_, rfl⟩
  rw [hgy] at hy hwy hFlt
  generalize hwc : wb.alloc (.cells #[.slice none 0 0, .slice none 0 0, .bool false, .int .i64 0, .int .i64 0] 39) = w3 at hB hx hF hy
  have hylt := hy.lt5
  have hn4 := (Below.refl w3.heap.size w3).alloc (Nat.le_refl _) (.cells #[] 9)
  have hx5 := hx.below hn4 (by omega)
  have hcx0 := hx5.c0
  have hown0 := World.ownsRow_lit (e := 9) (size := 1) (base := w3.heap.size) w3 #[] 0 (Nat.le_refl _) (by unfold maxLen; omega) rfl
  have hnw := news_of_strs (S := S) (n := n) (fun j hj => (((hB.trans (hn4.mono hB.size)).cell (p := ⟨b, j, none⟩) hlt)).trans (HC2.out j hj))
  have HW := Lib.hid (And.intro hown0 (And.intro hnw hn4))
  have HX := Lib.hid (And.intro hx (And.intro hF (And.intro hy hB)))
  clear hown0 hnw hn4 hx hF hy hx5
  go_enter Tryd.func28, Tryd.ntmps28
  go_wp2_with (at_builtin; go_must (refine wpList_append_own _ rfl _ _ 36 rfl w3.heap.size 9 i9 (.string ⟨#[]⟩) 1 16 Tryd.underlying36 hi9 hv0 hv1 hv2 rfl (by decide) (.slice (some ⟨w3.heap.size, 0, none⟩) 0 0) 0 [] rfl HW.out.1 ⟨b, 0, none⟩ n c ((List.range n).map fun j => .string (S j)) rfl (by simp) HW.out.2.1 (by simp [Value.oneCell']) (by unfold maxLen; omega) (by omega) HW.out.2.2.size ?_))
  intro v5 w4 hown hgrow5 _
  obtain ⟨hown0, _, hn4⟩ := HW.out
  have hb34 := hn4.grown hgrow5 hn4.size (fun k hk => (hown0.lt k hk).1)
  (try simp only [Nat.zero_add, List.nil_append] at hown)
  obtain ⟨g, cap, rfl, hg3, hncap, hrow⟩ := row_of_own hown (by omega)
  clear hown hown0 hn4 hgrow5 HW
  go_wp2
  clear hwa hwb hwc hgx hgf hgy hcx0
  obtain ⟨hx, hF, hy, hB⟩ := HX.out
  clear HX
  have hs34 : w3.heap.size ≤ w4.heap.size := hb34.size
  have hx4 := hx.below hb34 (by omega)
  have hF4 := hF.below hb34 (by omega)
  have hy4 := hy.below hb34 (by omega)
  have hbw4 : Below w.heap.size w w4 := hB.trans (hb34.mono hB.size)
  have hwg : w.heap.size ≤ g := Nat.le_trans hB.size hg3
  clear hx hF hy hB hb34
  go_loopw [6] (fun u wr => ∃ q : Nat, q ≤ m ∧ u = .int .i64 q ∧ Below w3.heap.size w4 wr ∧ StrRow wr g n (startS f S LA LD q)) (fun u _ => m - (intOf u).toNat)
  case atStart => exact ⟨0, Nat.zero_le _, rfl, Below.refl _ _, hrow⟩
  case round =>
    obtain ⟨q, hq, rfl, hbr, hrr⟩ := hrel
    have hx5 := hx4.below hbr (by omega)
    have hsr := hbr.size
    have hbw : Below w.heap.size w wr := hbw4.trans (hbr.mono (by omega))
    have hF5 := hF4.below hbr (by omega)
    have hcx1 := hx5.c1
    by_cases hqm : q < m
    · obtain ⟨bl, rfl, hbl, hlc⟩ := HL.out (by omega)
      obtain ⟨a, ha⟩ := Int.eq_ofNat_of_zero_le (HLA2.out q hqm).1
      have han : a < n := by have := (HLA2.out q hqm).2; omega
      have kA : wr.cell? ⟨bl, q * 2, none⟩ = some (.int .i64 (a : Int)) := by rw [← ha]; exact (hbw.cell (p := ⟨bl, q * 2, none⟩) hbl).trans (hlc q hqm).1
      have kD : wr.cell? ⟨bl, q * 2 + 1, none⟩ = some (.string (LD q)) := (hbw.cell (p := ⟨bl, q * 2 + 1, none⟩) hbl).trans (hlc q hqm).2
      have HA := Lib.hid ha
      have i0 : (q : Int) < (m : Int) := by omega
      have i1 : (0 : Int) ≤ (a : Int) := by omega
      have i2 : (a : Int) < (n : Int) := by omega
      have hz1 := startS_size f S LA LD n q HSZ2.out (fun j hj => HLZ2.out j (by omega)) a han
      have hz2 := HLZ2.out q hqm
      have HZ := Lib.hid (And.intro hz1 hz2)
      clear ha hlc
      go_upto_block 2 with fail
      have hn6 := (Below.refl wr.heap.size wr).alloc (Nat.le_refl _) (.cells #[.int .i64 (a : Int), .string (LD q)] 69)
      have hr6 := hrr.below hn6 (Nat.le_refl _)
      have hx6 := hx5.below hn6 (by omega)
      have hF6 := hF5.below hn6 (by omega)
      have kt0 : (wr.alloc (.cells #[.int .i64 (a : Int), .string (LD q)] 69)).cell? ⟨wr.heap.size, 0, none⟩ = some (.int .i64 (a : Int)) := by simp
      have kt1 : (wr.alloc (.cells #[.int .i64 (a : Int), .string (LD q)] 69)).cell? ⟨wr.heap.size, 1, none⟩ = some (.string (LD q)) := by simp
      have hgt : g < wr.heap.size := hrr.1
      have hbr6 := hbr.trans (hn6.mono (by omega))
      clear hn6 hrr kA kD hcx1 hx5 hF5
      generalize wr.alloc (.cells #[.int .i64 (a : Int), .string (LD q)] 69) = w6 at hr6 hx6 hF6 kt0 kt1 hbr6 ⊢
      generalize wr.heap.size = gt at kt0 kt1 hgt hsr ⊢
      have kg := hr6.2.1 a han
      have kf := hr6.2.2 a
      have k0 := hF6.c0
      have k1 := hF6.c1
      have k2 := hF6.c2
      have HR := Lib.hid hr6
      clear hr6
      have HST : Hid (∀ d, laidB (startS f S LA LD q a) ((LD q).extract 0 (keptN f q (LD q).size)) = d → ∀ W, StrRow W g n (fun j => if j = a then d else startS f S LA LD q j) → StrRow W g n (startS f S LA LD (q + 1))) := Lib.hid (fun d hd W hW => hW.congr fun j hj => by
        simp only [startS]
        rw [HA.out]
        by_cases e : j = a
        · subst e; rw [if_pos rfl, if_pos rfl, hd]
        · rw [if_neg e, if_neg (by omega)])
      have HKP : Hid (keptN f q (LD q).size = (keptI f.stay f.torn f.bytes q (LD q).size).toNat) := Lib.hid rfl
      have hz1 := HZ.out.1
      have hz2 := HZ.out.2
      have HR2 : Hid (∃ Sq : Nat → ByteArray, Sq = startS f S LA LD q) := Lib.hid ⟨_, rfl⟩
      generalize hsg : startS f S LA LD q a = sg at kg hz1 HST
      generalize hld : LD q = d at kt1 hz2 HST HKP
      have HD2 := Lib.hid (And.intro hsg hld)
      clear hsg hld HZ
      by_cases ht : (q : Int) = f.torn
      · have t1 : ((q : Int) == f.torn) = true := by rw [beq_iff_eq]; exact ht
        obtain ⟨X, hX⟩ : ∃ X : Nat, (max 0 (min f.bytes 256)).toNat = X := ⟨_, rfl⟩
        have HFIN : Hid (laidB sg (d.extract 0 (keptN f q d.size)) = d.extract 0 (max 0 (min f.bytes 256)).toNat ++ sg.extract (max 0 (min f.bytes 256)).toNat 256) := Lib.hid (by
          have hk : keptN f q d.size = (max 0 (min f.bytes 256)).toNat := by
            rw [HKP.out]
            unfold keptI
            rw [if_pos ht, hz2]
            omega
          rw [hk]
          exact laid_torn sg d _ hz1 hz2 (by omega))
        clear ht HKP hX
        go_wp2
        go_region
        go_wp2
        have hset := HST.out _ HFIN.out _ (HR.out.set han _)
        go_roundw
        case rel => exact ⟨q + 1, by omega, by go_num, (Below.setCell hbr6 (p := ⟨g, a, none⟩) (by simp; omega) _).drew, hset.below (Below.refl _ _).drew (Nat.le_refl _)⟩
        case measure => simp [intOf]; omega
      · have t1 : ((q : Int) == f.torn) = false := beq_eq_false_iff_ne.2 ht
        have hq0 : 0 ≤ f.stay / 2 ^ (q % 64) := Int.ediv_nonneg F1.out.1 (Int.le_of_lt (Int.pow_pos (by decide)))
        have hq1 : f.stay / 2 ^ (q % 64) ≤ 18446744073709551615 := by
          have := Int.ediv_le_self (2 ^ (q % 64)) F1.out.1
          have := F1.out.2
          omega
        have HAN := Lib.hid (and_one_u64 _ hq0 hq1)
        have HT := Lib.hid ht
        clear hq0 hq1 ht
        go_wp2
        · have hc2 : (bits BinOp.and IntKind.u64 (f.stay / 2 ^ (q % 64)) 1 == 1) = true := by assumption
          rw [HAN.out] at hc2
          have HFIN : laidB sg (d.extract 0 (keptN f q d.size)) = d := by
            rw [HKP.out]
            unfold keptI
            rw [if_neg HT.out, if_pos (by simpa using hc2), Int.toNat_natCast, laid_all sg d hz1 hz2]
          have hset := HST.out d HFIN _ (HR.out.set han d)
          go_roundw
          case rel => exact ⟨q + 1, by omega, by go_num, Below.setCell hbr6 (p := ⟨g, a, none⟩) (by simp; omega) _, hset⟩
          case measure => simp [intOf]; omega
        · have hc2 : (bits BinOp.and IntKind.u64 (f.stay / 2 ^ (q % 64)) 1 == 1) = false := by assumption
          rw [HAN.out] at hc2
          have HFIN : laidB sg (d.extract 0 (keptN f q d.size)) = sg := by
            rw [HKP.out]
            unfold keptI
            rw [if_neg HT.out, if_neg (by simpa using hc2), Int.toNat_zero, laid_none sg d hz1]
          have hset := HST.out sg HFIN w6 (HR.out.congr fun j hj => by
            by_cases e : j = a
            · subst e; rw [if_pos rfl, HD2.out.1]
            · rw [if_neg e])
          go_roundw
          case rel => exact ⟨q + 1, by omega, by go_num, hbr6, hset⟩
          case measure => simp [intOf]; omega
    · obtain rfl : q = m := by omega
      have hy5 := hy4.below hbr (by omega)
      have hfy := hy5.f
      have ky0 := hy5.c0
      have ky1 := hy5.c1
      have ky2 := hy5.c2
      have ky3 := hy5.c3
      have ky4 := hy5.c4
      have hgl := hrr.1
      have i0 : ¬ (q : Int) < (q : Int) := by omega
      have hd5 : DevAt wr g none (.agg #[.slice (some ⟨g, 0, none⟩) n cap, .slice none 0 0, .bool false, .int .i64 (-1), .int .i64 0]) (Dev.started { n := n, S := S, m := q, LA := LA, LD := LD, dead := dead, left := left, deeds := deeds } f) :=
        ⟨cap, 0, rfl, hgl, hncap, hrr.2.1, fun h => absurd h (by simp [Dev.started]), fun _ => ⟨rfl, rfl⟩⟩
      have hgn : gy ≠ g := by omega
      go_wp2
      refine bodyPost_ret (v := .agg #[.slice (some ⟨g, 0, none⟩) n cap, .slice none 0 0, .bool false, .int .i64 (-1), .int .i64 0]) (by simp [results, Tryd.results28, go_sem, ky0, ky1, ky2, ky3, ky4]) rfl ⟨_, rfl, ⟨g, none, ?_⟩, ?_⟩
      · repeat (first | (with_reducible exact hd5) | refine DevAt.setCell ?_ (by simp; omega) (fun a h => by cases h) _)
      · repeat (first | (with_reducible exact hbw) | refine Below.setCell ?_ (by simp; omega) _)
end Go.Proofs.YtdbemkdfndjakaaDoor.Hd
