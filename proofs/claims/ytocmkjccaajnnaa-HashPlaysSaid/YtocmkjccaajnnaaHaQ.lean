/- HashTells, walked. -/
import Derived.Test.YtocmkjccaajnnaaMgQ
import Derived.Test.YtocmkjccaajnnaaMgY
namespace Go.Proofs.Ytocmkjccaajnnaa.Ha
open Go.RowKit Pac Bu Ls Lex Go.Proofs.Ytocmkjccaajnnaa.Or

section
variable {A : Option Addr} {n cp : Nat} {bs : List (List E)} {w : World}
set_option maxRecDepth 20000 in
set_option maxHeartbeats 6400000 in
theorem tells_any (lv0 nx0 : Int) (k : ByteArray) (m : Nat) (hb : HasBs w 0 A bs) (hn : bs.length = n) (hc : n ≤ cp) (h9 : n ≤ 9223372036854775807) (hr9 : ∀ r ∈ bs, r.length ≤ 9223372036854775807) (hok : ∀ r ∈ bs, ∀ e ∈ r, e.Ok)
    (hk : k.size ≤ 9223372036854775807) (hl0 : -9223372036854775808 ≤ lv0) (hl1 : lv0 ≤ 9223372036854775807) (hx0 : -9223372036854775808 ≤ nx0) (hx1 : nx0 ≤ 9223372036854775807) (hm : m ≤ 65535) :
    Calls Try.prog 4 #[.agg #[.int .i64 lv0, .int .i64 nx0, .slice A n cp], .string k, .int .u16 m] w fun e w' => e = .returned (.bool true) ∧ Below w.heap.size w w' := by
  have hB := (Below.refl w.heap.size w).alloc (Nat.le_refl _) (.cells #[.int .i64 lv0, .int .i64 nx0, .slice A n cp] 27)
  have hx := Box3.new w (.int .i64 lv0) (.int .i64 nx0) (.slice A n cp) 27
  have HL := Lib.hid (And.intro (hb.below hB (Nat.le_refl _)) (And.intro hn (And.intro hr9 hok)))
  obtain ⟨g, hg⟩ : ∃ g, w.heap.size = g := ⟨_, rfl⟩
  rw [hg] at hx
  generalize hw0 : w.alloc (.cells #[.int .i64 lv0, .int .i64 nx0, .slice A n cp] 27) = wa at hB hx HL
  clear hb hn hr9 hok
  have c2 := hx.c2
  by_cases h6 : 600 < n
  · have i6 : (600 : Int) < (n : Int) := by omega
    go_enter Try.func4, Try.ntmps4
    go_wp2_with fail
    refine (awake_any _).mono ?_
    rintro e w2 ⟨rfl, h2⟩
    go_wp2
    go_ret
    exact ⟨rfl, hB.trans (h2.mono hB.size)⟩
  · have i6 : ¬ (600 : Int) < (n : Int) := by omega
    by_cases h2 : 200 < k.size
    · have i2 : (200 : Int) < (k.size : Int) := by omega
      go_enter Try.func4, Try.ntmps4
      go_wp2_with fail
      refine (awake_any _).mono ?_
      rintro e w2 ⟨rfl, h2⟩
      go_wp2
      go_ret
      exact ⟨rfl, hB.trans (h2.mono hB.size)⟩
    · have i2 : ¬ (200 : Int) < (k.size : Int) := by omega
      go_enter Try.func4, Try.ntmps4
      go_wp2
      (try rw [hw0])
      clear hw0
      go_loopw [7] (fun i wr => ∃ q : Nat, q ≤ n ∧ i = .int .i64 q ∧ Hid (∀ r ∈ bs.take q, r.length ≤ 60) ∧ wa = wr) (fun i _ => n - (intOf i).toNat)
      case atStart => exact ⟨0, Nat.zero_le _, rfl, Lib.hid (fun x hx => by simp at hx), rfl⟩
      case round =>
        obtain ⟨q, hq, rfl, hI, rfl⟩ := hrel
        by_cases hlt : q < n
        · have hgt := List.getElem?_eq_getElem (l := bs) (i := q) (by rw [HL.out.2.1]; exact hlt)
          generalize (bs[q]'(by rw [HL.out.2.1]; exact hlt)) = r at hgt
          obtain ⟨b, o, A2, cp2, rfl, _, hlb, d0, _, _⟩ := Li.HasLs.at HL.out.1 hgt
          have hrm := HL.out.2.2.1 _ (List.mem_of_getElem? hgt)
          obtain ⟨rn, hrn⟩ : ∃ rn, r.length = rn := ⟨_, rfl⟩
          have HT := Lib.hid (take_snocB hgt)
          have HRN := Lib.hid hrn
          rw [hrn] at d0 hrm
          have i1 : (q : Int) < (n : Int) := by omega
          have i0 : (0 : Int) ≤ (q : Int) := by omega
          clear hgt hrn
          by_cases h60 : 60 < rn
          · have i7 : (60 : Int) < (rn : Int) := by omega
            go_wp2_with fail
            refine (awake_any _).mono ?_
            rintro e w2 ⟨rfl, h2⟩
            go_wp2
            go_ret
            exact ⟨rfl, hB.trans (h2.mono hB.size)⟩
          · have i7 : ¬ (60 : Int) < (rn : Int) := by omega
            have HI : Hid (∀ r ∈ bs.take (q + 1), r.length ≤ 60) := Lib.hid (fun x hx => by
              rw [HT.out] at hx
              rcases List.mem_append.1 hx with h | h
              · exact hI.out x h
              · obtain rfl : x = r := by simpa using h
                rw [HRN.out]
                omega)
            go_wp2
            go_roundw
            case rel => exact ⟨q + 1, by omega, by go_num, HI, by trivial⟩
            case measure => simp [intOf]; omega
        · obtain rfl : q = n := by omega
          have hfull : bs.take q = bs := List.take_of_length_le (by rw [HL.out.2.1]; exact Nat.le_refl _)
          have h60 := hI.out
          rw [hfull] at h60
          obtain ⟨lv, hlv⟩ : ∃ lv, m % 9 = lv := ⟨_, rfl⟩
          obtain ⟨d, hd⟩ : ∃ d, m / 9 = d := ⟨_, rfl⟩
          obtain ⟨p, hp, hp1, hp2⟩ := powP (lv := lv) (by omega)
          have hpI := powI hp
          obtain ⟨nx, hnx⟩ : ∃ nx, d % p = nx := ⟨_, rfl⟩
          have hnp : nx < p := by rw [← hnx]; exact Nat.mod_lt _ (by omega)
          have hl8 : lv ≤ 8 := by omega
          have hcr := fun (W : World) (hW : HasBs W 0 A bs) => right_any (w := W) lv0 nx0 bs 0 hW HL.out.2.1 hc (by omega) (fun r hr => by have := h60 r hr; omega) HL.out.2.2.2 hl0 hl1 hx0 hx1
          have hcq := fun (W : World) (hW : HasBs W 0 A bs) => refRightH_any (cp := cp) (w := W) lv0 nx0 0 hW HL.out.2.1 (by omega) (fun r hr => by have := h60 r hr; omega) (fun r hr e he => (HL.out.2.2.2 r hr e he).k) hx0 hx1
          have hcw := fun (W : World) => where_any (w := W) lv nx k hl8 (by rw [hp]; exact hnp) (by omega)
          have hcv := fun (W : World) => refWhere_any lv nx k W hl8 (by omega) hk
          generalize MayH lv0 nx0 bs = may at hcr hcq
          generalize atN lv nx (spread k.data.toList) = at0 at hcw hcv
          have z1 : (m : Int) % 9 = (lv : Int) := by omega
          have z2 : (m : Int) / 9 = (d : Int) := by omega
          have E1 : Hid (wrap64 ((2 : Int) ^ lv) = (p : Int)) := Lib.hid (by rw [hpI]; exact w64 (by omega) (by omega))
          have E3 : Hid ((d : Int) % (p : Int) = (nx : Int)) := Lib.hid (by rw [← hnx]; push_cast; rfl)
          have hd9 : d ≤ 7282 := by omega
          have E7 : Hid (¬ wrap64 ((2 : Int) ^ lv) = 0) := Lib.hid (by rw [E1.out]; omega)
          have c0 := hx.c0
          have c1 := hx.c1
          have HW := Lib.hid (And.intro HL.out.1 hB)
          clear hpI hp hp1 hp2 hnx hnp hlv hd hfull h60 hI hx
          go_wp2_with fail
          rename ¬ wrap64 ((2 : Int) ^ lv) = 0 => h
          clear h
          rw [E1.out, E3.out]
          clear E1 E3 E7 z1 z2
          have hb := HW.out.1
          have hdr := (Below.refl wa.heap.size wa).drew
          refine Lex.region_lex (ops := htops) (calls := htcalls) htord (fun W => W.cell? ⟨g, 0, none⟩ = some (.int .i64 lv0) ∧ W.cell? ⟨g, 1, none⟩ = some (.int .i64 nx0) ∧ W.cell? ⟨g, 2, none⟩ = some (.slice A q cp)) (by kernel_rfl) (by kernel_rfl) htsel (by kernel_rfl) (by kernel_rfl) htlex (⟨cell_belowB hdr c0, cell_belowB hdr c1, cell_belowB hdr c2⟩) ?_
          unfold htord
          have c0 := cell_belowB hdr c0
          have c1 := cell_belowB hdr c1
          have c2 := cell_belowB hdr c2
          have hb := hb.below hdr (Nat.le_refl _)
          have hB := hB.trans (hdr.mono hB.size)
          clear hdr
          refine Lex.step_call ht0 rfl (Lex.want_none rfl) (fun K hK => ?_)
          go_simp
          refine (awake_any _).mono ?_
          rintro e y1 ⟨rfl, hv⟩
          have c0 := cell_belowB hv c0
          have c1 := cell_belowB hv c1
          have c2 := cell_belowB hv c2
          have hb := hb.below hv (Nat.le_refl _)
          have hB := hB.trans (hv.mono hB.size)
          clear hv
          refine hK.out _ _ _ (fun _ h => h) ⟨c0, c1, c2⟩ ?_
          clear hK K
          try simp only [Act.put, List.setIfInBounds_toArray, List.set_cons_zero, List.set_cons_succ]
          refine Lex.step_take (.bool true) ht1 rfl (Lex.want_none rfl) (by intro Wx hSw; (try dsimp only at hSw); go_simp; (try (first | (with_reducible rfl) | assumption | rfl))) ?_
          simp only [Act.put, List.setIfInBounds_toArray, List.set_cons_zero, List.set_cons_succ]
          refine Lex.step_take (.agg #[.int .i64 lv0, .int .i64 nx0, .slice A q cp]) ht2 rfl (Lex.want_some rfl ht1 rfl (b' := true) rfl rfl) (by intro Wx hSw; (try dsimp only at hSw); go_simp; (try (first | (with_reducible rfl) | assumption | rfl))) ?_
          simp only [Act.put, List.setIfInBounds_toArray, List.set_cons_zero, List.set_cons_succ]
          refine Lex.step_take (.agg #[.int .i64 lv0, .int .i64 nx0, .slice A q cp]) ht4 rfl (Lex.want_some rfl ht1 rfl (b' := true) rfl rfl) (by intro Wx hSw; (try dsimp only at hSw); go_simp; (try (first | (with_reducible rfl) | assumption | rfl))) ?_
          simp only [Act.put, List.setIfInBounds_toArray, List.set_cons_zero, List.set_cons_succ]
          refine Lex.step_call ht3 rfl (Lex.want_some rfl ht1 rfl (b' := true) rfl rfl) (fun K hK => ?_)
          go_simp
          refine (hcr _ hb).mono ?_
          rintro e y2 ⟨r1, rfl, hr1, hv⟩
          have c0 := cell_belowB hv c0
          have c1 := cell_belowB hv c1
          have c2 := cell_belowB hv c2
          have hb := hb.below hv (Nat.le_refl _)
          have hB := hB.trans (hv.mono hB.size)
          clear hv
          refine hK.out _ _ _ (fun _ h => h) ⟨c0, c1, c2⟩ ?_
          clear hK K
          try simp only [Act.put, List.setIfInBounds_toArray, List.set_cons_zero, List.set_cons_succ]
          refine Lex.step_call ht5 rfl (Lex.want_some rfl ht1 rfl (b' := true) rfl rfl) (fun K hK => ?_)
          go_simp
          refine (hcq _ hb).mono ?_
          rintro e y3 ⟨r2, rfl, hr2, hv⟩
          have c0 := cell_belowB hv c0
          have c1 := cell_belowB hv c1
          have c2 := cell_belowB hv c2
          have hb := hb.below hv (Nat.le_refl _)
          have hB := hB.trans (hv.mono hB.size)
          clear hv
          obtain rfl : r1 = r2 := by
            cases r1 <;> cases r2
            · rfl
            · exact hr1.2 (hr2.1 rfl)
            · exact (hr2.2 (hr1.1 rfl)).symm
            · rfl
          clear hr1 hr2 hcr hcq
          have hbq : (r1 == r1) = true := by simp
          refine hK.out _ _ _ (fun _ h => h) ⟨c0, c1, c2⟩ ?_
          clear hK K
          try simp only [Act.put, List.setIfInBounds_toArray, List.set_cons_zero, List.set_cons_succ]
          refine Lex.step_take (.bool true) ht6 rfl (Lex.want_some rfl ht1 rfl (b' := true) rfl rfl) (by intro Wx hSw; (try dsimp only at hSw); go_simp; (try (first | (with_reducible rfl) | assumption | rfl))) ?_
          simp only [Act.put, List.setIfInBounds_toArray, List.set_cons_zero, List.set_cons_succ]
          refine Lex.step_take (.bool true) ht7 rfl (Lex.want_none rfl) (by intro Wx hSw; (try dsimp only at hSw); go_simp; (try (first | (with_reducible rfl) | assumption | rfl))) ?_
          simp only [Act.put, List.setIfInBounds_toArray, List.set_cons_zero, List.set_cons_succ]
          refine Lex.step_take (.bool true) ht8 rfl (Lex.want_none rfl) (by intro Wx hSw; (try dsimp only at hSw); go_simp; (try (first | (with_reducible rfl) | assumption | rfl))) ?_
          simp only [Act.put, List.setIfInBounds_toArray, List.set_cons_zero, List.set_cons_succ]
          refine Lex.step_take (.int .i64 (lv : Int)) ht9 rfl (Lex.want_some rfl ht8 rfl (b' := true) rfl rfl) (by intro Wx hSw; (try dsimp only at hSw); go_simp; (try (first | (with_reducible rfl) | assumption | rfl))) ?_
          simp only [Act.put, List.setIfInBounds_toArray, List.set_cons_zero, List.set_cons_succ]
          refine Lex.step_take (.int .i64 (nx : Int)) ht10 rfl (Lex.want_some rfl ht8 rfl (b' := true) rfl rfl) (by intro Wx hSw; (try dsimp only at hSw); go_simp; (try (first | (with_reducible rfl) | assumption | rfl))) ?_
          simp only [Act.put, List.setIfInBounds_toArray, List.set_cons_zero, List.set_cons_succ]
          refine Lex.step_take (.string k) ht11 rfl (Lex.want_some rfl ht8 rfl (b' := true) rfl rfl) (by intro Wx hSw; (try dsimp only at hSw); go_simp; (try (first | (with_reducible rfl) | assumption | rfl))) ?_
          simp only [Act.put, List.setIfInBounds_toArray, List.set_cons_zero, List.set_cons_succ]
          refine Lex.step_take (.int .i64 (lv : Int)) ht13 rfl (Lex.want_some rfl ht8 rfl (b' := true) rfl rfl) (by intro Wx hSw; (try dsimp only at hSw); go_simp; (try (first | (with_reducible rfl) | assumption | rfl))) ?_
          simp only [Act.put, List.setIfInBounds_toArray, List.set_cons_zero, List.set_cons_succ]
          refine Lex.step_take (.int .i64 (nx : Int)) ht14 rfl (Lex.want_some rfl ht8 rfl (b' := true) rfl rfl) (by intro Wx hSw; (try dsimp only at hSw); go_simp; (try (first | (with_reducible rfl) | assumption | rfl))) ?_
          simp only [Act.put, List.setIfInBounds_toArray, List.set_cons_zero, List.set_cons_succ]
          refine Lex.step_take (.string k) ht15 rfl (Lex.want_some rfl ht8 rfl (b' := true) rfl rfl) (by intro Wx hSw; (try dsimp only at hSw); go_simp; (try (first | (with_reducible rfl) | assumption | rfl))) ?_
          simp only [Act.put, List.setIfInBounds_toArray, List.set_cons_zero, List.set_cons_succ]
          refine Lex.step_call ht12 rfl (Lex.want_some rfl ht8 rfl (b' := true) rfl rfl) (fun K hK => ?_)
          go_simp
          refine (hcw _).mono ?_
          rintro e y4 ⟨rfl, hv⟩
          have c0 := cell_belowB hv c0
          have c1 := cell_belowB hv c1
          have c2 := cell_belowB hv c2
          have hb := hb.below hv (Nat.le_refl _)
          have hB := hB.trans (hv.mono hB.size)
          clear hv
          refine hK.out _ _ _ (fun _ h => h) ⟨c0, c1, c2⟩ ?_
          clear hK K
          try simp only [Act.put, List.setIfInBounds_toArray, List.set_cons_zero, List.set_cons_succ]
          refine Lex.step_call ht16 rfl (Lex.want_some rfl ht8 rfl (b' := true) rfl rfl) (fun K hK => ?_)
          go_simp
          refine (hcv _).mono ?_
          rintro e y5 ⟨rfl, hv⟩
          have c0 := cell_belowB hv c0
          have c1 := cell_belowB hv c1
          have c2 := cell_belowB hv c2
          have hb := hb.below hv (Nat.le_refl _)
          have hB := hB.trans (hv.mono hB.size)
          clear hv
          refine hK.out _ _ _ (fun _ h => h) ⟨c0, c1, c2⟩ ?_
          clear hK K
          try simp only [Act.put, List.setIfInBounds_toArray, List.set_cons_zero, List.set_cons_succ]
          refine Lex.step_take (.bool true) ht17 rfl (Lex.want_some rfl ht8 rfl (b' := true) rfl rfl) (by intro Wx hSw; (try dsimp only at hSw); go_simp; (try (first | (with_reducible rfl) | assumption | rfl))) ?_
          simp only [Act.put, List.setIfInBounds_toArray, List.set_cons_zero, List.set_cons_succ]
          refine Lex.step_take (.bool true) ht18 rfl (Lex.want_none rfl) (by intro Wx hSw; (try dsimp only at hSw); go_simp; (try (first | (with_reducible rfl) | assumption | rfl))) ?_
          simp only [Act.put, List.setIfInBounds_toArray, List.set_cons_zero, List.set_cons_succ]
          refine Lex.step_take (.bool true) ht19 rfl (Lex.want_none rfl) (by intro Wx hSw; (try dsimp only at hSw); go_simp; (try (first | (with_reducible rfl) | assumption | rfl))) ?_
          simp only [Act.put, List.setIfInBounds_toArray, List.set_cons_zero, List.set_cons_succ]
          refine NoPanic.normal ?_
          clear hcw hcv hb c0 c1 c2
          go_wp2
          go_ret
          exact ⟨rfl, hB⟩
end
end Go.Proofs.Ytocmkjccaajnnaa.Ha
