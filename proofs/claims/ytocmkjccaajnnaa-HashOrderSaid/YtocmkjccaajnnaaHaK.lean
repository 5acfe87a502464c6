/- May an index be: the document's, walked. -/
import Derived.Test.YtocmkjccaajnnaaHaJ
namespace Go.Proofs.Ytocmkjccaajnnaa.Ha
open Go.RowKit Pac Bu Ls Lex Go.Proofs.Ytocmkjccaajnnaa.Or

structure MayH (lv nx : Int) (bs : List (List E)) : Prop where
  l0 : 0 ≤ lv
  l8 : lv ≤ 8
  n0 : 0 ≤ nx
  n2 : nx < ((2 ^ lv.toNat : Nat) : Int)
  len : (bs.length : Int) = ((2 ^ lv.toNat : Nat) : Int) + nx
  isb : ∀ b ∈ bs, IsB b
  own : ∀ (i : Nat) (b : List E), bs[i]? = some b → ∀ e ∈ b, atN lv.toNat nx.toNat (spread e.k) = i
theorem may_no1 {l j n p : Nat} {bs : List (List E)} (hw : wrap64 ((2 : Int) ^ l) = (p : Int) ∧ 2 ^ l = p) (hp : p ≤ 256) (hn : bs.length = n) (h1 : (j : Int) < wrap64 ((2 : Int) ^ l)) (h8 : (l : Int) ≤ 8)
    (h : ((((l : Int) < 0 ∨ 8 < (l : Int)) ∨ (j : Int) < 0) ∨ wrap64 ((2 : Int) ^ l) ≤ (j : Int)) ∨ ((n : Int) != wrap64 (wrap64 ((2 : Int) ^ l) + (j : Int))) = true) : ¬ MayH l j bs := fun m => by
  rw [hw.1] at h h1
  rw [w64 (by omega) (by omega)] at h
  have hl := m.len
  rw [Int.toNat_natCast, hw.2, hn] at hl
  rcases h with h | h
  · omega
  · rw [bne_iff_ne] at h
    exact h hl
theorem may_no3 {l j p : Nat} {bs : List (List E)} (hw : wrap64 ((2 : Int) ^ l) = (p : Int) ∧ 2 ^ l = p) (h : wrap64 ((2 : Int) ^ l) ≤ (j : Int)) : ¬ MayH l j bs := fun m => by
  rw [hw.1] at h
  have hl := m.n2
  rw [Int.toNat_natCast, hw.2] at hl
  omega
theorem may_yes {l j n p : Nat} (hw : wrap64 ((2 : Int) ^ l) = (p : Int) ∧ 2 ^ l = p) (hp : p ≤ 256)
    (h : ((((0 : Int) ≤ (l : Int) ∧ (l : Int) ≤ 8) ∧ (0 : Int) ≤ (j : Int)) ∧ (j : Int) < wrap64 ((2 : Int) ^ l)) ∧ ((n : Int) != wrap64 (wrap64 ((2 : Int) ^ l) + (j : Int))) = false) : j < p ∧ n = p + j := by
  rw [hw.1] at h
  have h1 := h.1.2
  rw [w64 (by omega) (by omega)] at h
  have h2 := h.2
  simp at h2
  omega
def GoodB (l j : Nat) (bs : List (List E)) (q : Nat) : Prop := ∀ (i : Nat) (b : List E), i < q → bs[i]? = some b → IsB b ∧ ∀ e ∈ b, atN l j (spread e.k) = i
section
variable {A : Option Addr} {n cp : Nat} {bs : List (List E)} {w : World}
set_option maxRecDepth 20000 in
set_option maxHeartbeats 6400000 in
theorem refRightH_any (lv nx : Int) (lo : Nat) (hb : HasBs w lo A bs) (hn : bs.length = n) (h9 : n ≤ 100000) (hr9 : ∀ r ∈ bs, r.length ≤ 100000) (hks : ∀ r ∈ bs, ∀ e ∈ r, e.key.size ≤ 9223372036854775807) (hnx0 : -9223372036854775808 ≤ nx) (hnx1 : nx ≤ 9223372036854775807) :
    Calls Try.prog 24 #[.agg #[.int .i64 lv, .int .i64 nx, .slice A n cp]] w (SameHPost (MayH lv nx bs) w) := by
  have hB := (Below.refl w.heap.size w).alloc (Nat.le_refl _) (.cells #[.int .i64 lv, .int .i64 nx, .slice A n cp] 27)
  have hx := Box3.new w (.int .i64 lv) (.int .i64 nx) (.slice A n cp) 27
  obtain ⟨g, hg⟩ : ∃ g, w.heap.size = g := ⟨_, rfl⟩
  rw [hg] at hx
  generalize hw0 : w.alloc (.cells #[.int .i64 lv, .int .i64 nx, .slice A n cp] 27) = wa at hB hx
  have HL := Lib.hid (And.intro (hb.below hB (Nat.le_refl _)) (And.intro hn (And.intro hr9 hks)))
  clear hb hr9 hks
  generalize hP : MayH lv nx bs = MP
  have HP := Lib.hid hP
  clear hP
  have x0 := hx.c0
  have x1 := hx.c1
  have x2 := hx.c2
  go_enter Try.func24, Try.ntmps24
  by_cases a1 : lv < 0
  · have HQ : Hid (¬ MP) := Lib.hid (by rw [← HP.out]; intro h; have := h.l0; omega)
    clear hn
    go_wp2
    go_ret
    exact ⟨false, rfl, ⟨fun e => (by cases e), fun e => absurd e HQ.out⟩, hB⟩
  by_cases a2 : 8 < lv
  · have HQ : Hid (¬ MP) := Lib.hid (by rw [← HP.out]; intro h; have := h.l8; omega)
    clear hn
    go_wp2
    go_ret
    exact ⟨false, rfl, ⟨fun e => (by cases e), fun e => absurd e HQ.out⟩, hB⟩
  by_cases a3 : nx < 0
  · have HQ : Hid (¬ MP) := Lib.hid (by rw [← HP.out]; intro h; have := h.n0; omega)
    clear hn
    go_wp2
    go_ret
    exact ⟨false, rfl, ⟨fun e => (by cases e), fun e => absurd e HQ.out⟩, hB⟩
  obtain ⟨l, rfl⟩ : ∃ l : Nat, lv = (l : Int) := ⟨lv.toNat, by omega⟩
  obtain ⟨j, rfl⟩ : ∃ j : Nat, nx = (j : Int) := ⟨nx.toNat, by omega⟩
  have hl8 : l ≤ 8 := by omega
  obtain ⟨p, hp, hp1, hp2⟩ := powP hl8
  have HPW : Hid (wrap64 ((2 : Int) ^ l) = (p : Int) ∧ 2 ^ l = p) := Lib.hid ⟨by rw [powI hp]; exact w64 (by omega) (by omega), hp⟩
  have hlt : ((l : Int)).toNat = l := by omega
  clear hp hn a1 a2 a3
  go_wp2
  · rename (((((l : Int) < 0 ∨ 8 < (l : Int)) ∨ (j : Int) < 0) ∨ wrap64 ((2 : Int) ^ l) ≤ (j : Int)) ∨ ((n : Int) != wrap64 (wrap64 ((2 : Int) ^ l) + (j : Int))) = true) => h
    rename (j : Int) < wrap64 ((2 : Int) ^ l) => h1
    have HQ : Hid (¬ MP) := Lib.hid (by rw [← HP.out]; exact may_no1 HPW.out hp2 HL.out.2.1 h1 (by assumption) h)
    go_ret
    exact ⟨false, rfl, ⟨fun e => (by cases e), fun e => absurd e HQ.out⟩, hB⟩
  · rename (((((0 : Int) ≤ (l : Int) ∧ (l : Int) ≤ 8) ∧ (0 : Int) ≤ (j : Int)) ∧ (j : Int) < wrap64 ((2 : Int) ^ l)) ∧ ((n : Int) != wrap64 (wrap64 ((2 : Int) ^ l) + (j : Int))) = false) => h
    rename (j : Int) < wrap64 ((2 : Int) ^ l) => h1
    obtain ⟨hjp, hnp⟩ := may_yes HPW.out hp2 h
    clear h h1 x0 x1 x2 hlt
    go_loopw [3] (fun i wr => ∃ q : Nat, q ≤ n ∧ i = .int .i64 q ∧ Hid (GoodB l j bs q) ∧ Below wa.heap.size wa wr) (fun i _ => n - (intOf i).toNat)
    case atStart => exact ⟨0, Nat.zero_le _, rfl, Lib.hid (fun i b h => absurd h (Nat.not_lt_zero _)), Below.refl _ _⟩
    case round =>
      obtain ⟨q, hq, rfl, hG, hy⟩ := hrel
      have x2 := (hx.below hy hx.lt).c2
      by_cases hlt : q < n
      · have hgt := List.getElem?_eq_getElem (l := bs) (i := q) (by rw [HL.out.2.1]; exact hlt)
        generalize (bs[q]'(by rw [HL.out.2.1]; exact hlt)) = r at hgt
        obtain ⟨b, o, A3, c3, rfl, _, hlb, d0, hr1, hmc⟩ := Li.HasLs.at (HL.out.1.below hy (Nat.le_refl _)) hgt
        have hrm := HL.out.2.2.1 _ (List.mem_of_getElem? hgt)
        have hkr := HL.out.2.2.2 _ (List.mem_of_getElem? hgt)
        obtain ⟨m, hm⟩ : ∃ m, r.length = m := ⟨_, rfl⟩
        rw [hm] at d0 hrm
        have hcR := refRight_any (cp := c3) lo hr1 hm hrm
        have i1 : (q : Int) < (n : Int) := by omega
        have i0 : (0 : Int) ≤ (q : Int) := by omega
        have HGT := Lib.hid (And.intro hgt (And.intro hm hkr))
        clear hgt hm hkr hmc hr1
        go_wp2_with fail
        refine hcR.mono ?_
        rintro e y1 ⟨br, rfl, hbr, hv⟩
        have hy := hy.trans (hv.mono hy.size)
        clear hcR hv x2 d0
        cases br
        · have HQ : Hid (¬ MP) := Lib.hid (by
            rw [← HP.out]
            intro h
            have := hbr.2 (h.isb r (List.mem_of_getElem? HGT.out.1))
            cases this)
          have hB := hB.trans (hy.mono hB.size)
          clear hbr
          go_wp2
          go_ret
          exact ⟨false, rfl, ⟨fun e => (by cases e), fun e => absurd e HQ.out⟩, hB⟩
        · have HI := Lib.hid (hbr.1 rfl)
          clear hbr
          go_wp2
          go_loopw [4] (fun i wr => ∃ t : Nat, t ≤ m ∧ i = .int .i64 t ∧ Hid (∀ e ∈ r.take t, atN l j (spread e.k) = q) ∧ Below wa.heap.size wa wr) (fun i _ => m - (intOf i).toNat)
          case atStart => exact ⟨0, Nat.zero_le _, rfl, Lib.hid (fun e he => by simp at he), hy⟩
          case round =>
            clear hy
            obtain ⟨t, ht, rfl, hT, hy⟩ := hrel
            obtain ⟨b', o', A4, c4, e', _, _, d0, hr1, _⟩ := Li.HasLs.at (HL.out.1.below hy (Nat.le_refl _)) HGT.out.1
            injection e' with e'
            injection e' with a1 a2
            subst a1 a2
            rw [HGT.out.2.1] at d0
            have hxr := hx.below hy hx.lt
            have x0 := hxr.c0
            have x1 := hxr.c1
            have x2 := hxr.c2
            by_cases htm : t < m
            · have hge := List.getElem?_eq_getElem (l := r) (i := t) (by rw [HGT.out.2.1]; exact htm)
              generalize (r[t]'(by rw [HGT.out.2.1]; exact htm)) = x at hge
              obtain ⟨b1, o1, rfl, _, _, f0, _, _⟩ := HasE.at hr1 hge
              have hkx := HGT.out.2.2 _ (List.mem_of_getElem? hge)
              obtain ⟨ek, et, es⟩ := x
              simp only at f0 hkx
              have hcW := fun W : World => refWhere_any l j ek W hl8 (by omega) hkx
              obtain ⟨c, hc⟩ : ∃ c, atN l j (spread ek.data.toList) = c := ⟨_, rfl⟩
              rw [hc] at hcW
              obtain ⟨rb, hrb⟩ : ∃ rb, ((c : Int) != (q : Int)) = rb := ⟨_, rfl⟩
              have HGE := Lib.hid (And.intro hge hc)
              have j1 : (t : Int) < (m : Int) := by omega
              have j0 : (0 : Int) ≤ (t : Int) := by omega
              clear hge hc hxr hr1 hkx
              go_wp2_with fail
              have hdr := (Below.refl wr.heap.size wr).drew
              refine Lex.region_lex (ops := hrops) (calls := hrcalls) hrord (fun W => W.cell? ⟨g, 0, none⟩ = some (.int .i64 (l : Int)) ∧ W.cell? ⟨g, 1, none⟩ = some (.int .i64 (j : Int)) ∧ W.cell? ⟨g, 2, none⟩ = some (.slice (some ⟨b, o, none⟩) n cp) ∧ W.cell? ⟨b, o + q, none⟩ = some (.slice (some ⟨b1, o1, none⟩) m c4) ∧ W.cell? ⟨b1, o1 + t * 3, none⟩ = some (.string ek)) (by kernel_rfl) (by kernel_rfl) hrsel (by kernel_rfl) (by kernel_rfl) hrlex (⟨cell_belowB hdr x0, cell_belowB hdr x1, cell_belowB hdr x2, cell_belowB hdr d0, cell_belowB hdr f0⟩) ?_
              unfold hrord
              have x0 := cell_belowB hdr x0
              have x1 := cell_belowB hdr x1
              have x2 := cell_belowB hdr x2
              have d0 := cell_belowB hdr d0
              have f0 := cell_belowB hdr f0
              have hy := hy.trans (hdr.mono hy.size)
              clear hdr
              refine Lex.step_take (.pointer (some ⟨g, 0, none⟩)) hr0 rfl (Lex.want_none rfl) (by intro Wx hSw; (try dsimp only at hSw); go_simp; (try (first | (with_reducible rfl) | assumption | rfl))) ?_
              simp only [Act.put, List.setIfInBounds_toArray, List.set_cons_zero, List.set_cons_succ]
              refine Lex.step_take (.int .i64 (l : Int)) hr1 rfl (Lex.want_none rfl) (by intro Wx hSw; (try dsimp only at hSw); go_simp; (try (first | (with_reducible rfl) | assumption | rfl))) ?_
              simp only [Act.put, List.setIfInBounds_toArray, List.set_cons_zero, List.set_cons_succ]
              refine Lex.step_take (.pointer (some ⟨g, 1, none⟩)) hr2 rfl (Lex.want_none rfl) (by intro Wx hSw; (try dsimp only at hSw); go_simp; (try (first | (with_reducible rfl) | assumption | rfl))) ?_
              simp only [Act.put, List.setIfInBounds_toArray, List.set_cons_zero, List.set_cons_succ]
              refine Lex.step_take (.int .i64 (j : Int)) hr3 rfl (Lex.want_none rfl) (by intro Wx hSw; (try dsimp only at hSw); go_simp; (try (first | (with_reducible rfl) | assumption | rfl))) ?_
              simp only [Act.put, List.setIfInBounds_toArray, List.set_cons_zero, List.set_cons_succ]
              refine Lex.step_take (.pointer (some ⟨g, 2, none⟩)) hr4 rfl (Lex.want_none rfl) (by intro Wx hSw; (try dsimp only at hSw); go_simp; (try (first | (with_reducible rfl) | assumption | rfl))) ?_
              simp only [Act.put, List.setIfInBounds_toArray, List.set_cons_zero, List.set_cons_succ]
              refine Lex.step_take (.slice (some ⟨b, o, none⟩) n cp) hr5 rfl (Lex.want_none rfl) (by intro Wx hSw; (try dsimp only at hSw); go_simp; (try (first | (with_reducible rfl) | assumption | rfl))) ?_
              simp only [Act.put, List.setIfInBounds_toArray, List.set_cons_zero, List.set_cons_succ]
              refine Lex.step_take (.int .i64 (q : Int)) hr6 rfl (Lex.want_none rfl) (by intro Wx hSw; (try dsimp only at hSw); go_simp; (try (first | (with_reducible rfl) | assumption | rfl))) ?_
              simp only [Act.put, List.setIfInBounds_toArray, List.set_cons_zero, List.set_cons_succ]
              refine Lex.step_take (.pointer (some ⟨b, o + q, none⟩)) hr7 rfl (Lex.want_none rfl) (by intro Wx hSw; (try dsimp only at hSw); go_simp; (try (first | (with_reducible rfl) | assumption | rfl))) ?_
              simp only [Act.put, List.setIfInBounds_toArray, List.set_cons_zero, List.set_cons_succ]
              refine Lex.step_take (.slice (some ⟨b1, o1, none⟩) m c4) hr8 rfl (Lex.want_none rfl) (by intro Wx hSw; (try dsimp only at hSw); go_simp; (try (first | (with_reducible rfl) | assumption | rfl))) ?_
              simp only [Act.put, List.setIfInBounds_toArray, List.set_cons_zero, List.set_cons_succ]
              refine Lex.step_take (.int .i64 (t : Int)) hr9 rfl (Lex.want_none rfl) (by intro Wx hSw; (try dsimp only at hSw); go_simp; (try (first | (with_reducible rfl) | assumption | rfl))) ?_
              simp only [Act.put, List.setIfInBounds_toArray, List.set_cons_zero, List.set_cons_succ]
              refine Lex.step_take (.pointer (some ⟨b1, o1 + t * 3, none⟩)) hr10 rfl (Lex.want_none rfl) (by intro Wx hSw; (try dsimp only at hSw); go_simp; (try (first | (with_reducible rfl) | assumption | rfl))) ?_
              simp only [Act.put, List.setIfInBounds_toArray, List.set_cons_zero, List.set_cons_succ]
              refine Lex.step_take (.pointer (some ⟨b1, o1 + t * 3, none⟩)) hr11 rfl (Lex.want_none rfl) (by intro Wx hSw; (try dsimp only at hSw); go_simp; (try (first | (with_reducible rfl) | assumption | rfl))) ?_
              simp only [Act.put, List.setIfInBounds_toArray, List.set_cons_zero, List.set_cons_succ]
              refine Lex.step_take (.string ek) hr12 rfl (Lex.want_none rfl) (by intro Wx hSw; (try dsimp only at hSw); go_simp; (try (first | (with_reducible rfl) | assumption | rfl))) ?_
              simp only [Act.put, List.setIfInBounds_toArray, List.set_cons_zero, List.set_cons_succ]
              refine Lex.step_take (.int .i64 (q : Int)) hr14 rfl (Lex.want_none rfl) (by intro Wx hSw; (try dsimp only at hSw); go_simp; (try (first | (with_reducible rfl) | assumption | rfl))) ?_
              simp only [Act.put, List.setIfInBounds_toArray, List.set_cons_zero, List.set_cons_succ]
              refine Lex.step_call hr13 rfl (Lex.want_none rfl) (fun K hK => ?_)
              go_simp
              refine (hcW _).mono ?_
              rintro e y3 ⟨rfl, hv⟩
              have x0 := cell_belowB hv x0
              have x1 := cell_belowB hv x1
              have x2 := cell_belowB hv x2
              have d0 := cell_belowB hv d0
              have f0 := cell_belowB hv f0
              have hy := hy.trans (hv.mono hy.size)
              clear hv
              refine hK.out _ _ _ (fun _ h => h) ⟨x0, x1, x2, d0, f0⟩ ?_
              clear hK K
              try simp only [Act.put, List.setIfInBounds_toArray, List.set_cons_zero, List.set_cons_succ]
              refine Lex.step_take (.bool rb) hr15 rfl (Lex.want_none rfl) (by intro Wx hSw; (try dsimp only at hSw); go_simp; (try (first | (with_reducible rfl) | assumption | rfl))) ?_
              simp only [Act.put, List.setIfInBounds_toArray, List.set_cons_zero, List.set_cons_succ]
              refine NoPanic.normal ?_
              clear x0 x1 x2 d0 f0 hcW
              cases rb
              · have HT : Hid (∀ e ∈ r.take (t + 1), atN l j (spread e.k) = q) := Lib.hid (fun e he => by
                  rw [take_snoc HGE.out.1] at he
                  rcases List.mem_append.1 he with h | h
                  · exact hT.out e h
                  · obtain rfl : e = ⟨ek, et, es⟩ := by simpa using h
                    show atN l j (spread ek.data.toList) = q
                    rw [HGE.out.2]
                    have := (bne_eq_false_iff_eq.1 hrb)
                    omega)
                clear hrb
                go_wp2
                go_roundw
                case rel => exact ⟨t + 1, by omega, by go_num, HT, hy⟩
                case measure => simp [intOf]; omega
              · have HQ : Hid (¬ MP) := Lib.hid (by
                  rw [← HP.out]
                  intro h
                  have h1 := h.own q r HGT.out.1 _ (List.mem_of_getElem? HGE.out.1)
                  rw [Int.toNat_natCast, Int.toNat_natCast] at h1
                  have h2 : c = q := by rw [← HGE.out.2]; exact h1
                  rw [h2] at hrb
                  simp at hrb)
                have hB := hB.trans (hy.mono hB.size)
                clear hrb
                go_wp2
                go_ret
                exact ⟨false, rfl, ⟨fun e => (by cases e), fun e => absurd e HQ.out⟩, hB⟩
            · obtain rfl : m = t := by omega
              have HG2 : Hid (GoodB l j bs (q + 1)) := Lib.hid (fun i b hi hb => by
                by_cases h : i = q
                · rw [h, HGT.out.1] at hb
                  injection hb with hb
                  subst hb
                  have h2 := hT.out
                  rw [List.take_of_length_le (by rw [HGT.out.2.1]; exact Nat.le_refl _)] at h2
                  exact h ▸ ⟨HI.out, h2⟩
                · exact hG.out i b (by omega) hb)
              go_wp2
              go_roundw
              case rel => first | exact ⟨q + 1, by omega, by go_num, HG2⟩ | exact ⟨q + 1, by omega, by go_num, HG2, hy⟩
              case measure => simp [intOf]; omega
      · obtain rfl : n = q := by omega
        have HY : Hid MP := Lib.hid (by
          rw [← HP.out]
          have hlen := HL.out.2.1
          refine ⟨by omega, by omega, by omega, ?_, ?_, fun b hb => ?_, fun i b hb => ?_⟩
          · rw [Int.toNat_natCast, HPW.out.2]; omega
          · rw [Int.toNat_natCast, HPW.out.2, hlen]; omega
          · obtain ⟨i, hi⟩ := List.mem_iff_getElem?.1 hb
            exact (hG.out i b (by have := (List.getElem?_eq_some_iff.1 hi).1; omega) hi).1
          · rw [Int.toNat_natCast, Int.toNat_natCast]
            exact (hG.out i b (by have := (List.getElem?_eq_some_iff.1 hb).1; omega) hb).2)
        have hB := hB.trans (hy.mono hB.size)
        go_wp2
        go_ret
        exact ⟨true, rfl, ⟨fun _ => HY.out, fun _ => rfl⟩, hB⟩
  · rename wrap64 ((2 : Int) ^ l) ≤ (j : Int) => h
    have HQ : Hid (¬ MP) := Lib.hid (by rw [← HP.out]; exact may_no3 HPW.out h)
    go_ret
    exact ⟨false, rfl, ⟨fun e => (by cases e), fun e => absurd e HQ.out⟩, hB⟩
end
end Go.Proofs.Ytocmkjccaajnnaa.Ha
