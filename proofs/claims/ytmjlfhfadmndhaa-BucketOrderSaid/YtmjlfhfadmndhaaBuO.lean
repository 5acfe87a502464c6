/- BucketOrder, walked. -/
import Derived.Test.YtmjlfhfadmndhaaBuN
import Derived.Test.YtmjlfhfadmndhaaXub
namespace Go.Proofs.Ytmjlfhfadmndhaa.Bu
open Go.RowKit Pac Ls Lex

/-- A list that begins elsewhere. -/
def rot (l : List E) (t : Nat) : List E := l.drop (t % l.length) ++ l.take (t % l.length)
theorem rot_perm (l : List E) (t : Nat) : l.Perm (rot l t) := by
  have h : (l.take (t % l.length) ++ l.drop (t % l.length)).Perm (rot l t) := List.perm_append_comm
  rw [List.take_append_drop] at h
  exact h
theorem rot_len (l : List E) (t : Nat) : (rot l t).length = l.length := (rot_perm l t).length_eq.symm
theorem mod_at {q t n : Nat} (hq : q < n) : (q + t) % n = if q + t % n < n then q + t % n else q + t % n - n := by
  have h1 := Nat.mod_lt t (show 0 < n by omega)
  rw [Nat.add_mod, Nat.mod_eq_of_lt hq]
  split
  · next h => exact Nat.mod_eq_of_lt h
  · next h => rw [Nat.mod_eq_sub_mod (by omega), Nat.mod_eq_of_lt (by omega)]
theorem rot_at {l : List E} {t q : Nat} (hq : q < l.length) : (rot l t)[q]? = l[(q + t) % l.length]? := by
  have h1 := Nat.mod_lt t (show 0 < l.length by omega)
  unfold rot
  rw [mod_at hq, List.getElem?_append, List.length_drop]
  by_cases h : q + t % l.length < l.length
  · rw [if_pos (by omega), if_pos h, List.getElem?_drop, Nat.add_comm]
  · rw [if_neg (by omega), if_neg h, List.getElem?_take, if_pos (by omega)]
    congr 1
    omega
def Unlike (l : List E) : Prop := l.Pairwise (fun x y => x.k ≠ y.k)
theorem unlike_next {l : List E} {q : Nat} {x : E} (hx : l[q]? = some x) (h : Unlike (l.take q)) (hn : ∀ y ∈ l.take q, y.key ≠ x.key) : Unlike (l.take (q + 1)) := by
  rw [take_snoc hx]
  refine List.pairwise_append.2 ⟨h, List.pairwise_singleton _ _, fun y hy z hz e => ?_⟩
  have : z = x := by simpa using hz
  subst this
  exact hn y hy (key_ext e)
theorem puts_next {l : List E} {q : Nat} {x : E} (hx : l[q]? = some x) : putL (puts [] (l.take q)) x = puts [] (l.take (q + 1)) := by
  rw [take_snoc hx, puts_snoc]
theorem puts_len (l : List E) : (puts [] l).length ≤ l.length := by
  have h : ∀ (l b : List E), (puts b l).length ≤ b.length + l.length := by
    intro l
    induction l with
    | nil => intro b; exact Nat.le_refl _
    | cons e l ih =>
      intro b
      have h1 := ih (putL b e)
      have h2 := (len_put b e).2
      show (puts (putL b e) l).length ≤ _
      rw [List.length_cons]
      omega
  have := h l []
  simpa using this
section
variable {A : Option Addr} {n cp : Nat} {l : List E} {w : World}
set_option maxRecDepth 20000 in
set_option maxHeartbeats 6400000 in
theorem order_any (t : Nat) (hl : HasE w 0 A l) (hn : l.length = n) (hc : n ≤ cp) (hl9 : n ≤ 9223372036854775807) (ht : t ≤ 255) :
    Calls Try.prog 7 #[.slice A n cp, .int .u8 t] w fun e w' => e = .returned (.bool true) ∧ Below w.heap.size w w' := by
  have hcs := small_any (cp := cp) 0 hl hn hl9
  have HL := Lib.hid (And.intro hl hn)
  clear hl hn
  go_enter Try.func7, Try.ntmps7
  go_wp2_with fail
  refine hcs.mono ?_
  rintro e w1 ⟨b, rfl, hb0, hb⟩
  clear hcs
  cases b
  · clear hb0
    go_wp2_with fail
    refine (awake_any _).mono ?_
    rintro e wz ⟨rfl, hz⟩
    go_wp2
    go_ret
    exact ⟨rfl, hb.trans (hz.mono hb.size)⟩
  have hsm := hb0.1 rfl
  have hn60 : n ≤ 60 := by have := hsm.len; rw [HL.out.2] at this; exact this
  clear hb0 hsm
  by_cases hn0 : n = 0
  · subst hn0
    go_wp2_with fail
    refine (awake_any _).mono ?_
    rintro e wz ⟨rfl, hz⟩
    go_wp2
    go_ret
    exact ⟨rfl, hb.trans (hz.mono hb.size)⟩
  have hn0' : ((n : Int) == 0) = false := beq_eq_false_iff_ne.2 (by omega)
  go_wp2
  go_loopw [5] (fun i wr => ∃ q : Nat, q ≤ n ∧ i = .int .i64 q ∧ Hid (Unlike (l.take q)) ∧ Below w.heap.size w wr) (fun i _ => n - (intOf i).toNat)
  case atStart => exact ⟨0, Nat.zero_le _, rfl, Lib.hid List.Pairwise.nil, hb⟩
  case round =>
    clear hb
    obtain ⟨q, hq, rfl, hI, hb⟩ := hrel
    by_cases hlt : q < n
    · have hgt := List.getElem?_eq_getElem (l := l) (i := q) (by rw [HL.out.2]; exact hlt)
      generalize (l[q]'(by rw [HL.out.2]; exact hlt)) = x at hgt
      have HGT := Lib.hid hgt
      have i1 : (q : Int) < (n : Int) := by omega
      have i0 : (0 : Int) ≤ (q : Int) := by omega
      clear hgt
      go_wp2
      go_loopw [6] (fun i wr2 => ∃ j : Nat, j ≤ q ∧ i = .int .i64 j ∧ Hid (∀ y ∈ l.take j, y.key ≠ x.key) ∧ Below w.heap.size w wr2) (fun i _ => q - (intOf i).toNat)
      case atStart => exact ⟨0, Nat.zero_le _, rfl, Lib.hid (fun y hy => by simp at hy), hb⟩
      case round =>
        clear hb
        obtain ⟨j, hj, rfl, hJ, hb⟩ := hrel
        by_cases hjq : j < q
        · have hgp := List.getElem?_eq_getElem (l := l) (i := j) (by rw [HL.out.2]; omega)
          generalize (l[j]'(by rw [HL.out.2]; omega)) = y at hgp
          obtain ⟨b, o, rfl, _, hlb, d0, _, _⟩ := HasE.at (HL.out.1.below hb (Nat.le_refl _)) HGT.out
          obtain ⟨b', o', hA', _, hlb', e0, _, _⟩ := HasE.at (HL.out.1.below hb (Nat.le_refl _)) hgp
          injection hA' with hA'
          injection hA' with a1 a2
          subst a1 a2
          have j1 : (j : Int) < (q : Int) := by omega
          have j2 : (j : Int) < (n : Int) := by omega
          have j3 : (0 : Int) ≤ (j : Int) := by omega
          by_cases hk : y.key = x.key
          · have hbk : (y.key.toList == x.key.toList) = true := by rw [hk]; simp
            rw [hk] at e0
            clear hk hgp
            go_wp2
            go_quiet (fail)
            have hb := hb.trans (below_drewN (Below.refl _ _) nq |>.mono hb.size)
            clear d0 e0
            go_wp2_with fail
            refine (awake_any _).mono ?_
            rintro e wz ⟨rfl, hz⟩
            go_wp2
            go_ret
            exact ⟨rfl, hb.trans (hz.mono hb.size)⟩
          · have hbk : (y.key.toList == x.key.toList) = false := by rw [key_beq]; exact decide_eq_false (fun h => hk (key_ext h))
            have HJ : Hid (∀ y ∈ l.take (j + 1), y.key ≠ x.key) := Lib.hid (fun z hz => by
              rw [take_snoc hgp] at hz
              rcases List.mem_append.1 hz with h | h
              · exact hJ.out z h
              · have : z = y := by simpa using h
                rw [this]
                exact hk)
            clear hk hgp
            go_wp2
            go_quiet (fail)
            have hb := hb.trans (below_drewN (Below.refl _ _) nq |>.mono hb.size)
            clear d0 e0
            go_wp2
            go_roundw
            case rel => exact ⟨j + 1, by omega, by go_num, HJ, hb⟩
            case measure => simp [intOf]; omega
        · obtain rfl : j = q := by omega
          have HU := Lib.hid (unlike_next HGT.out hI.out hJ.out)
          go_wp2
          go_roundw
          case rel => exact ⟨j + 1, by omega, by go_num, HU, hb⟩
          case measure => simp [intOf]; omega
    · obtain rfl : n = q := by omega
      have hU := hI.out
      rw [List.take_of_length_le (by rw [HL.out.2]; exact Nat.le_refl _)] at hU
      have HU := Lib.hid hU
      clear hU hI
      go_wp2
      go_loopw [7, 8, 9] (fun xv yv i wr => ∃ (q nx cx ny cy : Nat) (Ax Ay : Option Addr), q ≤ n ∧ i = .int .i64 q ∧ xv = .slice Ax nx cx ∧ yv = .slice Ay ny cy ∧ nx ≤ cx ∧ ny ≤ cy ∧ nx ≤ q ∧ ny ≤ q ∧ HasE wr 0 Ax (puts [] (l.take q)) ∧ HasE wr 0 Ay (puts [] ((rot l t).take q)) ∧ Hid ((puts [] (l.take q)).length = nx ∧ (puts [] ((rot l t).take q)).length = ny) ∧ Below w.heap.size w wr) (fun _ _ i _ => n - (intOf i).toNat)
      case atStart => exact ⟨0, 0, 0, 0, 0, none, none, Nat.zero_le _, rfl, rfl, rfl, Nat.le_refl _, Nat.le_refl _, Nat.le_refl _, Nat.le_refl _, hasE_nil _ _ _, hasE_nil _ _ _, Lib.hid ⟨rfl, rfl⟩, hb⟩
      case round =>
        clear hb
        obtain ⟨q, nx, cx, ny, cy, Ax, Ay, hq, rfl, rfl, rfl, hcx, hcy, hnx, hny, hX, hY, hN, hB⟩ := hrel
        by_cases hlt : q < n
        · have hgt := List.getElem?_eq_getElem (l := l) (i := q) (by rw [HL.out.2]; exact hlt)
          generalize (l[q]'(by rw [HL.out.2]; exact hlt)) = x at hgt
          obtain ⟨k, hk⟩ : ∃ k, (q + t) % n = k := ⟨_, rfl⟩
          have hkn : k < n := by rw [← hk]; exact Nat.mod_lt _ (by omega)
          have hgk := List.getElem?_eq_getElem (l := l) (i := k) (by rw [HL.out.2]; exact hkn)
          generalize (l[k]'(by rw [HL.out.2]; exact hkn)) = y at hgk
          have hgr : (rot l t)[q]? = some y := by rw [rot_at (by rw [HL.out.2]; exact hlt), HL.out.2, hk]; exact hgk
          obtain ⟨b, o, rfl, _, hlb, d0, d1, d2⟩ := HasE.at (HL.out.1.below hB (Nat.le_refl _)) hgt
          obtain ⟨b', o', hA', _, hlb', f0, f1, f2⟩ := HasE.at (HL.out.1.below hB (Nat.le_refl _)) hgk
          injection hA' with hA'
          injection hA' with a1 a2
          subst a1 a2
          have HPX := Lib.hid (puts_next hgt)
          have HPY := Lib.hid (puts_next hgr)
          have HX := Lib.hid hN.out.1
          have HY := Lib.hid hN.out.2
          have hn1 : nx ≤ 100000 := by omega
          have hn3 : ny ≤ 100000 := by omega
          have HLX := Lib.hid (puts_len (l.take (q + 1)))
          have HLY := Lib.hid (puts_len ((rot l t).take (q + 1)))
          obtain ⟨ek, et, es⟩ := x
          obtain ⟨fk, ft, fs⟩ := y
          simp only at d0 d1 d2 f0 f1 f2
          have i1 : (q : Int) < (n : Int) := by omega
          have i0 : (0 : Int) ≤ (q : Int) := by omega
          have k1' : (k : Int) < (n : Int) := by omega
          have k0' : (0 : Int) ≤ (k : Int) := by omega
          have z0 : IntKind.i64.wrap (t : Int) = (t : Int) := IntWalk.i64_in _ (by omega)
          have z1 : IntKind.i64.wrap ((q : Int) + (t : Int)) = (q : Int) + (t : Int) := IntWalk.i64_in _ (by omega)
          have z2 : ((q : Int) + (t : Int)) % (n : Int) = (k : Int) := by rw [← hk]; push_cast; rfl
          have z3 : ((q : Int) + (t : Int)).tmod (n : Int) = (k : Int) := by rw [Int.tmod_eq_emod_of_nonneg (by omega)]; exact z2
          have z4 : ¬ (n : Int) = 0 := by omega
          have z5 : IntKind.i64.wrap (k : Int) = (k : Int) := IntWalk.i64_in _ (by omega)
          clear hgt hgk hgr hk hN
          go_wp2_with fail
          have hdr := (Below.refl wr.heap.size wr).drew
          refine Lex.region_lex (ops := boops) (calls := bocalls) boord (fun W => W.cell? ⟨b, o + q * 3, none⟩ = some (.string ek) ∧ W.cell? ⟨b, o + q * 3 + 1, none⟩ = some (.int .i64 et) ∧ W.cell? ⟨b, o + q * 3 + 2, none⟩ = some (.int .i64 es) ∧ W.cell? ⟨b, o + k * 3, none⟩ = some (.string fk) ∧ W.cell? ⟨b, o + k * 3 + 1, none⟩ = some (.int .i64 ft) ∧ W.cell? ⟨b, o + k * 3 + 2, none⟩ = some (.int .i64 fs)) (by kernel_rfl) (by kernel_rfl) bosel (by kernel_rfl) (by kernel_rfl) bolex (⟨cell_below hdr d0, cell_below hdr d1, cell_below hdr d2, cell_below hdr f0, cell_below hdr f1, cell_below hdr f2⟩) ?_
          unfold boord
          have d0 := cell_below hdr d0
          have d1 := cell_below hdr d1
          have d2 := cell_below hdr d2
          have f0 := cell_below hdr f0
          have f1 := cell_below hdr f1
          have f2 := cell_below hdr f2
          have hX := hX.below hdr (Nat.le_refl _)
          have hY := hY.below hdr (Nat.le_refl _)
          have hB := hB.trans (hdr.mono hB.size)
          clear hdr
          refine Lex.step_take (.slice Ax nx cx) bo0 rfl (Lex.want_none rfl) (by intro Wx hSw; (try dsimp only at hSw); go_simp; (try (first | (with_reducible rfl) | assumption | rfl))) ?_
          simp only [Act.put, List.setIfInBounds_toArray, List.set_cons_zero, List.set_cons_succ]
          refine Lex.step_take (.slice (some ⟨b, o, none⟩) n cp) bo1 rfl (Lex.want_none rfl) (by intro Wx hSw; (try dsimp only at hSw); go_simp; (try (first | (with_reducible rfl) | assumption | rfl))) ?_
          simp only [Act.put, List.setIfInBounds_toArray, List.set_cons_zero, List.set_cons_succ]
          refine Lex.step_take (.int .i64 (q : Int)) bo2 rfl (Lex.want_none rfl) (by intro Wx hSw; (try dsimp only at hSw); go_simp; (try (first | (with_reducible rfl) | assumption | rfl))) ?_
          simp only [Act.put, List.setIfInBounds_toArray, List.set_cons_zero, List.set_cons_succ]
          refine Lex.step_take (.pointer (some ⟨b, o + q * 3, none⟩)) bo3 rfl (Lex.want_none rfl) (by intro Wx hSw; (try dsimp only at hSw); go_simp; (try (first | (with_reducible rfl) | assumption | rfl))) ?_
          simp only [Act.put, List.setIfInBounds_toArray, List.set_cons_zero, List.set_cons_succ]
          refine Lex.step_take (.agg #[.string ek, .int .i64 et, .int .i64 es]) bo4 rfl (Lex.want_none rfl) (by intro Wx hSw; (try dsimp only at hSw); go_simp; (try (first | (with_reducible rfl) | assumption | rfl))) ?_
          simp only [Act.put, List.setIfInBounds_toArray, List.set_cons_zero, List.set_cons_succ]
          refine Lex.step_take (.slice Ay ny cy) bo6 rfl (Lex.want_none rfl) (by intro Wx hSw; (try dsimp only at hSw); go_simp; (try (first | (with_reducible rfl) | assumption | rfl))) ?_
          simp only [Act.put, List.setIfInBounds_toArray, List.set_cons_zero, List.set_cons_succ]
          refine Lex.step_take (.slice (some ⟨b, o, none⟩) n cp) bo7 rfl (Lex.want_none rfl) (by intro Wx hSw; (try dsimp only at hSw); go_simp; (try (first | (with_reducible rfl) | assumption | rfl))) ?_
          simp only [Act.put, List.setIfInBounds_toArray, List.set_cons_zero, List.set_cons_succ]
          refine Lex.step_take (.int .i64 (q : Int)) bo8 rfl (Lex.want_none rfl) (by intro Wx hSw; (try dsimp only at hSw); go_simp; (try (first | (with_reducible rfl) | assumption | rfl))) ?_
          simp only [Act.put, List.setIfInBounds_toArray, List.set_cons_zero, List.set_cons_succ]
          refine Lex.step_take (.int .u8 (t : Int)) bo9 rfl (Lex.want_none rfl) (by intro Wx hSw; (try dsimp only at hSw); go_simp; (try (first | (with_reducible rfl) | assumption | rfl))) ?_
          simp only [Act.put, List.setIfInBounds_toArray, List.set_cons_zero, List.set_cons_succ]
          refine Lex.step_take (.int .i64 (t : Int)) bo10 rfl (Lex.want_none rfl) (by intro Wx hSw; (try dsimp only at hSw); go_simp; (try (first | (with_reducible rfl) | assumption | rfl))) ?_
          simp only [Act.put, List.setIfInBounds_toArray, List.set_cons_zero, List.set_cons_succ]
          refine Lex.step_take (.int .i64 ((q : Int) + (t : Int))) bo11 rfl (Lex.want_none rfl) (by intro Wx hSw; (try dsimp only at hSw); go_simp; (try (first | (with_reducible rfl) | assumption | rfl))) ?_
          simp only [Act.put, List.setIfInBounds_toArray, List.set_cons_zero, List.set_cons_succ]
          refine Lex.step_take (.slice (some ⟨b, o, none⟩) n cp) bo12 rfl (Lex.want_none rfl) (by intro Wx hSw; (try dsimp only at hSw); go_simp; (try (first | (with_reducible rfl) | assumption | rfl))) ?_
          simp only [Act.put, List.setIfInBounds_toArray, List.set_cons_zero, List.set_cons_succ]
          refine Lex.step_take (.int .i64 (n : Int)) bo13 rfl (Lex.want_none rfl) (by intro Wx hSw; (try dsimp only at hSw); go_simp; (try (first | (with_reducible rfl) | assumption | rfl))) ?_
          simp only [Act.put, List.setIfInBounds_toArray, List.set_cons_zero, List.set_cons_succ]
          refine Lex.step_take (.int .i64 (k : Int)) bo14 rfl (Lex.want_none rfl) (by intro Wx hSw; (try dsimp only at hSw); go_simp; (try (first | (with_reducible rfl) | assumption | rfl))) ?_
          simp only [Act.put, List.setIfInBounds_toArray, List.set_cons_zero, List.set_cons_succ]
          refine Lex.step_take (.pointer (some ⟨b, o + k * 3, none⟩)) bo15 rfl (Lex.want_none rfl) (by intro Wx hSw; (try dsimp only at hSw); go_simp; (try (first | (with_reducible rfl) | assumption | rfl))) ?_
          simp only [Act.put, List.setIfInBounds_toArray, List.set_cons_zero, List.set_cons_succ]
          refine Lex.step_take (.agg #[.string fk, .int .i64 ft, .int .i64 fs]) bo16 rfl (Lex.want_none rfl) (by intro Wx hSw; (try dsimp only at hSw); go_simp; (try (first | (with_reducible rfl) | assumption | rfl))) ?_
          simp only [Act.put, List.setIfInBounds_toArray, List.set_cons_zero, List.set_cons_succ]
          refine Lex.step_call bo5 rfl (Lex.want_none rfl) (fun K hK => ?_)
          go_simp
          refine (put_any ⟨ek, et, es⟩ 0 hX HX.out hcx hn1 (rises_puts _ rises_nil)).mono ?_
          rintro e y1 ⟨A1, n1, k1, rfl, hn2, hk1, hX1, hy1⟩
          rw [HPX.out] at hn2 hX1
          have hY := hY.below hy1 (Nat.le_refl _)
          have hB := hB.trans (hy1.mono hB.size)
          have d0 := cell_below hy1 d0
          have d1 := cell_below hy1 d1
          have d2 := cell_below hy1 d2
          have f0 := cell_below hy1 f0
          have f1 := cell_below hy1 f1
          have f2 := cell_below hy1 f2
          clear hy1
          refine hK.out _ _ _ (fun _ h => h) ⟨d0, d1, d2, f0, f1, f2⟩ ?_
          clear hK K
          try simp only [Act.put, List.setIfInBounds_toArray, List.set_cons_zero, List.set_cons_succ]
          refine Lex.step_call bo17 rfl (Lex.want_none rfl) (fun K hK => ?_)
          go_simp
          refine (put_any ⟨fk, ft, fs⟩ 0 hY HY.out hcy hn3 (rises_puts _ rises_nil)).mono ?_
          rintro e y2 ⟨A2, n2, k2, rfl, hn4, hk2, hY1, hy2⟩
          rw [HPY.out] at hn4 hY1
          have hX1 := hX1.below hy2 (Nat.le_refl _)
          have hB := hB.trans (hy2.mono hB.size)
          have d0 := cell_below hy2 d0
          have d1 := cell_below hy2 d1
          have d2 := cell_below hy2 d2
          have f0 := cell_below hy2 f0
          have f1 := cell_below hy2 f1
          have f2 := cell_below hy2 f2
          clear hy2
          refine hK.out _ _ _ (fun _ h => h) ⟨d0, d1, d2, f0, f1, f2⟩ ?_
          clear hK K
          try simp only [Act.put, List.setIfInBounds_toArray, List.set_cons_zero, List.set_cons_succ]
          refine Lex.step_take (.slice A1 n1 k1) bo18 rfl (Lex.want_none rfl) (by intro Wx hSw; (try dsimp only at hSw); go_simp; (try (first | (with_reducible rfl) | assumption | rfl))) ?_
          simp only [Act.put, List.setIfInBounds_toArray, List.set_cons_zero, List.set_cons_succ]
          refine Lex.step_take (.slice A2 n2 k2) bo19 rfl (Lex.want_none rfl) (by intro Wx hSw; (try dsimp only at hSw); go_simp; (try (first | (with_reducible rfl) | assumption | rfl))) ?_
          simp only [Act.put, List.setIfInBounds_toArray, List.set_cons_zero, List.set_cons_succ]
          refine NoPanic.normal ?_
          clear d0 d1 d2 f0 f1 f2 z0 z1 z2 z3 z4 z5
          have g1 := HLX.out
          have g2 := HLY.out
          rw [hn2, List.length_take] at g1
          rw [hn4, List.length_take] at g2
          have HN := Lib.hid (And.intro hn2 hn4)
          clear hn2 hn4
          go_wp2
          go_roundw
          case rel => exact ⟨q + 1, n1, k1, n2, k2, A1, A2, by omega, by go_num, rfl, rfl, hk1, hk2, by omega, by omega, hX1, hY1, HN, hB⟩
          case measure => simp [intOf]; omega
        · obtain rfl : q = n := by omega
          have hfx : l.take q = l := List.take_of_length_le (by rw [HL.out.2]; exact Nat.le_refl _)
          have hfy : (rot l t).take q = rot l t := List.take_of_length_le (by rw [rot_len, HL.out.2]; exact Nat.le_refl _)
          rw [hfy, ← puts_perm HU.out (rot_perm l t)] at hY
          rw [hfx] at hX
          have hlx : (puts [] l).length = q := by
            have := len_puts l rises_nil HU.out (fun x hx => by simp at hx)
            rw [this, HL.out.2]
            simp
          obtain rfl : q = nx := by have h := hN.out.1; rw [hfx, hlx] at h; exact h
          obtain rfl : q = ny := by have h := hN.out.2; rw [hfy, ← puts_perm HU.out (rot_perm l t), hlx] at h; exact h
          have HLX := Lib.hid hlx
          clear hfx hfy hlx hN
          go_wp2_with fail
          refine (awake_any _).mono ?_
          rintro e w8 ⟨rfl, h8⟩
          have hX := hX.below h8 (Nat.le_refl _)
          have hY := hY.below h8 (Nat.le_refl _)
          have hB := hB.trans (h8.mono hB.size)
          clear h8
          go_wp2_with fail
          have hcS := refSame_any Ax Ay cx cy (puts [] l) (puts [] l) 0 0 w8 hX hY (by rw [HLX.out]; exact hl9) (by rw [HLX.out]; exact hl9)
          rw [HLX.out] at hcS
          refine hcS.mono ?_
          rintro e w9 ⟨r, rfl, hr, h9⟩
          obtain rfl : r = true := hr.2 rfl
          have hB := hB.trans (h9.mono hB.size)
          clear h9 hr hX hY hcS
          go_wp2
          go_ret
          exact ⟨rfl, hB⟩
end
end Go.Proofs.Ytmjlfhfadmndhaa.Bu
