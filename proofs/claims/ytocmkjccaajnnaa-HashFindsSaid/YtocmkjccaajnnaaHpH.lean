/- An index: the program's belong and Right, walked. -/
import Derived.Test.YtocmkjccaajnnaaHpG
import Derived.Test.YtocmkjccaajnnaaMgX
namespace Go.Proofs.Ytocmkjccaajnnaa.Ha
open Go.RowKit Pac Bu Ls Lex Go.Proofs.Ytocmkjccaajnnaa.Or

/-- The function value answers p of each of these entries, in every world in which all below B lies as it did. -/
def PredH (gh ga : Nat) (p : E → Bool) (l : List E) (B : Nat) (w : World) : Prop :=
  ∀ e ∈ l, ∀ (W : World), Below B w W → B ≤ W.heap.size → Calls Try.prog 55 #[.agg #[.string e.key, .int .i64 e.t, .int .i64 e.s], .pointer (some ⟨gh, 0, none⟩), .pointer (some ⟨ga, 0, none⟩)] W (fun r W' => r = .returned (.bool (p e)) ∧ Below W.heap.size W W')
section
variable {A : Option Addr} {n cp : Nat} {l : List E} {w : World}
set_option maxRecDepth 20000 in
set_option maxHeartbeats 1600000 in
theorem index_belong (gh ga : Nat) (p : E → Bool) (lo B : Nat) (hl : HasE w lo A l) (hn : l.length = n) (h9 : n ≤ 100000) (hB9 : B ≤ w.heap.size) (hp : PredH gh ga p l B w) :
    Calls Try.prog 45 #[.slice A n cp, .func (.func 55) #[] #[.pointer (some ⟨gh, 0, none⟩), .pointer (some ⟨ga, 0, none⟩)]] w (IdxPost p l w) := by
  have HL := Lib.hid (And.intro hl (And.intro hn hp))
  clear hl hn hp
  go_enter Try.func45, Try.ntmps45
  go_wp2
  go_loopw [5, 8] (fun _ i wr => ∃ q : Nat, q ≤ n ∧ i = .int .i64 q ∧ Hid (∀ y ∈ l.take q, p y = false) ∧ Below w.heap.size w wr) (fun _ i _ => n - (intOf i).toNat)
  case atStart => exact ⟨0, Nat.zero_le _, rfl, Lib.hid (fun x hx => by simp at hx), Below.refl _ w⟩
  case round =>
    obtain ⟨q, hq, rfl, hI, hB⟩ := hrel
    by_cases hlt : q < n
    · have hgt := List.getElem?_eq_getElem (l := l) (i := q) (by rw [HL.out.2.1]; exact hlt)
      generalize (l[q]'(by rw [HL.out.2.1]; exact hlt)) = x at hgt
      obtain ⟨b, o, rfl, _, hlb, d0, d1, d2⟩ := HasE.at (HL.out.1.below hB (Nat.le_refl _)) hgt
      have hcall := HL.out.2.2 x (List.mem_of_getElem? hgt) wr (hB.mono hB9) (Nat.le_trans hB9 hB.size)
      have HG := Lib.hid hgt
      have i1 : (q : Int) < (n : Int) := by omega
      have i0 : (0 : Int) ≤ (q : Int) := by omega
      clear hgt
      cases hq2 : p x with
      | true =>
        rw [hq2] at hcall
        have HQ := Lib.hid hq2
        obtain ⟨ek, et, es⟩ := x
        simp only at d0 d1 d2 hcall
        clear hq2
        go_wp2_with fail
        refine hcall.mono ?_
        rintro e w' ⟨rfl, hy⟩
        go_wp2
        go_ret
        exact ⟨(q : Int), rfl, .inr ⟨q, _, rfl, HG.out, HQ.out, hI.out⟩, hB.trans (hy.mono hB.size)⟩
      | false =>
        rw [hq2] at hcall
        have HI : Hid (∀ y ∈ l.take (q + 1), p y = false) := Lib.hid (fun y hy => by
          rw [take_snoc HG.out] at hy
          rcases List.mem_append.1 hy with h | h
          · exact hI.out y h
          · have : y = x := by simpa using h
            rw [this]
            exact hq2)
        obtain ⟨ek, et, es⟩ := x
        simp only at d0 d1 d2 hcall
        clear hq2
        go_wp2_with fail
        refine hcall.mono ?_
        rintro e w' ⟨rfl, hy⟩
        go_wp2
        go_roundw
        case rel => exact ⟨q + 1, by omega, by go_num, HI, hB.trans (hy.mono hB.size)⟩
        case measure => simp [intOf]; omega
    · obtain rfl : q = n := by omega
      have hfull : l.take q = l := List.take_of_length_le (by rw [HL.out.2.1]; exact Nat.le_refl _)
      have HN : Hid (∀ x ∈ l, p x = false) := Lib.hid (by have h := hI.out; rw [hfull] at h; exact h)
      clear hfull
      go_wp2
      go_ret
      exact ⟨-1, rfl, .inl ⟨rfl, HN.out⟩, hB⟩
set_option maxRecDepth 20000 in
set_option maxHeartbeats 1600000 in
theorem contains_belong (gh ga : Nat) (p : E → Bool) (lo B : Nat) (hl : HasE w lo A l) (hn : l.length = n) (h9 : n ≤ 100000) (hB9 : B ≤ w.heap.size) (hp : PredH gh ga p l B w) :
    Calls Try.prog 54 #[.slice A n cp, .func (.func 55) #[] #[.pointer (some ⟨gh, 0, none⟩), .pointer (some ⟨ga, 0, none⟩)]] w (fun e w' => e = .returned (.bool (l.any p)) ∧ Below w.heap.size w w') := by
  have hc := index_belong (cp := cp) gh ga p lo B hl hn h9 hB9 hp
  clear hl hn hp
  go_enter Try.func54, Try.ntmps54
  go_wp2_with fail
  refine hc.mono ?_
  rintro e w1 ⟨r, rfl, h, hB⟩
  clear hc
  rcases h with ⟨rfl, h⟩ | ⟨k, x, rfl, h1, h2, _⟩
  · have hv : Hid (l.any p = false) := Lib.hid (List.any_eq_false.2 (fun x hx => by rw [h x hx]; simp))
    clear h
    go_wp2
    go_ret
    exact ⟨by rw [hv.out]; rfl, hB⟩
  · have hv : Hid (l.any p = true) := Lib.hid (List.any_eq_true.2 ⟨x, List.mem_of_getElem? h1, h2⟩)
    have i0 : decide ((0 : Int) ≤ (k : Int)) = true := decide_eq_true (by omega)
    clear h1 h2
    go_wp2
    go_ret
    exact ⟨by rw [hv.out]; rfl, hB⟩
set_option maxRecDepth 20000 in
set_option maxHeartbeats 1600000 in
theorem pred_belong (gh ga lv nx q : Nat) (hl8 : lv ≤ 8) (hnx : nx ≤ 1000) (hk9 : ∀ e ∈ l, e.key.size ≤ 9223372036854775807) (x0 : w.cell? ⟨gh, 0, none⟩ = some (.int .i64 lv)) (x1 : w.cell? ⟨gh, 1, none⟩ = some (.int .i64 nx)) (a0 : w.cell? ⟨ga, 0, none⟩ = some (.int .i64 q)) (B : Nat) (hgB : gh < B) (haB : ga < B) :
    PredH gh ga (fun e => decide (atN lv nx (spread e.k) ≠ q)) l B w := by
  intro e he W hW hBW
  have hkx := hk9 e he
  have x0 := (hW.cell (p := ⟨gh, 0, none⟩) hgB).trans x0
  have x1 := (hW.cell (p := ⟨gh, 1, none⟩) hgB).trans x1
  have a0 := (hW.cell (p := ⟨ga, 0, none⟩) haB).trans a0
  obtain ⟨ek, et, es⟩ := e
  simp only at hkx
  have hcW := fun W : World => where_any0 lv nx ek W hl8 hnx hkx
  obtain ⟨c, hc⟩ : ∃ c, atN lv nx (spread ek.data.toList) = c := ⟨_, rfl⟩
  rw [hc] at hcW
  obtain ⟨rb, hrb⟩ : ∃ rb, ((c : Int) != (q : Int)) = rb := ⟨_, rfl⟩
  have HV : Hid (decide (atN lv nx (spread (⟨ek, et, es⟩ : E).k) ≠ q) = rb) := Lib.hid (by
    rw [show atN lv nx (spread (⟨ek, et, es⟩ : E).k) = c from hc, ← hrb]
    by_cases h : c = q
    · subst h; simp
    · rw [decide_eq_true h]
      symm
      rw [bne_iff_ne]
      omega)
  simp only
  generalize decide (atN lv nx (spread (⟨ek, et, es⟩ : E).k) ≠ q) = dv at HV ⊢
  obtain rfl : rb = dv := HV.out.symm
  have hx := Box3.new W (.string ek) (.int .i64 et) (.int .i64 es) 51
  have hb := (Below.refl W.heap.size W).alloc (Nat.le_refl _) (.cells #[.string ek, .int .i64 et, .int .i64 es] 51)
  have x0 := cell_belowB hb x0
  have x1 := cell_belowB hb x1
  have a0 := cell_belowB hb a0
  obtain ⟨ge, hge⟩ : ∃ ge, W.heap.size = ge := ⟨_, rfl⟩
  rw [hge] at hx
  have e0 := hx.c0
  have HGE := Lib.hid hge
  clear hc hx hW hBW
  generalize hwa : W.alloc (.cells #[.string ek, .int .i64 et, .int .i64 es] 51) = wa at x0 x1 a0 e0 hb
  go_enter Try.func55, Try.ntmps55
  go_wp2_with fail
  clear hwa hge
  have hdr := (Below.refl wa.heap.size wa).drew
  refine Lex.region_lex (ops := qbops) (calls := qbcalls) qbord (fun W => W.cell? ⟨gh, 0, none⟩ = some (.int .i64 (lv : Int)) ∧ W.cell? ⟨gh, 1, none⟩ = some (.int .i64 (nx : Int)) ∧ W.cell? ⟨ga, 0, none⟩ = some (.int .i64 (q : Int)) ∧ W.cell? ⟨ge, 0, none⟩ = some (.string ek)) (by kernel_rfl) (by kernel_rfl) qbsel (by kernel_rfl) (by kernel_rfl) qblex (⟨cell_belowB hdr x0, cell_belowB hdr x1, cell_belowB hdr a0, cell_belowB hdr e0⟩) ?_
  unfold qbord
  have x0 := cell_belowB hdr x0
  have x1 := cell_belowB hdr x1
  have a0 := cell_belowB hdr a0
  have e0 := cell_belowB hdr e0
  have hb := hb.trans (hdr.mono hb.size)
  clear hdr
  refine Lex.step_take (.pointer (some ⟨gh, 0, none⟩)) qb0 rfl (Lex.want_none rfl) (by intro Wx hSw; (try dsimp only at hSw); go_simp; (try (first | (with_reducible rfl) | assumption | rfl))) ?_
  simp only [Act.put, List.setIfInBounds_toArray, List.set_cons_zero, List.set_cons_succ]
  refine Lex.step_take (.int .i64 (lv : Int)) qb1 rfl (Lex.want_none rfl) (by intro Wx hSw; (try dsimp only at hSw); go_simp; (try (first | (with_reducible rfl) | assumption | rfl))) ?_
  simp only [Act.put, List.setIfInBounds_toArray, List.set_cons_zero, List.set_cons_succ]
  refine Lex.step_take (.pointer (some ⟨gh, 1, none⟩)) qb2 rfl (Lex.want_none rfl) (by intro Wx hSw; (try dsimp only at hSw); go_simp; (try (first | (with_reducible rfl) | assumption | rfl))) ?_
  simp only [Act.put, List.setIfInBounds_toArray, List.set_cons_zero, List.set_cons_succ]
  refine Lex.step_take (.int .i64 (nx : Int)) qb3 rfl (Lex.want_none rfl) (by intro Wx hSw; (try dsimp only at hSw); go_simp; (try (first | (with_reducible rfl) | assumption | rfl))) ?_
  simp only [Act.put, List.setIfInBounds_toArray, List.set_cons_zero, List.set_cons_succ]
  refine Lex.step_take (.pointer (some ⟨ge, 0, none⟩)) qb4 rfl (Lex.want_none rfl) (by intro Wx hSw; (try dsimp only at hSw); go_simp; (try (first | (with_reducible rfl) | assumption | rfl))) ?_
  simp only [Act.put, List.setIfInBounds_toArray, List.set_cons_zero, List.set_cons_succ]
  refine Lex.step_take (.string ek) qb5 rfl (Lex.want_none rfl) (by intro Wx hSw; (try dsimp only at hSw); go_simp; (try (first | (with_reducible rfl) | assumption | rfl))) ?_
  simp only [Act.put, List.setIfInBounds_toArray, List.set_cons_zero, List.set_cons_succ]
  refine Lex.step_take (.int .i64 (q : Int)) qb7 rfl (Lex.want_none rfl) (by intro Wx hSw; (try dsimp only at hSw); go_simp; (try (first | (with_reducible rfl) | assumption | rfl))) ?_
  simp only [Act.put, List.setIfInBounds_toArray, List.set_cons_zero, List.set_cons_succ]
  refine Lex.step_call qb6 rfl (Lex.want_none rfl) (fun K hK => ?_)
  go_simp
  refine (hcW _).mono ?_
  rintro e y1 ⟨rfl, hv⟩
  have x0 := cell_belowB hv x0
  have x1 := cell_belowB hv x1
  have a0 := cell_belowB hv a0
  have e0 := cell_belowB hv e0
  have hb := hb.trans (hv.mono hb.size)
  clear hv
  refine hK.out _ _ _ (fun _ h => h) ⟨x0, x1, a0, e0⟩ ?_
  clear hK K
  try simp only [Act.put, List.setIfInBounds_toArray, List.set_cons_zero, List.set_cons_succ]
  refine Lex.step_take (.bool rb) qb8 rfl (Lex.want_none rfl) (by intro Wx hSw; (try dsimp only at hSw); go_simp; (try (first | (with_reducible rfl) | assumption | rfl))) ?_
  simp only [Act.put, List.setIfInBounds_toArray, List.set_cons_zero, List.set_cons_succ]
  refine Lex.step_take (.bool rb) qb9 rfl (Lex.want_none rfl) (by intro Wx hSw; (try dsimp only at hSw); go_simp; (try (first | (with_reducible rfl) | assumption | rfl))) ?_
  simp only [Act.put, List.setIfInBounds_toArray, List.set_cons_zero, List.set_cons_succ]
  refine NoPanic.normal ?_
  clear x0 x1 a0 e0 hcW HV
  go_wp2
  go_ret
  exact ⟨rfl, hb⟩
set_option maxRecDepth 20000 in
set_option maxHeartbeats 1600000 in
theorem belong_any (lv nx q : Nat) (A2 : Option Addr) (m c2 lo : Nat) (hl8 : lv ≤ 8) (hnx : nx ≤ 1000) (hk9 : ∀ e ∈ l, e.key.size ≤ 9223372036854775807) (hl : HasE w lo A2 l) (hm : l.length = m) (hm9 : m ≤ 100000) :
    Calls Try.prog 40 #[.agg #[.int .i64 lv, .int .i64 nx, .slice A n cp], .int .i64 q, .slice A2 m c2] w (SameHPost (∀ e ∈ l, atN lv nx (spread e.k) = q) w) := by
  have hB := (Below.refl w.heap.size w).alloc (Nat.le_refl _) (.cells #[.int .i64 lv, .int .i64 nx, .slice A n cp] 27)
  have hx := Box3.new w (.int .i64 lv) (.int .i64 nx) (.slice A n cp) 27
  obtain ⟨g, hg⟩ : ∃ g, w.heap.size = g := ⟨_, rfl⟩
  have hz : (w.alloc (.cells #[.int .i64 lv, .int .i64 nx, .slice A n cp] 27)).heap.size = g + 1 := by simp [hg]
  rw [hg] at hx
  generalize hw0 : w.alloc (.cells #[.int .i64 lv, .int .i64 nx, .slice A n cp] 27) = wa at hB hx hz
  have hBb := (Below.refl wa.heap.size wa).alloc (Nat.le_refl _) (.cells #[.int .i64 q] 3)
  have a0 : (wa.alloc (.cells #[.int .i64 q] 3)).cell? ⟨wa.heap.size, 0, none⟩ = some (.int .i64 q) := by simp [go_sem]
  have hz2 : (wa.alloc (.cells #[.int .i64 q] 3)).heap.size = g + 2 := by simp [hz]
  rw [hz] at a0
  have hx := hx.below hBb hx.lt
  have hB := hB.trans (hBb.mono hB.size)
  generalize hw1 : wa.alloc (.cells #[.int .i64 q] 3) = wb at hB hx a0 hz2
  have hp := pred_belong (l := l) g (g + 1) lv nx q hl8 hnx hk9 hx.c0 hx.c1 a0 (g + 2) (by omega) (by omega)
  have hc := contains_belong (cp := c2) g (g + 1) _ lo (g + 2) (hl.below hB (Nat.le_refl _)) hm hm9 (Nat.le_of_eq hz2.symm) hp
  obtain ⟨v, hv⟩ : ∃ v, l.any (fun e => decide (atN lv nx (spread e.k) ≠ q)) = v := ⟨_, rfl⟩
  rw [hv] at hc
  have HV : Hid ((!v) = true ↔ ∀ e ∈ l, atN lv nx (spread e.k) = q) := Lib.hid (by
    rw [← hv]
    simp)
  clear hp hv hl hm hBb hx a0
  go_enter Try.func40, Try.ntmps40
  go_wp2_with fail
  clear hw0 hw1 hz hz2
  refine hc.mono ?_
  rintro e w1 ⟨rfl, hb⟩
  have HB := Lib.hid (hB.trans (hb.mono hB.size))
  clear hc hB hb
  go_wp2
  go_ret
  exact ⟨!v, rfl, HV.out, HB.out⟩
end
section
variable {A : Option Addr} {n cp : Nat} {bs : List (List E)} {w : World}
set_option maxRecDepth 20000 in
set_option maxHeartbeats 6400000 in
theorem right_any0 (lv nx : Int) (lo : Nat) (hb : HasBs w lo A bs) (hn : bs.length = n) (h9 : n ≤ 100000) (hr9 : ∀ r ∈ bs, r.length ≤ 100000) (hks : ∀ r ∈ bs, ∀ e ∈ r, e.key.size ≤ 9223372036854775807) (hnx0 : -9223372036854775808 ≤ nx) (hnx1 : nx ≤ 9223372036854775807) :
    Calls Try.prog 23 #[.agg #[.int .i64 lv, .int .i64 nx, .slice A n cp]] w (SameHPost (MayH lv nx bs) w) := by
  have hB := (Below.refl w.heap.size w).alloc (Nat.le_refl _) (.cells #[.int .i64 lv, .int .i64 nx, .slice A n cp] 27)
  have hx := Box3.new w (.int .i64 lv) (.int .i64 nx) (.slice A n cp) 27
  obtain ⟨g, hg⟩ : ∃ g, w.heap.size = g := ⟨_, rfl⟩
  rw [hg] at hx
  generalize hw0 : w.alloc (.cells #[.int .i64 lv, .int .i64 nx, .slice A n cp] 27) = wa at hB hx
  have HL := Lib.hid (And.intro (hb.below hB (Nat.le_refl _)) (And.intro hn (And.intro hr9 hks)))
  clear hb hr9 hks
  generalize hP : MayH lv nx bs = MP
  have HP := Lib.hid hP
  clear hP
  have hcS := shaped_any (A := A) (n := n) (cp := cp) (w := wa) lv nx hnx0 hnx1 h9
  have x0 := hx.c0
  have x1 := hx.c1
  have x2 := hx.c2
  go_enter Try.func23, Try.ntmps23
  go_wp2_with fail
  clear hw0 hg
  refine hcS.mono ?_
  rintro e wb ⟨bS, rfl, hbS, hv⟩
  have HL := Lib.hid (And.intro (HL.out.1.below hv (Nat.le_refl _)) HL.out.2)
  have hx := hx.below hv hx.lt
  have hB := hB.trans (hv.mono hB.size)
  clear hcS hv x0 x1 x2
  cases bS with
  | false =>
    have HQ : Hid (¬ MP) := Lib.hid (by
      rw [← HP.out]
      intro h
      have := hbS.2 ⟨h.l0, h.l8, h.n0, h.n2, by rw [← hn]; exact h.len⟩
      cases this)
    clear hn hbS
    go_wp2
    go_ret
    exact ⟨false, rfl, ⟨fun e => (by cases e), fun e => absurd e HQ.out⟩, hB⟩
  | true =>
    have hsh := hbS.1 rfl
    obtain ⟨l, rfl⟩ : ∃ l : Nat, lv = (l : Int) := ⟨lv.toNat, by have := hsh.l0; omega⟩
    obtain ⟨j, rfl⟩ : ∃ j : Nat, nx = (j : Int) := ⟨nx.toNat, by have := hsh.n0; omega⟩
    have hl8 : l ≤ 8 := by have := hsh.l8; omega
    have hj9 : j ≤ 1000 := by
      have h1 := hsh.n2
      rw [Int.toNat_natCast] at h1
      have h2 : 2 ^ l ≤ 2 ^ 8 := Nat.pow_le_pow_right (n := 2) (by omega) hl8
      have h3 : (2 : Nat) ^ 8 = 256 := by decide
      omega
    have HSH := Lib.hid hsh
    have x2 := hx.c2
    clear hsh hbS
    go_wp2
    clear x2 hn
    go_loopw [3, 4, 11] (fun _ _ i wr => ∃ q : Nat, q ≤ n ∧ i = .int .i64 q ∧ Hid (GoodB l j bs q) ∧ Below wb.heap.size wb wr) (fun _ _ i _ => n - (intOf i).toNat)
    case atStart => exact ⟨0, Nat.zero_le _, rfl, Lib.hid (fun i b h => absurd h (Nat.not_lt_zero _)), Below.refl _ _⟩
    case round =>
      obtain ⟨q, hq, rfl, hG, hy⟩ := hrel
      by_cases hlt : q < n
      · have hgt := List.getElem?_eq_getElem (l := bs) (i := q) (by rw [HL.out.2.1]; exact hlt)
        generalize (bs[q]'(by rw [HL.out.2.1]; exact hlt)) = r at hgt
        obtain ⟨b, o, A3, c3, rfl, _, hlb, d0, hr1, hmc⟩ := Li.HasLs.at (HL.out.1.below hy (Nat.le_refl _)) hgt
        have hrm := HL.out.2.2.1 _ (List.mem_of_getElem? hgt)
        have hkr := HL.out.2.2.2 _ (List.mem_of_getElem? hgt)
        obtain ⟨m, hm⟩ : ∃ m, r.length = m := ⟨_, rfl⟩
        rw [hm] at d0 hrm hmc
        have hcR := Bu.right_any (cp := c3) lo hr1 hm hmc hrm
        have i1 : (q : Int) < (n : Int) := by omega
        have i0 : (0 : Int) ≤ (q : Int) := by omega
        have HGT := Lib.hid (And.intro hgt (And.intro hm (And.intro hkr hr1)))
        clear hgt hm hkr hmc hr1
        go_wp2_with fail
        refine hcR.mono ?_
        rintro e y1 ⟨br, rfl, hbr, hv⟩
        have hy1 := hy.trans (hv.mono hy.size)
        have hr1 := HGT.out.2.2.2.below hv (Nat.le_refl _)
        clear hcR hv hy d0
        cases br with
        | false =>
          have HQ : Hid (¬ MP) := Lib.hid (by
            rw [← HP.out]
            intro h
            have := hbr.2 (h.isb r (List.mem_of_getElem? HGT.out.1))
            cases this)
          have hB := hB.trans (hy1.mono hB.size)
          clear hbr hr1
          go_wp2
          go_ret
          exact ⟨false, rfl, ⟨fun e => (by cases e), fun e => absurd e HQ.out⟩, hB⟩
        | true =>
          have HI := Lib.hid (hbr.1 rfl)
          have hcB := belong_any (A := some ⟨b, o, none⟩) (n := n) (cp := cp) l j q A3 m c3 lo hl8 hj9 HGT.out.2.2.1 hr1 HGT.out.2.1 hrm
          have hxr := hx.below hy1 hx.lt
          have x0 := hxr.c0
          have x1 := hxr.c1
          have x2 := hxr.c2
          clear hbr hr1 hxr
          go_wp2_with fail
          refine hcB.mono ?_
          rintro e y2 ⟨bb, rfl, hbb, hv⟩
          have hy2 := hy1.trans (hv.mono hy1.size)
          clear hcB hv hy1 x0 x1 x2
          cases bb with
          | false =>
            have HQ : Hid (¬ MP) := Lib.hid (by
              rw [← HP.out]
              intro h
              have := hbb.2 (fun e he => by
                have h1 := h.own q r HGT.out.1 e he
                rw [Int.toNat_natCast, Int.toNat_natCast] at h1
                exact h1)
              cases this)
            have hB := hB.trans (hy2.mono hB.size)
            clear hbb
            go_wp2
            go_ret
            exact ⟨false, rfl, ⟨fun e => (by cases e), fun e => absurd e HQ.out⟩, hB⟩
          | true =>
            have hbb := hbb.1 rfl
            have HG2 : Hid (GoodB l j bs (q + 1)) := Lib.hid (fun i b hi hb => by
              by_cases h : i = q
              · rw [h, HGT.out.1] at hb
                injection hb with hb
                subst hb
                exact h ▸ ⟨HI.out, hbb⟩
              · exact hG.out i b (by omega) hb)
            clear hbb
            go_wp2
            go_roundw
            case rel => exact ⟨q + 1, by omega, by go_num, HG2, hy2⟩
            case measure => simp [intOf]; omega
      · obtain rfl : n = q := by omega
        have HY : Hid MP := Lib.hid (by
          rw [← HP.out]
          have hlen := HL.out.2.1
          have hsh := HSH.out
          refine ⟨hsh.l0, hsh.l8, hsh.n0, hsh.n2, by rw [hlen]; exact hsh.len, fun b hb => ?_, fun i b hb => ?_⟩
          · obtain ⟨i, hi⟩ := List.mem_iff_getElem?.1 hb
            exact (hG.out i b (by have := (List.getElem?_eq_some_iff.1 hi).1; omega) hi).1
          · rw [Int.toNat_natCast, Int.toNat_natCast]
            exact (hG.out i b (by have := (List.getElem?_eq_some_iff.1 hb).1; omega) hb).2)
        have hB := hB.trans (hy.mono hB.size)
        go_wp2
        go_ret
        exact ⟨true, rfl, ⟨fun _ => HY.out, fun _ => rfl⟩, hB⟩
end
end Go.Proofs.Ytocmkjccaajnnaa.Ha
