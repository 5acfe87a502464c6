/- An index: the program's Put, walked. -/
import Derived.Test.YtocmkjccaajnnaaHpF
import Derived.Test.YtocmkjccaajnnaaMgX
namespace Go.Proofs.Ytocmkjccaajnnaa.Ha
open Go.RowKit Pac Bu Ls Lex Go.Proofs.Ytocmkjccaajnnaa.Or

section
variable {A : Option Addr} {n cp : Nat} {w : World}
set_option maxRecDepth 20000 in
set_option maxHeartbeats 12800000 in
theorem put_any0 (X : Nat → Prop) (h : H) (k : ByteArray) (t s : Int) (hh : IsH spread h) (hb : HasBsX w X A h.bs) (hn : h.bs.length = n) (h9 : n ≤ 9000) (hm9 : ∀ r ∈ h.bs, r.length ≤ 80000) (hks : ∀ r ∈ h.bs, ∀ e ∈ r, e.key.size ≤ 9223372036854775807) (hk : k.size ≤ 9223372036854775807) :
    Calls Try.prog 12 #[.agg #[.int .i64 h.lv, .int .i64 h.nx, .slice A n cp], .string k, .agg #[.int .i64 t, .int .i64 s]] w (HashPost X (putH spread h ⟨k, t, s⟩) w) := by
  obtain ⟨bk, hbk⟩ := hh.here k.data.toList
  have hi1 := putB_is hh ⟨k, t, s⟩
  have hge : putB spread h ⟨k, t, s⟩ = withB h (whereH spread h k.data.toList) (putL bk ⟨k, t, s⟩) := by
    unfold putB
    rw [show (⟨k, t, s⟩ : E).k = k.data.toList from rfl, hbk]
    rfl
  have hrb := hh.ris bk (List.mem_of_getElem? hbk)
  have hl8 := hh.l8
  have hsh : ShapeN (h.lv : Nat) (h.nx : Nat) n := by
    have h1 := hh.nx
    have h2 := hh.len
    have h3 := hh.l8
    exact ⟨by omega, by omega, by omega, by rw [Int.toNat_natCast]; omega, by rw [Int.toNat_natCast]; omega⟩
  have hnx : h.nx ≤ 1000 := Nat.le_of_lt (Nat.lt_of_lt_of_le hh.nx (Nat.le_trans (Nat.pow_le_pow_right (n := 2) (by omega) hl8) (by decide)))
  obtain ⟨h1, hh1⟩ : ∃ h1, putB spread h ⟨k, t, s⟩ = h1 := ⟨_, rfl⟩
  obtain ⟨lv, nx, bs⟩ := h
  simp only at hb hn hl8 hnx hm9 hks hsh
  obtain ⟨i, hi⟩ : ∃ i, whereH spread ⟨lv, nx, bs⟩ k.data.toList = i := ⟨_, rfl⟩
  have hcW := fun W : World => where_any0 lv nx k W hl8 hnx hk
  have hwi : atN lv nx (spread k.data.toList) = i := hi
  rw [hwi] at hcW
  rw [hi] at hbk hge
  have hbk : bs[i]? = some bk := hbk
  have hin : i < n := by rw [← hn]; exact (List.getElem?_eq_some_iff.1 hbk).1
  rw [hh1] at hge hi1
  have hbm := hm9 bk (List.mem_of_getElem? hbk)
  have hlp := (len_put bk ⟨k, t, s⟩).2
  have HN : Hid ((⟨lv, nx, bs⟩ : H).bs.length = n) := Lib.hid hn
  have hb1 : h1.bs = bs.set i (putL bk ⟨k, t, s⟩) := by rw [hge]; rfl
  have hr9 : ∀ r ∈ h1.bs, r.length ≤ 100000 := fun r hr => by
    rw [hb1] at hr
    rcases List.mem_or_eq_of_mem_set hr with h | rfl
    · exact Nat.le_trans (hm9 r h) (by omega)
    · omega
  have hr99 : ∀ r ∈ h1.bs, r.length ≤ 90000 := fun r hr => by
    rw [hb1] at hr
    rcases List.mem_or_eq_of_mem_set hr with h | rfl
    · exact Nat.le_trans (hm9 r h) (by omega)
    · omega
  have HH9 := Lib.hid hr99
  have hk9 : ∀ r ∈ h1.bs, ∀ e ∈ r, e.key.size ≤ 9223372036854775807 := fun r hr e he => by
    rw [hb1] at hr
    rcases List.mem_or_eq_of_mem_set hr with h | rfl
    · exact hks r h e he
    · rcases (mem_put hrb e).1 he with rfl | ⟨h, _⟩
      · exact hk
      · exact hks bk (List.mem_of_getElem? hbk) e h
  have hn1 : h1.bs.length = n := by rw [hb1, List.length_set, hn]
  have hlv1 : h1.lv = lv := by rw [hge]; rfl
  have hnx1 : h1.nx = nx := by rw [hge]; rfl
  have HH := Lib.hid (And.intro (And.intro hi1 (And.intro hk9 (And.intro hlv1 (And.intro hnx1 hh1)))) (And.intro hn1 hr9))
  have htot : total h1.bs ≤ 100000 * n := by rw [← hn1]; exact total_le _ hr9
  clear hi hwi hi1 hk9 hr9 hr99 hh1 hlp hm9 hks hlv1 hnx1
  obtain ⟨post, hpe⟩ : ∃ post, HashPost X (putH spread ⟨lv, nx, bs⟩ ⟨k, t, s⟩) w = post := ⟨_, rfl⟩
  have HPE := Lib.hid hpe
  show Calls _ _ #[.agg #[.int .i64 lv, .int .i64 nx, .slice A n cp], .string k, .agg #[.int .i64 t, .int .i64 s]] _ _
  rw [hpe]
  have hB := (Below.refl w.heap.size w).alloc (Nat.le_refl _) (.cells #[.int .i64 lv, .int .i64 nx, .slice A n cp] 27)
  have hx := Box3.new w (.int .i64 lv) (.int .i64 nx) (.slice A n cp) 27
  obtain ⟨g, hg⟩ : ∃ g, w.heap.size = g := ⟨_, rfl⟩
  have hz : (w.alloc (.cells #[.int .i64 lv, .int .i64 nx, .slice A n cp] 27)).heap.size = g + 1 := by simp [hg]
  rw [hg] at hx
  generalize hw0 : w.alloc (.cells #[.int .i64 lv, .int .i64 nx, .slice A n cp] 27) = wa at hB hx hz
  have hBb := (Below.refl wa.heap.size wa).alloc (Nat.le_refl _) (.cells #[.int .i64 t, .int .i64 s] 30)
  have hp := Box2.new wa (.int .i64 t) (.int .i64 s) 30
  have hz2 : (wa.alloc (.cells #[.int .i64 t, .int .i64 s] 30)).heap.size = g + 2 := by simp [hz]
  rw [hz] at hp
  have hx := hx.below hBb hx.lt
  have hB := hB.trans (hBb.mono hB.size)
  generalize hw1 : wa.alloc (.cells #[.int .i64 t, .int .i64 s] 30) = wb at hB hx hp hz2
  have hBc := (Below.refl wb.heap.size wb).alloc (Nat.le_refl _) (.cells #[.int .i64 0, .int .i64 0, .slice none 0 0] 27)
  have hy := Box3.new wb (.int .i64 0) (.int .i64 0) (.slice none 0 0) 27
  have hsz : g + 3 ≤ (wb.alloc (.cells #[.int .i64 0, .int .i64 0, .slice none 0 0] 27)).heap.size := by simp [hz2]
  rw [hz2] at hy
  have hx := hx.below hBc hx.lt
  have hp := hp.below hBc hp.lt
  have hB := hB.trans (hBc.mono hB.size)
  generalize hw2 : wb.alloc (.cells #[.int .i64 0, .int .i64 0, .slice none 0 0] 27) = wc at hB hx hp hy hsz
  obtain ⟨X0, hX0⟩ : ∃ X0 : Nat → Prop, ∀ b, X0 b ↔ (X b ∧ b < g) := ⟨fun b => X b ∧ b < g, fun b => Iff.rfl⟩
  have hbX := (hb.lt.mono (fun b h => (hX0 b).2 ⟨h.1, hg ▸ h.2⟩)).below hB (Nat.le_refl _)
  obtain ⟨b, o, A3, c3, rfl, hXb, hlb, d0, hr1, hmc, _⟩ := hbX.at hbk
  have hbg := ((hX0 b).1 hXb).2
  obtain ⟨m, hm⟩ : ∃ m, bk.length = m := ⟨_, rfl⟩
  rw [hm] at d0 hbm hmc
  have hcS := fun W : World => shaped_any (A := some ⟨b, o, none⟩) (n := n) (cp := cp) (w := W) lv nx (by omega) (by omega) (by omega)
  have hcP := fun (W : World) (h : HasE W 0 A3 bk) => put_new (cp := c3) ⟨k, t, s⟩ 0 h hm hmc (by omega) hrb
  have x0 := hx.c0
  have x1 := hx.c1
  have x2 := hx.c2
  have p0 := hp.c0
  have p1 := hp.c1
  have i1 : (i : Int) < (n : Int) := by omega
  have i0 : (0 : Int) ≤ (i : Int) := by omega
  have HG := Lib.hid hg
  clear hb hn hbk hBb hBc hm hpe hp hb1 hx
  go_enter Try.func12, Try.ntmps12
  go_wp2_with fail
  clear hw0 hw1 hw2 hg hz hz2
  refine (hcS _).mono ?_
  rintro e ys ⟨bS, rfl, hbS, hv⟩
  obtain rfl : bS = true := hbS.2 hsh
  have x0 := cell_belowB hv x0
  have x1 := cell_belowB hv x1
  have x2 := cell_belowB hv x2
  have d0 := cell_belowB hv d0
  have p0 := cell_belowB hv p0
  have p1 := cell_belowB hv p1
  have hbX := hbX.below hv (Nat.le_refl _)
  have hy := hy.below hv hy.lt
  have hsz : g + 3 ≤ _ := Nat.le_trans hsz hv.size
  have hB := hB.trans (hv.mono hB.size)
  have hr1 := hr1.below hv (Nat.le_refl _)
  clear hv
  clear hcS hbS hsh
  go_wp2_with fail
  refine (hcW _).mono ?_
  rintro e y0 ⟨rfl, hv⟩
  have x0 := cell_belowB hv x0
  have x1 := cell_belowB hv x1
  have x2 := cell_belowB hv x2
  have d0 := cell_belowB hv d0
  have p0 := cell_belowB hv p0
  have p1 := cell_belowB hv p1
  have hbX := hbX.below hv (Nat.le_refl _)
  have hy := hy.below hv hy.lt
  have hsz : g + 3 ≤ _ := Nat.le_trans hsz hv.size
  have hB := hB.trans (hv.mono hB.size)
  have hr1 := hr1.below hv (Nat.le_refl _)
  clear hv
  clear hcW
  obtain ⟨S0, hS0⟩ : ∃ S0, S0 = y0.heap.size := ⟨_, rfl⟩
  have hg3 : g + 3 ≤ S0 := by rw [hS0]; exact hsz
  have hsz : S0 ≤ y0.heap.size := Nat.le_of_eq hS0
  obtain ⟨XS, hXS⟩ : ∃ XS : Nat → Prop, ∀ b, XS b ↔ (X0 b ∨ S0 ≤ b) := ⟨fun b => X0 b ∨ S0 ≤ b, fun b => Iff.rfl⟩
  obtain ⟨XQ, hXQ⟩ : ∃ XQ : Nat → Nat → Prop, ∀ q b, XQ q b ↔ (X0 b ∨ (S0 ≤ b ∧ b ≠ q)) := ⟨fun q b => X0 b ∨ (S0 ≤ b ∧ b ≠ q), fun q b => Iff.rfl⟩
  have hgw : w.heap.size ≤ g := Nat.le_of_eq HG.out
  clear hS0
  go_wp2_with fail
  have hdr := (Below.refl y0.heap.size y0).drew
  refine Lex.region_tree (ops := qeops) qetree (fun W => W.cell? ⟨g, 0, none⟩ = some (.int .i64 (lv : Int)) ∧ W.cell? ⟨g, 1, none⟩ = some (.int .i64 (nx : Int)) ∧ W.cell? ⟨g, 2, none⟩ = some (.slice (some ⟨b, o, none⟩) n cp) ∧ W.cell? ⟨b, o + i, none⟩ = some (.slice A3 m c3) ∧ W.cell? ⟨g + 1, 0, none⟩ = some (.int .i64 t) ∧ W.cell? ⟨g + 1, 1, none⟩ = some (.int .i64 s)) (by kernel_rfl) (by kernel_rfl) qesel qelex (⟨cell_belowB hdr x0, cell_belowB hdr x1, cell_belowB hdr x2, cell_belowB hdr d0, cell_belowB hdr p0, cell_belowB hdr p1⟩) ?_
  unfold qetree
  have x0 := cell_belowB hdr x0
  have x1 := cell_belowB hdr x1
  have x2 := cell_belowB hdr x2
  have d0 := cell_belowB hdr d0
  have p0 := cell_belowB hdr p0
  have p1 := cell_belowB hdr p1
  have hbX := hbX.below hdr (Nat.le_refl _)
  have hy := hy.below hdr hy.lt
  have hsz : S0 ≤ _ := Nat.le_trans hsz hdr.size
  have hB := hB.trans (hdr.mono hB.size)
  have hr1 := hr1.below hdr (Nat.le_refl _)
  clear hdr
  generalize y0.drew = yd at x0 x1 x2 d0 p0 p1 hbX hy hsz hB hr1 ⊢
  refine Lex.tree_take (.agg #[.int .i64 (lv : Int), .int .i64 (nx : Int), .slice (some ⟨b, o, none⟩) n cp]) qe0 (Lex.want_none rfl) (by intro Wx hSw; (try dsimp only at hSw); go_simp; (try (first | (with_reducible rfl) | assumption | rfl))) ?_
  simp only [Act.put, List.setIfInBounds_toArray, List.set_cons_zero, List.set_cons_succ]
  refine Lex.tree_take (.int .i64 (i : Int)) qe1 (Lex.want_none rfl) (by intro Wx hSw; (try dsimp only at hSw); go_simp; (try (first | (with_reducible rfl) | assumption | rfl))) ?_
  simp only [Act.put, List.setIfInBounds_toArray, List.set_cons_zero, List.set_cons_succ]
  refine Lex.tree_take (.pointer (some ⟨g, 2, none⟩)) qe2 (Lex.want_none rfl) (by intro Wx hSw; (try dsimp only at hSw); go_simp; (try (first | (with_reducible rfl) | assumption | rfl))) ?_
  simp only [Act.put, List.setIfInBounds_toArray, List.set_cons_zero, List.set_cons_succ]
  refine Lex.tree_take (.slice (some ⟨b, o, none⟩) n cp) qe3 (Lex.want_none rfl) (by intro Wx hSw; (try dsimp only at hSw); go_simp; (try (first | (with_reducible rfl) | assumption | rfl))) ?_
  simp only [Act.put, List.setIfInBounds_toArray, List.set_cons_zero, List.set_cons_succ]
  refine Lex.tree_take (.int .i64 (i : Int)) qe4 (Lex.want_none rfl) (by intro Wx hSw; (try dsimp only at hSw); go_simp; (try (first | (with_reducible rfl) | assumption | rfl))) ?_
  simp only [Act.put, List.setIfInBounds_toArray, List.set_cons_zero, List.set_cons_succ]
  refine Lex.tree_take (.pointer (some ⟨b, o + i, none⟩)) qe5 (Lex.want_none rfl) (by intro Wx hSw; (try dsimp only at hSw); go_simp; (try (first | (with_reducible rfl) | assumption | rfl))) ?_
  simp only [Act.put, List.setIfInBounds_toArray, List.set_cons_zero, List.set_cons_succ]
  refine Lex.tree_take (.slice A3 m c3) qe6 (Lex.want_none rfl) (by intro Wx hSw; (try dsimp only at hSw); go_simp; (try (first | (with_reducible rfl) | assumption | rfl))) ?_
  simp only [Act.put, List.setIfInBounds_toArray, List.set_cons_zero, List.set_cons_succ]
  refine Lex.tree_take (.string k) qe7 (Lex.want_none rfl) (by intro Wx hSw; (try dsimp only at hSw); go_simp; (try (first | (with_reducible rfl) | assumption | rfl))) ?_
  simp only [Act.put, List.setIfInBounds_toArray, List.set_cons_zero, List.set_cons_succ]
  refine Lex.tree_take (.agg #[.int .i64 t, .int .i64 s]) qe8 (Lex.want_none rfl) (by intro Wx hSw; (try dsimp only at hSw); go_simp; (try (first | (with_reducible rfl) | assumption | rfl))) ?_
  simp only [Act.put, List.setIfInBounds_toArray, List.set_cons_zero, List.set_cons_succ]
  refine Lex.tree_take (.agg #[.string k, .int .i64 t, .int .i64 s]) qe9 (Lex.want_none rfl) (by intro Wx hSw; (try dsimp only at hSw); go_simp; (try (first | (with_reducible rfl) | assumption | rfl))) ?_
  simp only [Act.put, List.setIfInBounds_toArray, List.set_cons_zero, List.set_cons_succ]
  refine Lex.tree_call qe10 (Lex.want_none rfl) (fun K hK => ?_) ?_
  · go_simp
    refine (hcP _ hr1).mono ?_
    rintro e y1 ⟨A5, m5, c5, rfl, hm5, hc5, hl5, hv⟩
    have hE5 : HasEX y1 XS A5 (putL bk ⟨k, t, s⟩) := ⟨hl5.lower (Nat.zero_le _), fun hn b o s e => (hXS b).2 (Or.inr (Nat.le_trans hsz (adr_lt hl5 hn b o s e).1))⟩
    clear hl5
    have x0 := cell_belowB hv x0
    have x1 := cell_belowB hv x1
    have x2 := cell_belowB hv x2
    have d0 := cell_belowB hv d0
    have p0 := cell_belowB hv p0
    have p1 := cell_belowB hv p1
    have hbX := hbX.below hv (Nat.le_refl _)
    have hy := hy.below hv hy.lt
    have hsz : S0 ≤ _ := Nat.le_trans hsz hv.size
    have hB := hB.trans (hv.mono hB.size)
    clear hv hr1
    refine hK.out _ _ _ (fun _ h => h) ⟨x0, x1, x2, d0, p0, p1⟩ ?_
    clear hK K
    try simp only [Act.put, List.setIfInBounds_toArray, List.set_cons_zero, List.set_cons_succ]
    refine Lex.tree_call qe11 (Lex.want_none rfl) (fun K hK => ?_) ?_
    · go_simp
      refine (with_any XS ⟨lv, nx, bs⟩ i _ (hbX.mono (Y := XS) (fun b h => (hXS b).2 (Or.inl h))) HN.out (by omega) hin hE5 hm5 hc5).mono ?_
      rintro e y2 ⟨A6, n6, c6, he, hn6, hc6, hb6, hv⟩
      have he : e = .returned (.agg #[.int .i64 lv, .int .i64 nx, .slice A6 n6 c6]) := he
      subst he
      have hb6 := hb6.mono (Y := XS) (fun b h => h.elim id (fun h => (hXS b).2 (Or.inr (Nat.le_trans hsz h))))
      have x0 := cell_belowB hv x0
      have x1 := cell_belowB hv x1
      have x2 := cell_belowB hv x2
      have d0 := cell_belowB hv d0
      have p0 := cell_belowB hv p0
      have p1 := cell_belowB hv p1
      have hbX := hbX.below hv (Nat.le_refl _)
      have hy := hy.below hv hy.lt
      have hsz : S0 ≤ _ := Nat.le_trans hsz hv.size
      have hB := hB.trans (hv.mono hB.size)
      clear hv hE5
      refine hK.out _ _ _ (fun _ h => h) ⟨x0, x1, x2, d0, p0, p1⟩ ?_
      clear hK K
      try simp only [Act.put, List.setIfInBounds_toArray, List.set_cons_zero, List.set_cons_succ]
      refine Lex.tree_call qe12 (Lex.want_none rfl) (fun K hK => ?_) Lex.tree_no
      go_simp
      have hnew := (Below.refl y2.heap.size y2).alloc (Nat.le_refl _) (.cells #[.int .i64 0, .int .i64 0, .slice none 0 0] 27)
      have hq := Box3.new y2 (.int .i64 0) (.int .i64 0) (.slice none 0 0) 27
      have hsq := hsz
      have hb6 := hb6.lt.mono (Y := XQ y2.heap.size) (fun b h => (hXQ _ b).2 (((hXS b).1 h.1).imp id (fun h2 => ⟨h2, Nat.ne_of_lt h.2⟩)))
      have x0 := cell_belowB hnew x0
      have x1 := cell_belowB hnew x1
      have x2 := cell_belowB hnew x2
      have d0 := cell_belowB hnew d0
      have p0 := cell_belowB hnew p0
      have p1 := cell_belowB hnew p1
      have hbX := hbX.below hnew (Nat.le_refl _)
      have hy := hy.below hnew hy.lt
      have hsz : S0 ≤ _ := Nat.le_trans hsz hnew.size
      have hB := hB.trans (hnew.mono hB.size)
      have hb6 := hb6.below hnew (Nat.le_refl _)
      clear hnew
      generalize y2.alloc (.cells #[.int .i64 0, .int .i64 0, .slice none 0 0] 27) = zy2 at x0 x1 x2 d0 p0 p1 hbX hy hsz hB hq hb6 ⊢
      generalize y2.heap.size = gq at hq hsq hb6 ⊢
      refine hK.out _ _ _ (fun _ h => h) ⟨x0, x1, x2, d0, p0, p1⟩ ?_
      clear hK K
      try simp only [Act.put, List.setIfInBounds_toArray, List.set_cons_zero, List.set_cons_succ]
      refine Lex.tree_call qe13 (Lex.want_none rfl) (fun K hK => ?_) Lex.tree_no
      have k0 := hq.c0
      have k1 := hq.c1
      have k2 := hq.c2
      have k3 := hq.f
      go_simp
      clear k0 k1 k2 k3
      have hbar := (((Bar.refl gq zy2).setCell 0 (.int .i64 lv)).setCell 1 (.int .i64 nx)).setCell 2 (.slice A6 n6 c6)
      have x0 := (hbar.cell (p := ⟨g, 0, none⟩) (World.block_lt_of_cell? _ _ x0) (by show g ≠ gq; omega)).trans x0
      have x1 := (hbar.cell (p := ⟨g, 1, none⟩) (World.block_lt_of_cell? _ _ x1) (by show g ≠ gq; omega)).trans x1
      have x2 := (hbar.cell (p := ⟨g, 2, none⟩) (World.block_lt_of_cell? _ _ x2) (by show g ≠ gq; omega)).trans x2
      have d0 := (hbar.cell (p := ⟨b, o + i, none⟩) (World.block_lt_of_cell? _ _ d0) (by show b ≠ gq; omega)).trans d0
      have p0 := (hbar.cell (p := ⟨g + 1, 0, none⟩) (World.block_lt_of_cell? _ _ p0) (by show g + 1 ≠ gq; omega)).trans p0
      have p1 := (hbar.cell (p := ⟨g + 1, 1, none⟩) (World.block_lt_of_cell? _ _ p1) (by show g + 1 ≠ gq; omega)).trans p1
      have hq7 := ((hq.set0 (.int .i64 lv)).set1 (.int .i64 nx)).set2 (.slice A6 n6 c6)
      have hy := hy.bar hbar (by omega)
      have hb7 : HasBsX _ (XQ gq) A6 (withB ⟨lv, nx, bs⟩ i (putL bk ⟨k, t, s⟩)).bs := hb6.bar (fun h => ((hXQ _ _).1 h).elim (fun h => by have := (hX0 _).1 h; omega) (fun h => h.2 rfl)) hbar
      have hB7 := hB.trans (hbar.below (B := w.heap.size) (by omega) hB.size)
      have hsz := Nat.le_trans hsz hbar.size
      clear hbar hq hb6 hB hbX
      generalize ((zy2.setCell ⟨gq, 0, none⟩ (.int .i64 lv)).setCell ⟨gq, 1, none⟩ (.int .i64 nx)).setCell ⟨gq, 2, none⟩ (.slice A6 n6 c6) = s9 at x0 x1 x2 d0 p0 p1 hq7 hy hb7 hB7 hsz ⊢
      refine hK.out _ _ _ (fun _ h => h) ⟨x0, x1, x2, d0, p0, p1⟩ ?_
      clear hK K
      try simp only [Act.put, List.setIfInBounds_toArray, List.set_cons_zero, List.set_cons_succ]
      refine Lex.tree_end ?_
      refine NoPanic.normal ?_
      rw [← hge] at hb7 hn6
      obtain rfl : n = n6 := HH.out.2.1.symm.trans hn6
      clear x0 x1 x2 d0 p0 p1 hn6 hm5 hc5 hcP hge
      have hy7 := hy
      clear hy
      have x0 := hq7.c0
      have x1 := hq7.c1
      have x2 := hq7.c2
      obtain ⟨tot, htt⟩ : ∃ tot, total h1.bs = tot := ⟨_, rfl⟩
      rw [htt] at htot
      have hcC := fun (W : World) (hb : HasBs W 0 A6 h1.bs) => count_any0 (cp := c6) lv nx 0 hb HH.out.2.1 (by omega) HH.out.2.2
      rw [htt] at hcC
      have HT := Lib.hid htt
      obtain ⟨rb, hrb'⟩ : ∃ rb, decide (4 * (n : Int) < (tot : Int)) = rb := ⟨_, rfl⟩
      have e4 : IntKind.i64.wrap (4 * (n : Int)) = 4 * (n : Int) := IntWalk.i64_in _ (by omega)
      clear htt
      go_wp2_with fail
      have hdr := (Below.refl s9.heap.size s9).drew
      refine Lex.region_lex (ops := qqops) (calls := qqcalls) qqord (fun W => W.cell? ⟨gq, 0, none⟩ = some (.int .i64 (lv : Int)) ∧ W.cell? ⟨gq, 1, none⟩ = some (.int .i64 (nx : Int)) ∧ W.cell? ⟨gq, 2, none⟩ = some (.slice A6 n c6)) (by kernel_rfl) (by kernel_rfl) qqsel (by kernel_rfl) (by kernel_rfl) qqlex (⟨cell_belowB hdr x0, cell_belowB hdr x1, cell_belowB hdr x2⟩) ?_
      unfold qqord
      have x0 := cell_belowB hdr x0
      have x1 := cell_belowB hdr x1
      have x2 := cell_belowB hdr x2
      have hb7 := hb7.below hdr (Nat.le_refl _)
      have hq7 := hq7.below hdr hq7.lt
      have hy7 := hy7.below hdr hy7.lt
      have hsz : S0 ≤ _ := Nat.le_trans hsz hdr.size
      have hB7 := hB7.trans (hdr.mono hB7.size)
      clear hdr
      refine Lex.step_take (.agg #[.int .i64 (lv : Int), .int .i64 (nx : Int), .slice A6 n c6]) qq0 rfl (Lex.want_none rfl) (by intro Wx hSw; (try dsimp only at hSw); go_simp; (try (first | (with_reducible rfl) | assumption | rfl))) ?_
      simp only [Act.put, List.setIfInBounds_toArray, List.set_cons_zero, List.set_cons_succ]
      refine Lex.step_take (.pointer (some ⟨gq, 2, none⟩)) qq2 rfl (Lex.want_none rfl) (by intro Wx hSw; (try dsimp only at hSw); go_simp; (try (first | (with_reducible rfl) | assumption | rfl))) ?_
      simp only [Act.put, List.setIfInBounds_toArray, List.set_cons_zero, List.set_cons_succ]
      refine Lex.step_take (.slice A6 n c6) qq3 rfl (Lex.want_none rfl) (by intro Wx hSw; (try dsimp only at hSw); go_simp; (try (first | (with_reducible rfl) | assumption | rfl))) ?_
      simp only [Act.put, List.setIfInBounds_toArray, List.set_cons_zero, List.set_cons_succ]
      refine Lex.step_take (.int .i64 (n : Int)) qq4 rfl (Lex.want_none rfl) (by intro Wx hSw; (try dsimp only at hSw); go_simp; (try (first | (with_reducible rfl) | assumption | rfl))) ?_
      simp only [Act.put, List.setIfInBounds_toArray, List.set_cons_zero, List.set_cons_succ]
      refine Lex.step_take (.int .i64 (4 * (n : Int))) qq5 rfl (Lex.want_none rfl) (by intro Wx hSw; (try dsimp only at hSw); go_simp; (try (first | (with_reducible rfl) | assumption | rfl))) ?_
      simp only [Act.put, List.setIfInBounds_toArray, List.set_cons_zero, List.set_cons_succ]
      refine Lex.step_call qq1 rfl (Lex.want_none rfl) (fun K hK => ?_)
      go_simp
      refine (hcC _ hb7.bs).mono ?_
      rintro e z1 ⟨rfl, hv⟩
      have x0 := cell_belowB hv x0
      have x1 := cell_belowB hv x1
      have x2 := cell_belowB hv x2
      have hb7 := hb7.below hv (Nat.le_refl _)
      have hq7 := hq7.below hv hq7.lt
      have hy7 := hy7.below hv hy7.lt
      have hsz : S0 ≤ _ := Nat.le_trans hsz hv.size
      have hB7 := hB7.trans (hv.mono hB7.size)
      clear hv
      refine hK.out _ _ _ (fun _ h => h) ⟨x0, x1, x2⟩ ?_
      clear hK K
      try simp only [Act.put, List.setIfInBounds_toArray, List.set_cons_zero, List.set_cons_succ]
      refine Lex.step_take (.bool rb) qq6 rfl (Lex.want_none rfl) (by intro Wx hSw; (try dsimp only at hSw); go_simp; (try (first | (with_reducible rfl) | assumption | rfl))) ?_
      simp only [Act.put, List.setIfInBounds_toArray, List.set_cons_zero, List.set_cons_succ]
      refine NoPanic.normal ?_
      clear e4 hcC
      cases rb
      · have HQ : putH spread ⟨lv, nx, bs⟩ ⟨k, t, s⟩ = ⟨lv, nx, h1.bs⟩ := by
          have h := of_decide_eq_false hrb'
          unfold putH
          rw [HH.out.1.2.2.2.2, if_neg (by rw [HH.out.2.1]; show ¬ 4 * n < total h1.bs; rw [HT.out]; omega)]
          exact hash_eta HH.out.1.2.2.1 HH.out.1.2.2.2.1
        clear hrb'
        have f0 := hy7.c0
        have f1 := hy7.c1
        have f2 := hy7.c2
        have fz0 := hy7.f 0
        have fz1 := hy7.f 1
        have fz2 := hy7.f 2
        have hB9 := ((hB7.setCell (p := ⟨g + 2, 0, none⟩) (by show w.heap.size ≤ g + 2; have := HG.out; omega) (.int .i64 lv)).setCell (p := ⟨g + 2, 1, none⟩) (by show w.heap.size ≤ g + 2; have := HG.out; omega) (.int .i64 nx)).setCell (p := ⟨g + 2, 2, none⟩) (by show w.heap.size ≤ g + 2; have := HG.out; omega) (.slice A6 n c6)
        have hw := (((Bar.refl (g + 2) z1).setCell 0 (.int .i64 lv)).setCell 1 (.int .i64 nx)).setCell 2 (.slice A6 n c6)
        have H9 := Lib.hid (((hy7.set0 (.int .i64 lv)).set1 (.int .i64 nx)).set2 (.slice A6 n c6))
        have hb9 := (hb7.bar (fun h => by exact ((hXQ _ _).1 h).elim (fun h => by have := (hX0 _).1 h; omega) (fun h => by omega)) hw).mono (Y := fun b => X b ∨ w.heap.size ≤ b) (fun b h => by exact ((hXQ _ _).1 h).imp (fun h => ((hX0 _).1 h).1) (fun h => by have := HG.out; omega))
        have HE := Lib.hid (show HashPost X (putH spread ⟨lv, nx, bs⟩ ⟨k, t, s⟩) w (.returned (.agg #[.int .i64 lv, .int .i64 nx, .slice A6 n c6])) _ from by rw [HQ]; exact ⟨A6, n, c6, rfl, HH.out.2.1, hc6, hb9, hB9⟩)
        rw [HPE.out] at HE
        clear hB7 hB9 hy7 hb7 hb9 hw hq7
        go_wp2
        refine bodyPost_ret (results_hash rfl _ _ (g + 2) _ _ _ rfl H9.out.c0 H9.out.c1 H9.out.c2) rfl ?_
        exact HE.out
      · have HQ : putH spread ⟨lv, nx, bs⟩ ⟨k, t, s⟩ = halveH spread h1 := by
          have h := of_decide_eq_true hrb'
          unfold putH
          rw [HH.out.1.2.2.2.2, if_pos (by rw [HH.out.2.1]; show 4 * n < total h1.bs; rw [HT.out]; omega)]
        clear hrb'
        obtain ⟨bn, hbn⟩ := HH.out.1.1.next
        have hcH := fun (W : World) (hb : HasBsX W (XQ gq) A6 h1.bs) => halve_any0 (w := W) (cp := c6) (XQ gq) h1 bn hb HH.out.2.1 hc6 (by omega) HH.out.1.1 hbn (HH9.out _ (List.mem_of_getElem? hbn)) (HH.out.1.2.1 _ (List.mem_of_getElem? hbn))
        rw [HH.out.1.2.2.1, HH.out.1.2.2.2.1] at hcH
        go_wp2_with fail
        refine (hcH _ hb7).mono ?_
        rintro e z2 ⟨A8, n8, c8, rfl, hn8, hc8, hb8, hv⟩
        have hb7 := hb8
        have hy7 := hy7.below hv hy7.lt
        have hB7 := hB7.trans (hv.mono hB7.size)
        clear hv hb8 hcH x0 x1 x2
        have f0 := hy7.c0
        have f1 := hy7.c1
        have f2 := hy7.c2
        have fz0 := hy7.f 0
        have fz1 := hy7.f 1
        have fz2 := hy7.f 2
        have hB9 := ((hB7.setCell (p := ⟨g + 2, 0, none⟩) (by show w.heap.size ≤ g + 2; have := HG.out; omega) (.int .i64 (halveH spread h1).lv)).setCell (p := ⟨g + 2, 1, none⟩) (by show w.heap.size ≤ g + 2; have := HG.out; omega) (.int .i64 (halveH spread h1).nx)).setCell (p := ⟨g + 2, 2, none⟩) (by show w.heap.size ≤ g + 2; have := HG.out; omega) (.slice A8 n8 c8)
        have hw := (((Bar.refl (g + 2) z2).setCell 0 (.int .i64 (halveH spread h1).lv)).setCell 1 (.int .i64 (halveH spread h1).nx)).setCell 2 (.slice A8 n8 c8)
        have H9 := Lib.hid (((hy7.set0 (.int .i64 (halveH spread h1).lv)).set1 (.int .i64 (halveH spread h1).nx)).set2 (.slice A8 n8 c8))
        have hb9 := (hb7.bar (fun h => by exact h.elim (fun h => ((hXQ _ _).1 h).elim (fun h => by have := (hX0 _).1 h; omega) (fun h => by omega)) (fun h => by omega)) hw).mono (Y := fun b => X b ∨ w.heap.size ≤ b) (fun b h => by exact h.elim (fun h => ((hXQ _ _).1 h).imp (fun h => ((hX0 _).1 h).1) (fun h => by have := HG.out; omega)) (fun h => Or.inr (by have := HG.out; omega)))
        have HE := Lib.hid (show HashPost X (putH spread ⟨lv, nx, bs⟩ ⟨k, t, s⟩) w (.returned (.agg #[.int .i64 (halveH spread h1).lv, .int .i64 (halveH spread h1).nx, .slice A8 n8 c8])) _ from by rw [HQ]; exact ⟨A8, n8, c8, rfl, hn8, hc8, hb9, hB9⟩)
        rw [HPE.out] at HE
        clear hB7 hB9 hy7 hb7 hb9 hw hq7
        go_wp2
        refine bodyPost_ret (results_hash rfl _ _ (g + 2) _ _ _ rfl H9.out.c0 H9.out.c1 H9.out.c2) rfl ?_
        exact HE.out
    refine Lex.tree_call qe12 (Lex.want_none rfl) (fun K hK => ?_) Lex.tree_no
    go_simp
    have hnew := (Below.refl y1.heap.size y1).alloc (Nat.le_refl _) (.cells #[.int .i64 0, .int .i64 0, .slice none 0 0] 27)
    have hq := Box3.new y1 (.int .i64 0) (.int .i64 0) (.slice none 0 0) 27
    have hsq := hsz
    have hE5 : HasEX y1 (XQ y1.heap.size) A5 (putL bk ⟨k, t, s⟩) := ⟨hE5.1, fun hn b o s e => (hXQ _ b).2 (((hXS b).1 (hE5.2 hn b o s e)).imp id (fun h => ⟨h, Nat.ne_of_lt (adr_lt hE5.1 hn b o s e).2⟩))⟩
    have x0 := cell_belowB hnew x0
    have x1 := cell_belowB hnew x1
    have x2 := cell_belowB hnew x2
    have d0 := cell_belowB hnew d0
    have p0 := cell_belowB hnew p0
    have p1 := cell_belowB hnew p1
    have hbX := hbX.below hnew (Nat.le_refl _)
    have hy := hy.below hnew hy.lt
    have hsz : S0 ≤ _ := Nat.le_trans hsz hnew.size
    have hB := hB.trans (hnew.mono hB.size)
    have hE5 : HasEX _ (XQ y1.heap.size) A5 (putL bk ⟨k, t, s⟩) := ⟨hE5.1.below hnew (Nat.le_refl _), hE5.2⟩
    clear hnew
    generalize y1.alloc (.cells #[.int .i64 0, .int .i64 0, .slice none 0 0] 27) = zy1 at x0 x1 x2 d0 p0 p1 hbX hy hsz hB hq hE5 ⊢
    generalize y1.heap.size = gq at hq hsq hE5 ⊢
    refine hK.out _ _ _ (fun _ h => h) ⟨x0, x1, x2, d0, p0, p1⟩ ?_
    clear hK K
    try simp only [Act.put, List.setIfInBounds_toArray, List.set_cons_zero, List.set_cons_succ]
    refine Lex.tree_call qe11 (Lex.want_none rfl) (fun K hK => ?_) Lex.tree_no
    go_simp
    refine (with_any (XQ gq) ⟨lv, nx, bs⟩ i _ (hbX.mono (Y := (XQ gq)) (fun b h => (hXQ _ b).2 (Or.inl h))) HN.out (by omega) hin hE5 hm5 hc5).mono ?_
    rintro e y2 ⟨A6, n6, c6, he, hn6, hc6, hb6, hv⟩
    have he : e = .returned (.agg #[.int .i64 lv, .int .i64 nx, .slice A6 n6 c6]) := he
    subst he
    have hql := hq.lt
    have hb6 := hb6.mono (Y := XQ gq) (fun b h => h.elim id (fun h => (hXQ _ b).2 (Or.inr ⟨Nat.le_trans hsz h, by omega⟩)))
    clear hql
    have x0 := cell_belowB hv x0
    have x1 := cell_belowB hv x1
    have x2 := cell_belowB hv x2
    have d0 := cell_belowB hv d0
    have p0 := cell_belowB hv p0
    have p1 := cell_belowB hv p1
    have hbX := hbX.below hv (Nat.le_refl _)
    have hy := hy.below hv hy.lt
    have hsz : S0 ≤ _ := Nat.le_trans hsz hv.size
    have hB := hB.trans (hv.mono hB.size)
    have hq := hq.below hv hq.lt
    clear hv hE5
    refine hK.out _ _ _ (fun _ h => h) ⟨x0, x1, x2, d0, p0, p1⟩ ?_
    clear hK K
    try simp only [Act.put, List.setIfInBounds_toArray, List.set_cons_zero, List.set_cons_succ]
    refine Lex.tree_call qe13 (Lex.want_none rfl) (fun K hK => ?_) Lex.tree_no
    have k0 := hq.c0
    have k1 := hq.c1
    have k2 := hq.c2
    have k3 := hq.f
    go_simp
    clear k0 k1 k2 k3
    have hbar := (((Bar.refl gq y2).setCell 0 (.int .i64 lv)).setCell 1 (.int .i64 nx)).setCell 2 (.slice A6 n6 c6)
    have x0 := (hbar.cell (p := ⟨g, 0, none⟩) (World.block_lt_of_cell? _ _ x0) (by show g ≠ gq; omega)).trans x0
    have x1 := (hbar.cell (p := ⟨g, 1, none⟩) (World.block_lt_of_cell? _ _ x1) (by show g ≠ gq; omega)).trans x1
    have x2 := (hbar.cell (p := ⟨g, 2, none⟩) (World.block_lt_of_cell? _ _ x2) (by show g ≠ gq; omega)).trans x2
    have d0 := (hbar.cell (p := ⟨b, o + i, none⟩) (World.block_lt_of_cell? _ _ d0) (by show b ≠ gq; omega)).trans d0
    have p0 := (hbar.cell (p := ⟨g + 1, 0, none⟩) (World.block_lt_of_cell? _ _ p0) (by show g + 1 ≠ gq; omega)).trans p0
    have p1 := (hbar.cell (p := ⟨g + 1, 1, none⟩) (World.block_lt_of_cell? _ _ p1) (by show g + 1 ≠ gq; omega)).trans p1
    have hq7 := ((hq.set0 (.int .i64 lv)).set1 (.int .i64 nx)).set2 (.slice A6 n6 c6)
    have hy := hy.bar hbar (by omega)
    have hb7 : HasBsX _ (XQ gq) A6 (withB ⟨lv, nx, bs⟩ i (putL bk ⟨k, t, s⟩)).bs := hb6.bar (fun h => ((hXQ _ _).1 h).elim (fun h => by have := (hX0 _).1 h; omega) (fun h => h.2 rfl)) hbar
    have hB7 := hB.trans (hbar.below (B := w.heap.size) (by omega) hB.size)
    have hsz := Nat.le_trans hsz hbar.size
    clear hbar hq hb6 hB hbX
    generalize ((y2.setCell ⟨gq, 0, none⟩ (.int .i64 lv)).setCell ⟨gq, 1, none⟩ (.int .i64 nx)).setCell ⟨gq, 2, none⟩ (.slice A6 n6 c6) = s9 at x0 x1 x2 d0 p0 p1 hq7 hy hb7 hB7 hsz ⊢
    refine hK.out _ _ _ (fun _ h => h) ⟨x0, x1, x2, d0, p0, p1⟩ ?_
    clear hK K
    try simp only [Act.put, List.setIfInBounds_toArray, List.set_cons_zero, List.set_cons_succ]
    refine Lex.tree_end ?_
    refine NoPanic.normal ?_
    rw [← hge] at hb7 hn6
    obtain rfl : n = n6 := HH.out.2.1.symm.trans hn6
    clear x0 x1 x2 d0 p0 p1 hn6 hm5 hc5 hcP hge
    have hy7 := hy
    clear hy
    have x0 := hq7.c0
    have x1 := hq7.c1
    have x2 := hq7.c2
    obtain ⟨tot, htt⟩ : ∃ tot, total h1.bs = tot := ⟨_, rfl⟩
    rw [htt] at htot
    have hcC := fun (W : World) (hb : HasBs W 0 A6 h1.bs) => count_any0 (cp := c6) lv nx 0 hb HH.out.2.1 (by omega) HH.out.2.2
    rw [htt] at hcC
    have HT := Lib.hid htt
    obtain ⟨rb, hrb'⟩ : ∃ rb, decide (4 * (n : Int) < (tot : Int)) = rb := ⟨_, rfl⟩
    have e4 : IntKind.i64.wrap (4 * (n : Int)) = 4 * (n : Int) := IntWalk.i64_in _ (by omega)
    clear htt
    go_wp2_with fail
    have hdr := (Below.refl s9.heap.size s9).drew
    refine Lex.region_lex (ops := qqops) (calls := qqcalls) qqord (fun W => W.cell? ⟨gq, 0, none⟩ = some (.int .i64 (lv : Int)) ∧ W.cell? ⟨gq, 1, none⟩ = some (.int .i64 (nx : Int)) ∧ W.cell? ⟨gq, 2, none⟩ = some (.slice A6 n c6)) (by kernel_rfl) (by kernel_rfl) qqsel (by kernel_rfl) (by kernel_rfl) qqlex (⟨cell_belowB hdr x0, cell_belowB hdr x1, cell_belowB hdr x2⟩) ?_
    unfold qqord
    have x0 := cell_belowB hdr x0
    have x1 := cell_belowB hdr x1
    have x2 := cell_belowB hdr x2
    have hb7 := hb7.below hdr (Nat.le_refl _)
    have hq7 := hq7.below hdr hq7.lt
    have hy7 := hy7.below hdr hy7.lt
    have hsz : S0 ≤ _ := Nat.le_trans hsz hdr.size
    have hB7 := hB7.trans (hdr.mono hB7.size)
    clear hdr
    refine Lex.step_take (.agg #[.int .i64 (lv : Int), .int .i64 (nx : Int), .slice A6 n c6]) qq0 rfl (Lex.want_none rfl) (by intro Wx hSw; (try dsimp only at hSw); go_simp; (try (first | (with_reducible rfl) | assumption | rfl))) ?_
    simp only [Act.put, List.setIfInBounds_toArray, List.set_cons_zero, List.set_cons_succ]
    refine Lex.step_take (.pointer (some ⟨gq, 2, none⟩)) qq2 rfl (Lex.want_none rfl) (by intro Wx hSw; (try dsimp only at hSw); go_simp; (try (first | (with_reducible rfl) | assumption | rfl))) ?_
    simp only [Act.put, List.setIfInBounds_toArray, List.set_cons_zero, List.set_cons_succ]
    refine Lex.step_take (.slice A6 n c6) qq3 rfl (Lex.want_none rfl) (by intro Wx hSw; (try dsimp only at hSw); go_simp; (try (first | (with_reducible rfl) | assumption | rfl))) ?_
    simp only [Act.put, List.setIfInBounds_toArray, List.set_cons_zero, List.set_cons_succ]
    refine Lex.step_take (.int .i64 (n : Int)) qq4 rfl (Lex.want_none rfl) (by intro Wx hSw; (try dsimp only at hSw); go_simp; (try (first | (with_reducible rfl) | assumption | rfl))) ?_
    simp only [Act.put, List.setIfInBounds_toArray, List.set_cons_zero, List.set_cons_succ]
    refine Lex.step_take (.int .i64 (4 * (n : Int))) qq5 rfl (Lex.want_none rfl) (by intro Wx hSw; (try dsimp only at hSw); go_simp; (try (first | (with_reducible rfl) | assumption | rfl))) ?_
    simp only [Act.put, List.setIfInBounds_toArray, List.set_cons_zero, List.set_cons_succ]
    refine Lex.step_call qq1 rfl (Lex.want_none rfl) (fun K hK => ?_)
    go_simp
    refine (hcC _ hb7.bs).mono ?_
    rintro e z1 ⟨rfl, hv⟩
    have x0 := cell_belowB hv x0
    have x1 := cell_belowB hv x1
    have x2 := cell_belowB hv x2
    have hb7 := hb7.below hv (Nat.le_refl _)
    have hq7 := hq7.below hv hq7.lt
    have hy7 := hy7.below hv hy7.lt
    have hsz : S0 ≤ _ := Nat.le_trans hsz hv.size
    have hB7 := hB7.trans (hv.mono hB7.size)
    clear hv
    refine hK.out _ _ _ (fun _ h => h) ⟨x0, x1, x2⟩ ?_
    clear hK K
    try simp only [Act.put, List.setIfInBounds_toArray, List.set_cons_zero, List.set_cons_succ]
    refine Lex.step_take (.bool rb) qq6 rfl (Lex.want_none rfl) (by intro Wx hSw; (try dsimp only at hSw); go_simp; (try (first | (with_reducible rfl) | assumption | rfl))) ?_
    simp only [Act.put, List.setIfInBounds_toArray, List.set_cons_zero, List.set_cons_succ]
    refine NoPanic.normal ?_
    clear e4 hcC
    cases rb
    · have HQ : putH spread ⟨lv, nx, bs⟩ ⟨k, t, s⟩ = ⟨lv, nx, h1.bs⟩ := by
        have h := of_decide_eq_false hrb'
        unfold putH
        rw [HH.out.1.2.2.2.2, if_neg (by rw [HH.out.2.1]; show ¬ 4 * n < total h1.bs; rw [HT.out]; omega)]
        exact hash_eta HH.out.1.2.2.1 HH.out.1.2.2.2.1
      clear hrb'
      have f0 := hy7.c0
      have f1 := hy7.c1
      have f2 := hy7.c2
      have fz0 := hy7.f 0
      have fz1 := hy7.f 1
      have fz2 := hy7.f 2
      have hB9 := ((hB7.setCell (p := ⟨g + 2, 0, none⟩) (by show w.heap.size ≤ g + 2; have := HG.out; omega) (.int .i64 lv)).setCell (p := ⟨g + 2, 1, none⟩) (by show w.heap.size ≤ g + 2; have := HG.out; omega) (.int .i64 nx)).setCell (p := ⟨g + 2, 2, none⟩) (by show w.heap.size ≤ g + 2; have := HG.out; omega) (.slice A6 n c6)
      have hw := (((Bar.refl (g + 2) z1).setCell 0 (.int .i64 lv)).setCell 1 (.int .i64 nx)).setCell 2 (.slice A6 n c6)
      have H9 := Lib.hid (((hy7.set0 (.int .i64 lv)).set1 (.int .i64 nx)).set2 (.slice A6 n c6))
      have hb9 := (hb7.bar (fun h => by exact ((hXQ _ _).1 h).elim (fun h => by have := (hX0 _).1 h; omega) (fun h => by omega)) hw).mono (Y := fun b => X b ∨ w.heap.size ≤ b) (fun b h => by exact ((hXQ _ _).1 h).imp (fun h => ((hX0 _).1 h).1) (fun h => by have := HG.out; omega))
      have HE := Lib.hid (show HashPost X (putH spread ⟨lv, nx, bs⟩ ⟨k, t, s⟩) w (.returned (.agg #[.int .i64 lv, .int .i64 nx, .slice A6 n c6])) _ from by rw [HQ]; exact ⟨A6, n, c6, rfl, HH.out.2.1, hc6, hb9, hB9⟩)
      rw [HPE.out] at HE
      clear hB7 hB9 hy7 hb7 hb9 hw hq7
      go_wp2
      refine bodyPost_ret (results_hash rfl _ _ (g + 2) _ _ _ rfl H9.out.c0 H9.out.c1 H9.out.c2) rfl ?_
      exact HE.out
    · have HQ : putH spread ⟨lv, nx, bs⟩ ⟨k, t, s⟩ = halveH spread h1 := by
        have h := of_decide_eq_true hrb'
        unfold putH
        rw [HH.out.1.2.2.2.2, if_pos (by rw [HH.out.2.1]; show 4 * n < total h1.bs; rw [HT.out]; omega)]
      clear hrb'
      obtain ⟨bn, hbn⟩ := HH.out.1.1.next
      have hcH := fun (W : World) (hb : HasBsX W (XQ gq) A6 h1.bs) => halve_any0 (w := W) (cp := c6) (XQ gq) h1 bn hb HH.out.2.1 hc6 (by omega) HH.out.1.1 hbn (HH9.out _ (List.mem_of_getElem? hbn)) (HH.out.1.2.1 _ (List.mem_of_getElem? hbn))
      rw [HH.out.1.2.2.1, HH.out.1.2.2.2.1] at hcH
      go_wp2_with fail
      refine (hcH _ hb7).mono ?_
      rintro e z2 ⟨A8, n8, c8, rfl, hn8, hc8, hb8, hv⟩
      have hb7 := hb8
      have hy7 := hy7.below hv hy7.lt
      have hB7 := hB7.trans (hv.mono hB7.size)
      clear hv hb8 hcH x0 x1 x2
      have f0 := hy7.c0
      have f1 := hy7.c1
      have f2 := hy7.c2
      have fz0 := hy7.f 0
      have fz1 := hy7.f 1
      have fz2 := hy7.f 2
      have hB9 := ((hB7.setCell (p := ⟨g + 2, 0, none⟩) (by show w.heap.size ≤ g + 2; have := HG.out; omega) (.int .i64 (halveH spread h1).lv)).setCell (p := ⟨g + 2, 1, none⟩) (by show w.heap.size ≤ g + 2; have := HG.out; omega) (.int .i64 (halveH spread h1).nx)).setCell (p := ⟨g + 2, 2, none⟩) (by show w.heap.size ≤ g + 2; have := HG.out; omega) (.slice A8 n8 c8)
      have hw := (((Bar.refl (g + 2) z2).setCell 0 (.int .i64 (halveH spread h1).lv)).setCell 1 (.int .i64 (halveH spread h1).nx)).setCell 2 (.slice A8 n8 c8)
      have H9 := Lib.hid (((hy7.set0 (.int .i64 (halveH spread h1).lv)).set1 (.int .i64 (halveH spread h1).nx)).set2 (.slice A8 n8 c8))
      have hb9 := (hb7.bar (fun h => by exact h.elim (fun h => ((hXQ _ _).1 h).elim (fun h => by have := (hX0 _).1 h; omega) (fun h => by omega)) (fun h => by omega)) hw).mono (Y := fun b => X b ∨ w.heap.size ≤ b) (fun b h => by exact h.elim (fun h => ((hXQ _ _).1 h).imp (fun h => ((hX0 _).1 h).1) (fun h => by have := HG.out; omega)) (fun h => Or.inr (by have := HG.out; omega)))
      have HE := Lib.hid (show HashPost X (putH spread ⟨lv, nx, bs⟩ ⟨k, t, s⟩) w (.returned (.agg #[.int .i64 (halveH spread h1).lv, .int .i64 (halveH spread h1).nx, .slice A8 n8 c8])) _ from by rw [HQ]; exact ⟨A8, n8, c8, rfl, hn8, hc8, hb9, hB9⟩)
      rw [HPE.out] at HE
      clear hB7 hB9 hy7 hb7 hb9 hw hq7
      go_wp2
      refine bodyPost_ret (results_hash rfl _ _ (g + 2) _ _ _ rfl H9.out.c0 H9.out.c1 H9.out.c2) rfl ?_
      exact HE.out
  refine Lex.tree_call qe12 (Lex.want_none rfl) (fun K hK => ?_) Lex.tree_no
  go_simp
  have hnew := (Below.refl yd.heap.size yd).alloc (Nat.le_refl _) (.cells #[.int .i64 0, .int .i64 0, .slice none 0 0] 27)
  have hq := Box3.new yd (.int .i64 0) (.int .i64 0) (.slice none 0 0) 27
  have hsq := hsz
  have x0 := cell_belowB hnew x0
  have x1 := cell_belowB hnew x1
  have x2 := cell_belowB hnew x2
  have d0 := cell_belowB hnew d0
  have p0 := cell_belowB hnew p0
  have p1 := cell_belowB hnew p1
  have hbX := hbX.below hnew (Nat.le_refl _)
  have hy := hy.below hnew hy.lt
  have hsz : S0 ≤ _ := Nat.le_trans hsz hnew.size
  have hB := hB.trans (hnew.mono hB.size)
  have hr1 := hr1.below hnew (Nat.le_refl _)
  clear hnew
  generalize yd.alloc (.cells #[.int .i64 0, .int .i64 0, .slice none 0 0] 27) = zyd at x0 x1 x2 d0 p0 p1 hbX hy hsz hB hq hr1 ⊢
  generalize yd.heap.size = gq at hq hsq ⊢
  refine hK.out _ _ _ (fun _ h => h) ⟨x0, x1, x2, d0, p0, p1⟩ ?_
  clear hK K
  try simp only [Act.put, List.setIfInBounds_toArray, List.set_cons_zero, List.set_cons_succ]
  refine Lex.tree_call qe10 (Lex.want_none rfl) (fun K hK => ?_) Lex.tree_no
  go_simp
  refine (hcP _ hr1).mono ?_
  rintro e y1 ⟨A5, m5, c5, rfl, hm5, hc5, hl5, hv⟩
  have hql := hq.lt
  have hE5 : HasEX y1 (XQ gq) A5 (putL bk ⟨k, t, s⟩) := ⟨hl5.lower (Nat.zero_le _), fun hn b o s e => (hXQ _ b).2 (Or.inr ⟨Nat.le_trans hsz (adr_lt hl5 hn b o s e).1, by have := (adr_lt hl5 hn b o s e).1; omega⟩)⟩
  clear hql
  clear hl5
  have x0 := cell_belowB hv x0
  have x1 := cell_belowB hv x1
  have x2 := cell_belowB hv x2
  have d0 := cell_belowB hv d0
  have p0 := cell_belowB hv p0
  have p1 := cell_belowB hv p1
  have hbX := hbX.below hv (Nat.le_refl _)
  have hy := hy.below hv hy.lt
  have hsz : S0 ≤ _ := Nat.le_trans hsz hv.size
  have hB := hB.trans (hv.mono hB.size)
  have hq := hq.below hv hq.lt
  clear hv hr1
  refine hK.out _ _ _ (fun _ h => h) ⟨x0, x1, x2, d0, p0, p1⟩ ?_
  clear hK K
  try simp only [Act.put, List.setIfInBounds_toArray, List.set_cons_zero, List.set_cons_succ]
  refine Lex.tree_call qe11 (Lex.want_none rfl) (fun K hK => ?_) Lex.tree_no
  go_simp
  refine (with_any (XQ gq) ⟨lv, nx, bs⟩ i _ (hbX.mono (Y := (XQ gq)) (fun b h => (hXQ _ b).2 (Or.inl h))) HN.out (by omega) hin hE5 hm5 hc5).mono ?_
  rintro e y2 ⟨A6, n6, c6, he, hn6, hc6, hb6, hv⟩
  have he : e = .returned (.agg #[.int .i64 lv, .int .i64 nx, .slice A6 n6 c6]) := he
  subst he
  have hql := hq.lt
  have hb6 := hb6.mono (Y := XQ gq) (fun b h => h.elim id (fun h => (hXQ _ b).2 (Or.inr ⟨Nat.le_trans hsz h, by omega⟩)))
  clear hql
  have x0 := cell_belowB hv x0
  have x1 := cell_belowB hv x1
  have x2 := cell_belowB hv x2
  have d0 := cell_belowB hv d0
  have p0 := cell_belowB hv p0
  have p1 := cell_belowB hv p1
  have hbX := hbX.below hv (Nat.le_refl _)
  have hy := hy.below hv hy.lt
  have hsz : S0 ≤ _ := Nat.le_trans hsz hv.size
  have hB := hB.trans (hv.mono hB.size)
  have hq := hq.below hv hq.lt
  clear hv hE5
  refine hK.out _ _ _ (fun _ h => h) ⟨x0, x1, x2, d0, p0, p1⟩ ?_
  clear hK K
  try simp only [Act.put, List.setIfInBounds_toArray, List.set_cons_zero, List.set_cons_succ]
  refine Lex.tree_call qe13 (Lex.want_none rfl) (fun K hK => ?_) Lex.tree_no
  have k0 := hq.c0
  have k1 := hq.c1
  have k2 := hq.c2
  have k3 := hq.f
  go_simp
  clear k0 k1 k2 k3
  have hbar := (((Bar.refl gq y2).setCell 0 (.int .i64 lv)).setCell 1 (.int .i64 nx)).setCell 2 (.slice A6 n6 c6)
  have x0 := (hbar.cell (p := ⟨g, 0, none⟩) (World.block_lt_of_cell? _ _ x0) (by show g ≠ gq; omega)).trans x0
  have x1 := (hbar.cell (p := ⟨g, 1, none⟩) (World.block_lt_of_cell? _ _ x1) (by show g ≠ gq; omega)).trans x1
  have x2 := (hbar.cell (p := ⟨g, 2, none⟩) (World.block_lt_of_cell? _ _ x2) (by show g ≠ gq; omega)).trans x2
  have d0 := (hbar.cell (p := ⟨b, o + i, none⟩) (World.block_lt_of_cell? _ _ d0) (by show b ≠ gq; omega)).trans d0
  have p0 := (hbar.cell (p := ⟨g + 1, 0, none⟩) (World.block_lt_of_cell? _ _ p0) (by show g + 1 ≠ gq; omega)).trans p0
  have p1 := (hbar.cell (p := ⟨g + 1, 1, none⟩) (World.block_lt_of_cell? _ _ p1) (by show g + 1 ≠ gq; omega)).trans p1
  have hq7 := ((hq.set0 (.int .i64 lv)).set1 (.int .i64 nx)).set2 (.slice A6 n6 c6)
  have hy := hy.bar hbar (by omega)
  have hb7 : HasBsX _ (XQ gq) A6 (withB ⟨lv, nx, bs⟩ i (putL bk ⟨k, t, s⟩)).bs := hb6.bar (fun h => ((hXQ _ _).1 h).elim (fun h => by have := (hX0 _).1 h; omega) (fun h => h.2 rfl)) hbar
  have hB7 := hB.trans (hbar.below (B := w.heap.size) (by omega) hB.size)
  have hsz := Nat.le_trans hsz hbar.size
  clear hbar hq hb6 hB hbX
  generalize ((y2.setCell ⟨gq, 0, none⟩ (.int .i64 lv)).setCell ⟨gq, 1, none⟩ (.int .i64 nx)).setCell ⟨gq, 2, none⟩ (.slice A6 n6 c6) = s9 at x0 x1 x2 d0 p0 p1 hq7 hy hb7 hB7 hsz ⊢
  refine hK.out _ _ _ (fun _ h => h) ⟨x0, x1, x2, d0, p0, p1⟩ ?_
  clear hK K
  try simp only [Act.put, List.setIfInBounds_toArray, List.set_cons_zero, List.set_cons_succ]
  refine Lex.tree_end ?_
  refine NoPanic.normal ?_
  rw [← hge] at hb7 hn6
  obtain rfl : n = n6 := HH.out.2.1.symm.trans hn6
  clear x0 x1 x2 d0 p0 p1 hn6 hm5 hc5 hcP hge
  have hy7 := hy
  clear hy
  have x0 := hq7.c0
  have x1 := hq7.c1
  have x2 := hq7.c2
  obtain ⟨tot, htt⟩ : ∃ tot, total h1.bs = tot := ⟨_, rfl⟩
  rw [htt] at htot
  have hcC := fun (W : World) (hb : HasBs W 0 A6 h1.bs) => count_any0 (cp := c6) lv nx 0 hb HH.out.2.1 (by omega) HH.out.2.2
  rw [htt] at hcC
  have HT := Lib.hid htt
  obtain ⟨rb, hrb'⟩ : ∃ rb, decide (4 * (n : Int) < (tot : Int)) = rb := ⟨_, rfl⟩
  have e4 : IntKind.i64.wrap (4 * (n : Int)) = 4 * (n : Int) := IntWalk.i64_in _ (by omega)
  clear htt
  go_wp2_with fail
  have hdr := (Below.refl s9.heap.size s9).drew
  refine Lex.region_lex (ops := qqops) (calls := qqcalls) qqord (fun W => W.cell? ⟨gq, 0, none⟩ = some (.int .i64 (lv : Int)) ∧ W.cell? ⟨gq, 1, none⟩ = some (.int .i64 (nx : Int)) ∧ W.cell? ⟨gq, 2, none⟩ = some (.slice A6 n c6)) (by kernel_rfl) (by kernel_rfl) qqsel (by kernel_rfl) (by kernel_rfl) qqlex (⟨cell_belowB hdr x0, cell_belowB hdr x1, cell_belowB hdr x2⟩) ?_
  unfold qqord
  have x0 := cell_belowB hdr x0
  have x1 := cell_belowB hdr x1
  have x2 := cell_belowB hdr x2
  have hb7 := hb7.below hdr (Nat.le_refl _)
  have hq7 := hq7.below hdr hq7.lt
  have hy7 := hy7.below hdr hy7.lt
  have hsz : S0 ≤ _ := Nat.le_trans hsz hdr.size
  have hB7 := hB7.trans (hdr.mono hB7.size)
  clear hdr
  refine Lex.step_take (.agg #[.int .i64 (lv : Int), .int .i64 (nx : Int), .slice A6 n c6]) qq0 rfl (Lex.want_none rfl) (by intro Wx hSw; (try dsimp only at hSw); go_simp; (try (first | (with_reducible rfl) | assumption | rfl))) ?_
  simp only [Act.put, List.setIfInBounds_toArray, List.set_cons_zero, List.set_cons_succ]
  refine Lex.step_take (.pointer (some ⟨gq, 2, none⟩)) qq2 rfl (Lex.want_none rfl) (by intro Wx hSw; (try dsimp only at hSw); go_simp; (try (first | (with_reducible rfl) | assumption | rfl))) ?_
  simp only [Act.put, List.setIfInBounds_toArray, List.set_cons_zero, List.set_cons_succ]
  refine Lex.step_take (.slice A6 n c6) qq3 rfl (Lex.want_none rfl) (by intro Wx hSw; (try dsimp only at hSw); go_simp; (try (first | (with_reducible rfl) | assumption | rfl))) ?_
  simp only [Act.put, List.setIfInBounds_toArray, List.set_cons_zero, List.set_cons_succ]
  refine Lex.step_take (.int .i64 (n : Int)) qq4 rfl (Lex.want_none rfl) (by intro Wx hSw; (try dsimp only at hSw); go_simp; (try (first | (with_reducible rfl) | assumption | rfl))) ?_
  simp only [Act.put, List.setIfInBounds_toArray, List.set_cons_zero, List.set_cons_succ]
  refine Lex.step_take (.int .i64 (4 * (n : Int))) qq5 rfl (Lex.want_none rfl) (by intro Wx hSw; (try dsimp only at hSw); go_simp; (try (first | (with_reducible rfl) | assumption | rfl))) ?_
  simp only [Act.put, List.setIfInBounds_toArray, List.set_cons_zero, List.set_cons_succ]
  refine Lex.step_call qq1 rfl (Lex.want_none rfl) (fun K hK => ?_)
  go_simp
  refine (hcC _ hb7.bs).mono ?_
  rintro e z1 ⟨rfl, hv⟩
  have x0 := cell_belowB hv x0
  have x1 := cell_belowB hv x1
  have x2 := cell_belowB hv x2
  have hb7 := hb7.below hv (Nat.le_refl _)
  have hq7 := hq7.below hv hq7.lt
  have hy7 := hy7.below hv hy7.lt
  have hsz : S0 ≤ _ := Nat.le_trans hsz hv.size
  have hB7 := hB7.trans (hv.mono hB7.size)
  clear hv
  refine hK.out _ _ _ (fun _ h => h) ⟨x0, x1, x2⟩ ?_
  clear hK K
  try simp only [Act.put, List.setIfInBounds_toArray, List.set_cons_zero, List.set_cons_succ]
  refine Lex.step_take (.bool rb) qq6 rfl (Lex.want_none rfl) (by intro Wx hSw; (try dsimp only at hSw); go_simp; (try (first | (with_reducible rfl) | assumption | rfl))) ?_
  simp only [Act.put, List.setIfInBounds_toArray, List.set_cons_zero, List.set_cons_succ]
  refine NoPanic.normal ?_
  clear e4 hcC
  cases rb
  · have HQ : putH spread ⟨lv, nx, bs⟩ ⟨k, t, s⟩ = ⟨lv, nx, h1.bs⟩ := by
      have h := of_decide_eq_false hrb'
      unfold putH
      rw [HH.out.1.2.2.2.2, if_neg (by rw [HH.out.2.1]; show ¬ 4 * n < total h1.bs; rw [HT.out]; omega)]
      exact hash_eta HH.out.1.2.2.1 HH.out.1.2.2.2.1
    clear hrb'
    have f0 := hy7.c0
    have f1 := hy7.c1
    have f2 := hy7.c2
    have fz0 := hy7.f 0
    have fz1 := hy7.f 1
    have fz2 := hy7.f 2
    have hB9 := ((hB7.setCell (p := ⟨g + 2, 0, none⟩) (by show w.heap.size ≤ g + 2; have := HG.out; omega) (.int .i64 lv)).setCell (p := ⟨g + 2, 1, none⟩) (by show w.heap.size ≤ g + 2; have := HG.out; omega) (.int .i64 nx)).setCell (p := ⟨g + 2, 2, none⟩) (by show w.heap.size ≤ g + 2; have := HG.out; omega) (.slice A6 n c6)
    have hw := (((Bar.refl (g + 2) z1).setCell 0 (.int .i64 lv)).setCell 1 (.int .i64 nx)).setCell 2 (.slice A6 n c6)
    have H9 := Lib.hid (((hy7.set0 (.int .i64 lv)).set1 (.int .i64 nx)).set2 (.slice A6 n c6))
    have hb9 := (hb7.bar (fun h => by exact ((hXQ _ _).1 h).elim (fun h => by have := (hX0 _).1 h; omega) (fun h => by omega)) hw).mono (Y := fun b => X b ∨ w.heap.size ≤ b) (fun b h => by exact ((hXQ _ _).1 h).imp (fun h => ((hX0 _).1 h).1) (fun h => by have := HG.out; omega))
    have HE := Lib.hid (show HashPost X (putH spread ⟨lv, nx, bs⟩ ⟨k, t, s⟩) w (.returned (.agg #[.int .i64 lv, .int .i64 nx, .slice A6 n c6])) _ from by rw [HQ]; exact ⟨A6, n, c6, rfl, HH.out.2.1, hc6, hb9, hB9⟩)
    rw [HPE.out] at HE
    clear hB7 hB9 hy7 hb7 hb9 hw hq7
    go_wp2
    refine bodyPost_ret (results_hash rfl _ _ (g + 2) _ _ _ rfl H9.out.c0 H9.out.c1 H9.out.c2) rfl ?_
    exact HE.out
  · have HQ : putH spread ⟨lv, nx, bs⟩ ⟨k, t, s⟩ = halveH spread h1 := by
      have h := of_decide_eq_true hrb'
      unfold putH
      rw [HH.out.1.2.2.2.2, if_pos (by rw [HH.out.2.1]; show 4 * n < total h1.bs; rw [HT.out]; omega)]
    clear hrb'
    obtain ⟨bn, hbn⟩ := HH.out.1.1.next
    have hcH := fun (W : World) (hb : HasBsX W (XQ gq) A6 h1.bs) => halve_any0 (w := W) (cp := c6) (XQ gq) h1 bn hb HH.out.2.1 hc6 (by omega) HH.out.1.1 hbn (HH9.out _ (List.mem_of_getElem? hbn)) (HH.out.1.2.1 _ (List.mem_of_getElem? hbn))
    rw [HH.out.1.2.2.1, HH.out.1.2.2.2.1] at hcH
    go_wp2_with fail
    refine (hcH _ hb7).mono ?_
    rintro e z2 ⟨A8, n8, c8, rfl, hn8, hc8, hb8, hv⟩
    have hb7 := hb8
    have hy7 := hy7.below hv hy7.lt
    have hB7 := hB7.trans (hv.mono hB7.size)
    clear hv hb8 hcH x0 x1 x2
    have f0 := hy7.c0
    have f1 := hy7.c1
    have f2 := hy7.c2
    have fz0 := hy7.f 0
    have fz1 := hy7.f 1
    have fz2 := hy7.f 2
    have hB9 := ((hB7.setCell (p := ⟨g + 2, 0, none⟩) (by show w.heap.size ≤ g + 2; have := HG.out; omega) (.int .i64 (halveH spread h1).lv)).setCell (p := ⟨g + 2, 1, none⟩) (by show w.heap.size ≤ g + 2; have := HG.out; omega) (.int .i64 (halveH spread h1).nx)).setCell (p := ⟨g + 2, 2, none⟩) (by show w.heap.size ≤ g + 2; have := HG.out; omega) (.slice A8 n8 c8)
    have hw := (((Bar.refl (g + 2) z2).setCell 0 (.int .i64 (halveH spread h1).lv)).setCell 1 (.int .i64 (halveH spread h1).nx)).setCell 2 (.slice A8 n8 c8)
    have H9 := Lib.hid (((hy7.set0 (.int .i64 (halveH spread h1).lv)).set1 (.int .i64 (halveH spread h1).nx)).set2 (.slice A8 n8 c8))
    have hb9 := (hb7.bar (fun h => by exact h.elim (fun h => ((hXQ _ _).1 h).elim (fun h => by have := (hX0 _).1 h; omega) (fun h => by omega)) (fun h => by omega)) hw).mono (Y := fun b => X b ∨ w.heap.size ≤ b) (fun b h => by exact h.elim (fun h => ((hXQ _ _).1 h).imp (fun h => ((hX0 _).1 h).1) (fun h => by have := HG.out; omega)) (fun h => Or.inr (by have := HG.out; omega)))
    have HE := Lib.hid (show HashPost X (putH spread ⟨lv, nx, bs⟩ ⟨k, t, s⟩) w (.returned (.agg #[.int .i64 (halveH spread h1).lv, .int .i64 (halveH spread h1).nx, .slice A8 n8 c8])) _ from by rw [HQ]; exact ⟨A8, n8, c8, rfl, hn8, hc8, hb9, hB9⟩)
    rw [HPE.out] at HE
    clear hB7 hB9 hy7 hb7 hb9 hw hq7
    go_wp2
    refine bodyPost_ret (results_hash rfl _ _ (g + 2) _ _ _ rfl H9.out.c0 H9.out.c1 H9.out.c2) rfl ?_
    exact HE.out
end
end Go.Proofs.Ytocmkjccaajnnaa.Ha
