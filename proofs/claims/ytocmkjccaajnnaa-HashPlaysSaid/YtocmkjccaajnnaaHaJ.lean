/- An entry more: the document's, walked. -/
import Derived.Test.YtocmkjccaajnnaaHaI
namespace Go.Proofs.Ytocmkjccaajnnaa.Ha
open Go.RowKit Pac Bu Ls Lex Go.Proofs.Ytocmkjccaajnnaa.Or

theorem hash_eta {h : H} {a b : Nat} (h1 : h.lv = a) (h2 : h.nx = b) : h = ⟨a, b, h.bs⟩ := by
  subst h1 h2
  rfl
section
variable {A : Option Addr} {n cp : Nat} {w : World}
set_option maxRecDepth 20000 in
set_option maxHeartbeats 6400000 in
theorem refPutH_any (X : Nat → Prop) (h : H) (k : ByteArray) (t s : Int) (hh : IsH spread h) (hb : HasBsX w X A h.bs) (hn : h.bs.length = n) (h9 : n ≤ 9000) (hm9 : ∀ r ∈ h.bs, r.length ≤ 90000) (hks : ∀ r ∈ h.bs, ∀ e ∈ r, e.key.size ≤ 9223372036854775807) (hk : k.size ≤ 9223372036854775807) :
    Calls Try.prog 13 #[.agg #[.int .i64 h.lv, .int .i64 h.nx, .slice A n cp], .string k, .agg #[.int .i64 t, .int .i64 s]] w (HashPost X (putH spread h ⟨k, t, s⟩) w) := by
  obtain ⟨bk, hbk⟩ := hh.here k.data.toList
  have hi1 := putB_is hh ⟨k, t, s⟩
  have hge : putB spread h ⟨k, t, s⟩ = withB h (whereH spread h k.data.toList) (putL bk ⟨k, t, s⟩) := by
    unfold putB
    rw [show (⟨k, t, s⟩ : E).k = k.data.toList from rfl, hbk]
    rfl
  have hrb := hh.ris bk (List.mem_of_getElem? hbk)
  have hl8 := hh.l8
  have hnx : h.nx ≤ 1000 := Nat.le_of_lt (Nat.lt_of_lt_of_le hh.nx (Nat.le_trans (Nat.pow_le_pow_right (n := 2) (by omega) hl8) (by decide)))
  obtain ⟨h1, hh1⟩ : ∃ h1, putB spread h ⟨k, t, s⟩ = h1 := ⟨_, rfl⟩
  obtain ⟨lv, nx, bs⟩ := h
  simp only at hb hn hl8 hnx hm9 hks
  obtain ⟨i, hi⟩ : ∃ i, whereH spread ⟨lv, nx, bs⟩ k.data.toList = i := ⟨_, rfl⟩
  have hcW := fun W : World => refWhere_any lv nx k W hl8 hnx hk
  have hwi : atN lv nx (spread k.data.toList) = i := hi
  rw [hwi] at hcW
  rw [hi] at hbk hge
  have hbk : bs[i]? = some bk := hbk
  have hin : i < n := by rw [← hn]; exact (List.getElem?_eq_some_iff.1 hbk).1
  rw [hh1] at hge hi1
  have hbm := hm9 bk (List.mem_of_getElem? hbk)
  have hlp := (len_put bk ⟨k, t, s⟩).2
  have HN : Hid ((⟨lv, nx, bs⟩ : H).bs.length = n) := Lib.hid hn
  have hb1 : h1.bs = bs.set i (putL bk ⟨k, t, s⟩) := by rw [hge]; rfl
  have hr9 : ∀ r ∈ h1.bs, r.length ≤ 100000 := fun r hr => by
    rw [hb1] at hr
    rcases List.mem_or_eq_of_mem_set hr with h | rfl
    · exact Nat.le_trans (hm9 r h) (by omega)
    · omega
  have hk9 : ∀ r ∈ h1.bs, ∀ e ∈ r, e.key.size ≤ 9223372036854775807 := fun r hr e he => by
    rw [hb1] at hr
    rcases List.mem_or_eq_of_mem_set hr with h | rfl
    · exact hks r h e he
    · rcases (mem_put hrb e).1 he with rfl | ⟨h, _⟩
      · exact hk
      · exact hks bk (List.mem_of_getElem? hbk) e h
  have hn1 : h1.bs.length = n := by rw [hb1, List.length_set, hn]
  have hlv1 : h1.lv = lv := by rw [hge]; rfl
  have hnx1 : h1.nx = nx := by rw [hge]; rfl
  have HH := Lib.hid (And.intro (And.intro hi1 (And.intro hk9 (And.intro hlv1 (And.intro hnx1 hh1)))) (And.intro hn1 hr9))
  have htot : total h1.bs ≤ 100000 * n := by rw [← hn1]; exact total_le _ hr9
  clear hi hwi hi1 hk9 hr9 hh1 hlp hm9 hks hlv1 hnx1
  obtain ⟨post, hpe⟩ : ∃ post, HashPost X (putH spread ⟨lv, nx, bs⟩ ⟨k, t, s⟩) w = post := ⟨_, rfl⟩
  have HPE := Lib.hid hpe
  show Calls _ _ #[.agg #[.int .i64 lv, .int .i64 nx, .slice A n cp], .string k, .agg #[.int .i64 t, .int .i64 s]] _ _
  rw [hpe]
  have hB := (Below.refl w.heap.size w).alloc (Nat.le_refl _) (.cells #[.int .i64 lv, .int .i64 nx, .slice A n cp] 27)
  have hx := Box3.new w (.int .i64 lv) (.int .i64 nx) (.slice A n cp) 27
  obtain ⟨g, hg⟩ : ∃ g, w.heap.size = g := ⟨_, rfl⟩
  have hz : (w.alloc (.cells #[.int .i64 lv, .int .i64 nx, .slice A n cp] 27)).heap.size = g + 1 := by simp [hg]
  rw [hg] at hx
  generalize hw0 : w.alloc (.cells #[.int .i64 lv, .int .i64 nx, .slice A n cp] 27) = wa at hB hx hz
  have hBb := (Below.refl wa.heap.size wa).alloc (Nat.le_refl _) (.cells #[.int .i64 t, .int .i64 s] 30)
  have hp := Box2.new wa (.int .i64 t) (.int .i64 s) 30
  have hz2 : (wa.alloc (.cells #[.int .i64 t, .int .i64 s] 30)).heap.size = g + 2 := by simp [hz]
  rw [hz] at hp
  have hx := hx.below hBb hx.lt
  have hB := hB.trans (hBb.mono hB.size)
  generalize hw1 : wa.alloc (.cells #[.int .i64 t, .int .i64 s] 30) = wb at hB hx hp hz2
  have hBc := (Below.refl wb.heap.size wb).alloc (Nat.le_refl _) (.cells #[.int .i64 0, .int .i64 0, .slice none 0 0] 27)
  have hy := Box3.new wb (.int .i64 0) (.int .i64 0) (.slice none 0 0) 27
  have hsz : g + 3 ≤ (wb.alloc (.cells #[.int .i64 0, .int .i64 0, .slice none 0 0] 27)).heap.size := by simp [hz2]
  rw [hz2] at hy
  have hx := hx.below hBc hx.lt
  have hp := hp.below hBc hp.lt
  have hB := hB.trans (hBc.mono hB.size)
  generalize hw2 : wb.alloc (.cells #[.int .i64 0, .int .i64 0, .slice none 0 0] 27) = wc at hB hx hp hy hsz
  obtain ⟨b, o, A3, c3, rfl, _, hlb, d0, hr1, _⟩ := Li.HasLs.at hb.bs hbk
  rw [hg] at hlb
  have d0 := cell_belowB hB d0
  have hr1 := hr1.below hB (Nat.le_refl _)
  obtain ⟨X1, hX1⟩ : ∃ X1 : Nat → Prop, ∀ b, X1 b ↔ ((X b ∧ b < g) ∨ g + 3 ≤ b) := ⟨fun b => (X b ∧ b < g) ∨ g + 3 ≤ b, fun b => Iff.rfl⟩
  have hbX : HasBsX wc X1 (some ⟨b, o, none⟩) (⟨lv, nx, bs⟩ : H).bs := (hb.lt.mono (fun b h => (hX1 b).2 (Or.inl ⟨h.1, hg ▸ h.2⟩))).below hB (Nat.le_refl _)
  obtain ⟨m, hm⟩ : ∃ m, bk.length = m := ⟨_, rfl⟩
  rw [hm] at d0 hbm
  have hcP := fun (W : World) (h : HasE W 0 A3 bk) => refPut_any (cp := c3) ⟨k, t, s⟩ 0 h hm (by omega) hrb
  have x0 := hx.c0
  have x1 := hx.c1
  have x2 := hx.c2
  have p0 := hp.c0
  have p1 := hp.c1
  have i1 : (i : Int) < (n : Int) := by omega
  have i0 : (0 : Int) ≤ (i : Int) := by omega
  have HG := Lib.hid hg
  have HX1 := Lib.hid hX1
  clear hb hn hbk hBb hBc hm hpe hp hb1
  go_enter Try.func13, Try.ntmps13
  go_wp2_with fail
  clear hw0 hw1 hw2 hg hz hz2
  refine (hcW _).mono ?_
  rintro e y0 ⟨rfl, hv⟩
  have x0 := cell_belowB hv x0
  have x1 := cell_belowB hv x1
  have x2 := cell_belowB hv x2
  have d0 := cell_belowB hv d0
  have p0 := cell_belowB hv p0
  have p1 := cell_belowB hv p1
  have hbX := hbX.below hv (Nat.le_refl _)
  have hx := hx.below hv hx.lt
  have hy := hy.below hv hy.lt
  have hsz : g + 3 ≤ _ := Nat.le_trans hsz hv.size
  have hB := hB.trans (hv.mono hB.size)
  have hr1 := hr1.below hv (Nat.le_refl _)
  clear hv
  clear hcW
  go_wp2_with fail
  have hdr := (Below.refl y0.heap.size y0).drew
  refine Lex.region_last (ops := hpraw) (ops1 := hpops) (calls := hpcalls) 12 _ hpord (fun W => W.cell? ⟨g, 0, none⟩ = some (.int .i64 (lv : Int)) ∧ W.cell? ⟨g, 1, none⟩ = some (.int .i64 (nx : Int)) ∧ W.cell? ⟨g, 2, none⟩ = some (.slice (some ⟨b, o, none⟩) n cp) ∧ W.cell? ⟨b, o + i, none⟩ = some (.slice A3 m c3) ∧ W.cell? ⟨g + 1, 0, none⟩ = some (.int .i64 t) ∧ W.cell? ⟨g + 1, 1, none⟩ = some (.int .i64 s)) (by kernel_rfl) hpeq hplast rfl rfl (by kernel_rfl) (by kernel_rfl) (by kernel_rfl) (by kernel_rfl) hpsel (by kernel_rfl) (by kernel_rfl) hplex (⟨cell_belowB hdr x0, cell_belowB hdr x1, cell_belowB hdr x2, cell_belowB hdr d0, cell_belowB hdr p0, cell_belowB hdr p1⟩) ?_
  unfold hpord
  have x0 := cell_belowB hdr x0
  have x1 := cell_belowB hdr x1
  have x2 := cell_belowB hdr x2
  have d0 := cell_belowB hdr d0
  have p0 := cell_belowB hdr p0
  have p1 := cell_belowB hdr p1
  have hbX := hbX.below hdr (Nat.le_refl _)
  have hx := hx.below hdr hx.lt
  have hy := hy.below hdr hy.lt
  have hsz : g + 3 ≤ _ := Nat.le_trans hsz hdr.size
  have hB := hB.trans (hdr.mono hB.size)
  have hr1 := hr1.below hdr (Nat.le_refl _)
  clear hdr
  refine Lex.step_take (.agg #[.int .i64 (lv : Int), .int .i64 (nx : Int), .slice (some ⟨b, o, none⟩) n cp]) hp0 rfl (Lex.want_none rfl) (by intro Wx hSw; (try dsimp only at hSw); go_simp; (try (first | (with_reducible rfl) | assumption | rfl))) ?_
  simp only [Act.put, List.setIfInBounds_toArray, List.set_cons_zero, List.set_cons_succ]
  refine Lex.step_take (.int .i64 (i : Int)) hp1 rfl (Lex.want_none rfl) (by intro Wx hSw; (try dsimp only at hSw); go_simp; (try (first | (with_reducible rfl) | assumption | rfl))) ?_
  simp only [Act.put, List.setIfInBounds_toArray, List.set_cons_zero, List.set_cons_succ]
  refine Lex.step_take (.pointer (some ⟨g, 2, none⟩)) hp2 rfl (Lex.want_none rfl) (by intro Wx hSw; (try dsimp only at hSw); go_simp; (try (first | (with_reducible rfl) | assumption | rfl))) ?_
  simp only [Act.put, List.setIfInBounds_toArray, List.set_cons_zero, List.set_cons_succ]
  refine Lex.step_take (.slice (some ⟨b, o, none⟩) n cp) hp3 rfl (Lex.want_none rfl) (by intro Wx hSw; (try dsimp only at hSw); go_simp; (try (first | (with_reducible rfl) | assumption | rfl))) ?_
  simp only [Act.put, List.setIfInBounds_toArray, List.set_cons_zero, List.set_cons_succ]
  refine Lex.step_take (.int .i64 (i : Int)) hp4 rfl (Lex.want_none rfl) (by intro Wx hSw; (try dsimp only at hSw); go_simp; (try (first | (with_reducible rfl) | assumption | rfl))) ?_
  simp only [Act.put, List.setIfInBounds_toArray, List.set_cons_zero, List.set_cons_succ]
  refine Lex.step_take (.pointer (some ⟨b, o + i, none⟩)) hp5 rfl (Lex.want_none rfl) (by intro Wx hSw; (try dsimp only at hSw); go_simp; (try (first | (with_reducible rfl) | assumption | rfl))) ?_
  simp only [Act.put, List.setIfInBounds_toArray, List.set_cons_zero, List.set_cons_succ]
  refine Lex.step_take (.slice A3 m c3) hp6 rfl (Lex.want_none rfl) (by intro Wx hSw; (try dsimp only at hSw); go_simp; (try (first | (with_reducible rfl) | assumption | rfl))) ?_
  simp only [Act.put, List.setIfInBounds_toArray, List.set_cons_zero, List.set_cons_succ]
  refine Lex.step_take (.string k) hp7 rfl (Lex.want_none rfl) (by intro Wx hSw; (try dsimp only at hSw); go_simp; (try (first | (with_reducible rfl) | assumption | rfl))) ?_
  simp only [Act.put, List.setIfInBounds_toArray, List.set_cons_zero, List.set_cons_succ]
  refine Lex.step_take (.agg #[.int .i64 t, .int .i64 s]) hp8 rfl (Lex.want_none rfl) (by intro Wx hSw; (try dsimp only at hSw); go_simp; (try (first | (with_reducible rfl) | assumption | rfl))) ?_
  simp only [Act.put, List.setIfInBounds_toArray, List.set_cons_zero, List.set_cons_succ]
  refine Lex.step_take (.agg #[.string k, .int .i64 t, .int .i64 s]) hp9 rfl (Lex.want_none rfl) (by intro Wx hSw; (try dsimp only at hSw); go_simp; (try (first | (with_reducible rfl) | assumption | rfl))) ?_
  simp only [Act.put, List.setIfInBounds_toArray, List.set_cons_zero, List.set_cons_succ]
  refine Lex.step_call hp10 rfl (Lex.want_none rfl) (fun K hK => ?_)
  go_simp
  refine (hcP _ hr1).mono ?_
  rintro e y1 ⟨A5, m5, c5, rfl, hm5, hc5, hl5, hv⟩
  have hE5 : HasEX y1 X1 A5 (putL bk ⟨k, t, s⟩) := ⟨hl5.lower (Nat.zero_le _), fun hn b o s e => (hX1 b).2 (Or.inr (Nat.le_trans hsz (adr_lt hl5 hn b o s e).1))⟩
  have x0 := cell_belowB hv x0
  have x1 := cell_belowB hv x1
  have x2 := cell_belowB hv x2
  have d0 := cell_belowB hv d0
  have p0 := cell_belowB hv p0
  have p1 := cell_belowB hv p1
  have hbX := hbX.below hv (Nat.le_refl _)
  have hx := hx.below hv hx.lt
  have hy := hy.below hv hy.lt
  have hsz : g + 3 ≤ _ := Nat.le_trans hsz hv.size
  have hB := hB.trans (hv.mono hB.size)
  clear hv
  refine hK.out _ _ _ (fun _ h => h) ⟨x0, x1, x2, d0, p0, p1⟩ ?_
  clear hK K
  try simp only [Act.put, List.setIfInBounds_toArray, List.set_cons_zero, List.set_cons_succ]
  refine Lex.step_call hp11 rfl (Lex.want_none rfl) (fun K hK => ?_)
  go_simp
  refine (refWith_any X1 ⟨lv, nx, bs⟩ i _ hbX HN.out (by omega) hin hE5 hm5 hc5).mono ?_
  rintro e y2 ⟨A6, n6, c6, he, hn6, hc6, hb6, hv⟩
  have he : e = .returned (.agg #[.int .i64 lv, .int .i64 nx, .slice A6 n6 c6]) := he
  subst he
  have hb6 := hb6.mono (Y := X1) (fun b h => h.elim id (fun h => (hX1 b).2 (Or.inr (Nat.le_trans hsz h))))
  have x0 := cell_belowB hv x0
  have x1 := cell_belowB hv x1
  have x2 := cell_belowB hv x2
  have d0 := cell_belowB hv d0
  have p0 := cell_belowB hv p0
  have p1 := cell_belowB hv p1
  have hbX := hbX.below hv (Nat.le_refl _)
  have hx := hx.below hv hx.lt
  have hy := hy.below hv hy.lt
  have hsz : g + 3 ≤ _ := Nat.le_trans hsz hv.size
  have hB := hB.trans (hv.mono hB.size)
  clear hv
  have fz0 := hx.f 0
  have fz1 := hx.f 1
  have fz2 := hx.f 2
  refine hK.out _ _ _ (fun _ h => h) ⟨x0, x1, x2, d0, p0, p1⟩ ?_
  clear hK K
  try simp only [Act.put, List.setIfInBounds_toArray, List.set_cons_zero, List.set_cons_succ]
  refine Lex.step_take (.bool true) hp12 rfl (Lex.want_none rfl) (by intro Wx hSw; (try dsimp only at hSw); go_simp; (try (first | (with_reducible rfl) | assumption | rfl))) ?_
  simp only [Act.put, List.setIfInBounds_toArray, List.set_cons_zero, List.set_cons_succ]
  refine Lex.last_op hplast rfl (fun K hK => ?_)
  go_simp
  refine hK.out _ _ ?_
  clear hK K
  have hw := (((Bar.refl g y2).setCell 0 (.int .i64 lv)).setCell 1 (.int .i64 nx)).setCell 2 (.slice A6 n6 c6)
  have hx7 := ((hx.set0 (.int .i64 lv)).set1 (.int .i64 nx)).set2 (.slice A6 n6 c6)
  have hy7 := hy.bar hw (by omega)
  have hb7 : HasBsX _ X1 A6 (withB ⟨lv, nx, bs⟩ i (putL bk ⟨k, t, s⟩)).bs := hb6.bar (fun h => by rcases (HX1.out _).1 h with h | h <;> omega) hw
  have hB7 := hB.trans (hw.below (B := w.heap.size) (Nat.le_of_eq HG.out) hB.size)
  have hsz := Nat.le_trans hsz hw.size
  rw [← hge] at hb7 hn6
  obtain rfl : n = n6 := HH.out.2.1.symm.trans hn6
  clear hbX hx hy hb6 hB hw hE5 hl5 hcP hr1 hX1 hn6 x0 x1 x2 d0 p0 p1 fz0 fz1 fz2 hm5 hc5 hge
  generalize ((y2.setCell ⟨g, 0, none⟩ (.int .i64 lv)).setCell ⟨g, 1, none⟩ (.int .i64 nx)).setCell ⟨g, 2, none⟩ (.slice A6 n c6) = y3 at hx7 hy7 hb7 hB7 hsz ⊢
  have x0 := hx7.c0
  have x1 := hx7.c1
  have x2 := hx7.c2
  obtain ⟨tot, htt⟩ : ∃ tot, total h1.bs = tot := ⟨_, rfl⟩
  rw [htt] at htot
  have hcC := fun (W : World) (hb : HasBs W 0 A6 h1.bs) => refCount_any (cp := c6) lv nx 0 hb HH.out.2.1 (by omega) HH.out.2.2
  rw [htt] at hcC
  have HT := Lib.hid htt
  obtain ⟨rb, hrb'⟩ : ∃ rb, decide (4 * (n : Int) < (tot : Int)) = rb := ⟨_, rfl⟩
  have e4 : IntKind.i64.wrap (4 * (n : Int)) = 4 * (n : Int) := IntWalk.i64_in _ (by omega)
  clear htt
  go_wp2_with fail
  have hdr := (Below.refl y3.heap.size y3).drew
  refine Lex.region_lex (ops := hqops) (calls := hqcalls) hqord (fun W => W.cell? ⟨g, 0, none⟩ = some (.int .i64 (lv : Int)) ∧ W.cell? ⟨g, 1, none⟩ = some (.int .i64 (nx : Int)) ∧ W.cell? ⟨g, 2, none⟩ = some (.slice A6 n c6)) (by kernel_rfl) (by kernel_rfl) hqsel (by kernel_rfl) (by kernel_rfl) hqlex (⟨cell_belowB hdr x0, cell_belowB hdr x1, cell_belowB hdr x2⟩) ?_
  unfold hqord
  have x0 := cell_belowB hdr x0
  have x1 := cell_belowB hdr x1
  have x2 := cell_belowB hdr x2
  have hb7 := hb7.below hdr (Nat.le_refl _)
  have hx7 := hx7.below hdr hx7.lt
  have hy7 := hy7.below hdr hy7.lt
  have hsz : g + 3 ≤ _ := Nat.le_trans hsz hdr.size
  have hB7 := hB7.trans (hdr.mono hB7.size)
  clear hdr
  refine Lex.step_take (.agg #[.int .i64 (lv : Int), .int .i64 (nx : Int), .slice A6 n c6]) hq0 rfl (Lex.want_none rfl) (by intro Wx hSw; (try dsimp only at hSw); go_simp; (try (first | (with_reducible rfl) | assumption | rfl))) ?_
  simp only [Act.put, List.setIfInBounds_toArray, List.set_cons_zero, List.set_cons_succ]
  refine Lex.step_take (.pointer (some ⟨g, 2, none⟩)) hq2 rfl (Lex.want_none rfl) (by intro Wx hSw; (try dsimp only at hSw); go_simp; (try (first | (with_reducible rfl) | assumption | rfl))) ?_
  simp only [Act.put, List.setIfInBounds_toArray, List.set_cons_zero, List.set_cons_succ]
  refine Lex.step_take (.slice A6 n c6) hq3 rfl (Lex.want_none rfl) (by intro Wx hSw; (try dsimp only at hSw); go_simp; (try (first | (with_reducible rfl) | assumption | rfl))) ?_
  simp only [Act.put, List.setIfInBounds_toArray, List.set_cons_zero, List.set_cons_succ]
  refine Lex.step_take (.int .i64 (n : Int)) hq4 rfl (Lex.want_none rfl) (by intro Wx hSw; (try dsimp only at hSw); go_simp; (try (first | (with_reducible rfl) | assumption | rfl))) ?_
  simp only [Act.put, List.setIfInBounds_toArray, List.set_cons_zero, List.set_cons_succ]
  refine Lex.step_take (.int .i64 (4 * (n : Int))) hq5 rfl (Lex.want_none rfl) (by intro Wx hSw; (try dsimp only at hSw); go_simp; (try (first | (with_reducible rfl) | assumption | rfl))) ?_
  simp only [Act.put, List.setIfInBounds_toArray, List.set_cons_zero, List.set_cons_succ]
  refine Lex.step_call hq1 rfl (Lex.want_none rfl) (fun K hK => ?_)
  go_simp
  refine (hcC _ hb7.bs).mono ?_
  rintro e z1 ⟨rfl, hv⟩
  have x0 := cell_belowB hv x0
  have x1 := cell_belowB hv x1
  have x2 := cell_belowB hv x2
  have hb7 := hb7.below hv (Nat.le_refl _)
  have hx7 := hx7.below hv hx7.lt
  have hy7 := hy7.below hv hy7.lt
  have hsz : g + 3 ≤ _ := Nat.le_trans hsz hv.size
  have hB7 := hB7.trans (hv.mono hB7.size)
  clear hv
  refine hK.out _ _ _ (fun _ h => h) ⟨x0, x1, x2⟩ ?_
  clear hK K
  try simp only [Act.put, List.setIfInBounds_toArray, List.set_cons_zero, List.set_cons_succ]
  refine Lex.step_take (.bool rb) hq6 rfl (Lex.want_none rfl) (by intro Wx hSw; (try dsimp only at hSw); go_simp; (try (first | (with_reducible rfl) | assumption | rfl))) ?_
  simp only [Act.put, List.setIfInBounds_toArray, List.set_cons_zero, List.set_cons_succ]
  refine NoPanic.normal ?_
  clear e4 hcC
  cases rb
  · have HQ : putH spread ⟨lv, nx, bs⟩ ⟨k, t, s⟩ = ⟨lv, nx, h1.bs⟩ := by
      have h := of_decide_eq_false hrb'
      unfold putH
      rw [HH.out.1.2.2.2.2, if_neg (by rw [HH.out.2.1]; show ¬ 4 * n < total h1.bs; rw [HT.out]; omega)]
      exact hash_eta HH.out.1.2.2.1 HH.out.1.2.2.2.1
    clear hrb'
    have f0 := hy7.c0
    have f1 := hy7.c1
    have f2 := hy7.c2
    have fz0 := hy7.f 0
    have fz1 := hy7.f 1
    have fz2 := hy7.f 2
    have hB9 := ((hB7.setCell (p := ⟨g + 2, 0, none⟩) (by show w.heap.size ≤ g + 2; have := HG.out; omega) (.int .i64 lv)).setCell (p := ⟨g + 2, 1, none⟩) (by show w.heap.size ≤ g + 2; have := HG.out; omega) (.int .i64 nx)).setCell (p := ⟨g + 2, 2, none⟩) (by show w.heap.size ≤ g + 2; have := HG.out; omega) (.slice A6 n c6)
    have hw := (((Bar.refl (g + 2) z1).setCell 0 (.int .i64 lv)).setCell 1 (.int .i64 nx)).setCell 2 (.slice A6 n c6)
    have H9 := Lib.hid (((hy7.set0 (.int .i64 lv)).set1 (.int .i64 nx)).set2 (.slice A6 n c6))
    have hb9 := (hb7.bar (fun h => by rcases (HX1.out _).1 h with h | h <;> omega) hw).mono (Y := fun b => X b ∨ w.heap.size ≤ b) (fun b h => by
      rcases (HX1.out b).1 h with h | h
      · exact Or.inl h.1
      · exact Or.inr (by have := HG.out; omega))
    have HE := Lib.hid (show HashPost X (putH spread ⟨lv, nx, bs⟩ ⟨k, t, s⟩) w (.returned (.agg #[.int .i64 lv, .int .i64 nx, .slice A6 n c6])) _ from by rw [HQ]; exact ⟨A6, n, c6, rfl, HH.out.2.1, hc6, hb9, hB9⟩)
    rw [HPE.out] at HE
    clear hB7 hB9 hy7 hb7 hb9 hw hx7
    go_wp2
    refine bodyPost_ret (results_hash rfl _ _ (g + 2) _ _ _ rfl H9.out.c0 H9.out.c1 H9.out.c2) rfl ?_
    exact HE.out
  · have HQ : putH spread ⟨lv, nx, bs⟩ ⟨k, t, s⟩ = halveH spread h1 := by
      have h := of_decide_eq_true hrb'
      unfold putH
      rw [HH.out.1.2.2.2.2, if_pos (by rw [HH.out.2.1]; show 4 * n < total h1.bs; rw [HT.out]; omega)]
    clear hrb'
    obtain ⟨bn, hbn⟩ := HH.out.1.1.next
    have hcH := fun (W : World) (hb : HasBsX W X1 A6 h1.bs) => refHalve_any (w := W) (cp := c6) X1 h1 bn hb HH.out.2.1 hc6 (by omega) HH.out.1.1.l8 HH.out.1.1.nx hbn (HH.out.2.2 _ (List.mem_of_getElem? hbn)) (HH.out.1.2.1 _ (List.mem_of_getElem? hbn))
    rw [HH.out.1.2.2.1, HH.out.1.2.2.2.1] at hcH
    go_wp2_with fail
    refine (hcH _ hb7).mono ?_
    rintro e z2 ⟨A8, n8, c8, rfl, hn8, hc8, hb8, hv⟩
    have hb7 := hb8.mono (Y := X1) (fun b h => h.elim id (fun h => (HX1.out b).2 (Or.inr (Nat.le_trans hsz h))))
    have hy7 := hy7.below hv hy7.lt
    have hB7 := hB7.trans (hv.mono hB7.size)
    clear hv hb8 hcH x0 x1 x2
    have f0 := hy7.c0
    have f1 := hy7.c1
    have f2 := hy7.c2
    have fz0 := hy7.f 0
    have fz1 := hy7.f 1
    have fz2 := hy7.f 2
    have hB9 := ((hB7.setCell (p := ⟨g + 2, 0, none⟩) (by show w.heap.size ≤ g + 2; have := HG.out; omega) (.int .i64 (halveH spread h1).lv)).setCell (p := ⟨g + 2, 1, none⟩) (by show w.heap.size ≤ g + 2; have := HG.out; omega) (.int .i64 (halveH spread h1).nx)).setCell (p := ⟨g + 2, 2, none⟩) (by show w.heap.size ≤ g + 2; have := HG.out; omega) (.slice A8 n8 c8)
    have hw := (((Bar.refl (g + 2) z2).setCell 0 (.int .i64 (halveH spread h1).lv)).setCell 1 (.int .i64 (halveH spread h1).nx)).setCell 2 (.slice A8 n8 c8)
    have H9 := Lib.hid (((hy7.set0 (.int .i64 (halveH spread h1).lv)).set1 (.int .i64 (halveH spread h1).nx)).set2 (.slice A8 n8 c8))
    have hb9 := (hb7.bar (fun h => by rcases (HX1.out _).1 h with h | h <;> omega) hw).mono (Y := fun b => X b ∨ w.heap.size ≤ b) (fun b h => by
      rcases (HX1.out b).1 h with h | h
      · exact Or.inl h.1
      · exact Or.inr (by have := HG.out; omega))
    have HE := Lib.hid (show HashPost X (putH spread ⟨lv, nx, bs⟩ ⟨k, t, s⟩) w (.returned (.agg #[.int .i64 (halveH spread h1).lv, .int .i64 (halveH spread h1).nx, .slice A8 n8 c8])) _ from by rw [HQ]; exact ⟨A8, n8, c8, rfl, hn8, hc8, hb9, hB9⟩)
    rw [HPE.out] at HE
    clear hB7 hB9 hy7 hb7 hb9 hw hx7
    go_wp2
    refine bodyPost_ret (results_hash rfl _ _ (g + 2) _ _ _ rfl H9.out.c0 H9.out.c1 H9.out.c2) rfl ?_
    exact HE.out
end
end Go.Proofs.Ytocmkjccaajnnaa.Ha
