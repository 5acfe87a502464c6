/- An index: the program's Halve, walked. -/
import Derived.Test.YtocmkjccaajnnaaHpE
import Derived.Maps.AppendAt
namespace Go.Proofs.Ytocmkjccaajnnaa.Ha
open Go.RowKit Pac Bu Ls Lex Go.Proofs.Ytocmkjccaajnnaa.Or

section
variable {A : Option Addr} {n cp : Nat} {w : World}
set_option maxRecDepth 20000 in
set_option maxHeartbeats 6400000 in
theorem halve_any0 (X : Nat → Prop) (h : H) (bk : List E) (hb : HasBsX w X A h.bs) (hn : h.bs.length = n) (hcp : n ≤ cp) (h9 : n ≤ 10000) (hh : IsH spread h) (hbk : h.bs[h.nx]? = some bk) (hm9 : bk.length ≤ 90000) (hks : ∀ e ∈ bk, e.key.size ≤ 9223372036854775807) :
    Calls Try.prog 16 #[.agg #[.int .i64 h.lv, .int .i64 h.nx, .slice A n cp]] w (HashPost X (halveH spread h) w) := by
  obtain ⟨iS, hiS, hs0, hs1, hs2⟩ := info_parts infoB
  have hl8 := hh.l8
  have hnx := hh.nx
  have hlen0 := hh.len
  have hris := hh.ris bk (List.mem_of_getElem? hbk)
  have hownK : ∀ e ∈ bk, atN h.lv h.nx (spread e.k) = h.nx := hh.own _ bk hbk
  have hsh : ShapeN (h.lv : Nat) (h.nx : Nat) n := ⟨by omega, by omega, by omega, by rw [Int.toNat_natCast]; omega, by rw [Int.toNat_natCast]; omega⟩
  clear hh
  obtain ⟨lv, nx, bs⟩ := h
  simp only at hb hn hl8 hnx hbk hlen0 hownK hsh
  obtain ⟨post, hpe⟩ : ∃ post, HashPost X (halveH spread ⟨lv, nx, bs⟩) w = post := ⟨_, rfl⟩
  have HPE := Lib.hid hpe
  show Calls _ _ #[.agg #[.int .i64 lv, .int .i64 nx, .slice A n cp]] _ _
  rw [hpe]
  have hnx9 : nx < 256 := Nat.lt_of_lt_of_le hnx (Nat.pow_le_pow_right (n := 2) (by omega) hl8)
  have HNX := Lib.hid (And.intro hnx hlen0)
  have hB := (Below.refl w.heap.size w).alloc (Nat.le_refl _) (.cells #[.int .i64 lv, .int .i64 nx, .slice A n cp] 27)
  have hx := Box3.new w (.int .i64 lv) (.int .i64 nx) (.slice A n cp) 27
  obtain ⟨g, hg⟩ : ∃ g, w.heap.size = g := ⟨_, rfl⟩
  have hz : (w.alloc (.cells #[.int .i64 lv, .int .i64 nx, .slice A n cp] 27)).heap.size = g + 1 := by simp [hg]
  rw [hg] at hx
  generalize hw0 : w.alloc (.cells #[.int .i64 lv, .int .i64 nx, .slice A n cp] 27) = wa at hB hx hz
  have hBb := (Below.refl wa.heap.size wa).alloc (Nat.le_refl _) (.cells #[.int .i64 0, .int .i64 0, .slice none 0 0] 27)
  have hy := Box3.new wa (.int .i64 0) (.int .i64 0) (.slice none 0 0) 27
  rw [hz] at hy
  have hx := hx.below hBb hx.lt
  have hB := hB.trans (hBb.mono hB.size)
  generalize hw1 : wa.alloc (.cells #[.int .i64 0, .int .i64 0, .slice none 0 0] 27) = wb at hB hx hy
  have hcS := fun W : World => shaped_any (A := A) (n := n) (cp := cp) (w := W) lv nx (by omega) (by omega) (by omega)
  have x0 := hx.c0
  have x1 := hx.c1
  have x2 := hx.c2
  clear hpe hBb hnx hlen0
  go_enter Try.func16, Try.ntmps16
  go_wp2_with fail
  have HG0 := Lib.hid hg
  clear hw0 hw1 hg hz
  refine (hcS _).mono ?_
  rintro e ys ⟨bS, rfl, hbS, hv⟩
  obtain rfl : bS = true := hbS.2 hsh
  have hx := hx.below hv hx.lt
  have hy := hy.below hv hy.lt
  have hB := hB.trans (hv.mono hB.size)
  clear hcS hbS hv x0 x1 x2
  have x0 := hx.c0
  have x1 := hx.c1
  have x2 := hx.c2
  by_cases hlv : lv = 8
  case pos =>
    have hge : halveH spread ⟨lv, nx, bs⟩ = ⟨lv, nx, bs⟩ := by unfold halveH; rw [if_pos (by show 8 ≤ lv; omega)]
    have hlv1 : ((lv : Int) == 8) = true := by rw [beq_iff_eq]; omega
    have hlv2 : (lv == 8) = true := by rw [beq_iff_eq]; omega
    have f0 := hy.f 0
    have f1 := hy.f 1
    have f2 := hy.f 2
    have y0 := hy.c0
    have y1 := hy.c1
    have y2 := hy.c2
    have hg := HG0.out
    have hB9 := ((hB.setCell (p := ⟨g + 1, 0, none⟩) (by show w.heap.size ≤ g + 1; omega) (.int .i64 lv)).setCell (p := ⟨g + 1, 1, none⟩) (by show w.heap.size ≤ g + 1; omega) (.int .i64 nx)).setCell (p := ⟨g + 1, 2, none⟩) (by show w.heap.size ≤ g + 1; omega) (.slice A n cp)
    have H9 := Lib.hid (((hy.set0 (.int .i64 lv)).set1 (.int .i64 nx)).set2 (.slice A n cp))
    have HE := Lib.hid (show HashPost X (halveH spread ⟨lv, nx, bs⟩) w (.returned (.agg #[.int .i64 lv, .int .i64 nx, .slice A n cp])) _ from by rw [hge]; exact ⟨A, n, cp, rfl, hn, hcp, (hb.mono (fun b h => Or.inl h)).below hB9 (Nat.le_refl _), hB9⟩)
    rw [HPE.out] at HE
    clear hB hB9 hy hx hb hge hg hlv
    go_wp2
    refine bodyPost_ret (results_hash rfl _ _ (g + 1) _ _ _ rfl H9.out.c0 H9.out.c1 H9.out.c2) rfl ?_
    exact HE.out
  have hlv7 : lv ≤ 7 := by omega
  have hlv1 : ((lv : Int) == 8) = false := by rw [beq_eq_false_iff_ne]; omega
  have hlv2 : (lv == 8) = false := by rw [beq_eq_false_iff_ne]; exact hlv
  obtain ⟨X0, hX0⟩ : ∃ X0 : Nat → Prop, ∀ b, X0 b ↔ (X b ∧ b < g) := ⟨fun b => X b ∧ b < g, fun b => Iff.rfl⟩
  have hb := (hb.lt.mono (fun b h => (hX0 b).2 ⟨h.1, HG0.out ▸ h.2⟩)).below hB (Nat.le_refl _)
  obtain ⟨b, o, A3, c3, rfl, hXb, hlb, d0, hr1, _, hA3⟩ := hb.at hbk
  have hbg := ((hX0 b).1 hXb).2
  have hin : nx < n := by rw [← hn]; exact (List.getElem?_eq_some_iff.1 hbk).1
  obtain ⟨m, hm⟩ : ∃ m, bk.length = m := ⟨_, rfl⟩
  rw [hm] at d0 hm9
  have i1 : (nx : Int) < (n : Int) := by omega
  have i0 : (0 : Int) ≤ (nx : Int) := by omega
  obtain ⟨lv', nx', hst⟩ : ∃ lv' nx', stepL lv nx = (lv', nx') := ⟨_, _, rfl⟩
  have hlv' : lv' ≤ 8 ∧ nx' ≤ 1000 := by
    have h1 := hst
    unfold stepL at h1
    split at h1
    · injection h1 with e1 e2; omega
    · injection h1 with e1 e2; omega
  have hF := fun W : World => following_any lv nx lv' nx' W hl8 (by omega) hst
  have hsz0 := hy.lt
  obtain ⟨hs, hhs, hHL, hall, _, hXA⟩ := hb
  have hlen : hs.length = n := by rw [← hn, ← hhs, List.length_map]
  have HH := Lib.hid (And.intro hhs (And.intro hall (And.intro hXA (And.intro hlen (And.intro hX0 hHL)))))
  have HBK := Lib.hid (And.intro hn (And.intro hbk (And.intro hris (And.intro hownK (And.intro hst (And.intro hks hm))))))
  have HK := Lib.hid (And.intro hr1 hA3)
  clear hhs hall hXA hlen hX0 hHL hn hbk hris hownK hst hks hlv hXb hr1 hA3 hm
  go_wp2_with fail
  refine (with_own lv nx nx b o hs ⟨none, 0, []⟩ HH.out.2.2.2.2.2 HH.out.2.2.2.1 (by omega) hin rfl).mono ?_
  rintro e y1 ⟨g5, c5, rfl, hown, hv⟩
  have hg5 := hown.lt g5 rfl
  have hnew := (Below.refl y1.heap.size y1).alloc (Nat.le_refl _) (.cells #[.int .i64 lv, .int .i64 nx, .slice (some ⟨g5, 0, none⟩) n c5] 27)
  have hxg := Box3.new y1 (.int .i64 lv) (.int .i64 nx) (.slice (some ⟨g5, 0, none⟩) n c5) 27
  have hown := Li.own_below hown hnew (Nat.le_refl _)
  have hYS := hv.trans (hnew.mono hv.size)
  obtain ⟨g3, hg3⟩ : ∃ g3, y1.heap.size = g3 := ⟨_, rfl⟩
  have hgs : ys.heap.size ≤ g3 := by rw [← hg3]; exact hv.size
  rw [hg3] at hxg hg5
  clear hv hnew x0 x1 x2
  generalize hw2 : y1.alloc (.cells #[.int .i64 lv, .int .i64 nx, .slice (some ⟨g5, 0, none⟩) n c5] 27) = y2 at hown hxg hYS
  have hW2 := hown.alloc (.cells #[.slice none 0 0] 42)
  have hn2 := (Below.refl y2.heap.size y2).alloc (Nat.le_refl _) (.cells #[.slice none 0 0] 42)
  have hs2' : g3 < (y2.alloc (.cells #[.slice none 0 0] 42)).heap.size := Nat.lt_of_lt_of_le hxg.lt hn2.size
  have HW2 := Lib.hid (And.intro hW2 (And.intro hn2 (And.intro (heap_alloc_new y2 (.cells #[.slice none 0 0] 42)) (And.intro (Nat.le_trans hYS.size hn2.size) hs2'))))
  have x2 := hxg.c2
  clear hW2 hn2 hown hs2'
  go_wp2_with (at_builtin; go_must (refine wpList_append_own_at _ rfl _ _ 25 rfl ys.heap.size 42 iS (.slice none 0 0) 1 24 Try.underlying25 hiS hs0 hs1 hs2 rfl (by decide) (.slice (some ⟨g5, 0, none⟩) n c5) n (Li.cellsL Li.cellsG (hs.set nx ⟨none, 0, []⟩)) rfl HW2.out.1 ⟨y2.heap.size, 0, none⟩ 1 1 [.slice none 0 0] rfl rfl (World.news_of_block HW2.out.2.2.1) (by simp [Value.oneCell']) (by unfold maxLen; omega) (by omega) HW2.out.2.2.2.1 ?_))
  intro v7 y7 hown hgrow7 _ hblk
  clear hw2 hg3 x2
  obtain ⟨hownA, hn2, _, hsA, hs3⟩ := HW2.out
  have hbar7 : Bar g5 _ y7 := bar_of_grown hgrow7
  have hYS7 := (hYS.trans (hn2.mono hYS.size)).grown hgrow7 hsA (fun k hk => by have hk := Option.some.inj (show some g5 = some k from hk); omega)
  have hxg7 := (hxg.below hn2 hxg.lt).bar hbar7 (by omega)
  rw [cells_one_more] at hown
  obtain ⟨g6, c6, rfl, hg6, hgl⟩ := hown.form (by omega)
  have hne63 : g6 ≠ g3 := by
    rcases hblk with h | h
    · have h := Option.some.inj (show some g6 = some g5 from h)
      omega
    · have h := Option.some.inj (show some g6 = some _ from h)
      rw [h]
      have := hxg.lt
      omega
  have hlt6 := hown.lt g6 rfl
  clear hownA hn2 hsA hs3 hgrow7 hbar7 hxg hYS hblk HW2 hg5 hg6 hgl
  have hrow := rowX_of HH.out.2.1 HH.out.2.2.1 hown hYS7 (fun x hx => by
    rcases List.mem_append.1 hx with h | h
    · exact (List.mem_or_eq_of_mem_set h).imp id id
    · exact Or.inr (by simpa using h))
  rw [show (hs.set nx ⟨none, 0, []⟩ ++ [(⟨none, 0, []⟩ : Li.Gr E)]).map Li.Gr.l = bs.set nx [] ++ [[]] by rw [List.map_append, List.map_set, HH.out.1]; rfl] at hrow
  obtain ⟨X9, hX9⟩ : ∃ X9 : Nat → Prop, ∀ b, X9 b ↔ ((X b ∧ b < g) ∨ (ys.heap.size ≤ b ∧ b ≠ g3 ∧ b ≠ g6)) := ⟨fun b => (X b ∧ b < g) ∨ (ys.heap.size ≤ b ∧ b ≠ g3 ∧ b ≠ g6), fun b => Iff.rfl⟩
  have hrow := hrow.mono (fun b h => (hX9 b).2 (Or.inl ((HH.out.2.2.2.2.1 b).1 h)))
  have h93 : ¬ X9 g3 := fun h => by rcases (hX9 g3).1 h with h | h <;> omega
  have h96 : ¬ X9 g6 := fun h => by rcases (hX9 g6).1 h with h | h <;> omega
  clear hown
  -- the world with grown's row
  have hbar8 := (Bar.refl g3 y7).setCell 2 (.slice (some ⟨g6, 0, none⟩) (n + 1) c6)
  have hxg8 := hxg7.set2 (.slice (some ⟨g6, 0, none⟩) (n + 1) c6)
  have hYS8 := hYS7.trans (hbar8.below (B := ys.heap.size) (by omega) hYS7.size)
  have hrow8 := hrow.bar h93 hne63 hbar8
  have x2 := hxg7.c2
  have xf2 := hxg7.f 2
  have hx8 := hx.below hYS8 hx.lt
  have x0 := hx8.c0
  have x1 := hx8.c1
  have HY8 := Lib.hid (And.intro hYS8 (And.intro hxg8 hrow8))
  clear hrow hxg7 hbar8 hYS7 hYS8 hxg8 hrow8 hx8
  go_wp2_with fail
  refine (hF _).mono ?_
  rintro e w8 ⟨rfl, hw8⟩
  clear x2 xf2 x0 x1 hF
  obtain ⟨hYS8, hxg8, hrow8⟩ := HY8.out
  rw [← hw8] at hYS8 hxg8 hrow8
  clear hw8 HY8
  have hbar9 := ((Bar.refl g3 w8).setCell 0 (.int .i64 lv')).setCell 1 (.int .i64 nx')
  have hYS9 := hYS8.trans (hbar9.below (B := ys.heap.size) (by omega) hYS8.size)
  have hv9 : Hv w g g3 g6 b o n cp c6 lv nx lv' nx' ys.heap.size X9 A3 bk (bs.set nx (fa lv' nx' nx (bk.take 0)) ++ [fb lv' nx' nx (bk.take 0)]) _ := ⟨(hxg8.set0 (.int .i64 lv')).set1 (.int .i64 nx'), hy.below hYS9 hy.lt, hrow8.bar h93 hne63 hbar9, HK.out.1.below hYS9 (Nat.le_refl _), hB.trans (hYS9.mono hB.size)⟩
  have u0 := hxg8.c0
  have u1 := hxg8.c1
  have uf0 := hxg8.f 0
  have uf1 := hxg8.f 1
  have hx9 := hx.below hYS9 hx.lt
  have x1 := hx9.c1
  have x2 := hx9.c2
  have d0 := cell_belowB hYS9 d0
  have HV9 := Lib.hid hv9
  have HYZ := Lib.hid hYS9.size
  clear hbar9 hYS9 hv9 hxg8 hrow8 hYS8 hx9 hx hy hB hlt6
  go_wp2
  clear u0 u1 uf0 uf1 x1 x2 d0 hsh hlv1 hlv2
  generalize (w8.setCell ⟨g3, 0, none⟩ (.int .i64 lv')).setCell ⟨g3, 1, none⟩ (.int .i64 nx') = wd at HV9 HYZ ⊢
  go_loopw [5, 6, 42] (fun _ _ i wr => ∃ q : Nat, q ≤ m ∧ i = .int .i64 q ∧ Hid (Hv w g g3 g6 b o n cp c6 lv nx lv' nx' ys.heap.size X9 A3 bk (bs.set nx (fa lv' nx' nx (bk.take q)) ++ [fb lv' nx' nx (bk.take q)]) wr) ∧ ys.heap.size ≤ wr.heap.size) (fun _ _ i _ => m - (intOf i).toNat)
  case atStart => exact ⟨0, Nat.zero_le _, rfl, HV9, HYZ.out⟩
  case round =>
    obtain ⟨q, hq, rfl, hL0, hsw⟩ := hrel
    have hL := hL0.out
    clear hL0
    by_cases hlt : q < m
    · have hgt := List.getElem?_eq_getElem (l := bk) (i := q) (by rw [HBK.out.2.2.2.2.2.2]; exact hlt)
      generalize (bk[q]'(by rw [HBK.out.2.2.2.2.2.2]; exact hlt)) = x at hgt
      have hkx := HBK.out.2.2.2.2.2.1 _ (List.mem_of_getElem? hgt)
      obtain ⟨c, r, hc1, hc2, hcr, hri, hrl, hpe2, hcs⟩ := hv_round HNX.out.1 HBK.out.2.2.2.2.1 HBK.out.1 (HBK.out.1.symm.trans HNX.out.2) HBK.out.2.1 HBK.out.2.2.1 HBK.out.2.2.2.1 hgt
      rw [HBK.out.2.2.2.2.2.2] at hrl
      obtain ⟨b1, o1, rfl, _, hlb1, d0, d1, d2⟩ := HasE.at hL.k hgt
      obtain ⟨ek, et, es⟩ := x
      simp only at d0 d1 d2 hkx
      have hcW := fun W : World => where_any0 lv' nx' ek W hlv'.1 hlv'.2 hkx
      have hc1 : atN lv' nx' (spread ek.data.toList) = c := hc1
      rw [hc1] at hcW
      have HRI := Lib.hid hri
      have HPE2 := Lib.hid hpe2
      have HCS := Lib.hid (And.intro hcr hcs)
      have hnew := (Below.refl wr.heap.size wr).alloc (Nat.le_refl _) (.cells #[.string ek, .int .i64 et, .int .i64 es] 51)
      have hxe := Box3.new wr (.string ek) (.int .i64 et) (.int .i64 es) 51
      obtain ⟨ge, hge⟩ : ∃ ge, wr.heap.size = ge := ⟨_, rfl⟩
      rw [hge] at hxe
      have hL := hL.below hnew
      have hsw2 := Nat.le_trans hsw hnew.size
      have j1 : (q : Int) < (m : Int) := by omega
      have j0 : (0 : Int) ≤ (q : Int) := by omega
      clear hgt hc1 hri hpe2 hcr hcs hnew hkx
      generalize hwe : wr.alloc (.cells #[.string ek, .int .i64 et, .int .i64 es] 51) = we at hxe hL hsw2
      have x0 := hL.x.c0
      have x1 := hL.x.c1
      have e0 := hxe.c0
      go_wp2_with fail
      clear hwe hge d0 d1 d2 x0 x1 e0 hsw
      refine (hcW _).mono ?_
      rintro e y1 ⟨rfl, hv⟩
      have hL := hL.below hv
      have hxe := hxe.below hv hxe.lt
      have hsw := Nat.le_trans hsw2 hv.size
      clear hv hcW hsw2
      obtain ⟨A5, c5, d0, hl5, hc5⟩ := hL.r.at HCS.out.1
      obtain ⟨m5, hm5⟩ : ∃ m5, r.length = m5 := ⟨_, rfl⟩
      rw [hm5] at d0 hc5 hrl
      have x2 := hL.x.c2
      have e0 := hxe.c0
      have e1 := hxe.c1
      have e2 := hxe.c2
      have i1 : (c : Int) < (n : Int) + 1 := by omega
      have i0 : (0 : Int) ≤ (c : Int) := by omega
      clear hxe
      go_wp2_with fail
      have hdr := (Below.refl y1.heap.size y1).drew
      refine Lex.region_last (ops := qhraw) (ops1 := qhops) (calls := qhcalls) 11 _ qhord (fun W => W.cell? ⟨g3, 2, none⟩ = some (.slice (some ⟨g6, 0, none⟩) (n + 1) c6) ∧ W.cell? ⟨g6, c, none⟩ = some (.slice A5 m5 c5) ∧ W.cell? ⟨ge, 0, none⟩ = some (.string ek) ∧ W.cell? ⟨ge, 1, none⟩ = some (.int .i64 et) ∧ W.cell? ⟨ge, 2, none⟩ = some (.int .i64 es)) (by kernel_rfl) qheq qhlast rfl rfl (by kernel_rfl) (by kernel_rfl) (by kernel_rfl) (by kernel_rfl) qhsel (by kernel_rfl) (by kernel_rfl) qhlex (⟨cell_belowB hdr x2, cell_belowB hdr d0, cell_belowB hdr e0, cell_belowB hdr e1, cell_belowB hdr e2⟩) ?_
      unfold qhord
      have x2 := cell_belowB hdr x2
      have d0 := cell_belowB hdr d0
      have e0 := cell_belowB hdr e0
      have e1 := cell_belowB hdr e1
      have e2 := cell_belowB hdr e2
      have hL := hL.below hdr
      have hl5 := hl5.below hdr (Nat.le_refl _)
      have hsw : ys.heap.size ≤ _ := Nat.le_trans hsw hdr.size
      clear hdr
      refine Lex.step_take (.pointer (some ⟨g3, 2, none⟩)) qh0 rfl (Lex.want_none rfl) (by intro Wx hSw; (try dsimp only at hSw); go_simp; (try (first | (with_reducible rfl) | assumption | rfl))) ?_
      simp only [Act.put, List.setIfInBounds_toArray, List.set_cons_zero, List.set_cons_succ]
      refine Lex.step_take (.slice (some ⟨g6, 0, none⟩) (n + 1) c6) qh1 rfl (Lex.want_none rfl) (by intro Wx hSw; (try dsimp only at hSw); go_simp; (try (first | (with_reducible rfl) | assumption | rfl))) ?_
      simp only [Act.put, List.setIfInBounds_toArray, List.set_cons_zero, List.set_cons_succ]
      refine Lex.step_take (.int .i64 (c : Int)) qh2 rfl (Lex.want_none rfl) (by intro Wx hSw; (try dsimp only at hSw); go_simp; (try (first | (with_reducible rfl) | assumption | rfl))) ?_
      simp only [Act.put, List.setIfInBounds_toArray, List.set_cons_zero, List.set_cons_succ]
      refine Lex.step_take (.pointer (some ⟨g3, 2, none⟩)) qh3 rfl (Lex.want_none rfl) (by intro Wx hSw; (try dsimp only at hSw); go_simp; (try (first | (with_reducible rfl) | assumption | rfl))) ?_
      simp only [Act.put, List.setIfInBounds_toArray, List.set_cons_zero, List.set_cons_succ]
      refine Lex.step_take (.slice (some ⟨g6, 0, none⟩) (n + 1) c6) qh4 rfl (Lex.want_none rfl) (by intro Wx hSw; (try dsimp only at hSw); go_simp; (try (first | (with_reducible rfl) | assumption | rfl))) ?_
      simp only [Act.put, List.setIfInBounds_toArray, List.set_cons_zero, List.set_cons_succ]
      refine Lex.step_take (.int .i64 (c : Int)) qh5 rfl (Lex.want_none rfl) (by intro Wx hSw; (try dsimp only at hSw); go_simp; (try (first | (with_reducible rfl) | assumption | rfl))) ?_
      simp only [Act.put, List.setIfInBounds_toArray, List.set_cons_zero, List.set_cons_succ]
      refine Lex.step_take (.pointer (some ⟨g6, c, none⟩)) qh6 rfl (Lex.want_none rfl) (by intro Wx hSw; (try dsimp only at hSw); go_simp; (try (first | (with_reducible rfl) | assumption | rfl))) ?_
      simp only [Act.put, List.setIfInBounds_toArray, List.set_cons_zero, List.set_cons_succ]
      refine Lex.step_take (.slice A5 m5 c5) qh7 rfl (Lex.want_none rfl) (by intro Wx hSw; (try dsimp only at hSw); go_simp; (try (first | (with_reducible rfl) | assumption | rfl))) ?_
      simp only [Act.put, List.setIfInBounds_toArray, List.set_cons_zero, List.set_cons_succ]
      refine Lex.step_take (.agg #[.string ek, .int .i64 et, .int .i64 es]) qh8 rfl (Lex.want_none rfl) (by intro Wx hSw; (try dsimp only at hSw); go_simp; (try (first | (with_reducible rfl) | assumption | rfl))) ?_
      simp only [Act.put, List.setIfInBounds_toArray, List.set_cons_zero, List.set_cons_succ]
      refine Lex.step_call qh9 rfl (Lex.want_none rfl) (fun K hK => ?_)
      go_simp
      refine (put_new (cp := c5) ⟨ek, et, es⟩ 0 hl5 hm5 hc5 (by omega) HRI.out).mono ?_
      rintro e y2 ⟨A7, m7, c7, rfl, hm7, hc7, hl7, hv⟩
      rw [HPE2.out] at hm7 hl7
      have hs2 := hL.size
      have hA7 : r ++ [⟨ek, et, es⟩] ≠ [] → Adr X9 A7 := fun hn b o s e => (hX9 b).2 (Or.inr ⟨by have := (adr_lt hl7 hn b o s e).1; omega, by have := (adr_lt hl7 hn b o s e).1; omega, by have := (adr_lt hl7 hn b o s e).1; omega⟩)
      have hl7 := hl7.lower (Nat.zero_le _)
      clear hs2
      have x2 := cell_belowB hv x2
      have d0 := cell_belowB hv d0
      have e0 := cell_belowB hv e0
      have e1 := cell_belowB hv e1
      have e2 := cell_belowB hv e2
      have hL := hL.below hv
      have hl5 := hl5.below hv (Nat.le_refl _)
      have hsw : ys.heap.size ≤ _ := Nat.le_trans hsw hv.size
      clear hv
      have f5 := hL.frozen c
      refine hK.out _ _ _ (fun _ h => h) ⟨x2, d0, e0, e1, e2⟩ ?_
      clear hK K
      try simp only [Act.put, List.setIfInBounds_toArray, List.set_cons_zero, List.set_cons_succ]
      refine Lex.step_take (.pointer (some ⟨g6, c, none⟩)) qh10 rfl (Lex.want_none rfl) (by intro Wx hSw; (try dsimp only at hSw); go_simp; (try (first | (with_reducible rfl) | assumption | rfl))) ?_
      simp only [Act.put, List.setIfInBounds_toArray, List.set_cons_zero, List.set_cons_succ]
      refine Lex.step_take (.bool true) qh11 rfl (Lex.want_none rfl) (by intro Wx hSw; (try dsimp only at hSw); go_simp; (try (first | (with_reducible rfl) | assumption | rfl))) ?_
      simp only [Act.put, List.setIfInBounds_toArray, List.set_cons_zero, List.set_cons_succ]
      refine Lex.last_op qhlast rfl (fun K hK => ?_)
      go_simp
      refine hK.out _ _ ?_
      clear hK K
      clear x2 e0 e1 e2 d0 f5 hl5
      have hg := HG0.out
      have hbar := (Bar.refl g6 y2).setCell c (.slice A7 m7 c7)
      have hg6 := hL.r.lt
      have hL9 : Hv w g g3 g6 b o n cp c6 lv nx lv' nx' ys.heap.size X9 _ bk (bs.set nx (fa lv' nx' nx (bk.take (q + 1))) ++ [fb lv' nx' nx (bk.take (q + 1))]) (y2.setCell ⟨g6, c, none⟩ (.slice A7 m7 c7)) :=
        ⟨hL.x.bar hbar (Ne.symm hne63), hL.y.bar hbar (by omega), by
          have h := hL.r.store h96 hl7 hm7 hc7 hA7 (q := c)
          rw [HCS.out.2] at h
          exact h, hasL_bar hL.k HK.out.2 (fun h => by have := (HH.out.2.2.2.2.1 g6).1 h; omega) hbar, hL.B.setCell (p := ⟨g6, c, none⟩) (by show w.heap.size ≤ g6; omega) _⟩
      have hsw9 : ys.heap.size ≤ (y2.setCell ⟨g6, c, none⟩ (.slice A7 m7 c7)).heap.size := Nat.le_trans hsw hbar.size
      have HL9 := Lib.hid hL9
      have HS9 := Lib.hid hsw9
      clear hL hL9 hsw9 hbar hg hg6 hl7 hA7
      refine NoPanic.normal ?_
      go_wp2
      go_roundw
      case rel => exact ⟨q + 1, by omega, by go_num, HL9, HS9.out⟩
      case measure => simp [intOf]; omega
    · obtain rfl : m = q := by omega
      rw [List.take_of_length_le (by rw [HBK.out.2.2.2.2.2.2]; exact Nat.le_refl _)] at hL
      have x0 := hL.x.c0
      have x1 := hL.x.c1
      have x2 := hL.x.c2
      have f0 := hL.y.c0
      have f1 := hL.y.c1
      have f2 := hL.y.c2
      have fz0 := hL.y.f 0
      have fz1 := hL.y.f 1
      have fz2 := hL.y.f 2
      have hg := HG0.out
      have hbar := (((Bar.refl (g + 1) wr).setCell 0 (.int .i64 lv')).setCell 1 (.int .i64 nx')).setCell 2 (.slice (some ⟨g6, 0, none⟩) (n + 1) c6)
      have hB9 := ((hL.B.setCell (p := ⟨g + 1, 0, none⟩) (by show w.heap.size ≤ g + 1; omega) (.int .i64 lv')).setCell (p := ⟨g + 1, 1, none⟩) (by show w.heap.size ≤ g + 1; omega) (.int .i64 nx')).setCell (p := ⟨g + 1, 2, none⟩) (by show w.heap.size ≤ g + 1; omega) (.slice (some ⟨g6, 0, none⟩) (n + 1) c6)
      have hg6 := hL.r.lt
      have H9 := Lib.hid (((hL.y.set0 (.int .i64 lv')).set1 (.int .i64 nx')).set2 (.slice (some ⟨g6, 0, none⟩) (n + 1) c6))
      have hr9 := (hL.r.bar (g := g + 1) (fun h => by rcases (hX9 _).1 h with h | h <;> omega) (by omega) hbar)
      have hln := hr9.len
      obtain ⟨hb9, hc9⟩ := hr9.bsx (Y := fun b => X b ∨ w.heap.size ≤ b) (fun b h => by
        rcases (hX9 b).1 h with h | h
        · exact Or.inl h.1
        · exact Or.inr (by omega)) (Or.inr (by omega))
      have HE := Lib.hid (show HashPost X (halveH spread ⟨lv, nx, bs⟩) w (.returned (.agg #[.int .i64 lv', .int .i64 nx', .slice (some ⟨g6, 0, none⟩) (n + 1) c6])) _ from by rw [halve_last hlv7 HBK.out.2.2.2.2.1 HBK.out.2.1]; exact ⟨_, n + 1, c6, rfl, hln, hc9, hb9, hB9⟩)
      rw [HPE.out] at HE
      clear hL hB9 hb9 hr9 hln hc9 hbar hg hg6
      go_wp2
      refine bodyPost_ret (results_hash rfl _ _ (g + 1) _ _ _ rfl H9.out.c0 H9.out.c1 H9.out.c2) rfl ?_
      exact HE.out
end
end Go.Proofs.Ytocmkjccaajnnaa.Ha
