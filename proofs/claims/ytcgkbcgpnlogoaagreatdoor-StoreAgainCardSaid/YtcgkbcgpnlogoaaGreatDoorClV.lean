/- Pages at hand: the program's Put, walked. -/
import Derived.Test.YtcgkbcgpnlogoaaGreatDoorMgAD
import Derived.Test.YtcgkbcgpnlogoaaGreatDoorMgAE
import Derived.Deep.AppendLies
namespace Go.Proofs.YtcgkbcgpnlogoaaGreatDoor.Cl
open Go.RowKit Pac Lex

theorem cells_below {w w' : World} (hb : Below w.heap.size w w') {g : Nat} {L : List Value} (h : ∀ j u, L[j]? = some u → w.cell? ((⟨g, 0, none⟩ : Addr).add j) = some u) : ∀ j u, L[j]? = some u → w'.cell? ((⟨g, 0, none⟩ : Addr).add j) = some u := fun j u hu => by
 have h1 := h j u hu
 rw [Addr.add_lit] at h1 ⊢
 exact cell_belowB hb h1
section
variable {A : Option Addr} {n cp m : Nat} {l : List P} {w : World}
theorem clone_any {X : Nat → Prop} (hl : HasPX w X A cp l) (hn : l.length = n) (h9 : n ≤ 100000) :
  Calls Tryz.prog 166 #[.slice A n cp] w (OwnPost n l w) := by
 by_cases h0 : l = []
 ·subst h0
  obtain ⟨rfl, rfl⟩ := hl.z rfl
  have hn0 : n = 0 := by simpa using hn.symm
  subst hn0
  refine (clone_none 0).mono ?_
  rintro e w' ⟨rfl, rfl⟩
  exact ⟨_, rfl, World.ownsRow_nil _ _ _ _, Below.refl _ _⟩
 ·obtain ⟨b, o, rfl, _⟩ := hl.p h0
  exact clone_some b o hl.p hn h9
set_option maxRecDepth 20000 in
set_option maxHeartbeats 12800000 in
theorem pput_any (X : Nat → Prop) (c : C) (no : Int) (d : ByteArray) (hok : Ok m c) (hl : HasPX w X A cp c.l) (hn : c.l.length = n) (hc : n ≤ cp) :
  Calls Tryz.prog 89 #[.agg #[.slice A n cp, .int .i64 c.h], .agg #[.int .i64 no, .string d]] w (ClkPost X (putC c no d) w) := by
 obtain ⟨iE, hiE, hv0, hv1, hv2⟩ := info_parts infoP
 have hn8 : n ≤ 8 := by rw [← hn]; exact hok.len
 have hhand : c.h = 0 ∨ c.h < n := by rw [← hn]; exact hok.hand
 clear hok
 obtain ⟨l, h⟩ := c
 simp only at hl hn hhand
 obtain ⟨post, hpe⟩ : ∃ post, ClkPost X (putC ⟨l, h⟩ no d) w = post := ⟨_, rfl⟩
 have HPE := Lib.hid hpe
 show Calls _ _ #[.agg #[.slice A n cp, .int .i64 h], .agg #[.int .i64 no, .string d]] _ _
 rw [hpe]
 have hn9 : n ≤ 100000 := by omega
 have hB := (Below.refl w.heap.size w).alloc (Nat.le_refl _) (.cells #[.slice A n cp, .int .i64 h] 35)
 have hx := Box2.new w (.slice A n cp) (.int .i64 h) 35
 obtain ⟨g, hg⟩ : ∃ g, w.heap.size = g := ⟨_, rfl⟩
 have hz : (w.alloc (.cells #[.slice A n cp, .int .i64 h] 35)).heap.size = g + 1 := by simp [hg]
 rw [hg] at hx
 generalize hw0 : w.alloc (.cells #[.slice A n cp, .int .i64 h] 35) = wa at hB hx hz
 have hBb := (Below.refl wa.heap.size wa).alloc (Nat.le_refl _) (.cells #[.int .i64 no, .string d] 133)
 have hp := Box2.new wa (.int .i64 no) (.string d) 133
 have hz2 : (wa.alloc (.cells #[.int .i64 no, .string d] 133)).heap.size = g + 2 := by simp [hz]
 rw [hz] at hp
 have hx := hx.below hBb hx.lt
 have hB := hB.trans (hBb.mono hB.size)
 generalize hw1 : wa.alloc (.cells #[.int .i64 no, .string d] 133) = wb at hB hx hp hz2
 have hBc := (Below.refl wb.heap.size wb).alloc (Nat.le_refl _) (.cells #[.slice none 0 0, .int .i64 0] 35)
 have hy := Box2.new wb (.slice none 0 0) (.int .i64 0) 35
 have hz3 : (wb.alloc (.cells #[.slice none 0 0, .int .i64 0] 35)).heap.size = g + 3 := by simp [hz2]
 rw [hz2] at hy
 have hx := hx.below hBc hx.lt
 have hp := hp.below hBc hp.lt
 have hB := hB.trans (hBc.mono hB.size)
 generalize hw2 : wb.alloc (.cells #[.slice none 0 0, .int .i64 0] 35) = wd at hB hx hp hy hz3
 have hBd := (Below.refl wd.heap.size wd).alloc (Nat.le_refl _) (.cells #[.int .i64 no, .string d, .bool true, .int .i64 0] 195)
 have hb4 := Box4.new wd (.int .i64 no) (.string d) (.bool true) (.int .i64 0) 195
 have hz4 : (wd.alloc (.cells #[.int .i64 no, .string d, .bool true, .int .i64 0] 195)).heap.size = g + 4 := by simp [hz3]
 have p0 := hp.c0
 have p1 := hp.c1
 have xd0 := hx.c0
 have xd1 := hx.c1
 rw [hz3] at hb4
 have hx := hx.below hBd hx.lt
 have hp := hp.below hBd hp.lt
 have hy := hy.below hBd hy.lt
 have hB := hB.trans (hBd.mono hB.size)
 obtain ⟨wq, hwq⟩ : ∃ wq, wd.alloc (.cells #[.int .i64 no, .string d, .bool true, .int .i64 0] 195) = wq := ⟨_, rfl⟩
 rw [hwq] at hB hx hp hy hb4 hz4
 have HG := Lib.hid hg
 have hlX := hl.below hB (Nat.le_refl _)
 have hsz : g + 4 ≤ wq.heap.size := Nat.le_of_eq hz4.symm
 have hcF := pfind_any (cp := cp) (w := wq) h no 0 hlX.p hn hn9
 have x0 := hx.c0
 have x1 := hx.c1
 have p0' := hp.c0
 rw [← hwq] at hcF x0 x1 p0'
 have HWQ := Lib.hid hwq
 clear hpe hBb hBc hBd hwq
 go_enter Tryz.func89, Tryz.ntmps89
 go_wp2_with fail
 clear hw0 hw1 hw2 hg hz hz2 hz3 hz4 p0 p1 p0' xd0 xd1
 refine hcF.mono ?_
 rintro e w1 ⟨rfl, hv⟩
 rw [HWQ.out] at hv
 have hx := hx.below hv hx.lt
 have hy := hy.below hv hy.lt
 have hb4 := hb4.below hv hb4.lt
 have hB := hB.trans (hv.mono hB.size)
 have hlX := hlX.below hv (Nat.le_refl _)
 have hsz := Nat.le_trans hsz hv.size
 clear hcF hv x0 x1 hp
 have x0 := hx.c0
 have x1 := hx.c1
 have y0 := hy.c0
 have y1 := hy.c1
 have f0 := hy.f 0
 have f1 := hy.f 1
 have e0 := hb4.c0
 have e1 := hb4.c1
 have e2 := hb4.c2
 have e3 := hb4.c3
 cases hf : findL l no with
 | some i =>
  have hi := find_lt hf
  have hp := List.getElem?_eq_getElem hi
  generalize l[i]'hi = p at hp
  rw [hn] at hi
  obtain ⟨b, o, rfl, hlb, d0, d1, d2, d3⟩ := HasP.at hlX.p hp
  have hge : putC ⟨l, h⟩ no d = ⟨l.set i (over no d p), h⟩ := by unfold putC; simp only [hf]; rw [modify_set hp]
  have hr : resI (some i) = (i : Int) := rfl
  rw [hr]
  have i1 : (i : Int) < (n : Int) := by omega
  have i0 : (0 : Int) ≤ (i : Int) := by omega
  obtain ⟨pn, pd, pr, pp⟩ := p
  simp only at d0 d1 d2 d3
  have ef3 := hb4.f 3
  have hbar := (Bar.refl (g + 3) w1).setCell 3 (.int .i64 pp)
  have hx8 := hx.bar hbar (by omega)
  have hy8 := hy.bar hbar (by omega)
  have hgw := HG.out
  have hB8 := hB.trans (hbar.below (B := w.heap.size) (by omega) hB.size)
  have z0 : (w1.setCell ⟨g + 3, 3, none⟩ (.int .i64 pp)).cell? ⟨g + 3, 0, none⟩ = some (.int .i64 no) := by go_simp
  have z1 : (w1.setCell ⟨g + 3, 3, none⟩ (.int .i64 pp)).cell? ⟨g + 3, 1, none⟩ = some (.string d) := by go_simp
  have z2 : (w1.setCell ⟨g + 3, 3, none⟩ (.int .i64 pp)).cell? ⟨g + 3, 2, none⟩ = some (.bool true) := by go_simp
  have z3 : (w1.setCell ⟨g + 3, 3, none⟩ (.int .i64 pp)).cell? ⟨g + 3, 3, none⟩ = some (.int .i64 pp) := by go_simp
  have q0 := hx8.c0
  have q1 := hx8.c1
  have hlq : HasP (w1.setCell ⟨g + 3, 3, none⟩ (.int .i64 pp)) 0 (some ⟨b, o, none⟩) l := hasL_bar (X := fun b => b < g) hlX.p (fun hne b2 o2 s2 e2 => by
   have h1 := (adr_lt hl.p hne b2 o2 s2 e2).2
   omega) (by omega) hbar
  have hcW := with_own (cp := cp) (w := w1.setCell ⟨g + 3, 3, none⟩ (.int .i64 pp)) h i ⟨no, d, true, pp⟩ b o hlq hn hn9 hi
  have HX := Lib.hid (And.intro hx8 (And.intro hy8 (And.intro hB8 (And.intro hsz (And.intro hge (And.intro hn hbar.size))))))
  clear hx hy hB hlX hb4 hl hn hp hge hf hr y0 y1 f0 f1 hx8 hy8 hB8 hlq hbar hsz
  go_wp2_with fail
  refine hcW.mono ?_
  rintro e W ⟨g5, c5, rfl, hown, hv⟩
  obtain ⟨hx8, hy8, hB8, hsz, hge, hn, hszb⟩ := HX.out
  have hy9 := hy8.below hv hy8.lt
  have hB9 := hB8.trans (hv.mono hB8.size)
  have hbar3 := ((Bar.refl (g + 2) W).setCell 0 (.slice (some ⟨g5, 0, none⟩) n c5)).setCell 1 (.int .i64 h)
  have hB10 := hB9.trans (hbar3.below (B := w.heap.size) (by omega) hB9.size)
  have hown9 := Li.own_bar hown hbar3 (by omega)
  have r0 := hy9.c0
  have r1 := hy9.c1
  have rf0 := hy9.f 0
  have rf1 := hy9.f 1
  have H9 := Lib.hid ((hy9.set0 (.slice (some ⟨g5, 0, none⟩) n c5)).set1 (.int .i64 h))
  have HE := Lib.hid (show ClkPost X (putC ⟨l, h⟩ no d) w (.returned (.agg #[.slice (some ⟨g5, 0, none⟩) n c5, .int .i64 h])) _ from by rw [hge]; exact ⟨_, rfl, own_clk (c := ⟨l.set i ⟨no, d, true, pp⟩, h⟩) hown9 (by simp [hn]) (by omega) (by omega), hB10⟩)
  rw [HPE.out] at HE
  clear hcW hx8 hy8 hB8 hsz hge hn hy9 hB9 hbar3 hB10 hown hown9 HX hv x0 x1 e0 e1 e2 e3 d0 d1 d2 d3 z0 z1 z2 z3 q0 q1 ef3
  go_wp2
  refine bodyPost_ret (results_clock rfl _ _ (g + 2) _ _ rfl H9.out.c0 H9.out.c1) rfl ?_
  exact HE.out
 | none =>
  have hr : resI (none : Option Nat) = -1 := rfl
  rw [hr]
  by_cases h8 : n < 8
  ·have hge : putC ⟨l, h⟩ no d = ⟨l ++ [newP no d], h⟩ := by unfold putC; simp only [hf]; rw [if_pos (by rw [hn]; exact h8)]
   have HGE := Lib.hid hge
   have h8i : (n : Int) < 8 := by omega
   clear hge hf hr y0 y1 f0 f1 hl hb4
   go_wp2_with fail
   clear x1
   have hdr := (Below.refl w1.heap.size w1).drew
   refine Lex.region_parts_tree (ops := pqraw) (ops1 := pqops) 5 pqtree (fun W => W.cell? ⟨g, 0, none⟩ = some (.slice A n cp) ∧ W.cell? ⟨g + 3, 0, none⟩ = some (.int .i64 no) ∧ W.cell? ⟨g + 3, 1, none⟩ = some (.string d) ∧ W.cell? ⟨g + 3, 2, none⟩ = some (.bool true) ∧ W.cell? ⟨g + 3, 3, none⟩ = some (.int .i64 0)) (by kernel_rfl) pqcut (by rw [pqsize]; decide) (by kernel_rfl) (by kernel_rfl) (by kernel_rfl) pqsel pqlex (⟨cell_belowB hdr x0, cell_belowB hdr e0, cell_belowB hdr e1, cell_belowB hdr e2, cell_belowB hdr e3⟩) ?_
   unfold pqtree
   have x0 := cell_belowB hdr x0
   have e0 := cell_belowB hdr e0
   have e1 := cell_belowB hdr e1
   have e2 := cell_belowB hdr e2
   have e3 := cell_belowB hdr e3
   have hx := hx.below hdr hx.lt
   have hy := hy.below hdr hy.lt
   have hB := hB.trans (hdr.mono hB.size)
   have hlX := hlX.below hdr (Nat.le_refl _)
   have hsz := Nat.le_trans hsz hdr.size
   clear hdr
   generalize w1.drew = yd at x0 e0 e1 e2 e3 hx hy hB hlX hsz ⊢
   have hszd := hsz
   refine Lex.tree_take (.pointer (some ⟨g, 0, none⟩)) pq0 (Lex.want_none rfl) (by intro Wx hSw; (try dsimp only at hSw); go_simp; (try (first | (with_reducible rfl) | assumption | rfl))) ?_
   simp only [Act.put, List.setIfInBounds_toArray, List.set_cons_zero, List.set_cons_succ]
   refine Lex.tree_take (.slice A n cp) pq1 (Lex.want_none rfl) (by intro Wx hSw; (try dsimp only at hSw); go_simp; (try (first | (with_reducible rfl) | assumption | rfl))) ?_
   simp only [Act.put, List.setIfInBounds_toArray, List.set_cons_zero, List.set_cons_succ]
   refine Lex.tree_take (.agg #[.int .i64 no, .string d, .bool true, .int .i64 0]) pq3 (Lex.want_none rfl) (by intro Wx hSw; (try dsimp only at hSw); go_simp; (try (first | (with_reducible rfl) | assumption | rfl))) ?_
   simp only [Act.put, List.setIfInBounds_toArray, List.set_cons_zero, List.set_cons_succ]
   refine Lex.tree_call pq2 (Lex.want_none rfl) (fun K hK => ?_) ?_
   ·go_simp
    refine (clone_any (cp := cp) hlX hn hn9).mono ?_
    rintro e y1 ⟨v, rfl, hown, hv⟩
    have hbs := hv.size
    have x0 := cell_belowB hv x0
    have e0 := cell_belowB hv e0
    have e1 := cell_belowB hv e1
    have e2 := cell_belowB hv e2
    have e3 := cell_belowB hv e3
    have hx := hx.below hv hx.lt
    have hy := hy.below hv hy.lt
    have hB := hB.trans (hv.mono hB.size)
    have hsz := Nat.le_trans hsz hv.size
    clear hlX
    refine hK.out _ _ _ (fun _ h => h) ⟨x0, e0, e1, e2, e3⟩ ?_
    clear hK K
    try simp only [Act.put, List.setIfInBounds_toArray, List.set_cons_zero, List.set_cons_succ]
    refine Lex.tree_call pq4 (Lex.want_none rfl) (fun K hK => ?_) Lex.tree_no
    go_simp
    have hnew := (Below.refl y1.heap.size y1).alloc (Nat.le_refl _) (.cells #[.int .i64 no, .string d, .bool true, .int .i64 0] 195)
    have hb5 := Box4.new y1 (.int .i64 no) (.string d) (.bool true) (.int .i64 0) 195
    have hnw : ∀ j u, [Value.int .i64 no, .string d, .bool true, .int .i64 0][j]? = some u → (y1.alloc (.cells #[.int .i64 no, .string d, .bool true, .int .i64 0] 195)).cell? ((⟨y1.heap.size, 0, none⟩ : Addr).add j) = some u := World.news_of_block (heap_alloc_new y1 (.cells #[.int .i64 no, .string d, .bool true, .int .i64 0] 195))
    have hown := hown.alloc (.cells #[.int .i64 no, .string d, .bool true, .int .i64 0] 195)
    have hbs := Nat.le_trans hbs hnew.size
    have x0 := cell_belowB hnew x0
    have e0 := cell_belowB hnew e0
    have e1 := cell_belowB hnew e1
    have e2 := cell_belowB hnew e2
    have e3 := cell_belowB hnew e3
    have hx := hx.below hnew hx.lt
    have hy := hy.below hnew hy.lt
    have hB := hB.trans (hnew.mono hB.size)
    clear hb5 hnew
    generalize y1.alloc (.cells #[.int .i64 no, .string d, .bool true, .int .i64 0] 195) = zz at x0 e0 e1 e2 e3 hx hy hB hnw hown hbs ⊢
    generalize y1.heap.size = gl at hnw ⊢
    refine hK.out _ _ _ (fun _ h => h) ⟨x0, e0, e1, e2, e3⟩ ?_
    clear hK K
    try simp only [Act.put, List.setIfInBounds_toArray, List.set_cons_zero, List.set_cons_succ]
    refine Lex.tree_end ?_
    obtain ⟨base, hbase⟩ : ∃ base, base = yd.heap.size := ⟨_, rfl⟩
    rw [← hbase] at hown hbs
    have hgb : g + 4 ≤ base := by rw [hbase]; exact hszd
    clear hbase
    refine Lex.tail_lex (ops := pqraw) (calls := [5, 7]) (n := 5) [5, 6, 7] (fun _ => True) pqrsel (by rw [pqsize]; rfl) (by kernel_rfl) pqtlex trivial ?_
    refine Lex.step_call pqt5 rfl (Lex.want_none rfl) (fun K hK => ?_)
    refine wp_append_lies _ (.tmp 32) (.tmp 34) 33 (by rfl) base 195 iE (.agg #[.int .i64 0, .string ⟨#[]⟩, .bool false, .int .i64 0]) 4 40 Tryz.underlying33 hiE hv0 hv1 hv2 rfl (by decide) v n (Li.cellsL cellsP l) (by rfl) hown ⟨gl, 0, none⟩ 1 1 [.int .i64 no, .string d, .bool true, .int .i64 0] (by rfl) (by rfl) hnw (by simp [Value.oneCell']) (by omega) (by unfold maxLen; omega) (by omega) hbs _ rfl ?_
    intro g6 c6 w7 hown7 hgrow7 _ hlt7
    have hbb := (Below.refl base zz).grown hgrow7 hbs (fun k hk => (hown.lt k hk).1)
    rw [show Li.cellsL cellsP l ++ [.int .i64 no, .string d, .bool true, .int .i64 0] = Li.cellsL cellsP (l ++ [newP no d]) from by rw [Li.cellsL_snoc]; rfl] at hown7
    have hg6 := (hown7.lt g6 rfl).1
    have hx7 := hx.below hbb (by omega)
    have hy7 := hy.below hbb (by omega)
    have hgw := HG.out
    have hB7 := hB.trans (hbb.mono (by omega))
    refine hK.out _ _ _ (fun _ h => h) trivial ?_
    clear hK K
    try simp only [Act.put, List.setIfInBounds_toArray, List.set_cons_zero, List.set_cons_succ]
    refine Lex.step_take (.pointer (some ⟨g, 0, none⟩)) pqt6 rfl (Lex.want_none rfl) (by intro Wx hSw; go_simp; (try (first | (with_reducible rfl) | assumption | rfl))) ?_
    simp only [Act.put, List.setIfInBounds_toArray, List.set_cons_zero, List.set_cons_succ]
    refine Lex.step_call pqt7 rfl (Lex.want_none rfl) (fun K hK => ?_)
    have x0 := hx7.c0
    have xf0 := hx7.f 0
    go_simp
    refine hK.out _ _ _ (fun _ h => h) trivial ?_
    clear hK K
    try simp only [Act.put, List.setIfInBounds_toArray, List.set_cons_zero, List.set_cons_succ]
    refine NoPanic.normal ?_
    have hbar := (Bar.refl g w7).setCell 0 (.slice (some ⟨g6, 0, none⟩) (n + 1) c6)
    have hx8 := hx7.set0 (.slice (some ⟨g6, 0, none⟩) (n + 1) c6)
    have hy8 := hy7.bar hbar (by omega)
    have hB8 := hB7.trans (hbar.below (B := w.heap.size) (by omega) hB7.size)
    have hown8 := Li.own_bar hown7 hbar (by omega)
    have q0 := hx8.c0
    have q1 := hx8.c1
    have r0 := hy8.c0
    have r1 := hy8.c1
    have rf0 := hy8.f 0
    have rf1 := hy8.f 1
    have hbar3 := ((Bar.refl (g + 2) (w7.setCell ⟨g, 0, none⟩ (.slice (some ⟨g6, 0, none⟩) (n + 1) c6))).setCell 0 (.slice (some ⟨g6, 0, none⟩) (n + 1) c6)).setCell 1 (.int .i64 h)
    have hB9 := hB8.trans (hbar3.below (B := w.heap.size) (by omega) hB8.size)
    have H9 := Lib.hid ((hy8.set0 (.slice (some ⟨g6, 0, none⟩) (n + 1) c6)).set1 (.int .i64 h))
    have hown9 := Li.own_bar hown8 hbar3 (by omega)
    have HE := Lib.hid (show ClkPost X (putC ⟨l, h⟩ no d) w (.returned (.agg #[.slice (some ⟨g6, 0, none⟩) (n + 1) c6, .int .i64 h])) _ from by rw [HGE.out]; exact ⟨_, rfl, own_clk (c := ⟨l ++ [newP no d], h⟩) hown9 (by simp [hn]) (by omega) (by omega), hB9⟩)
    rw [HPE.out] at HE
    clear x0 xf0 e0 e1 e2 e3 hx hy hB hown hnw hown7 hgrow7 hbb hx7 hy7 hB7 hbar hx8 hy8 hB8 hown8 hbar3 hB9 hown9
    go_wp2
    refine bodyPost_ret (results_clock rfl _ _ (g + 2) _ _ rfl H9.out.c0 H9.out.c1) rfl ?_
    exact HE.out
   refine Lex.tree_call pq4 (Lex.want_none rfl) (fun K hK => ?_) Lex.tree_no
   go_simp
   have hnew := (Below.refl yd.heap.size yd).alloc (Nat.le_refl _) (.cells #[.int .i64 no, .string d, .bool true, .int .i64 0] 195)
   have hb5 := Box4.new yd (.int .i64 no) (.string d) (.bool true) (.int .i64 0) 195
   have hnw : ∀ j u, [Value.int .i64 no, .string d, .bool true, .int .i64 0][j]? = some u → (yd.alloc (.cells #[.int .i64 no, .string d, .bool true, .int .i64 0] 195)).cell? ((⟨yd.heap.size, 0, none⟩ : Addr).add j) = some u := World.news_of_block (heap_alloc_new yd (.cells #[.int .i64 no, .string d, .bool true, .int .i64 0] 195))
   have x0 := cell_belowB hnew x0
   have e0 := cell_belowB hnew e0
   have e1 := cell_belowB hnew e1
   have e2 := cell_belowB hnew e2
   have e3 := cell_belowB hnew e3
   have hx := hx.below hnew hx.lt
   have hy := hy.below hnew hy.lt
   have hB := hB.trans (hnew.mono hB.size)
   have hlX := hlX.below hnew (Nat.le_refl _)
   have hsz := Nat.le_trans hsz hnew.size
   clear hb5 hnew
   generalize yd.alloc (.cells #[.int .i64 no, .string d, .bool true, .int .i64 0] 195) = zz at x0 e0 e1 e2 e3 hx hy hB hnw hlX hsz ⊢
   generalize yd.heap.size = gl at hnw ⊢
   refine hK.out _ _ _ (fun _ h => h) ⟨x0, e0, e1, e2, e3⟩ ?_
   clear hK K
   try simp only [Act.put, List.setIfInBounds_toArray, List.set_cons_zero, List.set_cons_succ]
   refine Lex.tree_call pq2 (Lex.want_none rfl) (fun K hK => ?_) Lex.tree_no
   go_simp
   refine (clone_any (cp := cp) hlX hn hn9).mono ?_
   rintro e y1 ⟨v, rfl, hown, hv⟩
   have hnw := cells_below hv hnw
   have hbs := hv.size
   have hsz2 := hsz
   have x0 := cell_belowB hv x0
   have e0 := cell_belowB hv e0
   have e1 := cell_belowB hv e1
   have e2 := cell_belowB hv e2
   have e3 := cell_belowB hv e3
   have hx := hx.below hv hx.lt
   have hy := hy.below hv hy.lt
   have hB := hB.trans (hv.mono hB.size)
   have hsz := Nat.le_trans hsz hv.size
   clear hlX
   refine hK.out _ _ _ (fun _ h => h) ⟨x0, e0, e1, e2, e3⟩ ?_
   clear hK K
   try simp only [Act.put, List.setIfInBounds_toArray, List.set_cons_zero, List.set_cons_succ]
   refine Lex.tree_end ?_
   obtain ⟨base, hbase⟩ : ∃ base, base = zz.heap.size := ⟨_, rfl⟩
   rw [← hbase] at hown hbs
   have hgb : g + 4 ≤ base := by rw [hbase]; exact hsz2
   clear hbase
   refine Lex.tail_lex (ops := pqraw) (calls := [5, 7]) (n := 5) [5, 6, 7] (fun _ => True) pqrsel (by rw [pqsize]; rfl) (by kernel_rfl) pqtlex trivial ?_
   refine Lex.step_call pqt5 rfl (Lex.want_none rfl) (fun K hK => ?_)
   refine wp_append_lies _ (.tmp 32) (.tmp 34) 33 (by rfl) base 195 iE (.agg #[.int .i64 0, .string ⟨#[]⟩, .bool false, .int .i64 0]) 4 40 Tryz.underlying33 hiE hv0 hv1 hv2 rfl (by decide) v n (Li.cellsL cellsP l) (by rfl) hown ⟨gl, 0, none⟩ 1 1 [.int .i64 no, .string d, .bool true, .int .i64 0] (by rfl) (by rfl) hnw (by simp [Value.oneCell']) (by omega) (by unfold maxLen; omega) (by omega) hbs _ rfl ?_
   intro g6 c6 w7 hown7 hgrow7 _ hlt7
   have hbb := (Below.refl base y1).grown hgrow7 hbs (fun k hk => (hown.lt k hk).1)
   rw [show Li.cellsL cellsP l ++ [.int .i64 no, .string d, .bool true, .int .i64 0] = Li.cellsL cellsP (l ++ [newP no d]) from by rw [Li.cellsL_snoc]; rfl] at hown7
   have hg6 := (hown7.lt g6 rfl).1
   have hx7 := hx.below hbb (by omega)
   have hy7 := hy.below hbb (by omega)
   have hgw := HG.out
   have hB7 := hB.trans (hbb.mono (by omega))
   refine hK.out _ _ _ (fun _ h => h) trivial ?_
   clear hK K
   try simp only [Act.put, List.setIfInBounds_toArray, List.set_cons_zero, List.set_cons_succ]
   refine Lex.step_take (.pointer (some ⟨g, 0, none⟩)) pqt6 rfl (Lex.want_none rfl) (by intro Wx hSw; go_simp; (try (first | (with_reducible rfl) | assumption | rfl))) ?_
   simp only [Act.put, List.setIfInBounds_toArray, List.set_cons_zero, List.set_cons_succ]
   refine Lex.step_call pqt7 rfl (Lex.want_none rfl) (fun K hK => ?_)
   have x0 := hx7.c0
   have xf0 := hx7.f 0
   go_simp
   refine hK.out _ _ _ (fun _ h => h) trivial ?_
   clear hK K
   try simp only [Act.put, List.setIfInBounds_toArray, List.set_cons_zero, List.set_cons_succ]
   refine NoPanic.normal ?_
   have hbar := (Bar.refl g w7).setCell 0 (.slice (some ⟨g6, 0, none⟩) (n + 1) c6)
   have hx8 := hx7.set0 (.slice (some ⟨g6, 0, none⟩) (n + 1) c6)
   have hy8 := hy7.bar hbar (by omega)
   have hB8 := hB7.trans (hbar.below (B := w.heap.size) (by omega) hB7.size)
   have hown8 := Li.own_bar hown7 hbar (by omega)
   have q0 := hx8.c0
   have q1 := hx8.c1
   have r0 := hy8.c0
   have r1 := hy8.c1
   have rf0 := hy8.f 0
   have rf1 := hy8.f 1
   have hbar3 := ((Bar.refl (g + 2) (w7.setCell ⟨g, 0, none⟩ (.slice (some ⟨g6, 0, none⟩) (n + 1) c6))).setCell 0 (.slice (some ⟨g6, 0, none⟩) (n + 1) c6)).setCell 1 (.int .i64 h)
   have hB9 := hB8.trans (hbar3.below (B := w.heap.size) (by omega) hB8.size)
   have H9 := Lib.hid ((hy8.set0 (.slice (some ⟨g6, 0, none⟩) (n + 1) c6)).set1 (.int .i64 h))
   have hown9 := Li.own_bar hown8 hbar3 (by omega)
   have HE := Lib.hid (show ClkPost X (putC ⟨l, h⟩ no d) w (.returned (.agg #[.slice (some ⟨g6, 0, none⟩) (n + 1) c6, .int .i64 h])) _ from by rw [HGE.out]; exact ⟨_, rfl, own_clk (c := ⟨l ++ [newP no d], h⟩) hown9 (by simp [hn]) (by omega) (by omega), hB9⟩)
   rw [HPE.out] at HE
   clear x0 xf0 e0 e1 e2 e3 hx hy hB hown hnw hown7 hgrow7 hbb hx7 hy7 hB7 hbar hx8 hy8 hB8 hown8 hbar3 hB9 hown9
   go_wp2
   refine bodyPost_ret (results_clock rfl _ _ (g + 2) _ _ rfl H9.out.c0 H9.out.c1) rfl ?_
   exact HE.out
  ·obtain rfl : n = 8 := by omega
   have hh8 : h < 8 := by omega
   have hp0 := List.getElem?_eq_getElem (l := l) (i := 0) (by omega)
   obtain ⟨b, o, rfl, hra⟩ := HasP.at hlX.p hp0
   clear hra
   obtain ⟨R, hR⟩ : ∃ R, spinL (newP no d) 16 l h = R := ⟨_, rfl⟩
   have hge : putC ⟨l, h⟩ no d = ⟨R.1, R.2⟩ := by
    unfold putC
    simp only [hf]
    rw [if_neg (by rw [hn]; omega), hn]
    show (⟨(spinL (newP no d) 16 l h).1, (spinL (newP no d) 16 l h).2⟩ : C) = _
    rw [hR]
   have hlen : R.1.length = 8 := by
    obtain ⟨l2, s1, s2, _⟩ := spin_spec (x := newP no d) 16 l h (by omega)
    rw [← hR]
    rcases s2 with s2 | ⟨k, p, _, _, s2⟩
    ·rw [s2, s1.1, hn]
    ·rw [s2, List.length_set, s1.1, hn]
   have hcT := turn_any (cp := cp) (w := w1) l h (newP no d) b o hlX.p hn hh8
   rw [hR] at hcT
   have hcT : Calls Tryz.prog 167 #[.agg #[.slice (some ⟨b, o, none⟩) 8 cp, .int .i64 h], .agg #[.int .i64 no, .string d, .bool true, .int .i64 0]] w1 (TurnPost R w1) := hcT
   rw [hge] at HPE
   clear hl hf hge hr hn hR hp0 hhand h8 hb4 y0 y1 f0 f1 hlX
   go_wp2_with fail
   refine hcT.mono ?_
   rintro e W ⟨g5, c5, rfl, hown, hv⟩
   have hy9 := hy.below hv hy.lt
   have hB9 := hB.trans (hv.mono hB.size)
   have hgw := HG.out
   have hbar3 := ((Bar.refl (g + 2) W).setCell 0 (.slice (some ⟨g5, 0, none⟩) 8 c5)).setCell 1 (.int .i64 R.2)
   have hB10 := hB9.trans (hbar3.below (B := w.heap.size) (by omega) hB9.size)
   have hown9 := Li.own_bar hown hbar3 (by omega)
   have r0 := hy9.c0
   have r1 := hy9.c1
   have rf0 := hy9.f 0
   have rf1 := hy9.f 1
   have H9 := Lib.hid ((hy9.set0 (.slice (some ⟨g5, 0, none⟩) 8 c5)).set1 (.int .i64 R.2))
   have HE := Lib.hid (show ClkPost X ⟨R.1, R.2⟩ w (.returned (.agg #[.slice (some ⟨g5, 0, none⟩) 8 c5, .int .i64 R.2])) _ from ⟨_, rfl, own_clk (c := ⟨R.1, R.2⟩) hown9 hlen (by omega) (by omega), hB10⟩)
   rw [HPE.out] at HE
   clear hcT hx hy hB hy9 hB9 hbar3 hB10 hown hown9 hv x0 x1 e0 e1 e2 e3 hlen
   go_wp2
   refine bodyPost_ret (results_clock rfl _ _ (g + 2) _ _ rfl H9.out.c0 H9.out.c1) rfl ?_
   exact HE.out
end
end Go.Proofs.YtcgkbcgpnlogoaaGreatDoor.Cl
