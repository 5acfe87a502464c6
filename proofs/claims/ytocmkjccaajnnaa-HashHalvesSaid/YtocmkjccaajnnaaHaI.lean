/- The next bucket is halved: the document's, walked. -/
import Derived.Test.YtocmkjccaajnnaaHaH
import Derived.Maps.AppendAt
namespace Go.Proofs.Ytocmkjccaajnnaa.Ha
open Go.RowKit Pac Bu Ls Lex Go.Proofs.Ytocmkjccaajnnaa.Or

/-- A row of one's own that holds buckets, and one that is none yet. -/
theorem row_x {X : Nat → Prop} {w W : World} {n g6 c6 base : Nat} {bs : List (List E)} {hs : List (Li.Gr E)} (hhs : hs.map Li.Gr.l = bs) (hall : ∀ x ∈ hs, HasE w 0 x.A x.l ∧ x.l.length ≤ x.cp) (hX : ∀ x ∈ hs, x.l ≠ [] → Adr X x.A) (hlen : hs.length = n)
    (hown : W.ownsRow base 42 1 (.slice (some ⟨g6, 0, none⟩) (n + 1) c6) (n + 1) (Li.cellsL Li.cellsG (hs ++ [⟨none, 0, []⟩]))) (hXb : ∀ b, base ≤ b → X b) (hB : Below w.heap.size w W) : HasBsX W X (some ⟨g6, 0, none⟩) (bs ++ [[]]) ∧ n + 1 ≤ c6 := by
  obtain ⟨A', c', e, hcc, hl⟩ := Li.list_of_own Li.cellsG_len hown (by rw [List.length_append, hlen]; rfl)
  injection e with e1 e2 e3
  subst e1 e3
  refine ⟨⟨hs ++ [⟨none, 0, []⟩], by rw [List.map_append, hhs]; rfl, hl.lower (Nat.zero_le _), fun x hx => ?_, fun hn b o s e => hXb _ (adr_lt hl hn b o s e).1, fun x hx => ?_⟩, hcc⟩
  · rcases List.mem_append.1 hx with h | h
    · exact ⟨(hall x h).1.below hB (Nat.le_refl _), (hall x h).2⟩
    · obtain rfl : x = ⟨none, 0, []⟩ := by simpa using h
      exact ⟨fun h => absurd rfl h, Nat.le_refl _⟩
  · rcases List.mem_append.1 hx with h | h
    · exact fun hn b o s e => hX x h hn b o s e
    · obtain rfl : x = ⟨none, 0, []⟩ := by simpa using h
      exact fun hn => absurd rfl hn
def Apart (a b : Value) : Prop := ∀ k, a.ownBlock = some k → b.ownBlock ≠ some k
theorem Apart.symm {a b : Value} (h : Apart a b) : Apart b a := fun k hb ha => h k ha hb
theorem Apart.other {a b : Value} (h : Apart a b) : b.ownBlock = none ∨ b.ownBlock ≠ a.ownBlock := by
  cases hb : b.ownBlock with
  | none => exact Or.inl rfl
  | some k => exact Or.inr (fun e => h k e.symm hb)
theorem Apart.next {a a' b : Value} {w : World} {base size n : Nat} {t : TypeId} {xs : List Value} (h : Apart a b) (hown : w.ownsRow base t size b n xs) (hb : a'.ownBlock = a.ownBlock ∨ a'.ownBlock = some w.heap.size) : Apart a' b := fun k ha hk => by
  rcases hb with hb | hb
  · exact h k (hb ▸ ha) hk
  · rw [hb] at ha
    injection ha with ha
    have := (hown.lt k hk).2
    omega
def fa (lv nx at_ : Nat) (l : List E) : List E := l.filter (fun e => decide (atN lv nx (spread e.k) = at_))
def fb (lv nx at_ : Nat) (l : List E) : List E := l.filter (fun e => !decide (atN lv nx (spread e.k) = at_))
theorem fa_in {lv nx at_ : Nat} {l : List E} {x : E} (h : atN lv nx (spread x.k) = at_) : fa lv nx at_ (l ++ [x]) = fa lv nx at_ l ++ [x] ∧ fb lv nx at_ (l ++ [x]) = fb lv nx at_ l := by
  unfold fa fb
  rw [List.filter_append, List.filter_append]
  simp [h]
theorem fa_out {lv nx at_ : Nat} {l : List E} {x : E} (h : ¬ atN lv nx (spread x.k) = at_) : fa lv nx at_ (l ++ [x]) = fa lv nx at_ l ∧ fb lv nx at_ (l ++ [x]) = fb lv nx at_ l ++ [x] := by
  unfold fa fb
  rw [List.filter_append, List.filter_append]
  simp [h]
theorem fa_len (lv nx at_ : Nat) (l : List E) : (fa lv nx at_ l).length ≤ l.length ∧ (fb lv nx at_ l).length ≤ l.length := ⟨List.length_filter_le _ _, List.length_filter_le _ _⟩
theorem halve_eq {lv nx lv' nx' : Nat} {bs : List (List E)} {bk : List E} (h7 : lv ≤ 7) (hs : stepL lv nx = (lv', nx')) (hbk : bs[nx]? = some bk) : halveH spread ⟨lv, nx, bs⟩ = withB (withB ⟨lv', nx', bs ++ [[]]⟩ nx (fa lv' nx' nx bk)) bs.length (fb lv' nx' nx bk) := by
  have hlt := (List.getElem?_eq_some_iff.1 hbk).1
  unfold halveH withB
  rw [if_neg (by show ¬ 8 ≤ lv; omega)]
  simp only [hs, hbk, Option.getD_some]
  rw [List.set_append_left _ _ hlt, List.set_append_right _ _ (by rw [List.length_set]; exact Nat.le_refl _), List.length_set, Nat.sub_self]
  rfl
theorem step_true {lv nx : Nat} (h8 : lv ≤ 8) (h : (((nx : Int) + 1) == wrap64 ((2 : Int) ^ lv)) = true) : nx + 1 = 2 ^ lv := by
  obtain ⟨p, hp, hp1, hp2⟩ := powP h8
  rw [powI hp, w64 (by omega) (by omega)] at h
  have := eq_of_beq h
  omega
theorem step_false {lv nx : Nat} (h8 : lv ≤ 8) (h : (((nx : Int) + 1) == wrap64 ((2 : Int) ^ lv)) = false) : ¬ nx + 1 = 2 ^ lv := fun he => by
  obtain ⟨p, hp, hp1, hp2⟩ := powP h8
  rw [powI hp, w64 (by omega) (by omega)] at h
  exact (beq_eq_false_iff_ne.1 h) (by omega)
theorem cells_one_more (hs : List (Li.Gr E)) : Li.cellsL Li.cellsG hs ++ [.slice none 0 0] = Li.cellsL Li.cellsG (hs ++ [(⟨none, 0, []⟩ : Li.Gr E)]) := by rw [Li.cellsL_snoc]; rfl
section
variable {A : Option Addr} {n cp : Nat} {w : World}
set_option maxRecDepth 20000 in
set_option maxHeartbeats 6400000 in
theorem refHalve_any (X : Nat → Prop) (h : H) (bk : List E) (hb : HasBsX w X A h.bs) (hn : h.bs.length = n) (hcp : n ≤ cp) (h9 : n ≤ 10000) (hl8 : h.lv ≤ 8) (hnx : h.nx < 2 ^ h.lv) (hbk : h.bs[h.nx]? = some bk) (hm9 : bk.length ≤ 100000) (hks : ∀ e ∈ bk, e.key.size ≤ 9223372036854775807) :
    Calls Try.prog 17 #[.agg #[.int .i64 h.lv, .int .i64 h.nx, .slice A n cp]] w (HashPost X (halveH spread h) w) := by
  obtain ⟨iS, hiS, hs0, hs1, hs2⟩ := info_parts infoB
  obtain ⟨iE, hiE, hv0, hv1, hv2⟩ := info_parts infoE
  obtain ⟨lv, nx, bs⟩ := h
  simp only at hb hn hl8 hnx hbk
  obtain ⟨post, hpe⟩ : ∃ post, HashPost X (halveH spread ⟨lv, nx, bs⟩) w = post := ⟨_, rfl⟩
  have HPE := Lib.hid hpe
  show Calls _ _ #[.agg #[.int .i64 lv, .int .i64 nx, .slice A n cp]] _ _
  rw [hpe]
  have hnx9 : nx < 256 := Nat.lt_of_lt_of_le hnx (Nat.pow_le_pow_right (n := 2) (by omega) hl8)
  have HNX := Lib.hid hnx
  have hB := (Below.refl w.heap.size w).alloc (Nat.le_refl _) (.cells #[.int .i64 lv, .int .i64 nx, .slice A n cp] 27)
  have hx := Box3.new w (.int .i64 lv) (.int .i64 nx) (.slice A n cp) 27
  obtain ⟨g, hg⟩ : ∃ g, w.heap.size = g := ⟨_, rfl⟩
  have hz : (w.alloc (.cells #[.int .i64 lv, .int .i64 nx, .slice A n cp] 27)).heap.size = g + 1 := by simp [hg]
  rw [hg] at hx
  generalize hw0 : w.alloc (.cells #[.int .i64 lv, .int .i64 nx, .slice A n cp] 27) = wa at hB hx hz
  have hBb := (Below.refl wa.heap.size wa).alloc (Nat.le_refl _) (.cells #[.int .i64 0, .int .i64 0, .slice none 0 0] 27)
  have hy := Box3.new wa (.int .i64 0) (.int .i64 0) (.slice none 0 0) 27
  have hsz : (wa.alloc (.cells #[.int .i64 0, .int .i64 0, .slice none 0 0] 27)).heap.size = g + 1 + 1 := by simp [hz]
  rw [hz] at hy
  have hx := hx.below hBb hx.lt
  have hB := hB.trans (hBb.mono hB.size)
  generalize hw1 : wa.alloc (.cells #[.int .i64 0, .int .i64 0, .slice none 0 0] 27) = wb at hB hx hy hsz
  have x0 := hx.c0
  have x1 := hx.c1
  have x2 := hx.c2
  have HSZ := Lib.hid hsz
  clear hpe hBb hnx hsz
  go_enter Try.func17, Try.ntmps17
  by_cases hlv : 8 ≤ lv
  case pos =>
    have hge : halveH spread ⟨lv, nx, bs⟩ = ⟨lv, nx, bs⟩ := by unfold halveH; rw [if_pos hlv]
    have hlv' : (8 : Int) ≤ (lv : Int) := by omega
    have y0 := hy.c0
    have y1 := hy.c1
    have y2 := hy.c2
    have f0 := hy.f 0
    have f1 := hy.f 1
    have f2 := hy.f 2
    have hB9 := ((hB.setCell (p := ⟨g + 1, 0, none⟩) (by show w.heap.size ≤ g + 1; omega) (.int .i64 lv)).setCell (p := ⟨g + 1, 1, none⟩) (by show w.heap.size ≤ g + 1; omega) (.int .i64 nx)).setCell (p := ⟨g + 1, 2, none⟩) (by show w.heap.size ≤ g + 1; omega) (.slice A n cp)
    have H9 := Lib.hid (((hy.set0 (.int .i64 lv)).set1 (.int .i64 nx)).set2 (.slice A n cp))
    have HE := Lib.hid (show HashPost X (halveH spread ⟨lv, nx, bs⟩) w (.returned (.agg #[.int .i64 lv, .int .i64 nx, .slice A n cp])) _ from by rw [hge]; exact ⟨A, n, cp, rfl, hn, hcp, (hb.mono (fun b h => Or.inl h)).below hB9 (Nat.le_refl _), hB9⟩)
    rw [HPE.out] at HE
    clear hB hB9 hy hx hb hge
    go_wp2
    refine bodyPost_ret (results_hash rfl _ _ (g + 1) _ _ _ rfl H9.out.c0 H9.out.c1 H9.out.c2) rfl ?_
    exact HE.out
  have hlv7 : lv ≤ 7 := by omega
  have hlv' : ¬ (8 : Int) ≤ (lv : Int) := by omega
  obtain ⟨b, o, A3, c3, rfl, _, hlb, d0, hr1, _⟩ := Li.HasLs.at hb.bs hbk
  rw [hg] at hlb
  have d0 := cell_belowB hB d0
  have hin : nx < n := by rw [← hn]; exact (List.getElem?_eq_some_iff.1 hbk).1
  obtain ⟨m, hm⟩ : ∃ m, bk.length = m := ⟨_, rfl⟩
  rw [hm] at d0 hm9
  have i1 : (nx : Int) < (n : Int) := by omega
  have i0 : (0 : Int) ≤ (nx : Int) := by omega
  go_wp2
  go_quiet (fail)
  have hd := below_drewN (Below.refl wb.heap.size wb) nq
  have hx := hx.below hd hx.lt
  have hy := hy.below hd hy.lt
  have hB := hB.trans (hd.mono hB.size)
  have hsz : g + 2 ≤ (wb.drewN nq).heap.size := Nat.le_trans (by have := HSZ.out; omega) hd.size
  generalize wb.drewN nq = wc at hx hy hB hsz ⊢
  clear hd d0 x0 x1 x2 hw0 hw1 hz HSZ
  obtain ⟨X1, hX1⟩ : ∃ X1 : Nat → Prop, ∀ b, X1 b ↔ ((X b ∧ b < g) ∨ g + 2 ≤ b) := ⟨fun b => (X b ∧ b < g) ∨ g + 2 ≤ b, fun b => Iff.rfl⟩
  obtain ⟨hs, hhs, hHL, hall, _, hXA⟩ : HasBsX w X1 (some ⟨b, o, none⟩) bs := hb.lt.mono (fun b h => (hX1 b).2 (Or.inl ⟨h.1, hg ▸ h.2⟩))
  have hlen : hs.length = n := by rw [← hn, ← hhs, List.length_map]
  have HG := Lib.hid (And.intro hg hX1)
  have hownW := World.ownsRow_lit (e := 42) (size := 1) (base := wc.heap.size) wc #[] 0 (Nat.le_refl _) (by unfold maxLen; omega) rfl
  have hy6 := (Below.refl wc.heap.size wc).alloc (Nat.le_refl _) (.cells #[] 42)
  have hsW : wc.heap.size ≤ (wc.alloc (.cells #[] 42)).heap.size := by simp
  have hnw := news_of (by decide) Li.cellsG_len ((hHL.below hB (Nat.le_refl _)).below hy6 (Nat.le_refl _))
  have HLN : Hid ((Li.cellsL Li.cellsG hs).length = n * 1) := Lib.hid (by rw [Li.cellsL_len Li.cellsG_len, hlen])
  have HON : Hid (∀ v ∈ Li.cellsL Li.cellsG hs, v.oneCell' = true) := Lib.hid (fun v hv => by
    rw [Li.cellsG_map] at hv
    obtain ⟨x, _, rfl⟩ := List.mem_map.1 hv
    simp [Value.oneCell'])
  have x2 := (hx.below hy6 hx.lt).c2
  have HW := Lib.hid (And.intro hownW (And.intro hnw (And.intro hsW hy6)))
  have HX := Lib.hid (And.intro hx (And.intro hy (And.intro hB (And.intro hhs (And.intro hall (And.intro hXA hlen))))))
  have HBK := Lib.hid (And.intro hr1 (And.intro hn (And.intro hbk (And.intro hm hks))))
  clear hownW hnw hsW hy6 hx hy hB hhs hall hlen hHL hXA hr1 hn hbk hm hks hb hX1 hg
  go_wp2_with (at_builtin; go_must (refine wpList_append_own _ rfl _ _ 25 rfl wc.heap.size 42 iS (.slice none 0 0) 1 24 Try.underlying25 hiS hs0 hs1 hs2 rfl (by decide) (.slice (some ⟨wc.heap.size, 0, none⟩) 0 0) 0 [] rfl HW.out.1 ⟨b, o, none⟩ n cp (Li.cellsL Li.cellsG hs) rfl HLN.out HW.out.2.1 HON.out (by unfold maxLen; omega) (by omega) HW.out.2.2.1 ?_))
  intro v6 y6 hown hgrow6 _
  obtain ⟨hownW, _, hsW, hy6⟩ := HW.out
  have hb6 := hy6.grown hgrow6 hsW (fun k hk => (hownW.lt k hk).1)
  (try simp only [Nat.zero_add, List.nil_append] at hown)
  have hW2 := hown.alloc (.cells #[.slice none 0 0] 42)
  have hb7 := hb6.trans (((Below.refl y6.heap.size y6).alloc (Nat.le_refl _) (.cells #[.slice none 0 0] 42)).mono hb6.size)
  have HW2 := Lib.hid (And.intro hW2 (And.intro hb7 (heap_alloc_new y6 (.cells #[.slice none 0 0] 42))))
  clear hownW hsW hy6 hgrow6 hb6 HW HLN HON x2 hown hW2 hb7
  go_wp2_with (at_builtin; go_must (refine wpList_append_own _ rfl _ _ 25 rfl wc.heap.size 42 iS (.slice none 0 0) 1 24 Try.underlying25 hiS hs0 hs1 hs2 rfl (by decide) v6 n (Li.cellsL Li.cellsG hs) rfl HW2.out.1 ⟨y6.heap.size, 0, none⟩ 1 1 [.slice none 0 0] rfl rfl (World.news_of_block HW2.out.2.2) (by simp [Value.oneCell']) (by unfold maxLen; omega) (by omega) HW2.out.2.1.size ?_))
  intro v7 y7 hown hgrow7 _
  obtain ⟨hownA, hbA, _⟩ := HW2.out
  obtain ⟨hx, hy, hB, hhs, hall, hXA, hlen⟩ := HX.out
  have hb8 := hbA.grown hgrow7 hbA.size (fun k hk => (hownA.lt k hk).1)
  rw [cells_one_more] at hown
  obtain ⟨g6, c6, rfl, hg6, hgl⟩ := hown.form (by omega)
  have hx := hx.below hb8 hx.lt
  have hy := hy.below hb8 hy.lt
  have hB := hB.trans (hb8.mono hB.size)
  have hsz7 := Nat.le_trans hsz hb8.size
  have x2 := hx.c2
  have x2f := hx.f 2
  have hx8 := hx.set2 (.slice (some ⟨g6, 0, none⟩) (n + 1) c6)
  have u0 := hx8.c0
  have u1 := hx8.c1
  have u1f := hx8.f 1
  have hx9 := hx8.set1 (.int .i64 ((nx : Int) + 1))
  have t0 := hx9.c0
  have t1 := hx9.c1
  have t0f := hx9.f 0
  have t1f := hx9.f 1
  have hbar := ((Bar.refl g y7).setCell 2 (.slice (some ⟨g6, 0, none⟩) (n + 1) c6)).setCell 1 (.int .i64 ((nx : Int) + 1))
  have HR9 := Lib.hid (And.intro hx9 (And.intro (hy.bar hbar (by omega)) (And.intro (Li.own_bar hown hbar (by omega)) (And.intro (hB.trans (hbar.below (B := w.heap.size) (Nat.le_of_eq HG.out.1) hB.size)) (And.intro hbar hsz7)))))
  have e9 : IntKind.i64.wrap ((nx : Int) + 1) = (nx : Int) + 1 := IntWalk.i64_in _ (by omega)
  clear hownA hbA hb8 hgrow7 hown HW2 hx8 hx9 hbar hB hx hy hhs hall hXA hlen
  go_wp2
  · rename (((nx : Int) + 1) == wrap64 ((2 : Int) ^ lv)) = true => h
    have hst : stepL lv nx = (lv + 1, 0) := by
      unfold stepL
      rw [if_pos (step_true hl8 h)]
    clear h
    obtain ⟨hx9, hy9, hown9, hB9, hbar9, hsz9⟩ := HR9.out
    have hbar := ((Bar.refl g ((y7.setCell ⟨g, 2, none⟩ (.slice (some ⟨g6, 0, none⟩) (n + 1) c6)).setCell ⟨g, 1, none⟩ (.int .i64 ((nx : Int) + 1)))).setCell 0 (.int .i64 ((lv : Int) + 1))).setCell 1 (.int .i64 0)
    have hxd : Box3 _ g (.int .i64 ((lv + 1 : Nat) : Int)) (.int .i64 ((0 : Nat) : Int)) (.slice (some ⟨g6, 0, none⟩) (n + 1) c6) := (hx9.set0 (.int .i64 ((lv : Int) + 1))).set1 (.int .i64 0)
    have hyd := hy9.bar hbar (by omega)
    have hownd := Li.own_bar hown9 hbar (by omega)
    have hBd := hB9.trans (hbar.below (B := w.heap.size) (Nat.le_of_eq HG.out.1) hB9.size)
    have hszd : g + 2 ≤ _ := Nat.le_trans (Nat.le_trans hsz9 hbar9.size) hbar.size
    have hlvd : lv + 1 ≤ 8 := by omega
    generalize (((y7.setCell ⟨g, 2, none⟩ (.slice (some ⟨g6, 0, none⟩) (n + 1) c6)).setCell ⟨g, 1, none⟩ (.int .i64 ((nx : Int) + 1))).setCell ⟨g, 0, none⟩ (.int .i64 ((lv : Int) + 1))).setCell ⟨g, 1, none⟩ (.int .i64 0) = wd at hxd hyd hownd hBd hszd ⊢
    obtain ⟨nx', hnx2⟩ : ∃ l : Nat, l = 0 := ⟨_, rfl⟩
    have hxd : Box3 wd g (.int .i64 ((lv + 1 : Nat) : Int)) (.int .i64 (nx' : Int)) (.slice (some ⟨g6, 0, none⟩) (n + 1) c6) := by rw [hnx2]; exact hxd
    have hst : stepL lv nx = (lv + 1, nx') := by rw [hnx2]; exact hst
    have hnxd : nx' ≤ 1000 := by omega
    generalize lv + 1 = lv' at hst hxd hlvd
    clear hnx2 hx9 hy9 hown9 hB9 hbar9 hsz9 hbar x2 x2f u0 u1 u1f t0 t1 t0f t1f e9 HR9
    obtain ⟨hhs, hall, hXA, hlen⟩ := HX.out.2.2.2
    have hbX := row_x hhs hall hXA hlen hownd (fun b hb => (HG.out.2 b).2 (Or.inr (Nat.le_trans hsz hb))) hBd
    obtain ⟨hbX, hc6⟩ := hbX
    obtain ⟨hr1, hn, hbk, hm, hks⟩ := HBK.out
    have hr1 := hr1.below hBd (Nat.le_refl _)
    have HS := Lib.hid (And.intro hxd (And.intro hyd (And.intro hbX (And.intro hBd (And.intro hszd hr1)))))
    have HEQ := Lib.hid (halve_eq hlv7 hst hbk)
    clear hhs hall hXA hlen hownd hbX hn hbk hxd hyd hBd hszd hr1 hst
    go_loopw [5, 6, 7] (fun xa xb i wr => ∃ (q na nb : Nat) (sva svb : Value), q ≤ m ∧ i = .int .i64 q ∧ xa = sva ∧ xb = svb ∧ na ≤ q ∧ nb ≤ q ∧ wr.ownsRow wd.heap.size 51 3 sva na (Li.cellsL cellsE (fa lv' nx' nx (bk.take q))) ∧ wr.ownsRow wd.heap.size 51 3 svb nb (Li.cellsL cellsE (fb lv' nx' nx (bk.take q))) ∧ Hid ((fa lv' nx' nx (bk.take q)).length = na ∧ (fb lv' nx' nx (bk.take q)).length = nb) ∧ Apart sva svb ∧ Below wd.heap.size wd wr) (fun _ _ i _ => m - (intOf i).toNat)
    case atStart => exact ⟨0, 0, 0, _, _, Nat.zero_le _, rfl, rfl, rfl, Nat.le_refl _, Nat.le_refl _, World.ownsRow_nil _ _ _ _, World.ownsRow_nil _ _ _ _, Lib.hid ⟨rfl, rfl⟩, fun k hk => by simp [Value.ownBlock] at hk, Below.refl _ _⟩
    case round =>
      obtain ⟨q, na, nb, sva, svb, hq, rfl, rfl, rfl, hna, hnb, hownA, hownB, HL, hD, hyb⟩ := hrel
      by_cases hlt : q < m
      · have hgt := List.getElem?_eq_getElem (l := bk) (i := q) (by rw [hm]; exact hlt)
        generalize (bk[q]'(by rw [hm]; exact hlt)) = x at hgt
        have hr := HS.out.2.2.2.2.2.below hyb (Nat.le_refl _)
        obtain ⟨b1, o1, rfl, _, hlb1, d0, d1, d2⟩ := HasE.at hr hgt
        have hkx := hks _ (List.mem_of_getElem? hgt)
        have HTK := Lib.hid (take_snoc hgt)
        obtain ⟨ek, et, es⟩ := x
        simp only at d0 d1 d2 hkx
        have hcW := fun W : World => refWhere_any lv' nx' ek W hlvd hnxd hkx
        obtain ⟨c, hc⟩ : ∃ c, atN lv' nx' (spread ek.data.toList) = c := ⟨_, rfl⟩
        rw [hc] at hcW
        obtain ⟨rb, hrb⟩ : ∃ rb, ((c : Int) == (nx : Int)) = rb := ⟨_, rfl⟩
        have hxg := HS.out.1.below hyb HS.out.1.lt
        have x0 := hxg.c0
        have x1 := hxg.c1
        have j1 : (q : Int) < (m : Int) := by omega
        have j0 : (0 : Int) ≤ (q : Int) := by omega
        have HC := Lib.hid hc
        clear hgt hr hxg hc
        go_wp2_with fail
        have hdr := (Below.refl wr.heap.size wr).drew
        refine Lex.region_lex (ops := hkops) (calls := hkcalls) hkord (fun W => W.cell? ⟨g, 0, none⟩ = some (.int .i64 (lv' : Int)) ∧ W.cell? ⟨g, 1, none⟩ = some (.int .i64 (nx' : Int)) ∧ W.cell? ⟨b1, o1 + q * 3, none⟩ = some (.string ek)) (by kernel_rfl) (by kernel_rfl) hksel (by kernel_rfl) (by kernel_rfl) hklex (⟨cell_belowB hdr x0, cell_belowB hdr x1, cell_belowB hdr d0⟩) ?_
        unfold hkord
        have x0 := cell_belowB hdr x0
        have x1 := cell_belowB hdr x1
        have d0 := cell_belowB hdr d0
        have d1 := cell_belowB hdr d1
        have d2 := cell_belowB hdr d2
        have hownA := Li.own_below hownA hdr (Nat.le_refl _)
        have hownB := Li.own_below hownB hdr (Nat.le_refl _)
        have hyb := hyb.trans (hdr.mono hyb.size)
        clear hdr
        refine Lex.step_take (.pointer (some ⟨g, 0, none⟩)) hk0 rfl (Lex.want_none rfl) (by intro Wx hSw; (try dsimp only at hSw); go_simp; (try (first | (with_reducible rfl) | assumption | rfl))) ?_
        simp only [Act.put, List.setIfInBounds_toArray, List.set_cons_zero, List.set_cons_succ]
        refine Lex.step_take (.int .i64 (lv' : Int)) hk1 rfl (Lex.want_none rfl) (by intro Wx hSw; (try dsimp only at hSw); go_simp; (try (first | (with_reducible rfl) | assumption | rfl))) ?_
        simp only [Act.put, List.setIfInBounds_toArray, List.set_cons_zero, List.set_cons_succ]
        refine Lex.step_take (.pointer (some ⟨g, 1, none⟩)) hk2 rfl (Lex.want_none rfl) (by intro Wx hSw; (try dsimp only at hSw); go_simp; (try (first | (with_reducible rfl) | assumption | rfl))) ?_
        simp only [Act.put, List.setIfInBounds_toArray, List.set_cons_zero, List.set_cons_succ]
        refine Lex.step_take (.int .i64 (nx' : Int)) hk3 rfl (Lex.want_none rfl) (by intro Wx hSw; (try dsimp only at hSw); go_simp; (try (first | (with_reducible rfl) | assumption | rfl))) ?_
        simp only [Act.put, List.setIfInBounds_toArray, List.set_cons_zero, List.set_cons_succ]
        refine Lex.step_take (.slice (some ⟨b1, o1, none⟩) m c3) hk4 rfl (Lex.want_none rfl) (by intro Wx hSw; (try dsimp only at hSw); go_simp; (try (first | (with_reducible rfl) | assumption | rfl))) ?_
        simp only [Act.put, List.setIfInBounds_toArray, List.set_cons_zero, List.set_cons_succ]
        refine Lex.step_take (.int .i64 (q : Int)) hk5 rfl (Lex.want_none rfl) (by intro Wx hSw; (try dsimp only at hSw); go_simp; (try (first | (with_reducible rfl) | assumption | rfl))) ?_
        simp only [Act.put, List.setIfInBounds_toArray, List.set_cons_zero, List.set_cons_succ]
        refine Lex.step_take (.pointer (some ⟨b1, o1 + q * 3, none⟩)) hk6 rfl (Lex.want_none rfl) (by intro Wx hSw; (try dsimp only at hSw); go_simp; (try (first | (with_reducible rfl) | assumption | rfl))) ?_
        simp only [Act.put, List.setIfInBounds_toArray, List.set_cons_zero, List.set_cons_succ]
        refine Lex.step_take (.pointer (some ⟨b1, o1 + q * 3, none⟩)) hk7 rfl (Lex.want_none rfl) (by intro Wx hSw; (try dsimp only at hSw); go_simp; (try (first | (with_reducible rfl) | assumption | rfl))) ?_
        simp only [Act.put, List.setIfInBounds_toArray, List.set_cons_zero, List.set_cons_succ]
        refine Lex.step_take (.string ek) hk8 rfl (Lex.want_none rfl) (by intro Wx hSw; (try dsimp only at hSw); go_simp; (try (first | (with_reducible rfl) | assumption | rfl))) ?_
        simp only [Act.put, List.setIfInBounds_toArray, List.set_cons_zero, List.set_cons_succ]
        refine Lex.step_take (.int .i64 (nx : Int)) hk10 rfl (Lex.want_none rfl) (by intro Wx hSw; (try dsimp only at hSw); go_simp; (try (first | (with_reducible rfl) | assumption | rfl))) ?_
        simp only [Act.put, List.setIfInBounds_toArray, List.set_cons_zero, List.set_cons_succ]
        refine Lex.step_call hk9 rfl (Lex.want_none rfl) (fun K hK => ?_)
        go_simp
        refine (hcW _).mono ?_
        rintro e y1 ⟨rfl, hv⟩
        have x0 := cell_belowB hv x0
        have x1 := cell_belowB hv x1
        have d0 := cell_belowB hv d0
        have d1 := cell_belowB hv d1
        have d2 := cell_belowB hv d2
        have hownA := Li.own_below hownA hv (Nat.le_refl _)
        have hownB := Li.own_below hownB hv (Nat.le_refl _)
        have hyb := hyb.trans (hv.mono hyb.size)
        clear hv
        refine hK.out _ _ _ (fun _ h => h) ⟨x0, x1, d0⟩ ?_
        clear hK K
        try simp only [Act.put, List.setIfInBounds_toArray, List.set_cons_zero, List.set_cons_succ]
        refine Lex.step_take (.bool rb) hk11 rfl (Lex.want_none rfl) (by intro Wx hSw; (try dsimp only at hSw); go_simp; (try (first | (with_reducible rfl) | assumption | rfl))) ?_
        simp only [Act.put, List.setIfInBounds_toArray, List.set_cons_zero, List.set_cons_succ]
        refine NoPanic.normal ?_
        clear hcW
        cases rb
        · have hF : fa lv' nx' nx (bk.take (q + 1)) = fa lv' nx' nx (bk.take q) ∧ fb lv' nx' nx (bk.take (q + 1)) = fb lv' nx' nx (bk.take q) ++ [⟨ek, et, es⟩] := by
            rw [HTK.out]
            refine fa_out ?_
            show ¬ atN lv' nx' (spread ek.data.toList) = nx
            rw [HC.out]
            have := beq_eq_false_iff_ne.1 hrb
            omega
          clear hrb
          have HW := Lib.hid (And.intro (hownB.alloc (.cells #[.string ek, .int .i64 et, .int .i64 es] 51)) (And.intro (hownA.alloc (.cells #[.string ek, .int .i64 et, .int .i64 es] 51)) (And.intro (hyb.alloc hyb.size (.cells #[.string ek, .int .i64 et, .int .i64 es] 51)) (heap_alloc_new y1 (.cells #[.string ek, .int .i64 et, .int .i64 es] 51)))))
          have HF := Lib.hid hF
          clear hownA hownB hyb hF
          go_wp2_with (at_builtin; go_must (refine wpList_append_own_at _ rfl _ _ 42 rfl wd.heap.size 51 iE (.agg #[.string ⟨#[]⟩, .int .i64 0, .int .i64 0]) 3 32 Try.underlying42 hiE hv0 hv1 hv2 rfl (by decide) u6 nb (Li.cellsL cellsE (fb lv' nx' nx (bk.take q))) rfl HW.out.1 ⟨y1.heap.size, 0, none⟩ 1 1 [.string ek, .int .i64 et, .int .i64 es] (by go_simp) rfl (World.news_of_block HW.out.2.2.2) (by simp [Value.oneCell']) (by unfold maxLen; omega) (by omega) HW.out.2.2.1.size ?_))
          intro v5 y5 hown5 hgrow5 _ hblk
          obtain ⟨hownV, hownO, hybW, _⟩ := HW.out
          have hO5 := Li.own_other hownO hgrow5 (hD.symm).other
          have hD5 := (hD.symm).next hownO (hblk.imp id (fun h => by rw [h]; simp))
          have hb5 := hybW.grown hgrow5 hybW.size (fun k hk => (hownV.lt k hk).1)
          have hR5 := (Li.cellsL_snoc (R := cellsE) (fb lv' nx' nx (bk.take q)) ⟨ek, et, es⟩)
          clear hownV hownO hybW hgrow5 HW x0 x1 d0 d1 d2 hblk
          go_wp2
          go_roundw
          case rel =>
            have hF := HF.out
            exact ⟨q + 1, na, nb + 1, u5, _, by omega, by go_num, rfl, rfl, by omega, by omega, by rw [hF.1]; exact hO5, by rw [hF.2]; exact hR5 ▸ hown5, Lib.hid ⟨by rw [hF.1]; exact HL.out.1, by rw [hF.2, List.length_append, HL.out.2]; rfl⟩, hD5.symm, hb5⟩
          case measure => simp [intOf]; omega
        · have hF : fa lv' nx' nx (bk.take (q + 1)) = fa lv' nx' nx (bk.take q) ++ [⟨ek, et, es⟩] ∧ fb lv' nx' nx (bk.take (q + 1)) = fb lv' nx' nx (bk.take q) := by
            rw [HTK.out]
            refine fa_in ?_
            show atN lv' nx' (spread ek.data.toList) = nx
            rw [HC.out]
            have := eq_of_beq hrb
            omega
          clear hrb
          have HW := Lib.hid (And.intro (hownA.alloc (.cells #[.string ek, .int .i64 et, .int .i64 es] 51)) (And.intro (hownB.alloc (.cells #[.string ek, .int .i64 et, .int .i64 es] 51)) (And.intro (hyb.alloc hyb.size (.cells #[.string ek, .int .i64 et, .int .i64 es] 51)) (heap_alloc_new y1 (.cells #[.string ek, .int .i64 et, .int .i64 es] 51)))))
          have HF := Lib.hid hF
          clear hownA hownB hyb hF
          go_wp2_with (at_builtin; go_must (refine wpList_append_own_at _ rfl _ _ 42 rfl wd.heap.size 51 iE (.agg #[.string ⟨#[]⟩, .int .i64 0, .int .i64 0]) 3 32 Try.underlying42 hiE hv0 hv1 hv2 rfl (by decide) u5 na (Li.cellsL cellsE (fa lv' nx' nx (bk.take q))) rfl HW.out.1 ⟨y1.heap.size, 0, none⟩ 1 1 [.string ek, .int .i64 et, .int .i64 es] (by go_simp) rfl (World.news_of_block HW.out.2.2.2) (by simp [Value.oneCell']) (by unfold maxLen; omega) (by omega) HW.out.2.2.1.size ?_))
          intro v5 y5 hown5 hgrow5 _ hblk
          obtain ⟨hownV, hownO, hybW, _⟩ := HW.out
          have hO5 := Li.own_other hownO hgrow5 (hD).other
          have hD5 := (hD).next hownO (hblk.imp id (fun h => by rw [h]; simp))
          have hb5 := hybW.grown hgrow5 hybW.size (fun k hk => (hownV.lt k hk).1)
          have hR5 := (Li.cellsL_snoc (R := cellsE) (fa lv' nx' nx (bk.take q)) ⟨ek, et, es⟩)
          clear hownV hownO hybW hgrow5 HW x0 x1 d0 d1 d2 hblk
          go_wp2
          go_roundw
          case rel =>
            have hF := HF.out
            exact ⟨q + 1, na + 1, nb, _, u6, by omega, by go_num, rfl, rfl, by omega, by omega, by rw [hF.1]; exact hR5 ▸ hown5, by rw [hF.2]; exact hO5, Lib.hid ⟨by rw [hF.1, List.length_append, HL.out.1]; rfl, by rw [hF.2]; exact HL.out.2⟩, hD5, hb5⟩
          case measure => simp [intOf]; omega
      · obtain rfl : m = q := by omega
        rw [List.take_of_length_le (by rw [hm]; exact Nat.le_refl _)] at hownA hownB HL
        obtain ⟨A5, ca, rfl, hca, hla⟩ := Li.list_of_own cellsE_len hownA HL.out.1
        obtain ⟨A6, cb, rfl, hcb, hlb'⟩ := Li.list_of_own cellsE_len hownB HL.out.2
        have HN := HL
        obtain ⟨hxd, hyd, hbX, hBd, hszd, _⟩ := HS.out
        have hszr : g + 2 ≤ wr.heap.size := Nat.le_trans hszd hyb.size
        have hEa : HasEX wr X1 A5 (fa lv' nx' nx bk) := ⟨hla.lower (Nat.zero_le _), fun hn b o s e => (HG.out.2 b).2 (Or.inr (Nat.le_trans hszd (adr_lt hla hn b o s e).1))⟩
        have hEb : HasEX wr X1 A6 (fb lv' nx' nx bk) := ⟨hlb'.lower (Nat.zero_le _), fun hn b o s e => (HG.out.2 b).2 (Or.inr (Nat.le_trans hszd (adr_lt hlb' hn b o s e).1))⟩
        have hbX := hbX.below hyb (Nat.le_refl _)
        have hyd := hyd.below hyb hyd.lt
        have hBr := hBd.trans (hyb.mono hBd.size)
        have hxr := hxd.below hyb hxd.lt
        have x0 := hxr.c0
        have x1 := hxr.c1
        have x2 := hxr.c2
        have hn0 := HBK.out.2.1
        have hn1 : (bs ++ [[]]).length = n + 1 := by rw [List.length_append, hn0]; rfl
        have z1 : (n : Int) + 1 - 1 = (n : Int) := by omega
        have z2 : IntKind.i64.wrap (n : Int) = (n : Int) := IntWalk.i64_in _ (by omega)
        clear hownA hownB hla hlb' hyb hxr hxd hBd hszd hD
        go_wp2_with fail
        have hdr := (Below.refl wr.heap.size wr).drew
        have hdr2 := hdr
        refine Lex.region_lex (ops := hhops) (calls := hhcalls) hhord (fun W => W.cell? ⟨g, 0, none⟩ = some (.int .i64 (lv' : Int)) ∧ W.cell? ⟨g, 1, none⟩ = some (.int .i64 (nx' : Int)) ∧ W.cell? ⟨g, 2, none⟩ = some (.slice (some ⟨g6, 0, none⟩) (n + 1) c6)) (by kernel_rfl) (by kernel_rfl) hhsel (by kernel_rfl) (by kernel_rfl) hhlex (⟨cell_belowB hdr x0, cell_belowB hdr x1, cell_belowB hdr x2⟩) ?_
        unfold hhord
        have x0 := cell_belowB hdr x0
        have x1 := cell_belowB hdr x1
        have x2 := cell_belowB hdr x2
        have hbX := hbX.below hdr (Nat.le_refl _)
        have hyd := hyd.below hdr hyd.lt
        have hszr : g + 2 ≤ _ := Nat.le_trans hszr hdr.size
        have hBr := hBr.trans (hdr.mono hBr.size)
        clear hdr
        have hEa : HasEX _ X1 A5 (fa lv' nx' nx bk) := ⟨hEa.1.below hdr2 (Nat.le_refl _), hEa.2⟩
        have hEb : HasEX _ X1 A6 (fb lv' nx' nx bk) := ⟨hEb.1.below hdr2 (Nat.le_refl _), hEb.2⟩
        refine Lex.step_take (.agg #[.int .i64 (lv' : Int), .int .i64 (nx' : Int), .slice (some ⟨g6, 0, none⟩) (n + 1) c6]) hh0 rfl (Lex.want_none rfl) (by intro Wx hSw; (try dsimp only at hSw); go_simp; (try (first | (with_reducible rfl) | assumption | rfl))) ?_
        simp only [Act.put, List.setIfInBounds_toArray, List.set_cons_zero, List.set_cons_succ]
        refine Lex.step_take (.int .i64 (nx : Int)) hh1 rfl (Lex.want_none rfl) (by intro Wx hSw; (try dsimp only at hSw); go_simp; (try (first | (with_reducible rfl) | assumption | rfl))) ?_
        simp only [Act.put, List.setIfInBounds_toArray, List.set_cons_zero, List.set_cons_succ]
        refine Lex.step_take (.slice A5 na ca) hh2 rfl (Lex.want_none rfl) (by intro Wx hSw; (try dsimp only at hSw); go_simp; (try (first | (with_reducible rfl) | assumption | rfl))) ?_
        simp only [Act.put, List.setIfInBounds_toArray, List.set_cons_zero, List.set_cons_succ]
        refine Lex.step_take (.pointer (some ⟨g, 2, none⟩)) hh4 rfl (Lex.want_none rfl) (by intro Wx hSw; (try dsimp only at hSw); go_simp; (try (first | (with_reducible rfl) | assumption | rfl))) ?_
        simp only [Act.put, List.setIfInBounds_toArray, List.set_cons_zero, List.set_cons_succ]
        refine Lex.step_take (.slice (some ⟨g6, 0, none⟩) (n + 1) c6) hh5 rfl (Lex.want_none rfl) (by intro Wx hSw; (try dsimp only at hSw); go_simp; (try (first | (with_reducible rfl) | assumption | rfl))) ?_
        simp only [Act.put, List.setIfInBounds_toArray, List.set_cons_zero, List.set_cons_succ]
        refine Lex.step_take (.int .i64 ((n : Int) + 1)) hh6 rfl (Lex.want_none rfl) (by intro Wx hSw; (try dsimp only at hSw); go_simp; (try (first | (with_reducible rfl) | assumption | rfl))) ?_
        simp only [Act.put, List.setIfInBounds_toArray, List.set_cons_zero, List.set_cons_succ]
        refine Lex.step_take (.int .i64 (n : Int)) hh7 rfl (Lex.want_none rfl) (by intro Wx hSw; (try dsimp only at hSw); go_simp; (try (first | (with_reducible rfl) | assumption | rfl))) ?_
        simp only [Act.put, List.setIfInBounds_toArray, List.set_cons_zero, List.set_cons_succ]
        refine Lex.step_take (.slice A6 nb cb) hh8 rfl (Lex.want_none rfl) (by intro Wx hSw; (try dsimp only at hSw); go_simp; (try (first | (with_reducible rfl) | assumption | rfl))) ?_
        simp only [Act.put, List.setIfInBounds_toArray, List.set_cons_zero, List.set_cons_succ]
        refine Lex.step_call hh3 rfl (Lex.want_none rfl) (fun K hK => ?_)
        go_simp
        refine (refWith_any X1 ⟨lv', nx', bs ++ [[]]⟩ nx _ hbX hn1 (by omega) (by omega) hEa HN.out.1 hca).mono ?_
        rintro e z1 ⟨A7, n7, c7, he, hn7, hc7, hb7, hv⟩
        have hn7 : ((bs ++ [[]]).set nx (fa lv' nx' nx bk)).length = n7 := hn7
        rw [List.length_set, hn1] at hn7
        obtain rfl : n + 1 = n7 := hn7
        have he : e = .returned (.agg #[.int .i64 lv', .int .i64 nx', .slice A7 (n + 1) c7]) := he
        subst he
        have hb7 := hb7.mono (Y := X1) (fun b h => h.elim id (fun h => (HG.out.2 b).2 (Or.inr (Nat.le_trans hszr h))))
        have hEb : HasEX z1 X1 A6 (fb lv' nx' nx bk) := ⟨hEb.1.below hv (Nat.le_refl _), hEb.2⟩
        have x0 := cell_belowB hv x0
        have x1 := cell_belowB hv x1
        have x2 := cell_belowB hv x2
        have hyd := hyd.below hv hyd.lt
        have hszr : g + 2 ≤ _ := Nat.le_trans hszr hv.size
        have hBr := hBr.trans (hv.mono hBr.size)
        clear hv
        refine hK.out _ _ _ (fun _ h => h) ⟨x0, x1, x2⟩ ?_
        clear hK K
        try simp only [Act.put, List.setIfInBounds_toArray, List.set_cons_zero, List.set_cons_succ]
        refine Lex.step_call hh9 rfl (Lex.want_none rfl) (fun K hK => ?_)
        go_simp
        refine (refWith_any X1 (withB ⟨lv', nx', bs ++ [[]]⟩ nx (fa lv' nx' nx bk)) n _ hb7 (by show ((bs ++ [[]]).set nx (fa lv' nx' nx bk)).length = n + 1; rw [List.length_set]; exact hn1) (by omega) (by omega) hEb HN.out.2 hcb).mono ?_
        rintro e z2 ⟨A8, n8, c8, he, hn8, hc8, hb8, hv⟩
        have he : e = .returned (.agg #[.int .i64 lv', .int .i64 nx', .slice A8 n8 c8]) := he
        subst he
        have hb8 := hb8.mono (Y := X1) (fun b h => h.elim id (fun h => (HG.out.2 b).2 (Or.inr (Nat.le_trans hszr h))))
        have x0 := cell_belowB hv x0
        have x1 := cell_belowB hv x1
        have x2 := cell_belowB hv x2
        have hyd := hyd.below hv hyd.lt
        have hszr : g + 2 ≤ _ := Nat.le_trans hszr hv.size
        have hBr := hBr.trans (hv.mono hBr.size)
        clear hv
        have f0 := hyd.c0
        have f1 := hyd.c1
        have f2 := hyd.c2
        have fz0 := hyd.f 0
        have fz1 := hyd.f 1
        have fz2 := hyd.f 2
        refine hK.out _ _ _ (fun _ h => h) ⟨x0, x1, x2⟩ ?_
        clear hK K
        try simp only [Act.put, List.setIfInBounds_toArray, List.set_cons_zero, List.set_cons_succ]
        refine Lex.step_call hh10 rfl (Lex.want_none rfl) (fun K hK => ?_)
        go_simp
        have hw := (((Bar.refl (g + 1) z2).setCell 0 (.int .i64 lv')).setCell 1 (.int .i64 nx')).setCell 2 (.slice A8 n8 c8)
        have x0 := (hw.cell (p := ⟨g, 0, none⟩) (World.block_lt_of_cell? _ _ x0) (by show g ≠ g + 1; omega)).trans x0
        have x1 := (hw.cell (p := ⟨g, 1, none⟩) (World.block_lt_of_cell? _ _ x1) (by show g ≠ g + 1; omega)).trans x1
        have x2 := (hw.cell (p := ⟨g, 2, none⟩) (World.block_lt_of_cell? _ _ x2) (by show g ≠ g + 1; omega)).trans x2
        refine hK.out _ _ _ (fun _ h => h) ⟨x0, x1, x2⟩ ?_
        clear hK K
        try simp only [Act.put, List.setIfInBounds_toArray, List.set_cons_zero, List.set_cons_succ]
        refine NoPanic.normal ?_
        have hB9 := ((hBr.setCell (p := ⟨g + 1, 0, none⟩) (by show w.heap.size ≤ g + 1; have := HG.out.1; omega) (.int .i64 lv')).setCell (p := ⟨g + 1, 1, none⟩) (by show w.heap.size ≤ g + 1; have := HG.out.1; omega) (.int .i64 nx')).setCell (p := ⟨g + 1, 2, none⟩) (by show w.heap.size ≤ g + 1; have := HG.out.1; omega) (.slice A8 n8 c8)
        have H9 := Lib.hid (((hyd.set0 (.int .i64 lv')).set1 (.int .i64 nx')).set2 (.slice A8 n8 c8))
        have hb9 := (hb8.bar (fun h => by rcases (HG.out.2 _).1 h with h | h <;> omega) hw).mono (Y := fun b => X b ∨ w.heap.size ≤ b) (fun b h => by
          rcases (HG.out.2 b).1 h with h | h
          · exact Or.inl h.1
          · exact Or.inr (by have := HG.out.1; omega))
        have HE := Lib.hid (show HashPost X (halveH spread ⟨lv, nx, bs⟩) w (.returned (.agg #[.int .i64 lv', .int .i64 nx', .slice A8 n8 c8])) _ from by rw [HEQ.out, hn0]; exact ⟨A8, n8, c8, rfl, hn8, hc8, hb9, hB9⟩)
        rw [HPE.out] at HE
        clear hBr hB9 hyd hb7 hb8 hb9 hbX hw hEa hEb
        go_wp2
        refine bodyPost_ret (results_hash rfl _ _ (g + 1) _ _ _ rfl H9.out.c0 H9.out.c1 H9.out.c2) rfl ?_
        exact HE.out
  · rename (((nx : Int) + 1) == wrap64 ((2 : Int) ^ lv)) = false => h
    have hst : stepL lv nx = (lv, nx + 1) := by
      unfold stepL
      rw [if_neg (step_false hl8 h)]
    clear h
    obtain ⟨hxd, hyd, hownd, hBd, hbar9, hsz9⟩ := HR9.out
    have hxd : Box3 _ g (.int .i64 (lv : Int)) (.int .i64 ((nx + 1 : Nat) : Int)) (.slice (some ⟨g6, 0, none⟩) (n + 1) c6) := hxd
    have hszd : g + 2 ≤ _ := Nat.le_trans hsz9 hbar9.size
    have hlvd : lv ≤ 8 := by omega
    have hnxd : nx + 1 ≤ 1000 := by omega
    generalize nx + 1 = nx' at hst hxd hnxd
    obtain ⟨lv', hlv2⟩ : ∃ l, l = lv := ⟨_, rfl⟩
    have hst : stepL lv nx = (lv', nx') := by rw [hlv2]; exact hst
    rw [← hlv2] at hxd hlvd
    generalize (y7.setCell ⟨g, 2, none⟩ (.slice (some ⟨g6, 0, none⟩) (n + 1) c6)).setCell ⟨g, 1, none⟩ (.int .i64 ((nx : Int) + 1)) = wd at hxd hyd hownd hBd hszd ⊢
    clear hbar9 hsz9 x2 x2f u0 u1 u1f t0 t1 t0f t1f e9 HR9 hlv2
    obtain ⟨hhs, hall, hXA, hlen⟩ := HX.out.2.2.2
    have hbX := row_x hhs hall hXA hlen hownd (fun b hb => (HG.out.2 b).2 (Or.inr (Nat.le_trans hsz hb))) hBd
    obtain ⟨hbX, hc6⟩ := hbX
    obtain ⟨hr1, hn, hbk, hm, hks⟩ := HBK.out
    have hr1 := hr1.below hBd (Nat.le_refl _)
    have HS := Lib.hid (And.intro hxd (And.intro hyd (And.intro hbX (And.intro hBd (And.intro hszd hr1)))))
    have HEQ := Lib.hid (halve_eq hlv7 hst hbk)
    clear hhs hall hXA hlen hownd hbX hn hbk hxd hyd hBd hszd hr1 hst
    go_loopw [5, 6, 7] (fun xa xb i wr => ∃ (q na nb : Nat) (sva svb : Value), q ≤ m ∧ i = .int .i64 q ∧ xa = sva ∧ xb = svb ∧ na ≤ q ∧ nb ≤ q ∧ wr.ownsRow wd.heap.size 51 3 sva na (Li.cellsL cellsE (fa lv' nx' nx (bk.take q))) ∧ wr.ownsRow wd.heap.size 51 3 svb nb (Li.cellsL cellsE (fb lv' nx' nx (bk.take q))) ∧ Hid ((fa lv' nx' nx (bk.take q)).length = na ∧ (fb lv' nx' nx (bk.take q)).length = nb) ∧ Apart sva svb ∧ Below wd.heap.size wd wr) (fun _ _ i _ => m - (intOf i).toNat)
    case atStart => exact ⟨0, 0, 0, _, _, Nat.zero_le _, rfl, rfl, rfl, Nat.le_refl _, Nat.le_refl _, World.ownsRow_nil _ _ _ _, World.ownsRow_nil _ _ _ _, Lib.hid ⟨rfl, rfl⟩, fun k hk => by simp [Value.ownBlock] at hk, Below.refl _ _⟩
    case round =>
      obtain ⟨q, na, nb, sva, svb, hq, rfl, rfl, rfl, hna, hnb, hownA, hownB, HL, hD, hyb⟩ := hrel
      by_cases hlt : q < m
      · have hgt := List.getElem?_eq_getElem (l := bk) (i := q) (by rw [hm]; exact hlt)
        generalize (bk[q]'(by rw [hm]; exact hlt)) = x at hgt
        have hr := HS.out.2.2.2.2.2.below hyb (Nat.le_refl _)
        obtain ⟨b1, o1, rfl, _, hlb1, d0, d1, d2⟩ := HasE.at hr hgt
        have hkx := hks _ (List.mem_of_getElem? hgt)
        have HTK := Lib.hid (take_snoc hgt)
        obtain ⟨ek, et, es⟩ := x
        simp only at d0 d1 d2 hkx
        have hcW := fun W : World => refWhere_any lv' nx' ek W hlvd hnxd hkx
        obtain ⟨c, hc⟩ : ∃ c, atN lv' nx' (spread ek.data.toList) = c := ⟨_, rfl⟩
        rw [hc] at hcW
        obtain ⟨rb, hrb⟩ : ∃ rb, ((c : Int) == (nx : Int)) = rb := ⟨_, rfl⟩
        have hxg := HS.out.1.below hyb HS.out.1.lt
        have x0 := hxg.c0
        have x1 := hxg.c1
        have j1 : (q : Int) < (m : Int) := by omega
        have j0 : (0 : Int) ≤ (q : Int) := by omega
        have HC := Lib.hid hc
        clear hgt hr hxg hc
        go_wp2_with fail
        have hdr := (Below.refl wr.heap.size wr).drew
        refine Lex.region_lex (ops := hkops) (calls := hkcalls) hkord (fun W => W.cell? ⟨g, 0, none⟩ = some (.int .i64 (lv' : Int)) ∧ W.cell? ⟨g, 1, none⟩ = some (.int .i64 (nx' : Int)) ∧ W.cell? ⟨b1, o1 + q * 3, none⟩ = some (.string ek)) (by kernel_rfl) (by kernel_rfl) hksel (by kernel_rfl) (by kernel_rfl) hklex (⟨cell_belowB hdr x0, cell_belowB hdr x1, cell_belowB hdr d0⟩) ?_
        unfold hkord
        have x0 := cell_belowB hdr x0
        have x1 := cell_belowB hdr x1
        have d0 := cell_belowB hdr d0
        have d1 := cell_belowB hdr d1
        have d2 := cell_belowB hdr d2
        have hownA := Li.own_below hownA hdr (Nat.le_refl _)
        have hownB := Li.own_below hownB hdr (Nat.le_refl _)
        have hyb := hyb.trans (hdr.mono hyb.size)
        clear hdr
        refine Lex.step_take (.pointer (some ⟨g, 0, none⟩)) hk0 rfl (Lex.want_none rfl) (by intro Wx hSw; (try dsimp only at hSw); go_simp; (try (first | (with_reducible rfl) | assumption | rfl))) ?_
        simp only [Act.put, List.setIfInBounds_toArray, List.set_cons_zero, List.set_cons_succ]
        refine Lex.step_take (.int .i64 (lv' : Int)) hk1 rfl (Lex.want_none rfl) (by intro Wx hSw; (try dsimp only at hSw); go_simp; (try (first | (with_reducible rfl) | assumption | rfl))) ?_
        simp only [Act.put, List.setIfInBounds_toArray, List.set_cons_zero, List.set_cons_succ]
        refine Lex.step_take (.pointer (some ⟨g, 1, none⟩)) hk2 rfl (Lex.want_none rfl) (by intro Wx hSw; (try dsimp only at hSw); go_simp; (try (first | (with_reducible rfl) | assumption | rfl))) ?_
        simp only [Act.put, List.setIfInBounds_toArray, List.set_cons_zero, List.set_cons_succ]
        refine Lex.step_take (.int .i64 (nx' : Int)) hk3 rfl (Lex.want_none rfl) (by intro Wx hSw; (try dsimp only at hSw); go_simp; (try (first | (with_reducible rfl) | assumption | rfl))) ?_
        simp only [Act.put, List.setIfInBounds_toArray, List.set_cons_zero, List.set_cons_succ]
        refine Lex.step_take (.slice (some ⟨b1, o1, none⟩) m c3) hk4 rfl (Lex.want_none rfl) (by intro Wx hSw; (try dsimp only at hSw); go_simp; (try (first | (with_reducible rfl) | assumption | rfl))) ?_
        simp only [Act.put, List.setIfInBounds_toArray, List.set_cons_zero, List.set_cons_succ]
        refine Lex.step_take (.int .i64 (q : Int)) hk5 rfl (Lex.want_none rfl) (by intro Wx hSw; (try dsimp only at hSw); go_simp; (try (first | (with_reducible rfl) | assumption | rfl))) ?_
        simp only [Act.put, List.setIfInBounds_toArray, List.set_cons_zero, List.set_cons_succ]
        refine Lex.step_take (.pointer (some ⟨b1, o1 + q * 3, none⟩)) hk6 rfl (Lex.want_none rfl) (by intro Wx hSw; (try dsimp only at hSw); go_simp; (try (first | (with_reducible rfl) | assumption | rfl))) ?_
        simp only [Act.put, List.setIfInBounds_toArray, List.set_cons_zero, List.set_cons_succ]
        refine Lex.step_take (.pointer (some ⟨b1, o1 + q * 3, none⟩)) hk7 rfl (Lex.want_none rfl) (by intro Wx hSw; (try dsimp only at hSw); go_simp; (try (first | (with_reducible rfl) | assumption | rfl))) ?_
        simp only [Act.put, List.setIfInBounds_toArray, List.set_cons_zero, List.set_cons_succ]
        refine Lex.step_take (.string ek) hk8 rfl (Lex.want_none rfl) (by intro Wx hSw; (try dsimp only at hSw); go_simp; (try (first | (with_reducible rfl) | assumption | rfl))) ?_
        simp only [Act.put, List.setIfInBounds_toArray, List.set_cons_zero, List.set_cons_succ]
        refine Lex.step_take (.int .i64 (nx : Int)) hk10 rfl (Lex.want_none rfl) (by intro Wx hSw; (try dsimp only at hSw); go_simp; (try (first | (with_reducible rfl) | assumption | rfl))) ?_
        simp only [Act.put, List.setIfInBounds_toArray, List.set_cons_zero, List.set_cons_succ]
        refine Lex.step_call hk9 rfl (Lex.want_none rfl) (fun K hK => ?_)
        go_simp
        refine (hcW _).mono ?_
        rintro e y1 ⟨rfl, hv⟩
        have x0 := cell_belowB hv x0
        have x1 := cell_belowB hv x1
        have d0 := cell_belowB hv d0
        have d1 := cell_belowB hv d1
        have d2 := cell_belowB hv d2
        have hownA := Li.own_below hownA hv (Nat.le_refl _)
        have hownB := Li.own_below hownB hv (Nat.le_refl _)
        have hyb := hyb.trans (hv.mono hyb.size)
        clear hv
        refine hK.out _ _ _ (fun _ h => h) ⟨x0, x1, d0⟩ ?_
        clear hK K
        try simp only [Act.put, List.setIfInBounds_toArray, List.set_cons_zero, List.set_cons_succ]
        refine Lex.step_take (.bool rb) hk11 rfl (Lex.want_none rfl) (by intro Wx hSw; (try dsimp only at hSw); go_simp; (try (first | (with_reducible rfl) | assumption | rfl))) ?_
        simp only [Act.put, List.setIfInBounds_toArray, List.set_cons_zero, List.set_cons_succ]
        refine NoPanic.normal ?_
        clear hcW
        cases rb
        · have hF : fa lv' nx' nx (bk.take (q + 1)) = fa lv' nx' nx (bk.take q) ∧ fb lv' nx' nx (bk.take (q + 1)) = fb lv' nx' nx (bk.take q) ++ [⟨ek, et, es⟩] := by
            rw [HTK.out]
            refine fa_out ?_
            show ¬ atN lv' nx' (spread ek.data.toList) = nx
            rw [HC.out]
            have := beq_eq_false_iff_ne.1 hrb
            omega
          clear hrb
          have HW := Lib.hid (And.intro (hownB.alloc (.cells #[.string ek, .int .i64 et, .int .i64 es] 51)) (And.intro (hownA.alloc (.cells #[.string ek, .int .i64 et, .int .i64 es] 51)) (And.intro (hyb.alloc hyb.size (.cells #[.string ek, .int .i64 et, .int .i64 es] 51)) (heap_alloc_new y1 (.cells #[.string ek, .int .i64 et, .int .i64 es] 51)))))
          have HF := Lib.hid hF
          clear hownA hownB hyb hF
          go_wp2_with (at_builtin; go_must (refine wpList_append_own_at _ rfl _ _ 42 rfl wd.heap.size 51 iE (.agg #[.string ⟨#[]⟩, .int .i64 0, .int .i64 0]) 3 32 Try.underlying42 hiE hv0 hv1 hv2 rfl (by decide) u6 nb (Li.cellsL cellsE (fb lv' nx' nx (bk.take q))) rfl HW.out.1 ⟨y1.heap.size, 0, none⟩ 1 1 [.string ek, .int .i64 et, .int .i64 es] (by go_simp) rfl (World.news_of_block HW.out.2.2.2) (by simp [Value.oneCell']) (by unfold maxLen; omega) (by omega) HW.out.2.2.1.size ?_))
          intro v5 y5 hown5 hgrow5 _ hblk
          obtain ⟨hownV, hownO, hybW, _⟩ := HW.out
          have hO5 := Li.own_other hownO hgrow5 (hD.symm).other
          have hD5 := (hD.symm).next hownO (hblk.imp id (fun h => by rw [h]; simp))
          have hb5 := hybW.grown hgrow5 hybW.size (fun k hk => (hownV.lt k hk).1)
          have hR5 := (Li.cellsL_snoc (R := cellsE) (fb lv' nx' nx (bk.take q)) ⟨ek, et, es⟩)
          clear hownV hownO hybW hgrow5 HW x0 x1 d0 d1 d2 hblk
          go_wp2
          go_roundw
          case rel =>
            have hF := HF.out
            exact ⟨q + 1, na, nb + 1, u5, _, by omega, by go_num, rfl, rfl, by omega, by omega, by rw [hF.1]; exact hO5, by rw [hF.2]; exact hR5 ▸ hown5, Lib.hid ⟨by rw [hF.1]; exact HL.out.1, by rw [hF.2, List.length_append, HL.out.2]; rfl⟩, hD5.symm, hb5⟩
          case measure => simp [intOf]; omega
        · have hF : fa lv' nx' nx (bk.take (q + 1)) = fa lv' nx' nx (bk.take q) ++ [⟨ek, et, es⟩] ∧ fb lv' nx' nx (bk.take (q + 1)) = fb lv' nx' nx (bk.take q) := by
            rw [HTK.out]
            refine fa_in ?_
            show atN lv' nx' (spread ek.data.toList) = nx
            rw [HC.out]
            have := eq_of_beq hrb
            omega
          clear hrb
          have HW := Lib.hid (And.intro (hownA.alloc (.cells #[.string ek, .int .i64 et, .int .i64 es] 51)) (And.intro (hownB.alloc (.cells #[.string ek, .int .i64 et, .int .i64 es] 51)) (And.intro (hyb.alloc hyb.size (.cells #[.string ek, .int .i64 et, .int .i64 es] 51)) (heap_alloc_new y1 (.cells #[.string ek, .int .i64 et, .int .i64 es] 51)))))
          have HF := Lib.hid hF
          clear hownA hownB hyb hF
          go_wp2_with (at_builtin; go_must (refine wpList_append_own_at _ rfl _ _ 42 rfl wd.heap.size 51 iE (.agg #[.string ⟨#[]⟩, .int .i64 0, .int .i64 0]) 3 32 Try.underlying42 hiE hv0 hv1 hv2 rfl (by decide) u5 na (Li.cellsL cellsE (fa lv' nx' nx (bk.take q))) rfl HW.out.1 ⟨y1.heap.size, 0, none⟩ 1 1 [.string ek, .int .i64 et, .int .i64 es] (by go_simp) rfl (World.news_of_block HW.out.2.2.2) (by simp [Value.oneCell']) (by unfold maxLen; omega) (by omega) HW.out.2.2.1.size ?_))
          intro v5 y5 hown5 hgrow5 _ hblk
          obtain ⟨hownV, hownO, hybW, _⟩ := HW.out
          have hO5 := Li.own_other hownO hgrow5 (hD).other
          have hD5 := (hD).next hownO (hblk.imp id (fun h => by rw [h]; simp))
          have hb5 := hybW.grown hgrow5 hybW.size (fun k hk => (hownV.lt k hk).1)
          have hR5 := (Li.cellsL_snoc (R := cellsE) (fa lv' nx' nx (bk.take q)) ⟨ek, et, es⟩)
          clear hownV hownO hybW hgrow5 HW x0 x1 d0 d1 d2 hblk
          go_wp2
          go_roundw
          case rel =>
            have hF := HF.out
            exact ⟨q + 1, na + 1, nb, _, u6, by omega, by go_num, rfl, rfl, by omega, by omega, by rw [hF.1]; exact hR5 ▸ hown5, by rw [hF.2]; exact hO5, Lib.hid ⟨by rw [hF.1, List.length_append, HL.out.1]; rfl, by rw [hF.2]; exact HL.out.2⟩, hD5, hb5⟩
          case measure => simp [intOf]; omega
      · obtain rfl : m = q := by omega
        rw [List.take_of_length_le (by rw [hm]; exact Nat.le_refl _)] at hownA hownB HL
        obtain ⟨A5, ca, rfl, hca, hla⟩ := Li.list_of_own cellsE_len hownA HL.out.1
        obtain ⟨A6, cb, rfl, hcb, hlb'⟩ := Li.list_of_own cellsE_len hownB HL.out.2
        have HN := HL
        obtain ⟨hxd, hyd, hbX, hBd, hszd, _⟩ := HS.out
        have hszr : g + 2 ≤ wr.heap.size := Nat.le_trans hszd hyb.size
        have hEa : HasEX wr X1 A5 (fa lv' nx' nx bk) := ⟨hla.lower (Nat.zero_le _), fun hn b o s e => (HG.out.2 b).2 (Or.inr (Nat.le_trans hszd (adr_lt hla hn b o s e).1))⟩
        have hEb : HasEX wr X1 A6 (fb lv' nx' nx bk) := ⟨hlb'.lower (Nat.zero_le _), fun hn b o s e => (HG.out.2 b).2 (Or.inr (Nat.le_trans hszd (adr_lt hlb' hn b o s e).1))⟩
        have hbX := hbX.below hyb (Nat.le_refl _)
        have hyd := hyd.below hyb hyd.lt
        have hBr := hBd.trans (hyb.mono hBd.size)
        have hxr := hxd.below hyb hxd.lt
        have x0 := hxr.c0
        have x1 := hxr.c1
        have x2 := hxr.c2
        have hn0 := HBK.out.2.1
        have hn1 : (bs ++ [[]]).length = n + 1 := by rw [List.length_append, hn0]; rfl
        have z1 : (n : Int) + 1 - 1 = (n : Int) := by omega
        have z2 : IntKind.i64.wrap (n : Int) = (n : Int) := IntWalk.i64_in _ (by omega)
        clear hownA hownB hla hlb' hyb hxr hxd hBd hszd hD
        go_wp2_with fail
        have hdr := (Below.refl wr.heap.size wr).drew
        have hdr2 := hdr
        refine Lex.region_lex (ops := hhops) (calls := hhcalls) hhord (fun W => W.cell? ⟨g, 0, none⟩ = some (.int .i64 (lv' : Int)) ∧ W.cell? ⟨g, 1, none⟩ = some (.int .i64 (nx' : Int)) ∧ W.cell? ⟨g, 2, none⟩ = some (.slice (some ⟨g6, 0, none⟩) (n + 1) c6)) (by kernel_rfl) (by kernel_rfl) hhsel (by kernel_rfl) (by kernel_rfl) hhlex (⟨cell_belowB hdr x0, cell_belowB hdr x1, cell_belowB hdr x2⟩) ?_
        unfold hhord
        have x0 := cell_belowB hdr x0
        have x1 := cell_belowB hdr x1
        have x2 := cell_belowB hdr x2
        have hbX := hbX.below hdr (Nat.le_refl _)
        have hyd := hyd.below hdr hyd.lt
        have hszr : g + 2 ≤ _ := Nat.le_trans hszr hdr.size
        have hBr := hBr.trans (hdr.mono hBr.size)
        clear hdr
        have hEa : HasEX _ X1 A5 (fa lv' nx' nx bk) := ⟨hEa.1.below hdr2 (Nat.le_refl _), hEa.2⟩
        have hEb : HasEX _ X1 A6 (fb lv' nx' nx bk) := ⟨hEb.1.below hdr2 (Nat.le_refl _), hEb.2⟩
        refine Lex.step_take (.agg #[.int .i64 (lv' : Int), .int .i64 (nx' : Int), .slice (some ⟨g6, 0, none⟩) (n + 1) c6]) hh0 rfl (Lex.want_none rfl) (by intro Wx hSw; (try dsimp only at hSw); go_simp; (try (first | (with_reducible rfl) | assumption | rfl))) ?_
        simp only [Act.put, List.setIfInBounds_toArray, List.set_cons_zero, List.set_cons_succ]
        refine Lex.step_take (.int .i64 (nx : Int)) hh1 rfl (Lex.want_none rfl) (by intro Wx hSw; (try dsimp only at hSw); go_simp; (try (first | (with_reducible rfl) | assumption | rfl))) ?_
        simp only [Act.put, List.setIfInBounds_toArray, List.set_cons_zero, List.set_cons_succ]
        refine Lex.step_take (.slice A5 na ca) hh2 rfl (Lex.want_none rfl) (by intro Wx hSw; (try dsimp only at hSw); go_simp; (try (first | (with_reducible rfl) | assumption | rfl))) ?_
        simp only [Act.put, List.setIfInBounds_toArray, List.set_cons_zero, List.set_cons_succ]
        refine Lex.step_take (.pointer (some ⟨g, 2, none⟩)) hh4 rfl (Lex.want_none rfl) (by intro Wx hSw; (try dsimp only at hSw); go_simp; (try (first | (with_reducible rfl) | assumption | rfl))) ?_
        simp only [Act.put, List.setIfInBounds_toArray, List.set_cons_zero, List.set_cons_succ]
        refine Lex.step_take (.slice (some ⟨g6, 0, none⟩) (n + 1) c6) hh5 rfl (Lex.want_none rfl) (by intro Wx hSw; (try dsimp only at hSw); go_simp; (try (first | (with_reducible rfl) | assumption | rfl))) ?_
        simp only [Act.put, List.setIfInBounds_toArray, List.set_cons_zero, List.set_cons_succ]
        refine Lex.step_take (.int .i64 ((n : Int) + 1)) hh6 rfl (Lex.want_none rfl) (by intro Wx hSw; (try dsimp only at hSw); go_simp; (try (first | (with_reducible rfl) | assumption | rfl))) ?_
        simp only [Act.put, List.setIfInBounds_toArray, List.set_cons_zero, List.set_cons_succ]
        refine Lex.step_take (.int .i64 (n : Int)) hh7 rfl (Lex.want_none rfl) (by intro Wx hSw; (try dsimp only at hSw); go_simp; (try (first | (with_reducible rfl) | assumption | rfl))) ?_
        simp only [Act.put, List.setIfInBounds_toArray, List.set_cons_zero, List.set_cons_succ]
        refine Lex.step_take (.slice A6 nb cb) hh8 rfl (Lex.want_none rfl) (by intro Wx hSw; (try dsimp only at hSw); go_simp; (try (first | (with_reducible rfl) | assumption | rfl))) ?_
        simp only [Act.put, List.setIfInBounds_toArray, List.set_cons_zero, List.set_cons_succ]
        refine Lex.step_call hh3 rfl (Lex.want_none rfl) (fun K hK => ?_)
        go_simp
        refine (refWith_any X1 ⟨lv', nx', bs ++ [[]]⟩ nx _ hbX hn1 (by omega) (by omega) hEa HN.out.1 hca).mono ?_
        rintro e z1 ⟨A7, n7, c7, he, hn7, hc7, hb7, hv⟩
        have hn7 : ((bs ++ [[]]).set nx (fa lv' nx' nx bk)).length = n7 := hn7
        rw [List.length_set, hn1] at hn7
        obtain rfl : n + 1 = n7 := hn7
        have he : e = .returned (.agg #[.int .i64 lv', .int .i64 nx', .slice A7 (n + 1) c7]) := he
        subst he
        have hb7 := hb7.mono (Y := X1) (fun b h => h.elim id (fun h => (HG.out.2 b).2 (Or.inr (Nat.le_trans hszr h))))
        have hEb : HasEX z1 X1 A6 (fb lv' nx' nx bk) := ⟨hEb.1.below hv (Nat.le_refl _), hEb.2⟩
        have x0 := cell_belowB hv x0
        have x1 := cell_belowB hv x1
        have x2 := cell_belowB hv x2
        have hyd := hyd.below hv hyd.lt
        have hszr : g + 2 ≤ _ := Nat.le_trans hszr hv.size
        have hBr := hBr.trans (hv.mono hBr.size)
        clear hv
        refine hK.out _ _ _ (fun _ h => h) ⟨x0, x1, x2⟩ ?_
        clear hK K
        try simp only [Act.put, List.setIfInBounds_toArray, List.set_cons_zero, List.set_cons_succ]
        refine Lex.step_call hh9 rfl (Lex.want_none rfl) (fun K hK => ?_)
        go_simp
        refine (refWith_any X1 (withB ⟨lv', nx', bs ++ [[]]⟩ nx (fa lv' nx' nx bk)) n _ hb7 (by show ((bs ++ [[]]).set nx (fa lv' nx' nx bk)).length = n + 1; rw [List.length_set]; exact hn1) (by omega) (by omega) hEb HN.out.2 hcb).mono ?_
        rintro e z2 ⟨A8, n8, c8, he, hn8, hc8, hb8, hv⟩
        have he : e = .returned (.agg #[.int .i64 lv', .int .i64 nx', .slice A8 n8 c8]) := he
        subst he
        have hb8 := hb8.mono (Y := X1) (fun b h => h.elim id (fun h => (HG.out.2 b).2 (Or.inr (Nat.le_trans hszr h))))
        have x0 := cell_belowB hv x0
        have x1 := cell_belowB hv x1
        have x2 := cell_belowB hv x2
        have hyd := hyd.below hv hyd.lt
        have hszr : g + 2 ≤ _ := Nat.le_trans hszr hv.size
        have hBr := hBr.trans (hv.mono hBr.size)
        clear hv
        have f0 := hyd.c0
        have f1 := hyd.c1
        have f2 := hyd.c2
        have fz0 := hyd.f 0
        have fz1 := hyd.f 1
        have fz2 := hyd.f 2
        refine hK.out _ _ _ (fun _ h => h) ⟨x0, x1, x2⟩ ?_
        clear hK K
        try simp only [Act.put, List.setIfInBounds_toArray, List.set_cons_zero, List.set_cons_succ]
        refine Lex.step_call hh10 rfl (Lex.want_none rfl) (fun K hK => ?_)
        go_simp
        have hw := (((Bar.refl (g + 1) z2).setCell 0 (.int .i64 lv')).setCell 1 (.int .i64 nx')).setCell 2 (.slice A8 n8 c8)
        have x0 := (hw.cell (p := ⟨g, 0, none⟩) (World.block_lt_of_cell? _ _ x0) (by show g ≠ g + 1; omega)).trans x0
        have x1 := (hw.cell (p := ⟨g, 1, none⟩) (World.block_lt_of_cell? _ _ x1) (by show g ≠ g + 1; omega)).trans x1
        have x2 := (hw.cell (p := ⟨g, 2, none⟩) (World.block_lt_of_cell? _ _ x2) (by show g ≠ g + 1; omega)).trans x2
        refine hK.out _ _ _ (fun _ h => h) ⟨x0, x1, x2⟩ ?_
        clear hK K
        try simp only [Act.put, List.setIfInBounds_toArray, List.set_cons_zero, List.set_cons_succ]
        refine NoPanic.normal ?_
        have hB9 := ((hBr.setCell (p := ⟨g + 1, 0, none⟩) (by show w.heap.size ≤ g + 1; have := HG.out.1; omega) (.int .i64 lv')).setCell (p := ⟨g + 1, 1, none⟩) (by show w.heap.size ≤ g + 1; have := HG.out.1; omega) (.int .i64 nx')).setCell (p := ⟨g + 1, 2, none⟩) (by show w.heap.size ≤ g + 1; have := HG.out.1; omega) (.slice A8 n8 c8)
        have H9 := Lib.hid (((hyd.set0 (.int .i64 lv')).set1 (.int .i64 nx')).set2 (.slice A8 n8 c8))
        have hb9 := (hb8.bar (fun h => by rcases (HG.out.2 _).1 h with h | h <;> omega) hw).mono (Y := fun b => X b ∨ w.heap.size ≤ b) (fun b h => by
          rcases (HG.out.2 b).1 h with h | h
          · exact Or.inl h.1
          · exact Or.inr (by have := HG.out.1; omega))
        have HE := Lib.hid (show HashPost X (halveH spread ⟨lv, nx, bs⟩) w (.returned (.agg #[.int .i64 lv', .int .i64 nx', .slice A8 n8 c8])) _ from by rw [HEQ.out, hn0]; exact ⟨A8, n8, c8, rfl, hn8, hc8, hb9, hB9⟩)
        rw [HPE.out] at HE
        clear hBr hB9 hyd hb7 hb8 hb9 hbX hw hEa hEb
        go_wp2
        refine bodyPost_ret (results_hash rfl _ _ (g + 1) _ _ _ rfl H9.out.c0 H9.out.c1 H9.out.c2) rfl ?_
        exact HE.out
end
end Go.Proofs.Ytocmkjccaajnnaa.Ha
