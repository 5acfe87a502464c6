/- What counts behind any heads that were put: the law, walked. -/
import Derived.Test.YtdbemkdfndjakaaDoorHdQ
import Derived.Test.YtdbemkdfndjakaaDoorXho
import Derived.Test.YtdbemkdfndjakaaDoorMgJ
import Derived.Deep.DeepCutAuto
import Derived.Deep.CutRange
namespace Go.Proofs.YtdbemkdfndjakaaDoor.Hd
open Go.RowKit Tal Sla Fr Lex
theorem box3_butN {w w' : World} {g g2 : Nat} {v0 v1 v2 : Value} (h : Box3 w g v0 v1 v2) (hb : But g2 w w') (hne : g ≠ g2) : Box3 w' g v0 v1 v2 :=
  ⟨(hb.cell (p := ⟨g, 0, none⟩) hne).trans h.c0, (hb.cell (p := ⟨g, 1, none⟩) hne).trans h.c1, (hb.cell (p := ⟨g, 2, none⟩) hne).trans h.c2⟩
theorem sameDev {v v' : Value} {D : Dev} {w : World} {K : Nat} (h : IsDev w v D) (h' : IsDev w v' D) (hok : D.Ok K) (hK : K ≤ 100000) :
    Calls Tryd.prog 26 #[v, v'] w fun e w' => e = .returned (.bool true) ∧ Below w.heap.size w w' := by
  obtain ⟨b, B, c, k, rfl, hlt, _, hc, hl, _⟩ := h
  obtain ⟨b', B', c', k', rfl, hlt', _, hc', hl', _⟩ := h'
  have := hok.m2
  exact same_late b c b' c' D.n D.m k k' B B' D.S D.LA D.LD D.dead D.left D.deeds w hok.n2 (by omega) hlt hlt' hc hc' hl hl'
theorem newestR_ok {D : Dev} {K : Nat} (h : D.Ok K) : (newestR D).1.Ok (K + 2) ∧ (newestR D).1.n = D.n := by
  unfold newestR
  split
  · exact ⟨(DQ_ok h 1).more (by omega), DQ_n D 1⟩
  · split
    · exact ⟨DQ_ok h 2, DQ_n D 2⟩
    · split <;> exact ⟨DQ_ok h 2, DQ_n D 2⟩
/-- A device of which one sector was changed. -/
def bentD (D : Dev) (x : Nat) (d : ByteArray) : Dev := { D with S := fun j => if j = x then d else D.S j }
theorem bentD_ok {D : Dev} {K x : Nat} {d : ByteArray} (h : D.Ok K) (hd : d.size = 256) : (bentD D x d).Ok K :=
  { h with sz := fun j hj => by show (if j = x then d else D.S j).size = 256; split; exact hd; exact h.sz j hj }
theorem bent_dev {w : World} {g cap k n m x : Nat} {B : Option Addr} {S : Nat → ByteArray} {LA : Nat → Int} {LD : Nat → ByteArray} {dead : Bool} {left deeds : Int} {d : ByteArray} (hr : StrRow w g n (fun j => if j = x then d else S j)) (hc : n ≤ cap)
    (hl : HasLate w B m LA LD) (h0 : m = 0 → B = none ∧ k = 0) : IsDev w (.agg #[.slice (some ⟨g, 0, none⟩) n cap, .slice B m k, .bool dead, .int .i64 left, .int .i64 deeds]) (bentD ⟨n, S, m, LA, LD, dead, left, deeds⟩ x d) :=
  ⟨g, B, cap, k, rfl, hr.1, hc, hr.2.1, hl, h0⟩
/-- Bytes in a block, each of which may be written. -/
def BytS (w : World) (g : Nat) (l : List UInt8) : Prop := ∀ (j : Nat) (b : UInt8), l[j]? = some b → w.cell? ⟨g, j, none⟩ = some (.int .u8 (b.toNat : Int)) ∧ w.frozen? ⟨g, j, none⟩ = false
section
variable {w : World} {g : Nat} {l : List UInt8}
theorem BytS.below {w' : World} {B : Nat} (h : BytS w g l) (hb : Below B w w') (hg : g < B) : BytS w' g l := fun j b hj => ⟨(hb.cell (p := ⟨g, j, none⟩) hg).trans (h j b hj).1, (hb.frozen (p := ⟨g, j, none⟩) hg).trans (h j b hj).2⟩
theorem BytS.set (h : BytS w g l) (p : Nat) (b : UInt8) : BytS (w.setCell ⟨g, p, none⟩ (.int .u8 (b.toNat : Int))) g (l.set p b) := fun j c hj => by
  by_cases e : p = j
  · subst e
    have hp : p < l.length := by have := (List.getElem?_eq_some_iff.1 hj).1; rw [List.length_set] at this; exact this
    rw [List.getElem?_set_self hp] at hj
    injection hj with hj
    subst hj
    have h0 := h p _ (List.getElem?_eq_getElem hp)
    exact ⟨World.cell?_setCell_same _ _ _ h0.1, by simp [h0.2]⟩
  · rw [List.getElem?_set_ne e] at hj
    have h0 := h j c hj
    exact ⟨(World.cell?_setCell_other _ _ _ _ (fun q => e (by injection q))).trans h0.1, by simp [h0.2]⟩
theorem BytS.but {w' : World} {g2 : Nat} (h : BytS w g l) (hb : But g2 w w') (hne : g ≠ g2) (hf : ∀ j, w'.frozen? ⟨g, j, none⟩ = w.frozen? ⟨g, j, none⟩) : BytS w' g l := fun j b hj => ⟨(hb.cell (p := ⟨g, j, none⟩) hne).trans (h j b hj).1, (hf j).trans (h j b hj).2⟩
theorem BytS.string (h : BytS w g l) (cap : Nat) {n : Nat} (hn : l.length = n) :
    (convert 42 9 (.slice (some ⟨g, 0, none⟩) n cap)).run Tryd.prog w = .ok (.string ⟨l.toArray⟩) w := by
  subst hn
  exact run_convert_bytes_back (P := Tryd.prog) w 42 9 5 ⟨g, 0, none⟩ cap l Tryd.underlying42 Tryd.underlying5 Tryd.underlying9 (fun j hj => by
    rw [Sla.add_zero_off]
    exact (h j _ (List.getElem?_eq_getElem hj)).1)
theorem bytes_newS (s : ByteArray) (w : World) : ∃ (W : World) (cap : Nat), (convert 9 42 (.string s)).run Tryd.prog w = .ok (.slice (some ⟨w.heap.size, 0, none⟩) s.size cap) W ∧ BytS W w.heap.size s.data.toList ∧ Below w.heap.size w W ∧ s.size ≤ cap := by
  obtain ⟨W, cap, h1, h2, h3, h4⟩ := bytes_new s w
  refine ⟨W, cap, h1, fun j b hj => ?_, h4, h2⟩
  have hjs : j < s.size := by have := (List.getElem?_eq_some_iff.1 hj).1; simpa using this
  have := h3 j hjs
  rw [List.getD_eq_getElem?_getD, hj] at this
  exact this
end
/-- What holds while the law changes the device. -/
structure NewS (w : World) (h : H) (v0 v1 v2 : Value) (D : Dev) (g4 g5 gq : Nat) (A4 : Option Addr) (n4 c4 : Nat) (B4 : Option Addr) (m4 k4 : Nat) (dd4 : Bool) (lf4 ds4 : Int) (W : World) : Prop where
  hh : BoxH W g4 h
  hf : Box3 W g5 v0 v1 v2
  hx : Box5 W gq (.slice A4 n4 c4) (.slice B4 m4 k4) (.bool dd4) (.int .i64 lf4) (.int .i64 ds4)
  hd : IsDev W (.agg #[.slice A4 n4 c4, .slice B4 m4 k4, .bool dd4, .int .i64 lf4, .int .i64 ds4]) D
  hB : Below w.heap.size w W
  l1 : g4 < gq
  l2 : g5 < gq
  wx : w.heap.size ≤ gq
set_option maxRecDepth 20000 in
set_option maxHeartbeats 25600000 in
theorem newestLaw_any (h : H) (a0 a1 a2 : Nat) (lo : Nat) {A : Option Addr} {n cp : Nat} {l : List H} (w : World) (ht : Tab w) (hl : HasH w lo A l) (hn : l.length = n) (h9 : n ≤ 9223372036854775807) (ha0 : a0 < 65536) (ha1 : a1 < 65536) (ha2 : a2 < 65536) :
    Calls Tryd.prog 4 #[.slice A n cp, .agg (cellsH h), .agg #[.int .u16 (a0 : Int), .int .u16 (a1 : Int), .int .u16 (a2 : Int)]] w fun e w' => e = .returned (.bool true) ∧ Below w.heap.size w w' := by
  have HT := Lib.hid ht
  have HL := Lib.hid (And.intro hl hn)
  clear ht hl hn
  have hB := (Below.refl w.heap.size w).alloc (Nat.le_refl _) (.cells (cellsH h) 23)
  have hh := BoxH.new w h 23
  obtain ⟨g4, hg4⟩ : ∃ g, w.heap.size = g := ⟨_, rfl⟩
  rw [hg4] at hh
  have hw4 : w.heap.size ≤ g4 := by omega
  generalize hwa : w.alloc (.cells (cellsH h) 23) = wa at hB hh
  have hv := (Below.refl wa.heap.size wa).alloc (Nat.le_refl _) (.cells #[.int .u16 (a0 : Int), .int .u16 (a1 : Int), .int .u16 (a2 : Int)] 35)
  have hf := Box3.new wa (.int .u16 (a0 : Int)) (.int .u16 (a1 : Int)) (.int .u16 (a2 : Int)) 35
  have hw5 : w.heap.size ≤ wa.heap.size := hB.size
  have hh := hh.below hv hh.lt
  have hB := hB.trans (hv.mono hB.size)
  clear hv
  generalize hg5 : wa.heap.size = g5 at hf hw5
  generalize hwb : wa.alloc (.cells #[.int .u16 (a0 : Int), .int .u16 (a1 : Int), .int .u16 (a2 : Int)] 35) = wb at hB hh hf
  obtain ⟨hp, hl, he⟩ := h
  unfold cellsH at hwa ⊢
  simp only at hwa ⊢
  go_enter Tryd.func4, Tryd.ntmps4
  by_cases h20 : 20 < n
  · have i20 : (20 : Int) < (n : Int) := by omega
    go_wp2_with fail
    clear hwa hwb hg4 hg5
    refine (awake_any _ (HT.out.below hB)).mono ?_
    rintro e w3 ⟨rfl, hv⟩
    have HB := Lib.hid (hB.trans (hv.mono hB.size))
    clear hv hB
    go_wp2
    go_ret
    exact ⟨rfl, HB.out⟩
  have i20 : ¬ (20 : Int) < (n : Int) := by omega
  have h20 : n ≤ 20 := by omega
  go_upto_region 3 with fail
  clear hwa hwb hg4 hg5 i20 h9
  obtain ⟨r0, q0⟩ : ∃ r : Nat, (a0 : Int) % 6 = (r : Int) := ⟨a0 % 6, by omega⟩
  have hr0 : r0 < 6 := by omega
  obtain ⟨lv, q1⟩ : ∃ x, (r0 : Int) - 1 = x := ⟨_, rfl⟩
  have q2 : IntKind.i64.wrap ((r0 : Int) - 1) = lv := by rw [← q1]; simp [IntKind.wrap, IntKind.bits, IntKind.signed]; omega
  have q3 : IntKind.i64.wrap (r0 : Int) = (r0 : Int) := by simp [IntKind.wrap, IntKind.bits, IntKind.signed]; omega
  have q4 : IntKind.i64.wrap lv = lv := by rw [← q1]; simp [IntKind.wrap, IntKind.bits, IntKind.signed]; omega
  obtain ⟨hok, hn4⟩ := headsD_ok l
  have okA := (hok.armed lv (by omega)).more (K' := 40) (by rw [HL.out.2]; omega)
  have hnA : (armed (headsD l) lv).n = 4 := hn4
  have HN : Hid (1 ≤ (armed (headsD l) lv).n) := Lib.hid (by rw [hnA]; decide)
  clear hr0 hn4 hok
  go_cut [7] from 23 to 30 (fun p wx => ∃ (gq : Nat) (A4 : Option Addr) (n4 c4 : Nat) (B4 : Option Addr) (m4 k4 : Nat) (dd4 : Bool) (lf4 ds4 : Int), p = .pointer (some ⟨gq, 0, none⟩) ∧ NewS w ⟨hp, hl, he⟩ (.int .u16 (a0 : Int)) (.int .u16 (a1 : Int)) (.int .u16 (a2 : Int)) (armed (headsD l) lv) g4 g5 gq A4 n4 c4 B4 m4 k4 dd4 lf4 ds4 wx)
  case first =>
    have hdr := (Below.refl wb.heap.size wb).drew
    have hf := hf.below hdr (World.block_lt_of_cell? _ _ hf.c0)
    have hh := hh.below hdr hh.lt
    have hB := hB.trans (hdr.mono hB.size)
    clear hdr
    refine Lex.region_tree (ops := htnops) htntree (fun W => W.cell? ⟨g5, 0, none⟩ = some (.int .u16 (a0 : Int))) (by kernel_rfl) (by kernel_rfl) htnsel htnlex (hf.c0) ?_
    unfold htntree
    generalize wb.drew = wd at hh hf hB ⊢
    refine Lex.tree_take (.slice A n cp) htn0 (Lex.want_none rfl) (by intro Wx hSw; (try dsimp only at hSw); go_simp; (try (first | (with_reducible rfl) | assumption | rfl))) ?_
    simp only [Act.put, List.setIfInBounds_toArray, List.set_cons_zero, List.set_cons_succ]
    refine Lex.tree_take (.pointer (some ⟨g5, 0, none⟩)) htn2 (Lex.want_none rfl) (by intro Wx hSw; (try dsimp only at hSw); go_simp; (try (first | (with_reducible rfl) | assumption | rfl))) ?_
    simp only [Act.put, List.setIfInBounds_toArray, List.set_cons_zero, List.set_cons_succ]
    refine Lex.tree_take (.int .u16 (a0 : Int)) htn3 (Lex.want_none rfl) (by intro Wx hSw; (try dsimp only at hSw); go_simp; (try (first | (with_reducible rfl) | assumption | rfl))) ?_
    simp only [Act.put, List.setIfInBounds_toArray, List.set_cons_zero, List.set_cons_succ]
    refine Lex.tree_take (.int .u16 (r0 : Int)) htn4 (Lex.want_none rfl) (by intro Wx hSw; (try dsimp only at hSw); go_simp; (try (first | (with_reducible rfl) | assumption | rfl))) ?_
    simp only [Act.put, List.setIfInBounds_toArray, List.set_cons_zero, List.set_cons_succ]
    refine Lex.tree_take (.int .i64 (r0 : Int)) htn5 (Lex.want_none rfl) (by intro Wx hSw; (try dsimp only at hSw); go_simp; (try (first | (with_reducible rfl) | assumption | rfl))) ?_
    simp only [Act.put, List.setIfInBounds_toArray, List.set_cons_zero, List.set_cons_succ]
    refine Lex.tree_take (.int .i64 lv) htn6 (Lex.want_none rfl) (by intro Wx hSw; (try dsimp only at hSw); go_simp; (try (first | (with_reducible rfl) | assumption | rfl))) ?_
    simp only [Act.put, List.setIfInBounds_toArray, List.set_cons_zero, List.set_cons_succ]
    refine Lex.tree_call htn1 (Lex.want_none rfl) (fun K hK => ?_) ?_
    · go_simp
      refine (heads_any _ (HL.out.1.below hB (Nat.le_refl _)) HL.out.2 h20).mono ?_
      rintro e ya ⟨va, rfl, hd, hv⟩
      obtain ⟨A3, n3, c3, B3, m3, k3, dd3, lf3, ds3, rfl⟩ := dev_form hd
      have hf := hf.below hv (World.block_lt_of_cell? _ _ hf.c0)
      have hh := hh.below hv hh.lt
      have hB := hB.trans (hv.mono hB.size)
      clear hv
      refine hK.out _ _ _ (fun _ h => h) hf.c0 ?_
      clear hK K
      try simp only [Act.put, List.setIfInBounds_toArray, List.set_cons_zero, List.set_cons_succ]
      refine Lex.tree_call htn7 (Lex.want_none rfl) (fun K hK => ?_) ?_
      · go_simp
        refine (refArm_dev _ _ lv _ hd).mono ?_
        rintro e yp ⟨vp, rfl, hda, hv⟩
        obtain ⟨A4, n4, c4, B4, m4, k4, dd4, lf4, ds4, rfl⟩ := dev_form hda
        have hf := hf.below hv (World.block_lt_of_cell? _ _ hf.c0)
        have hh := hh.below hv hh.lt
        have hd := hd.below hv (Nat.le_refl _)
        have hB := hB.trans (hv.mono hB.size)
        clear hv
        refine hK.out _ _ _ (fun _ h => h) hf.c0 ?_
        clear hK K
        try simp only [Act.put, List.setIfInBounds_toArray, List.set_cons_zero, List.set_cons_succ]
        refine Lex.tree_call htn8 (Lex.want_none rfl) (fun K hK => ?_) Lex.tree_no
        go_simp
        have hnw := (Below.refl yp.heap.size yp).alloc (Nat.le_refl _) (.cells #[.slice none 0 0, .slice none 0 0, .bool false, .int .i64 0, .int .i64 0] 39)
        have hx : Box5 (yp.alloc (.cells #[.slice none 0 0, .slice none 0 0, .bool false, .int .i64 0, .int .i64 0] 39)) yp.heap.size (.slice none 0 0) (.slice none 0 0) (.bool false) (.int .i64 0) (.int .i64 0) := Box5.new yp (.slice none 0 0) (.slice none 0 0) (.bool false) (.int .i64 0) (.int .i64 0) 39
        have l1 := hh.lt
        have l2 : g5 < _ := World.block_lt_of_cell? _ _ hf.c0
        have wx := hB.size
        have hf := hf.below hnw (World.block_lt_of_cell? _ _ hf.c0)
        have hh := hh.below hnw hh.lt
        have hda := hda.below hnw (Nat.le_refl _)
        have hB := hB.trans (hnw.mono hB.size)
        clear hnw
        generalize yp.alloc (.cells #[.slice none 0 0, .slice none 0 0, .bool false, .int .i64 0, .int .i64 0] 39) = zyp at hh hf hB hx hda ⊢
        generalize yp.heap.size = gq at hx l1 l2 wx ⊢
        refine hK.out _ _ _ (fun _ h => h) hf.c0 ?_
        clear hK K
        try simp only [Act.put, List.setIfInBounds_toArray, List.set_cons_zero, List.set_cons_succ]
        refine Lex.tree_call htn9 (Lex.want_none rfl) (fun K hK => ?_) Lex.tree_no
        have k0 := hx.c0
        have k1 := hx.c1
        have k2 := hx.c2
        have k3x := hx.c3
        have k4x := hx.c4
        have kf := hx.f
        go_simp
        clear k0 k1 k2 k3x k4x kf
        have hb := but5 zyp gq (.slice A4 n4 c4) (.slice B4 m4 k4) (.bool dd4) (.int .i64 lf4) (.int .i64 ds4)
        have hda := hda.but HN.out hx.c0 hb
        have hh := hh.but hb (by omega)
        have hf := box3_butN hf hb (by omega)
        have hB := below_box5 hB wx (.slice A4 n4 c4) (.slice B4 m4 k4) (.bool dd4) (.int .i64 lf4) (.int .i64 ds4)
        have hx := hx.set (.slice A4 n4 c4) (.slice B4 m4 k4) (.bool dd4) (.int .i64 lf4) (.int .i64 ds4)
        clear hb
        generalize (((((zyp).setCell ⟨gq, 0, none⟩ (.slice A4 n4 c4)).setCell ⟨gq, 1, none⟩ (.slice B4 m4 k4)).setCell ⟨gq, 2, none⟩ (.bool dd4)).setCell ⟨gq, 3, none⟩ (.int .i64 lf4)).setCell ⟨gq, 4, none⟩ (.int .i64 ds4) = s9 at hh hf hda hB hx ⊢
        refine hK.out _ _ _ (fun _ h => h) hf.c0 ?_
        clear hK K
        try simp only [Act.put, List.setIfInBounds_toArray, List.set_cons_zero, List.set_cons_succ]
        refine Lex.tree_end ?_
        refine NoPanic.normal ?_
        have HM : Hid (NewS w ⟨hp, hl, he⟩ _ _ _ _ g4 g5 gq A4 n4 c4 B4 m4 k4 dd4 lf4 ds4 s9) := Lib.hid (NewS.mk hh hf hx hda hB l1 l2 wx)
        clear hh hf hx hda hB l1 l2 wx
        (try clear hd)
        go_wp2
        go_meet
        case rel => exact ⟨gq, _, _, _, _, _, _, _, _, _, rfl, HM.out⟩
      refine Lex.tree_call htn8 (Lex.want_none rfl) (fun K hK => ?_) Lex.tree_no
      go_simp
      have hnw := (Below.refl ya.heap.size ya).alloc (Nat.le_refl _) (.cells #[.slice none 0 0, .slice none 0 0, .bool false, .int .i64 0, .int .i64 0] 39)
      have hx : Box5 (ya.alloc (.cells #[.slice none 0 0, .slice none 0 0, .bool false, .int .i64 0, .int .i64 0] 39)) ya.heap.size (.slice none 0 0) (.slice none 0 0) (.bool false) (.int .i64 0) (.int .i64 0) := Box5.new ya (.slice none 0 0) (.slice none 0 0) (.bool false) (.int .i64 0) (.int .i64 0) 39
      have l1 := hh.lt
      have l2 : g5 < _ := World.block_lt_of_cell? _ _ hf.c0
      have wx := hB.size
      have hf := hf.below hnw (World.block_lt_of_cell? _ _ hf.c0)
      have hh := hh.below hnw hh.lt
      have hd := hd.below hnw (Nat.le_refl _)
      have hB := hB.trans (hnw.mono hB.size)
      clear hnw
      generalize ya.alloc (.cells #[.slice none 0 0, .slice none 0 0, .bool false, .int .i64 0, .int .i64 0] 39) = zya at hh hf hB hx hd ⊢
      generalize ya.heap.size = gq at hx l1 l2 wx ⊢
      refine hK.out _ _ _ (fun _ h => h) hf.c0 ?_
      clear hK K
      try simp only [Act.put, List.setIfInBounds_toArray, List.set_cons_zero, List.set_cons_succ]
      refine Lex.tree_call htn7 (Lex.want_none rfl) (fun K hK => ?_) Lex.tree_no
      go_simp
      refine (refArm_dev _ _ lv _ hd).mono ?_
      rintro e yp ⟨vp, rfl, hda, hv⟩
      obtain ⟨A4, n4, c4, B4, m4, k4, dd4, lf4, ds4, rfl⟩ := dev_form hda
      have hf := hf.below hv (World.block_lt_of_cell? _ _ hf.c0)
      have hh := hh.below hv hh.lt
      have hx := hx.below hv hx.lt5
      have hd := hd.below hv (Nat.le_refl _)
      have hB := hB.trans (hv.mono hB.size)
      clear hv
      refine hK.out _ _ _ (fun _ h => h) hf.c0 ?_
      clear hK K
      try simp only [Act.put, List.setIfInBounds_toArray, List.set_cons_zero, List.set_cons_succ]
      refine Lex.tree_call htn9 (Lex.want_none rfl) (fun K hK => ?_) Lex.tree_no
      have k0 := hx.c0
      have k1 := hx.c1
      have k2 := hx.c2
      have k3x := hx.c3
      have k4x := hx.c4
      have kf := hx.f
      go_simp
      clear k0 k1 k2 k3x k4x kf
      have hb := but5 yp gq (.slice A4 n4 c4) (.slice B4 m4 k4) (.bool dd4) (.int .i64 lf4) (.int .i64 ds4)
      have hda := hda.but HN.out hx.c0 hb
      have hh := hh.but hb (by omega)
      have hf := box3_butN hf hb (by omega)
      have hB := below_box5 hB wx (.slice A4 n4 c4) (.slice B4 m4 k4) (.bool dd4) (.int .i64 lf4) (.int .i64 ds4)
      have hx := hx.set (.slice A4 n4 c4) (.slice B4 m4 k4) (.bool dd4) (.int .i64 lf4) (.int .i64 ds4)
      clear hb
      generalize (((((yp).setCell ⟨gq, 0, none⟩ (.slice A4 n4 c4)).setCell ⟨gq, 1, none⟩ (.slice B4 m4 k4)).setCell ⟨gq, 2, none⟩ (.bool dd4)).setCell ⟨gq, 3, none⟩ (.int .i64 lf4)).setCell ⟨gq, 4, none⟩ (.int .i64 ds4) = s9 at hh hf hda hB hx ⊢
      refine hK.out _ _ _ (fun _ h => h) hf.c0 ?_
      clear hK K
      try simp only [Act.put, List.setIfInBounds_toArray, List.set_cons_zero, List.set_cons_succ]
      refine Lex.tree_end ?_
      refine NoPanic.normal ?_
      have HM : Hid (NewS w ⟨hp, hl, he⟩ _ _ _ _ g4 g5 gq A4 n4 c4 B4 m4 k4 dd4 lf4 ds4 s9) := Lib.hid (NewS.mk hh hf hx hda hB l1 l2 wx)
      clear hh hf hx hda hB l1 l2 wx
      (try clear hd)
      go_wp2
      go_meet
      case rel => exact ⟨gq, _, _, _, _, _, _, _, _, _, rfl, HM.out⟩
    refine Lex.tree_call htn8 (Lex.want_none rfl) (fun K hK => ?_) Lex.tree_no
    go_simp
    have hnw := (Below.refl wd.heap.size wd).alloc (Nat.le_refl _) (.cells #[.slice none 0 0, .slice none 0 0, .bool false, .int .i64 0, .int .i64 0] 39)
    have hx : Box5 (wd.alloc (.cells #[.slice none 0 0, .slice none 0 0, .bool false, .int .i64 0, .int .i64 0] 39)) wd.heap.size (.slice none 0 0) (.slice none 0 0) (.bool false) (.int .i64 0) (.int .i64 0) := Box5.new wd (.slice none 0 0) (.slice none 0 0) (.bool false) (.int .i64 0) (.int .i64 0) 39
    have l1 := hh.lt
    have l2 : g5 < _ := World.block_lt_of_cell? _ _ hf.c0
    have wx := hB.size
    have hf := hf.below hnw (World.block_lt_of_cell? _ _ hf.c0)
    have hh := hh.below hnw hh.lt
    have hB := hB.trans (hnw.mono hB.size)
    clear hnw
    generalize wd.alloc (.cells #[.slice none 0 0, .slice none 0 0, .bool false, .int .i64 0, .int .i64 0] 39) = zwd at hh hf hB hx ⊢
    generalize wd.heap.size = gq at hx l1 l2 wx ⊢
    refine hK.out _ _ _ (fun _ h => h) hf.c0 ?_
    clear hK K
    try simp only [Act.put, List.setIfInBounds_toArray, List.set_cons_zero, List.set_cons_succ]
    refine Lex.tree_call htn1 (Lex.want_none rfl) (fun K hK => ?_) Lex.tree_no
    go_simp
    refine (heads_any _ (HL.out.1.below hB (Nat.le_refl _)) HL.out.2 h20).mono ?_
    rintro e ya ⟨va, rfl, hd, hv⟩
    obtain ⟨A3, n3, c3, B3, m3, k3, dd3, lf3, ds3, rfl⟩ := dev_form hd
    have hf := hf.below hv (World.block_lt_of_cell? _ _ hf.c0)
    have hh := hh.below hv hh.lt
    have hx := hx.below hv hx.lt5
    have hB := hB.trans (hv.mono hB.size)
    clear hv
    refine hK.out _ _ _ (fun _ h => h) hf.c0 ?_
    clear hK K
    try simp only [Act.put, List.setIfInBounds_toArray, List.set_cons_zero, List.set_cons_succ]
    refine Lex.tree_call htn7 (Lex.want_none rfl) (fun K hK => ?_) Lex.tree_no
    go_simp
    refine (refArm_dev _ _ lv _ hd).mono ?_
    rintro e yp ⟨vp, rfl, hda, hv⟩
    obtain ⟨A4, n4, c4, B4, m4, k4, dd4, lf4, ds4, rfl⟩ := dev_form hda
    have hf := hf.below hv (World.block_lt_of_cell? _ _ hf.c0)
    have hh := hh.below hv hh.lt
    have hx := hx.below hv hx.lt5
    have hd := hd.below hv (Nat.le_refl _)
    have hB := hB.trans (hv.mono hB.size)
    clear hv
    refine hK.out _ _ _ (fun _ h => h) hf.c0 ?_
    clear hK K
    try simp only [Act.put, List.setIfInBounds_toArray, List.set_cons_zero, List.set_cons_succ]
    refine Lex.tree_call htn9 (Lex.want_none rfl) (fun K hK => ?_) Lex.tree_no
    have k0 := hx.c0
    have k1 := hx.c1
    have k2 := hx.c2
    have k3x := hx.c3
    have k4x := hx.c4
    have kf := hx.f
    go_simp
    clear k0 k1 k2 k3x k4x kf
    have hb := but5 yp gq (.slice A4 n4 c4) (.slice B4 m4 k4) (.bool dd4) (.int .i64 lf4) (.int .i64 ds4)
    have hda := hda.but HN.out hx.c0 hb
    have hh := hh.but hb (by omega)
    have hf := box3_butN hf hb (by omega)
    have hB := below_box5 hB wx (.slice A4 n4 c4) (.slice B4 m4 k4) (.bool dd4) (.int .i64 lf4) (.int .i64 ds4)
    have hx := hx.set (.slice A4 n4 c4) (.slice B4 m4 k4) (.bool dd4) (.int .i64 lf4) (.int .i64 ds4)
    clear hb
    generalize (((((yp).setCell ⟨gq, 0, none⟩ (.slice A4 n4 c4)).setCell ⟨gq, 1, none⟩ (.slice B4 m4 k4)).setCell ⟨gq, 2, none⟩ (.bool dd4)).setCell ⟨gq, 3, none⟩ (.int .i64 lf4)).setCell ⟨gq, 4, none⟩ (.int .i64 ds4) = s9 at hh hf hda hB hx ⊢
    refine hK.out _ _ _ (fun _ h => h) hf.c0 ?_
    clear hK K
    try simp only [Act.put, List.setIfInBounds_toArray, List.set_cons_zero, List.set_cons_succ]
    refine Lex.tree_end ?_
    refine NoPanic.normal ?_
    have HM : Hid (NewS w ⟨hp, hl, he⟩ _ _ _ _ g4 g5 gq A4 n4 c4 B4 m4 k4 dd4 lf4 ds4 s9) := Lib.hid (NewS.mk hh hf hx hda hB l1 l2 wx)
    clear hh hf hx hda hB l1 l2 wx
    (try clear hd)
    go_wp2
    go_meet
    case rel => exact ⟨gq, _, _, _, _, _, _, _, _, _, rfl, HM.out⟩
  obtain ⟨g7, A4, n4, c4, B4, m4, k4, dd4, lf4, ds4, rfl, hM⟩ := hcut
  clear hh hf hB q0 q1 q2 q3 q4 HN HL h20
  generalize armed (headsD l) lv = D at hM okA hnA
  obtain ⟨hh, hf, hx, hd, hB, l1, l2, wx⟩ := hM
  have HM : Hid (NewS w ⟨hp, hl, he⟩ (.int .u16 (a0 : Int)) (.int .u16 (a1 : Int)) (.int .u16 (a2 : Int)) D g4 g5 g7 A4 n4 c4 B4 m4 k4 dd4 lf4 ds4 wc) := Lib.hid ⟨hh, hf, hx, hd, hB, l1, l2, wx⟩
  obtain ⟨b, B', c', k', e, hlt, hnc, hc, hlA, h0⟩ := hd
  simp only [Value.agg.injEq, Array.mk.injEq, List.cons.injEq, Value.slice.injEq, Value.bool.injEq, Value.int.injEq, true_and, and_true] at e
  obtain ⟨⟨rfl, rfl, rfl⟩, ⟨rfl, rfl, rfl⟩, rfl, rfl, rfl⟩ := e
  obtain ⟨n, S, m, LA, LD, dead, left, deeds⟩ := D
  simp only at hnA hnc hc hlA h0 hx HM
  subst hnA
  have HS := Lib.hid (And.intro hlt (And.intro hnc (And.intro hc (And.intro hlA h0))))
  have HXX := Lib.hid (And.intro hh (And.intro hf (And.intro hx hB)))
  have x0 := hx.c0
  have f1 := hf.c1
  obtain ⟨zb, hz⟩ : ∃ z : Bool, ((a1 : Int) % 3 == 0) = z := ⟨_, rfl⟩
  clear hlt hnc hc hlA h0 hh hf hx hB
  go_upto_if 40 with fail
  go_cut [] from 31 to 72 (fun wx => ∃ (A4 : Option Addr) (n4 c4 : Nat) (B4 : Option Addr) (m4 k4 : Nat) (dd4 : Bool) (lf4 ds4 : Int) (D' : Dev), D'.Ok 40 ∧ D'.n = 4 ∧ NewS w ⟨hp, hl, he⟩ (.int .u16 (a0 : Int)) (.int .u16 (a1 : Int)) (.int .u16 (a2 : Int)) D' g4 g5 g7 A4 n4 c4 B4 m4 k4 dd4 lf4 ds4 wx)
  case first =>
    cases zb
    · clear hz HS HXX x0 f1
      go_wp2
      go_meet
      case rel => exact ⟨_, _, _, _, _, _, _, _, _, _, okA, rfl, HM.out⟩
    · have hz3 : (a1 : Int) % 3 = 0 := by simpa using hz
      obtain ⟨x, qx⟩ : ∃ x : Nat, (a1 : Int) % 2 = (x : Int) := ⟨a1 % 2, by omega⟩
      have hx4 : x < 4 := by omega
      have kS := HS.out.2.2.1 x hx4
      have hsz : (S x).size = 256 := okA.sz x hx4
      obtain ⟨w2, cb, hcv, hby, hb2, hcb⟩ := bytes_newS (S x) wc
      rw [hsz] at hcv
      obtain ⟨gb, hgb⟩ : ∃ g, wc.heap.size = g := ⟨_, rfl⟩
      rw [hgb] at hcv hby
      obtain ⟨y, qy⟩ : ∃ y : Nat, (a2 : Int) % 256 = (y : Int) := ⟨a2 % 256, by omega⟩
      have hy4 : y < 256 := by omega
      have hll : (S x).data.toList.length = 256 := by simpa using hsz
      obtain ⟨bb, hat⟩ : ∃ bb, (S x).data.toList[y]? = some bb := ⟨_, List.getElem?_eq_getElem (by rw [hll]; exact hy4)⟩
      obtain ⟨k0, kf⟩ := hby y bb hat
      obtain ⟨bc, hbc⟩ : ∃ x, bb + 1 = x := ⟨_, rfl⟩
      have qw : ((bb.toNat : Int) + 1) % 256 = (bc.toNat : Int) := by
        rw [← hbc]
        simp [UInt8.toNat_add]
      clear hbc
      have i0 : (0 : Int) ≤ (x : Int) := by omega
      have i1 : (x : Int) < 4 := by omega
      have i2 : (0 : Int) ≤ (y : Int) := by omega
      have i3 : (y : Int) < 256 := by omega
      have hby6 := hby.set y (bc)
      have hb6 := hb2.setCell (p := ⟨gb, y, none⟩) (Nat.le_of_eq hgb) (.int .u8 (bc.toNat : Int))
      have hl6 : ((S x).data.toList.set y (bc)).length = 256 := by rw [List.length_set, hll]
      have HY := Lib.hid (And.intro hby6 (And.intro hb6 hl6))
      have hb2' := Lib.hid hb2
      clear hby hat hby6 hb6 hl6 hll hb2
      go_upto_region 6 with fail
      clear x0 f1 kS hcv
      have f2 := (HXX.out.2.1.below hb2'.out (World.block_lt_of_cell? _ _ HXX.out.2.1.c0)).c2
      go_upto_region 7 with fail
      (try rw [qw])
      obtain ⟨hby6, hb6, hl6⟩ := HY.out
      clear HY k0 kf f2 qw hb2'
      generalize w2.setCell ⟨gb, y, none⟩ (.int .u8 (bc.toNat : Int)) = w6 at hby6 hb6 ⊢
      obtain ⟨hh, hf, hx, hB⟩ := HXX.out
      obtain ⟨hlt, hnc, hc, hlA, h0⟩ := HS.out
      have hap := DevAt.apart (⟨c4, k4, rfl, hlt, hnc, hc, hlA, h0⟩ : DevAt wc b B4 _ ⟨4, S, m, LA, LD, dead, left, deeds⟩) (by show 1 ≤ 4; decide) hx.c0
      have hg7b : g7 < gb := by rw [← hgb]; exact hx.lt5
      have hh := hh.below hb6 hh.lt
      have hf := hf.below hb6 (World.block_lt_of_cell? _ _ hf.c0)
      have hB := hB.trans (hb6.mono hB.size)
      have hx := hx.below hb6 hx.lt5
      have hlA := hlA.below hb6 (Nat.le_refl _)
      have hc := fun j hj => (hb6.cell (p := ⟨b, j, none⟩) hlt).trans (hc j hj)
      have hlt : b < w6.heap.size := World.block_lt_of_cell? _ _ (hc 0 (by decide))
      have hgbl : gb < w6.heap.size := World.block_lt_of_cell? _ _ (hby6 0 _ (List.getElem?_eq_getElem (by rw [hl6]; decide))).1
      have hBl : ∀ a, B4 = some a → a.block < w6.heap.size := hlA.block_lt fun hm => (h0 hm).1
      obtain ⟨i9, hi9, hv0, hv1, hv2⟩ := info_parts info9
      have hn4 := (Below.refl w6.heap.size w6).alloc (Nat.le_refl _) (.cells #[] 9)
      have x0 := (hx.below hn4 hx.lt5).c0
      have hown0 := World.ownsRow_lit (e := 9) (size := 1) (base := w6.heap.size) w6 #[] 0 (Nat.le_refl _) (by unfold maxLen; omega) rfl
      have hnw := news_of_strs (S := S) (n := 4) (fun j hj => (hn4.cell (p := ⟨b, j, none⟩) hlt).trans (hc j hj))
      have HW := Lib.hid (And.intro hown0 (And.intro hnw hn4))
      have HZ := Lib.hid (And.intro hh (And.intro hf (And.intro hx (And.intro hlA (And.intro hby6 hB)))))
      have HZ2 := Lib.hid (And.intro hap (And.intro hBl h0))
      clear hown0 hnw hn4 hh hf hx hB hlA hby6 hb6 hap hBl h0 hc hnc HXX HS HM
      go_upto_region 8 with (at_builtin; go_must (refine wpList_append_own _ rfl _ _ 36 rfl w6.heap.size 9 i9 (.string ⟨#[]⟩) 1 16 Tryd.underlying36 hi9 hv0 hv1 hv2 rfl (by decide) (.slice (some ⟨w6.heap.size, 0, none⟩) 0 0) 0 [] rfl HW.out.1 ⟨b, 0, none⟩ 4 c4 ((List.range 4).map fun j => .string (S j)) rfl (by simp) HW.out.2.1 (by simp [Value.oneCell']) (by unfold maxLen; omega) (by omega) HW.out.2.2.size ?_))
      intro v5 w7 hown hgrow5 _
      obtain ⟨hown0, _, hn4⟩ := HW.out
      have hb67 := hn4.grown hgrow5 hn4.size (fun k hk => (hown0.lt k hk).1)
      (try simp only [Nat.zero_add, List.nil_append] at hown)
      obtain ⟨g, cap, rfl, hg3, hncap, hrow⟩ := row_of_own hown (by omega)
      clear hown hown0 hn4 hgrow5 HW x0 hi9 hv0 hv1 hv2
      obtain ⟨hh, hf, hx, hlA, hby, hB⟩ := HZ.out
      obtain ⟨hap, hBl, h0⟩ := HZ2.out
      clear HZ HZ2
      have hh := hh.below hb67 hh.lt
      have hf := hf.below hb67 (World.block_lt_of_cell? _ _ hf.c0)
      have hB := hB.trans (hb67.mono hB.size)
      have hx := hx.below hb67 hx.lt5
      have hlA := hlA.below hb67 (Nat.le_refl _)
      have hby := hby.below hb67 hgbl
      have HR := Lib.hid hrow
      have HZ := Lib.hid (And.intro hh (And.intro hf (And.intro hx (And.intro hlA (And.intro hby hB)))))
      have HZ2 := Lib.hid (And.intro hap (And.intro hBl h0))
      have x0 := hx.c0
      have xf := hx.f
      clear hh hf hx hlA hby hB hrow hap hBl h0 hb67
      go_upto_region 8 with fail
      clear x0 xf
      obtain ⟨hh, hf, hx, hlA, hby, hB⟩ := HZ.out
      obtain ⟨hap, hBl, h0⟩ := HZ2.out
      have hrow := HR.out
      clear HZ HZ2 HR
      have hg7g : g7 ≠ g := by omega
      have hbu : But g7 w7 (w7.setCell ⟨g7, 0, none⟩ (.slice (some ⟨g, 0, none⟩) 4 cap)) := (But.refl g7 w7).setCell 0 _
      have hh := hh.but hbu (by omega)
      have hf := box3_butN hf hbu (by omega)
      have hx := hx.set0 (.slice (some ⟨g, 0, none⟩) 4 cap)
      have hlA := hlA.setCell (p := ⟨g7, 0, none⟩) (fun a ha => Ne.symm (hap.2 a ha)) (.slice (some ⟨g, 0, none⟩) 4 cap)
      have hby := hby.but hbu (by omega) (fun j => by simp)
      have hrow : StrRow (w7.setCell ⟨g7, 0, none⟩ (.slice (some ⟨g, 0, none⟩) 4 cap)) g 4 S := ⟨by simpa using hrow.1, fun j hj => (hbu.cell (p := ⟨g, j, none⟩) (Ne.symm hg7g)).trans (hrow.2.1 j hj), fun i => by simpa using hrow.2.2 i⟩
      have hB := hB.setCell (p := ⟨g7, 0, none⟩) wx (.slice (some ⟨g, 0, none⟩) 4 cap)
      clear hbu
      generalize w7.setCell ⟨g7, 0, none⟩ (.slice (some ⟨g, 0, none⟩) 4 cap) = w8 at hh hf hx hlA hby hrow hB ⊢
      have x0 := hx.c0
      have f1 := hf.c1
      have kr := hrow.2.1 x hx4
      have kf := hrow.2.2 x
      have hst := hby.string cb hl6
      have hwg : w.heap.size ≤ g := by omega
      have hd9 : (⟨((S x).data.toList.set y (bc)).toArray⟩ : ByteArray).size = 256 := by
        show (((S x).data.toList.set y (bc)).toArray).size = 256
        rw [List.size_toArray]
        exact hl6
      obtain ⟨d, hdd⟩ : ∃ d : ByteArray, (⟨((S x).data.toList.set y (bc)).toArray⟩ : ByteArray) = d := ⟨_, rfl⟩
      rw [hdd] at hst hd9
      have HZ : Hid (NewS w ⟨hp, hl, he⟩ (.int .u16 (a0 : Int)) (.int .u16 (a1 : Int)) (.int .u16 (a2 : Int)) (bentD ⟨4, S, m, LA, LD, dead, left, deeds⟩ x d) g4 g5 g7 (some ⟨g, 0, none⟩) 4 cap B4 m k4 dead left deeds (w8.setCell ⟨g, x, none⟩ (.string d))) := by
        have hbg : But g w8 (w8.setCell ⟨g, x, none⟩ (.string d)) := (But.refl g w8).setCell x _
        exact Lib.hid ⟨hh.but hbg (by omega), box3_butN hf hbg (by omega), hx.but hbg (by omega), bent_dev (hrow.set hx4 d) hncap (hlA.setCell (p := ⟨g, x, none⟩) (fun a ha e => by have := hBl a ha; simp only at e; omega) _) h0, hB.setCell (p := ⟨g, x, none⟩) hwg _, l1, l2, wx⟩
      clear hh hf hx hlA hby hrow hB hdd hl6 hap hBl h0
      go_wp2
      go_meet
      case rel => exact ⟨_, _, _, _, _, _, _, _, _, _, bentD_ok okA hd9, rfl, HZ.out⟩
  clear HM HS HXX okA x0 f1 hz zb l1 l2 wx
  obtain ⟨A4, n4, c4, B4, m4, k4, dd4, lf4, ds4, D, okD, hnD, hM⟩ := hcut
  obtain ⟨hh, hf, hx, hd, hB, o_hh_hx, o_hf_hx, w_hx⟩ := hM
  clear hf o_hf_hx
  have hNw := fun W v (ht : Tab W) (hd : IsDev W v D) => newest_any v D W ht hd okD (by decide) (by rw [hnD]; decide)
  have hNr := fun W (hd : IsDev W (.agg #[.slice A4 n4 c4, .slice B4 m4 k4, .bool dd4, .int .i64 lf4, .int .i64 ds4]) D) => refNewest_any _ D W hd okD (by decide) (by rw [hnD]; decide)
  have hPt := fun W v (ht : Tab W) (hd : IsDev W v D) => headPut v D ⟨hp, hl, he⟩ W ht hd okD (by decide) (by rw [hnD]; decide)
  have hPr := fun W (hd : IsDev W (.agg #[.slice A4 n4 c4, .slice B4 m4 k4, .bool dd4, .int .i64 lf4, .int .i64 ds4]) D) => refPutH _ D ⟨hp, hl, he⟩ W hd okD (by decide) (by rw [hnD]; decide)
  obtain ⟨ok1, hn1⟩ := newestR_ok okD
  obtain ⟨ok2, hn2⟩ := putH_ok okD (by rw [hnD]; decide) ⟨hp, hl, he⟩
  have hn0 : 1 ≤ D.n := by rw [hnD]; decide
  rw [hnD] at hn1 hn2
  generalize newestR D = R1 at hNw hNr ok1 hn1
  generalize putH D ⟨hp, hl, he⟩ = R2 at hPt hPr ok2 hn2
  obtain ⟨D1, ⟨rp, rl, re⟩, er⟩ := R1
  obtain ⟨D2, er2⟩ := R2
  unfold cellsH at hPt hPr
  unfold NewPost cellsH at hNw hNr
  unfold DevErr at hPt hPr
  simp only at hNw hNr hPt hPr ok1 ok2 hn1 hn2
  have HN : Hid (1 ≤ D.n ∧ 1 ≤ D1.n ∧ 1 ≤ D2.n) := Lib.hid ⟨hn0, by rw [hn1]; decide, by rw [hn2]; decide⟩
  have HO := Lib.hid (And.intro ok1 ok2)
  clear ok1 ok2 hn0 hn1 hn2 okD hnD
  have hx_0 : (_ : World).cell? ⟨g7, 0, none⟩ = some (.slice A4 n4 c4) := hx.c0
  have hx_1 : (_ : World).cell? ⟨g7, 1, none⟩ = some (.slice B4 m4 k4) := hx.c1
  have hx_2 : (_ : World).cell? ⟨g7, 2, none⟩ = some (.bool dd4) := hx.c2
  have hx_3 : (_ : World).cell? ⟨g7, 3, none⟩ = some (.int .i64 lf4) := hx.c3
  have hx_4 : (_ : World).cell? ⟨g7, 4, none⟩ = some (.int .i64 ds4) := hx.c4
  have hx_f := hx.f
  go_wp2_with fail
  refine (hNw _ _ (HT.out.below hB) hd).mono ?_
  rintro e w1 ⟨v1, rfl, hd1, hv⟩
  clear hx_0 hx_1 hx_2 hx_3 hx_4 hx_f
  have hh := hh.below hv hh.lt
  have hx := hx.below hv hx.lt5
  have hd := hd.below hv (Nat.le_refl _)
  have hB := hB.trans (hv.mono hB.size)
  clear hv
  obtain ⟨A1, n1, c1, B1, m1, k1, dd1, lf1, ds1, rfl⟩ := dev_form hd1
  have hv := (Below.refl w1.heap.size w1).alloc (Nat.le_refl _) (.cells #[.slice none 0 0, .slice none 0 0, .bool false, .int .i64 0, .int .i64 0] 39)
  have h9 : Box5 (w1.alloc (.cells #[.slice none 0 0, .slice none 0 0, .bool false, .int .i64 0, .int .i64 0] 39)) w1.heap.size (.slice none 0 0) (.slice none 0 0) (.bool false) (.int .i64 0) (.int .i64 0) := Box5.new w1 (.slice none 0 0) (.slice none 0 0) (.bool false) (.int .i64 0) (.int .i64 0) 39
  have o_hh_h9 : g4 < _ := hh.lt
  have o_hx_h9 : g7 < _ := hx.lt5
  have w_h9 := hB.size
  have hh := hh.below hv hh.lt
  have hx := hx.below hv hx.lt5
  have hd := hd.below hv (Nat.le_refl _)
  have hd1 := hd1.below hv (Nat.le_refl _)
  have hB := hB.trans (hv.mono hB.size)
  clear hv
  generalize hq_h9 : w1.alloc (.cells #[.slice none 0 0, .slice none 0 0, .bool false, .int .i64 0, .int .i64 0] 39) = x1z0 at hh hx h9 hd hd1 hB
  generalize hg_h9 : w1.heap.size = g9 at h9 w_h9 o_hh_h9 o_hx_h9
  have hv := (Below.refl x1z0.heap.size x1z0).alloc (Nat.le_refl _) (.cells #[.int .i64 0, .int .i64 0, .int .i64 0] 23)
  have h10 : BoxH (x1z0.alloc (.cells #[.int .i64 0, .int .i64 0, .int .i64 0] 23)) x1z0.heap.size noH := BoxH.new x1z0 noH 23
  have o_hh_h10 : g4 < _ := hh.lt
  have o_hx_h10 : g7 < _ := hx.lt5
  have o_h9_h10 : g9 < _ := h9.lt5
  have w_h10 := hB.size
  have hh := hh.below hv hh.lt
  have hx := hx.below hv hx.lt5
  have h9 := h9.below hv h9.lt5
  have hd := hd.below hv (Nat.le_refl _)
  have hd1 := hd1.below hv (Nat.le_refl _)
  have hB := hB.trans (hv.mono hB.size)
  clear hv
  generalize hq_h10 : x1z0.alloc (.cells #[.int .i64 0, .int .i64 0, .int .i64 0] 23) = x1z1 at hh h10 hx h9 hd hd1 hB
  generalize hg_h10 : x1z0.heap.size = g10 at h10 w_h10 o_hh_h10 o_hx_h10 o_h9_h10
  go_upto_region 10 with (first
    | (refine wpList_store5 rfl 39 (.tmp 9) (.tmp 76) rfl g9 _ _ _ _ _ _ _ _ _ _ rfl rfl h9 size31 (by simp [Value.oneCell']) ?_
       intro x1a hnw hb
       have hd := hd.but HN.out.1 h9.c0 hb
       have hd1 := hd1.but HN.out.2.1 h9.c0 hb
       have hh := hh.but hb (by omega)
       have h10 := h10.but hb (by omega)
       have hx := hx.but hb (by omega)
       have h9 := hnw
       have hB := hB.trans (hb.below w_h9)
       clear hnw hb)
    | (refine wpList_store3 rfl 23 (.tmp 10) (.tmp 77) rfl g10 _ ⟨rp, rl, re⟩ rfl rfl h10 size3 ?_
       intro x1b hnw hb
       have hd := dev_butH hd HN.out.1 h10 hb
       have hd1 := dev_butH hd1 HN.out.2.1 h10 hb
       have hh := hh.but hb (by omega)
       have hx := hx.but hb (by omega)
       have h9 := h9.but hb (by omega)
       have h10 := hnw
       have hB := hB.trans (hb.below w_h10)
       clear hnw hb))
  clear hq_h9 hg_h9 hq_h10 hg_h10
  have hx_0 : (_ : World).cell? ⟨g7, 0, none⟩ = some (.slice A4 n4 c4) := hx.c0
  have hx_1 : (_ : World).cell? ⟨g7, 1, none⟩ = some (.slice B4 m4 k4) := hx.c1
  have hx_2 : (_ : World).cell? ⟨g7, 2, none⟩ = some (.bool dd4) := hx.c2
  have hx_3 : (_ : World).cell? ⟨g7, 3, none⟩ = some (.int .i64 lf4) := hx.c3
  have hx_4 : (_ : World).cell? ⟨g7, 4, none⟩ = some (.int .i64 ds4) := hx.c4
  have hx_f := hx.f
  go_wp2_with fail
  refine (hNr _ hd).mono ?_
  rintro e w2 ⟨v2, rfl, hd2, hv⟩
  clear hx_0 hx_1 hx_2 hx_3 hx_4 hx_f
  have hh := hh.below hv hh.lt
  have h10 := h10.below hv h10.lt
  have hx := hx.below hv hx.lt5
  have h9 := h9.below hv h9.lt5
  have hd := hd.below hv (Nat.le_refl _)
  have hd1 := hd1.below hv (Nat.le_refl _)
  have hB := hB.trans (hv.mono hB.size)
  clear hv
  obtain ⟨A2, n2, c2, B2, m2, k2, dd2, lf2, ds2, rfl⟩ := dev_form hd2
  have hv := (Below.refl w2.heap.size w2).alloc (Nat.le_refl _) (.cells #[.slice none 0 0, .slice none 0 0, .bool false, .int .i64 0, .int .i64 0] 39)
  have h12 : Box5 (w2.alloc (.cells #[.slice none 0 0, .slice none 0 0, .bool false, .int .i64 0, .int .i64 0] 39)) w2.heap.size (.slice none 0 0) (.slice none 0 0) (.bool false) (.int .i64 0) (.int .i64 0) := Box5.new w2 (.slice none 0 0) (.slice none 0 0) (.bool false) (.int .i64 0) (.int .i64 0) 39
  have o_hh_h12 : g4 < _ := hh.lt
  have o_h10_h12 : g10 < _ := h10.lt
  have o_hx_h12 : g7 < _ := hx.lt5
  have o_h9_h12 : g9 < _ := h9.lt5
  have w_h12 := hB.size
  have hh := hh.below hv hh.lt
  have h10 := h10.below hv h10.lt
  have hx := hx.below hv hx.lt5
  have h9 := h9.below hv h9.lt5
  have hd := hd.below hv (Nat.le_refl _)
  have hd1 := hd1.below hv (Nat.le_refl _)
  have hd2 := hd2.below hv (Nat.le_refl _)
  have hB := hB.trans (hv.mono hB.size)
  clear hv
  generalize hq_h12 : w2.alloc (.cells #[.slice none 0 0, .slice none 0 0, .bool false, .int .i64 0, .int .i64 0] 39) = x2z0 at hh h10 hx h9 h12 hd hd1 hd2 hB
  generalize hg_h12 : w2.heap.size = g12 at h12 w_h12 o_hh_h12 o_h10_h12 o_hx_h12 o_h9_h12
  have hv := (Below.refl x2z0.heap.size x2z0).alloc (Nat.le_refl _) (.cells #[.int .i64 0, .int .i64 0, .int .i64 0] 23)
  have h13 : BoxH (x2z0.alloc (.cells #[.int .i64 0, .int .i64 0, .int .i64 0] 23)) x2z0.heap.size noH := BoxH.new x2z0 noH 23
  have o_hh_h13 : g4 < _ := hh.lt
  have o_h10_h13 : g10 < _ := h10.lt
  have o_hx_h13 : g7 < _ := hx.lt5
  have o_h9_h13 : g9 < _ := h9.lt5
  have o_h12_h13 : g12 < _ := h12.lt5
  have w_h13 := hB.size
  have hh := hh.below hv hh.lt
  have h10 := h10.below hv h10.lt
  have hx := hx.below hv hx.lt5
  have h9 := h9.below hv h9.lt5
  have h12 := h12.below hv h12.lt5
  have hd := hd.below hv (Nat.le_refl _)
  have hd1 := hd1.below hv (Nat.le_refl _)
  have hd2 := hd2.below hv (Nat.le_refl _)
  have hB := hB.trans (hv.mono hB.size)
  clear hv
  generalize hq_h13 : x2z0.alloc (.cells #[.int .i64 0, .int .i64 0, .int .i64 0] 23) = x2z1 at hh h10 h13 hx h9 h12 hd hd1 hd2 hB
  generalize hg_h13 : x2z0.heap.size = g13 at h13 w_h13 o_hh_h13 o_h10_h13 o_hx_h13 o_h9_h13 o_h12_h13
  go_upto_region 11 with (first
    | (refine wpList_store5 rfl 39 (.tmp 12) (.tmp 82) rfl g12 _ _ _ _ _ _ _ _ _ _ rfl rfl h12 size31 (by simp [Value.oneCell']) ?_
       intro x2a hnw hb
       have hd := hd.but HN.out.1 h12.c0 hb
       have hd1 := hd1.but HN.out.2.1 h12.c0 hb
       have hd2 := hd2.but HN.out.2.1 h12.c0 hb
       have hh := hh.but hb (by omega)
       have h10 := h10.but hb (by omega)
       have h13 := h13.but hb (by omega)
       have hx := hx.but hb (by omega)
       have h9 := h9.but hb (by omega)
       have h12 := hnw
       have hB := hB.trans (hb.below w_h12)
       clear hnw hb)
    | (refine wpList_store3 rfl 23 (.tmp 13) (.tmp 83) rfl g13 _ ⟨rp, rl, re⟩ rfl rfl h13 size3 ?_
       intro x2b hnw hb
       have hd := dev_butH hd HN.out.1 h13 hb
       have hd1 := dev_butH hd1 HN.out.2.1 h13 hb
       have hd2 := dev_butH hd2 HN.out.2.1 h13 hb
       have hh := hh.but hb (by omega)
       have h10 := h10.but hb (by omega)
       have hx := hx.but hb (by omega)
       have h9 := h9.but hb (by omega)
       have h12 := h12.but hb (by omega)
       have h13 := hnw
       have hB := hB.trans (hb.below w_h13)
       clear hnw hb))
  clear hq_h12 hg_h12 hq_h13 hg_h13
  have hx_0 : (_ : World).cell? ⟨g7, 0, none⟩ = some (.slice A4 n4 c4) := hx.c0
  have hx_1 : (_ : World).cell? ⟨g7, 1, none⟩ = some (.slice B4 m4 k4) := hx.c1
  have hx_2 : (_ : World).cell? ⟨g7, 2, none⟩ = some (.bool dd4) := hx.c2
  have hx_3 : (_ : World).cell? ⟨g7, 3, none⟩ = some (.int .i64 lf4) := hx.c3
  have hx_4 : (_ : World).cell? ⟨g7, 4, none⟩ = some (.int .i64 ds4) := hx.c4
  have hx_f := hx.f
  have hh_0 : (_ : World).cell? ⟨g4, 0, none⟩ = some (.int .i64 hp) := hh.c0
  have hh_1 : (_ : World).cell? ⟨g4, 1, none⟩ = some (.int .i64 hl) := hh.c1
  have hh_2 : (_ : World).cell? ⟨g4, 2, none⟩ = some (.int .i64 he) := hh.c2
  have hh_f := hh.f
  go_wp2_with fail
  refine (hPt _ _ (HT.out.below hB) hd).mono ?_
  rintro e w3 ⟨v3, rfl, hd3, hv⟩
  clear hx_0 hx_1 hx_2 hx_3 hx_4 hx_f hh_0 hh_1 hh_2 hh_f
  have hh := hh.below hv hh.lt
  have h10 := h10.below hv h10.lt
  have h13 := h13.below hv h13.lt
  have hx := hx.below hv hx.lt5
  have h9 := h9.below hv h9.lt5
  have h12 := h12.below hv h12.lt5
  have hd := hd.below hv (Nat.le_refl _)
  have hd1 := hd1.below hv (Nat.le_refl _)
  have hd2 := hd2.below hv (Nat.le_refl _)
  have hB := hB.trans (hv.mono hB.size)
  clear hv
  obtain ⟨A3, n3, c3, B3, m3, k3, dd3, lf3, ds3, rfl⟩ := dev_form hd3
  have hv := (Below.refl w3.heap.size w3).alloc (Nat.le_refl _) (.cells #[.slice none 0 0, .slice none 0 0, .bool false, .int .i64 0, .int .i64 0] 39)
  have h15 : Box5 (w3.alloc (.cells #[.slice none 0 0, .slice none 0 0, .bool false, .int .i64 0, .int .i64 0] 39)) w3.heap.size (.slice none 0 0) (.slice none 0 0) (.bool false) (.int .i64 0) (.int .i64 0) := Box5.new w3 (.slice none 0 0) (.slice none 0 0) (.bool false) (.int .i64 0) (.int .i64 0) 39
  have o_hh_h15 : g4 < _ := hh.lt
  have o_h10_h15 : g10 < _ := h10.lt
  have o_h13_h15 : g13 < _ := h13.lt
  have o_hx_h15 : g7 < _ := hx.lt5
  have o_h9_h15 : g9 < _ := h9.lt5
  have o_h12_h15 : g12 < _ := h12.lt5
  have w_h15 := hB.size
  have hh := hh.below hv hh.lt
  have h10 := h10.below hv h10.lt
  have h13 := h13.below hv h13.lt
  have hx := hx.below hv hx.lt5
  have h9 := h9.below hv h9.lt5
  have h12 := h12.below hv h12.lt5
  have hd := hd.below hv (Nat.le_refl _)
  have hd1 := hd1.below hv (Nat.le_refl _)
  have hd2 := hd2.below hv (Nat.le_refl _)
  have hd3 := hd3.below hv (Nat.le_refl _)
  have hB := hB.trans (hv.mono hB.size)
  clear hv
  generalize hq_h15 : w3.alloc (.cells #[.slice none 0 0, .slice none 0 0, .bool false, .int .i64 0, .int .i64 0] 39) = x3z0 at hh h10 h13 hx h9 h12 h15 hd hd1 hd2 hd3 hB
  generalize hg_h15 : w3.heap.size = g15 at h15 w_h15 o_hh_h15 o_h10_h15 o_h13_h15 o_hx_h15 o_h9_h15 o_h12_h15
  go_upto_region 12 with (first
    | (refine wpList_store5 rfl 39 (.tmp 15) (.tmp 89) rfl g15 _ _ _ _ _ _ _ _ _ _ rfl rfl h15 size31 (by simp [Value.oneCell']) ?_
       intro x3a hnw hb
       have hd := hd.but HN.out.1 h15.c0 hb
       have hd1 := hd1.but HN.out.2.1 h15.c0 hb
       have hd2 := hd2.but HN.out.2.1 h15.c0 hb
       have hd3 := hd3.but HN.out.2.2 h15.c0 hb
       have hh := hh.but hb (by omega)
       have h10 := h10.but hb (by omega)
       have h13 := h13.but hb (by omega)
       have hx := hx.but hb (by omega)
       have h9 := h9.but hb (by omega)
       have h12 := h12.but hb (by omega)
       have h15 := hnw
       have hB := hB.trans (hb.below w_h15)
       clear hnw hb))
  clear hq_h15 hg_h15
  have hx_0 : (_ : World).cell? ⟨g7, 0, none⟩ = some (.slice A4 n4 c4) := hx.c0
  have hx_1 : (_ : World).cell? ⟨g7, 1, none⟩ = some (.slice B4 m4 k4) := hx.c1
  have hx_2 : (_ : World).cell? ⟨g7, 2, none⟩ = some (.bool dd4) := hx.c2
  have hx_3 : (_ : World).cell? ⟨g7, 3, none⟩ = some (.int .i64 lf4) := hx.c3
  have hx_4 : (_ : World).cell? ⟨g7, 4, none⟩ = some (.int .i64 ds4) := hx.c4
  have hx_f := hx.f
  have hh_0 : (_ : World).cell? ⟨g4, 0, none⟩ = some (.int .i64 hp) := hh.c0
  have hh_1 : (_ : World).cell? ⟨g4, 1, none⟩ = some (.int .i64 hl) := hh.c1
  have hh_2 : (_ : World).cell? ⟨g4, 2, none⟩ = some (.int .i64 he) := hh.c2
  have hh_f := hh.f
  go_wp2_with fail
  refine (hPr _ hd).mono ?_
  rintro e w5 ⟨v5, rfl, hd5, hv⟩
  clear hx_0 hx_1 hx_2 hx_3 hx_4 hx_f hh_0 hh_1 hh_2 hh_f
  have hh := hh.below hv hh.lt
  have h10 := h10.below hv h10.lt
  have h13 := h13.below hv h13.lt
  have hx := hx.below hv hx.lt5
  have h9 := h9.below hv h9.lt5
  have h12 := h12.below hv h12.lt5
  have h15 := h15.below hv h15.lt5
  have hd := hd.below hv (Nat.le_refl _)
  have hd1 := hd1.below hv (Nat.le_refl _)
  have hd2 := hd2.below hv (Nat.le_refl _)
  have hd3 := hd3.below hv (Nat.le_refl _)
  have hB := hB.trans (hv.mono hB.size)
  clear hv
  obtain ⟨A5, n5, c5, B5, m5, k5, dd5, lf5, ds5, rfl⟩ := dev_form hd5
  have hv := (Below.refl w5.heap.size w5).alloc (Nat.le_refl _) (.cells #[.slice none 0 0, .slice none 0 0, .bool false, .int .i64 0, .int .i64 0] 39)
  have h17 : Box5 (w5.alloc (.cells #[.slice none 0 0, .slice none 0 0, .bool false, .int .i64 0, .int .i64 0] 39)) w5.heap.size (.slice none 0 0) (.slice none 0 0) (.bool false) (.int .i64 0) (.int .i64 0) := Box5.new w5 (.slice none 0 0) (.slice none 0 0) (.bool false) (.int .i64 0) (.int .i64 0) 39
  have o_hh_h17 : g4 < _ := hh.lt
  have o_h10_h17 : g10 < _ := h10.lt
  have o_h13_h17 : g13 < _ := h13.lt
  have o_hx_h17 : g7 < _ := hx.lt5
  have o_h9_h17 : g9 < _ := h9.lt5
  have o_h12_h17 : g12 < _ := h12.lt5
  have o_h15_h17 : g15 < _ := h15.lt5
  have w_h17 := hB.size
  have hh := hh.below hv hh.lt
  have h10 := h10.below hv h10.lt
  have h13 := h13.below hv h13.lt
  have hx := hx.below hv hx.lt5
  have h9 := h9.below hv h9.lt5
  have h12 := h12.below hv h12.lt5
  have h15 := h15.below hv h15.lt5
  have hd := hd.below hv (Nat.le_refl _)
  have hd1 := hd1.below hv (Nat.le_refl _)
  have hd2 := hd2.below hv (Nat.le_refl _)
  have hd3 := hd3.below hv (Nat.le_refl _)
  have hd5 := hd5.below hv (Nat.le_refl _)
  have hB := hB.trans (hv.mono hB.size)
  clear hv
  generalize hq_h17 : w5.alloc (.cells #[.slice none 0 0, .slice none 0 0, .bool false, .int .i64 0, .int .i64 0] 39) = x4z0 at hh h10 h13 hx h9 h12 h15 h17 hd hd1 hd2 hd3 hd5 hB
  generalize hg_h17 : w5.heap.size = g17 at h17 w_h17 o_hh_h17 o_h10_h17 o_h13_h17 o_hx_h17 o_h9_h17 o_h12_h17 o_h15_h17
  go_upto_region 13 with (first
    | (refine wpList_store5 rfl 39 (.tmp 17) (.tmp 95) rfl g17 _ _ _ _ _ _ _ _ _ _ rfl rfl h17 size31 (by simp [Value.oneCell']) ?_
       intro x4a hnw hb
       have hd := hd.but HN.out.1 h17.c0 hb
       have hd1 := hd1.but HN.out.2.1 h17.c0 hb
       have hd2 := hd2.but HN.out.2.1 h17.c0 hb
       have hd3 := hd3.but HN.out.2.2 h17.c0 hb
       have hd5 := hd5.but HN.out.2.2 h17.c0 hb
       have hh := hh.but hb (by omega)
       have h10 := h10.but hb (by omega)
       have h13 := h13.but hb (by omega)
       have hx := hx.but hb (by omega)
       have h9 := h9.but hb (by omega)
       have h12 := h12.but hb (by omega)
       have h15 := h15.but hb (by omega)
       have h17 := hnw
       have hB := hB.trans (hb.below w_h17)
       clear hnw hb))
  clear hq_h17 hg_h17
  clear hx hh hd
  go_wp2_with fail
  refine (awake_any _ (HT.out.below hB)).mono ?_
  rintro e y1 ⟨rfl, hv⟩
  have h10 := h10.below hv h10.lt
  have h13 := h13.below hv h13.lt
  have h9 := h9.below hv h9.lt5
  have h12 := h12.below hv h12.lt5
  have h15 := h15.below hv h15.lt5
  have h17 := h17.below hv h17.lt5
  have hd1 := hd1.below hv (Nat.le_refl _)
  have hd2 := hd2.below hv (Nat.le_refl _)
  have hd3 := hd3.below hv (Nat.le_refl _)
  have hd5 := hd5.below hv (Nat.le_refl _)
  have hB := hB.trans (hv.mono hB.size)
  clear hv
  have h9_0 : (_ : World).cell? ⟨g9, 0, none⟩ = some (.slice A1 n1 c1) := h9.c0
  have h9_1 : (_ : World).cell? ⟨g9, 1, none⟩ = some (.slice B1 m1 k1) := h9.c1
  have h9_2 : (_ : World).cell? ⟨g9, 2, none⟩ = some (.bool dd1) := h9.c2
  have h9_3 : (_ : World).cell? ⟨g9, 3, none⟩ = some (.int .i64 lf1) := h9.c3
  have h9_4 : (_ : World).cell? ⟨g9, 4, none⟩ = some (.int .i64 ds1) := h9.c4
  have h9_f := h9.f
  have h12_0 : (_ : World).cell? ⟨g12, 0, none⟩ = some (.slice A2 n2 c2) := h12.c0
  have h12_1 : (_ : World).cell? ⟨g12, 1, none⟩ = some (.slice B2 m2 k2) := h12.c1
  have h12_2 : (_ : World).cell? ⟨g12, 2, none⟩ = some (.bool dd2) := h12.c2
  have h12_3 : (_ : World).cell? ⟨g12, 3, none⟩ = some (.int .i64 lf2) := h12.c3
  have h12_4 : (_ : World).cell? ⟨g12, 4, none⟩ = some (.int .i64 ds2) := h12.c4
  have h12_f := h12.f
  go_wp2_with fail
  refine (sameDev hd1 hd2 HO.out.1 (by decide)).mono ?_
  rintro e y2 ⟨rfl, hv⟩
  clear h9_0 h9_1 h9_2 h9_3 h9_4 h9_f h12_0 h12_1 h12_2 h12_3 h12_4 h12_f
  have h10 := h10.below hv h10.lt
  have h13 := h13.below hv h13.lt
  have h9 := h9.below hv h9.lt5
  have h12 := h12.below hv h12.lt5
  have h15 := h15.below hv h15.lt5
  have h17 := h17.below hv h17.lt5
  have hd1 := hd1.below hv (Nat.le_refl _)
  have hd2 := hd2.below hv (Nat.le_refl _)
  have hd3 := hd3.below hv (Nat.le_refl _)
  have hd5 := hd5.below hv (Nat.le_refl _)
  have hB := hB.trans (hv.mono hB.size)
  clear hv
  clear h9 h12 hd1 hd2
  have h10_0 : (_ : World).cell? ⟨g10, 0, none⟩ = some (.int .i64 rp) := h10.c0
  have h10_1 : (_ : World).cell? ⟨g10, 1, none⟩ = some (.int .i64 rl) := h10.c1
  have h10_2 : (_ : World).cell? ⟨g10, 2, none⟩ = some (.int .i64 re) := h10.c2
  have h10_f := h10.f
  have h13_0 : (_ : World).cell? ⟨g13, 0, none⟩ = some (.int .i64 rp) := h13.c0
  have h13_1 : (_ : World).cell? ⟨g13, 1, none⟩ = some (.int .i64 rl) := h13.c1
  have h13_2 : (_ : World).cell? ⟨g13, 2, none⟩ = some (.int .i64 re) := h13.c2
  have h13_f := h13.f
  have h15_0 : (_ : World).cell? ⟨g15, 0, none⟩ = some (.slice A3 n3 c3) := h15.c0
  have h15_1 : (_ : World).cell? ⟨g15, 1, none⟩ = some (.slice B3 m3 k3) := h15.c1
  have h15_2 : (_ : World).cell? ⟨g15, 2, none⟩ = some (.bool dd3) := h15.c2
  have h15_3 : (_ : World).cell? ⟨g15, 3, none⟩ = some (.int .i64 lf3) := h15.c3
  have h15_4 : (_ : World).cell? ⟨g15, 4, none⟩ = some (.int .i64 ds3) := h15.c4
  have h15_f := h15.f
  have h17_0 : (_ : World).cell? ⟨g17, 0, none⟩ = some (.slice A5 n5 c5) := h17.c0
  have h17_1 : (_ : World).cell? ⟨g17, 1, none⟩ = some (.slice B5 m5 k5) := h17.c1
  have h17_2 : (_ : World).cell? ⟨g17, 2, none⟩ = some (.bool dd5) := h17.c2
  have h17_3 : (_ : World).cell? ⟨g17, 3, none⟩ = some (.int .i64 lf5) := h17.c3
  have h17_4 : (_ : World).cell? ⟨g17, 4, none⟩ = some (.int .i64 ds5) := h17.c4
  have h17_f := h17.f
  go_wp2_with fail
  refine (sameDev hd3 hd5 HO.out.2 (by decide)).mono ?_
  rintro e y3 ⟨rfl, hv⟩
  clear h10_0 h10_1 h10_2 h10_f h13_0 h13_1 h13_2 h13_f h15_0 h15_1 h15_2 h15_3 h15_4 h15_f h17_0 h17_1 h17_2 h17_3 h17_4 h17_f
  have h10 := h10.below hv h10.lt
  have h13 := h13.below hv h13.lt
  have h15 := h15.below hv h15.lt5
  have h17 := h17.below hv h17.lt5
  have hd3 := hd3.below hv (Nat.le_refl _)
  have hd5 := hd5.below hv (Nat.le_refl _)
  have hB := hB.trans (hv.mono hB.size)
  clear hv
  have HB := Lib.hid hB
  clear h10 h13 h15 h17 hd3 hd5 hB
  go_wp2
  go_ret
  exact ⟨rfl, HB.out⟩
end Go.Proofs.YtdbemkdfndjakaaDoor.Hd
