/- A schema is read: the program's, walked. -/
import Derived.Test.YtajoklimdlalhaaScJ
import Derived.Deep.RegionHeld3
namespace Go.Proofs.Ytajoklimdlalhaa.Sc
open Go.RowKit Pac

theorem at_below {w w' : World} {B b : Nat} {v : Value} (h : w.cell? ⟨b, 0, none⟩ = some v) (hb : Below B w w') (hB : b < B) : w'.cell? ⟨b, 0, none⟩ = some v := (hb.cell (p := ⟨b, 0, none⟩) hB).trans h
theorem at_bar {w w' : World} {g b : Nat} {v : Value} (h : w.cell? ⟨b, 0, none⟩ = some v) (hb : Bar g w w') (hg : b ≠ g) : w'.cell? ⟨b, 0, none⟩ = some v := (hb.cell (p := ⟨b, 0, none⟩) (World.block_lt_of_cell? w _ h) hg).trans h
theorem at_alloc {w : World} {b : Nat} {v : Value} (h : w.cell? ⟨b, 0, none⟩ = some v) (o : Obj) : (w.alloc o).cell? ⟨b, 0, none⟩ = some v := at_below h ((Below.refl w.heap.size w).alloc (Nat.le_refl _) o) (World.block_lt_of_cell? w _ h)
theorem at_set {w : World} {b : Nat} {v : Value} (h : w.cell? ⟨b, 0, none⟩ = some v) {p : Addr} (hp : p.block ≠ b) (u : Value) : (w.setCell p u).cell? ⟨b, 0, none⟩ = some v := (World.cell?_setCell_other w _ _ u (fun e => hp (by rw [e]))).trans h

def SchPost (g lo : Nat) (nm : ByteArray) (l : List C) (s : ByteArray) (d : Bool) (w : World) (e : Ending) (w' : World) : Prop :=
  ∃ v, e = .returned v ∧ IsSch w' lo v nm l ∧ IsBox w' g s d ∧ Bar g w w'

set_option maxRecDepth 20000 in
set_option maxHeartbeats 8000000 in
theorem schema_any (g : Nat) (s : ByteArray) (d : Bool) (w : World) (hb : IsBox w g s d) (hs : s.size ≤ 9223372036854775807) :
    Calls Try.prog 29 #[.agg #[.pointer (some ⟨g, 0, none⟩)]] w (SchPost g w.heap.size (seenP s d).1 (seenP s d).2.1 (seenP s d).2.2.1 (seenP s d).2.2.2 w) := by
  obtain ⟨i0, hi, hz0, hz1, hz2⟩ := info_parts info41
  have hlt := hb.lt
  have hbA := (hb.alloc (.cells #[.pointer (some ⟨g, 0, none⟩)] 51)).alloc (.cells #[.string ⟨#[]⟩, .slice none 0 0] 24)
  have hrA := Box2.new (w.alloc (.cells #[.pointer (some ⟨g, 0, none⟩)] 51)) (.string ⟨#[]⟩) (.slice none 0 0) 24
  rw [show (w.alloc (.cells #[.pointer (some ⟨g, 0, none⟩)] 51)).heap.size = w.heap.size + 1 by simp] at hrA
  have hBA := bar_alloc (bar_alloc (Bar.refl g w) (.cells #[.pointer (some ⟨g, 0, none⟩)] 51)) (.cells #[.string ⟨#[]⟩, .slice none 0 0] 24)
  have hcA : ((w.alloc (.cells #[.pointer (some ⟨g, 0, none⟩)] 51)).alloc (.cells #[.string ⟨#[]⟩, .slice none 0 0] 24)).cell? ⟨w.heap.size, 0, none⟩ = some (.pointer (some ⟨g, 0, none⟩)) := by simp [go_sem]
  have hc1 := fun (W : World) (h : IsBox W g s d) => boxText_any g s d 20 W h hs
  have hz1' := txtS_size s d 20
  have hc2 := fun (W : World) (h : IsBox W g (txtS s d 20) (txtBad s d 20)) => boxBetween_any g (txtS s d 20) (txtBad s d 20) 1 8 W h (by omega)
  have h0 := btwR_pos (txtS s d 20) (txtBad s d 20) 1 8 (by omega)
  have h1 := btwR_high (txtS s d 20) (txtBad s d 20) 1 8 (by omega)
  have hz2' := numS_size (txtS s d 20) (txtBad s d 20)
  have hE : seenP s d = (txtR s d 20, readP (btwR (txtS s d 20) (txtBad s d 20) 1 8).toNat (numS (txtS s d 20) (txtBad s d 20)) (btwBad (txtS s d 20) (txtBad s d 20) 1 8)) := rfl
  rw [hE]
  clear hE
  generalize txtR s d 20 = nm at hc1 ⊢
  generalize txtS s d 20 = s1 at hc1 hc2 h0 h1 hz1' hz2' ⊢
  generalize txtBad s d 20 = d1 at hc1 hc2 h0 h1 hz2' ⊢
  generalize btwR s1 d1 1 8 = kn at hc2 h0 h1 ⊢
  generalize numS s1 d1 = s2 at hc2 hz2' ⊢
  generalize btwBad s1 d1 1 8 = d2 at hc2 ⊢
  obtain ⟨m, rfl⟩ := Int.eq_ofNat_of_zero_le h0
  rw [Int.toNat_natCast]
  have hml := readP_len m s2 d2
  generalize hRP : readP m s2 d2 = RP at hml ⊢
  have HRP := Lib.hid hRP
  have HML := Lib.hid hml
  clear hRP hml h0
  go_enter Try.func29, Try.ntmps29
  go_wp2_with fail
  refine (hc1 _ hbA).mono ?_
  rintro e w1 ⟨rfl, hb1, hB1⟩
  have hl1 : w.heap.size + 1 < w1.heap.size := Nat.lt_of_lt_of_le hrA.lt hB1.size
  have hr1 := hrA.bar hB1 (by omega)
  have hk1 := at_bar hcA hB1 (by omega)
  have hBB := hBA.trans hB1
  clear hc1 hbA hrA hBA hcA hB1
  have hx2 := Box2.new w1 (.string nm) (.slice none 0 0) 24
  have hb2 := hb1.alloc (.cells #[.string nm, .slice none 0 0] 24)
  have hr2 := hr1.alloc (.cells #[.string nm, .slice none 0 0] 24)
  have hp2 := at_alloc hk1 (.cells #[.string nm, .slice none 0 0] 24)
  have hBC := bar_alloc hBB (.cells #[.string nm, .slice none 0 0] 24)
  have hsz2 : w1.heap.size + 1 ≤ (w1.alloc (.cells #[.string nm, .slice none 0 0] 24)).heap.size := by simp
  have HX := Lib.hid (And.intro hx2 (And.intro hb2 (And.intro hr2 (And.intro hBC hsz2))))
  clear hx2 hb2 hr2 hBC hsz2 hb1 hr1 hBB
  go_wp2_with fail
  obtain ⟨hx, hb2, hr, hB, hsz⟩ := HX.out
  refine (hc2 _ hb2).mono ?_
  rintro e w3 ⟨rfl, hb3, hB3⟩
  generalize hbase : w1.heap.size + 1 = base at hsz
  have n3g : w1.heap.size ≠ g := by omega
  have n1g : w.heap.size ≠ g := by omega
  have n2g : w.heap.size + 1 ≠ g := by omega
  have gb : g < base := by omega
  have b3b : w1.heap.size < base := by omega
  have b1b : w.heap.size < base := by omega
  have b2b : w.heap.size + 1 < base := by omega
  have wb : w.heap.size ≤ base := by omega
  have wb3 : w.heap.size ≤ w1.heap.size := by omega
  have n31 : w1.heap.size ≠ w.heap.size := by omega
  have n32 : w1.heap.size ≠ w.heap.size + 1 := by omega
  have hx := hx.bar hB3 n3g
  have hp := at_bar hp2 hB3 n1g
  have hr := hr.bar hB3 n2g
  have hB := hB.trans hB3
  have hsz := Nat.le_trans hsz hB3.size
  have hz3 : s2.size ≤ s.size := by omega
  clear hB3 hb2 HX hp2 hk1 hc2 hbase hz1' hz2'
  have HG := Lib.hid (And.intro n3g (And.intro n1g (And.intro n2g (And.intro gb (And.intro b3b (And.intro b1b (And.intro b2b (And.intro wb (And.intro wb3 (And.intro n31 n32))))))))))
  clear n3g n1g n2g gb b3b b1b b2b wb wb3 n31 n32
  go_wp2
  have hx0 : ∃ sv, Box2 w3 w1.heap.size (.string nm) sv ∧ w3.ownsRow base 41 3 sv 0 (cellsOf []) := ⟨_, hx, World.ownsRow_nil _ _ _ _⟩
  clear hx
  generalize w1.heap.size = b3 at hx0 HG hl1 ⊢
  go_loopw [11] (fun i wr => ∃ (q : Nat) (cs : List C) (sv : Value) (sa : ByteArray) (da : Bool), q ≤ m ∧ i = .int .i64 q ∧ Box2 wr b3 (.string nm) sv ∧ wr.ownsRow base 41 3 sv q (cellsOf cs) ∧ Hid (cs.length = q) ∧ IsBox wr g sa da ∧ sa.size ≤ s.size ∧ Hid (RP = (cs ++ (readP (m - q) sa da).1, (readP (m - q) sa da).2)) ∧ Bar g w wr ∧ wr.cell? ⟨w.heap.size, 0, none⟩ = some (.pointer (some ⟨g, 0, none⟩)) ∧ Box2 wr (w.heap.size + 1) (.string ⟨#[]⟩) (.slice none 0 0) ∧ base ≤ wr.heap.size) (fun i _ => m - (intOf i).toNat)
  case atStart =>
    obtain ⟨sv, h1', h2'⟩ := hx0
    exact ⟨0, [], sv, s2, d2, Nat.zero_le _, rfl, h1', h2', Lib.hid rfl, hb3, hz3, Lib.hid HRP.out.symm, hB, hp, hr, hsz⟩
  case round =>
    clear hx0 hb3 hB hp hr hsz HRP
    obtain ⟨q, cs, sv, sa, da, hq, rfl, hx, hown, HCL, hbx, hzs, HR, hB, hp, hr, hsz⟩ := hrel
    obtain ⟨n3g, n1g, n2g, gb, b3b, b1b, b2b, wb, wb3, n31, n32⟩ := HG.out
    by_cases hlt : q < m
    · have hmq : m - q = (m - (q + 1)) + 1 := by omega
      have hR2 : RP = ((cs ++ [(readCd sa da).1]) ++ (readP (m - (q + 1)) (readCd sa da).2.1 (readCd sa da).2.2).1, (readP (m - (q + 1)) (readCd sa da).2.1 (readCd sa da).2.2).2) := by
        rw [HR.out, hmq]
        show (cs ++ ((readCd sa da).1 :: (readP (m - (q + 1)) (readCd sa da).2.1 (readCd sa da).2.2).1), _) = _
        rw [List.append_assoc]
        rfl
      have hzq := readCd_size sa da
      have hc3 := fun (W : World) (h : IsBox W g sa da) => col_any g sa da W h (by omega)
      clear hmq HR
      generalize readCd sa da = R at hR2 hzq hc3
      obtain ⟨⟨n, k, zz⟩, s2, d2⟩ := R
      have hc3 : ∀ W : World, IsBox W g sa da → Calls Try.prog 38 #[.agg #[.pointer (some ⟨g, 0, none⟩)]] W fun e w' => e = .returned (.agg #[.string n, .int .i64 k, .bool zz]) ∧ IsBox w' g s2 d2 ∧ Bar g W w' := hc3
      have hz2' : s2.size ≤ s.size := Nat.le_trans hzq hzs
      have HR2 := Lib.hid hR2
      clear hR2 hzq
      go_wp2_with fail
      refine wp_region_noPanic ?_
      refine wp_region_held_drew (S := fun W => W.cell? ⟨w.heap.size, 0, none⟩ = some (.pointer (some ⟨g, 0, none⟩))) (by kernel_rfl) hp (fun _ => ?_)
      have hp : wr.drew.cell? ⟨w.heap.size, 0, none⟩ = some (.pointer (some ⟨g, 0, none⟩)) := hp
      have hx := hx.drew
      have hr := hr.drew
      have hown := hown.drew
      have hB := hB.drew
      have hbx := hbx.drew
      refine wpAnyH_take (i := 0) (v := ?_) rfl (by kernel_rfl) (by kernel_rfl) (by kernel_rfl) (fun _ _ _ h => h) (Or.inl ⟨by rfl, ?_⟩) (by assumption) ?_
      rotate_left
      · intro Wx hSw
        try dsimp only at hSw
        go_simp
        try (with_reducible rfl)
      try simp only [Act.put, List.setIfInBounds_toArray, List.set_cons_zero, List.set_cons_succ]
      refine wpAnyH_take (i := 2) (v := ?_) rfl (by kernel_rfl) (by kernel_rfl) (by kernel_rfl) (fun _ _ _ h => h) (Or.inl ⟨by rfl, ?_⟩) (by assumption) ?_
      rotate_left
      · intro Wx hSw
        try dsimp only at hSw
        go_simp
        try (with_reducible rfl)
      try simp only [Act.put, List.setIfInBounds_toArray, List.set_cons_zero, List.set_cons_succ]
      refine wpAnyH_ready (rs := [1, 3]) (by kernel_rfl) (by simp) ?_
      refine AllReadyH.cons rfl (fun K hK => ?_) (AllReadyH.cons rfl (fun K hK => ?_) AllReadyH.nil)
      · skip
        have k1 := hx.c1
        go_simp
        refine hK.out _ _ ?_ (fun hHeld => ?_)
        · exact hp
        clear hK K
        try simp only [Act.put, List.setIfInBounds_toArray, List.set_cons_zero, List.set_cons_succ]
        clear k1
        refine wpAnyH_ready (rs := [3]) (by kernel_rfl) (by simp) ?_
        refine AllReadyH.cons rfl (fun K hK => ?_) AllReadyH.nil
        go_simp
        refine (hc3 _ hbx).mono ?_
        rintro e y1 ⟨rfl, hb1, hB1⟩
        have hx := hx.bar hB1 n3g
        have hp := at_bar hp hB1 n1g
        have hr := hr.bar hB1 n2g
        have hown := own_bar hown hB1 gb
        have hB := hB.trans hB1
        have hbx := hb1
        have hsz := Nat.le_trans hsz hB1.size
        clear hb1 hB1 hc3
        refine hK.out _ _ ?_ (fun hHeld => ?_)
        · exact hp
        clear hK K
        try simp only [Act.put, List.setIfInBounds_toArray, List.set_cons_zero, List.set_cons_succ]
        refine wpAnyH_ready (rs := [4]) (by kernel_rfl) (by simp) ?_
        refine AllReadyH.cons rfl (fun K hK => ?_) AllReadyH.nil
        go_simp
        have hx := hx.alloc (.cells #[.string n, .int .i64 k, .bool zz] 41)
        have hp := at_alloc hp (.cells #[.string n, .int .i64 k, .bool zz] 41)
        have hr := hr.alloc (.cells #[.string n, .int .i64 k, .bool zz] 41)
        have hown := hown.alloc (.cells #[.string n, .int .i64 k, .bool zz] 41)
        have hB := bar_alloc hB (.cells #[.string n, .int .i64 k, .bool zz] 41)
        have hbx := hbx.alloc (.cells #[.string n, .int .i64 k, .bool zz] 41)
        have hsz : base ≤ (y1.alloc (.cells #[.string n, .int .i64 k, .bool zz] 41)).heap.size := Nat.le_trans hsz (by simp)
        have hnews := heap_alloc_new y1 (.cells #[.string n, .int .i64 k, .bool zz] 41)
        refine hK.out _ _ ?_ (fun hHeld => ?_)
        · exact hp
        clear hK K
        try simp only [Act.put, List.setIfInBounds_toArray, List.set_cons_zero, List.set_cons_succ]
        refine wpAnyH_ready (rs := [5]) (by kernel_rfl) (by simp) ?_
        refine AllReadyH.cons rfl (fun K hK => ?_) AllReadyH.nil
        refine step_append_lies _ (by rfl) (.tmp 14) (.tmp 17) 22 (by rfl) base 41 i0 _ 3 32 Try.underlying22 hi hz0 hz1 hz2 rfl (by omega) sv q (cellsOf cs) (by rfl) hown ⟨y1.heap.size, 0, none⟩ 1 1 [.string n, .int .i64 k, .bool zz] (by rfl) (by rfl) (World.news_of_block hnews) (by simp [Value.oneCell']) (by omega) (by unfold maxLen; omega) (by omega) hsz _ rfl ?_
        intro g5 cap5 y3 hown5 hgrow5 _ hlt5
        have hbl := (Below.refl base _).grown hgrow5 hsz (fun k hk => (hown.lt k hk).1)
        have hx := hx.below hbl b3b
        have hp := at_below hp hbl b1b
        have hr := hr.below hbl b2b
        have hbx := hbx.below hbl gb
        have hB := bar_step hB hbl wb
        have hsz := Nat.le_trans hsz hbl.size
        clear hown hgrow5 hbl hnews
        refine hK.out _ _ ?_ (fun hHeld => ?_)
        · exact hp
        clear hK K
        try simp only [Act.put, List.setIfInBounds_toArray, List.set_cons_zero, List.set_cons_succ]
        refine wpAnyH_take (i := 6) (v := ?_) rfl (by kernel_rfl) (by kernel_rfl) (by kernel_rfl) (fun _ _ _ h => h) (Or.inl ⟨by rfl, ?_⟩) (by assumption) ?_
        rotate_left
        · intro Wx hSw
          try dsimp only at hSw
          go_simp
          try (with_reducible rfl)
        try simp only [Act.put, List.setIfInBounds_toArray, List.set_cons_zero, List.set_cons_succ]
        refine wpAnyH_ready (rs := [7]) (by kernel_rfl) (by simp) ?_
        refine AllReadyH.cons rfl (fun K hK => ?_) AllReadyH.nil
        have k1 := hx.c1
        have kf := hx.f
        go_simp
        refine hK.out _ _ (at_set hp (p := ⟨b3, 1, none⟩) n31 _) (fun hHeld => ?_)
        clear hK K
        try simp only [Act.put, List.setIfInBounds_toArray, List.set_cons_zero, List.set_cons_succ]
        refine wpAnyH_done (by kernel_rfl) ?_ _
        refine NoPanic.normal ?_
        have hx := hx.set1 (.slice (some ⟨g5, 0, none⟩) (q + 1) cap5)
        have hp := at_set hp (p := ⟨b3, 1, none⟩) n31 (.slice (some ⟨g5, 0, none⟩) (q + 1) cap5)
        have hr := box2_setOther hr (p := ⟨b3, 1, none⟩) n32 (.slice (some ⟨g5, 0, none⟩) (q + 1) cap5)
        have hbx := box2_setOther hbx (p := ⟨b3, 1, none⟩) n3g (.slice (some ⟨g5, 0, none⟩) (q + 1) cap5)
        have hB := bar_set hB (p := ⟨b3, 1, none⟩) wb3 (.slice (some ⟨g5, 0, none⟩) (q + 1) cap5)
        have hown := ownsRow_setCell_below hown5 (a := ⟨b3, 1, none⟩) b3b (.slice (some ⟨g5, 0, none⟩) (q + 1) cap5)
        have hsz : base ≤ (y3.setCell ⟨b3, 1, none⟩ (.slice (some ⟨g5, 0, none⟩) (q + 1) cap5)).heap.size := by simpa using hsz
        clear hown5 k1 kf
        go_wp2
        go_roundw
        case rel => exact ⟨q + 1, cs ++ [⟨n, k, zz⟩], _, s2, d2, by omega, by go_num, hx, by rw [cellsOf_snoc]; exact hown, by rw [List.length_append, HCL.out]; rfl, hbx, hz2', HR2, hB, hp, hr, hsz⟩
        case measure => simp [intOf]; omega
      · skip
        go_simp
        refine (hc3 _ hbx).mono ?_
        rintro e y1 ⟨rfl, hb1, hB1⟩
        have hx := hx.bar hB1 n3g
        have hp := at_bar hp hB1 n1g
        have hr := hr.bar hB1 n2g
        have hown := own_bar hown hB1 gb
        have hB := hB.trans hB1
        have hbx := hb1
        have hsz := Nat.le_trans hsz hB1.size
        clear hb1 hB1 hc3
        refine hK.out _ _ ?_ (fun hHeld => ?_)
        · exact hp
        clear hK K
        try simp only [Act.put, List.setIfInBounds_toArray, List.set_cons_zero, List.set_cons_succ]
        refine wpAnyH_ready (rs := [1, 4]) (by kernel_rfl) (by simp) ?_
        refine AllReadyH.cons rfl (fun K hK => ?_) (AllReadyH.cons rfl (fun K hK => ?_) AllReadyH.nil)
        · skip
          have k1 := hx.c1
          go_simp
          refine hK.out _ _ ?_ (fun hHeld => ?_)
          · exact hp
          clear hK K
          try simp only [Act.put, List.setIfInBounds_toArray, List.set_cons_zero, List.set_cons_succ]
          clear k1
          refine wpAnyH_ready (rs := [4]) (by kernel_rfl) (by simp) ?_
          refine AllReadyH.cons rfl (fun K hK => ?_) AllReadyH.nil
          go_simp
          have hx := hx.alloc (.cells #[.string n, .int .i64 k, .bool zz] 41)
          have hp := at_alloc hp (.cells #[.string n, .int .i64 k, .bool zz] 41)
          have hr := hr.alloc (.cells #[.string n, .int .i64 k, .bool zz] 41)
          have hown := hown.alloc (.cells #[.string n, .int .i64 k, .bool zz] 41)
          have hB := bar_alloc hB (.cells #[.string n, .int .i64 k, .bool zz] 41)
          have hbx := hbx.alloc (.cells #[.string n, .int .i64 k, .bool zz] 41)
          have hsz : base ≤ (y1.alloc (.cells #[.string n, .int .i64 k, .bool zz] 41)).heap.size := Nat.le_trans hsz (by simp)
          have hnews := heap_alloc_new y1 (.cells #[.string n, .int .i64 k, .bool zz] 41)
          refine hK.out _ _ ?_ (fun hHeld => ?_)
          · exact hp
          clear hK K
          try simp only [Act.put, List.setIfInBounds_toArray, List.set_cons_zero, List.set_cons_succ]
          refine wpAnyH_ready (rs := [5]) (by kernel_rfl) (by simp) ?_
          refine AllReadyH.cons rfl (fun K hK => ?_) AllReadyH.nil
          refine step_append_lies _ (by rfl) (.tmp 14) (.tmp 17) 22 (by rfl) base 41 i0 _ 3 32 Try.underlying22 hi hz0 hz1 hz2 rfl (by omega) sv q (cellsOf cs) (by rfl) hown ⟨y1.heap.size, 0, none⟩ 1 1 [.string n, .int .i64 k, .bool zz] (by rfl) (by rfl) (World.news_of_block hnews) (by simp [Value.oneCell']) (by omega) (by unfold maxLen; omega) (by omega) hsz _ rfl ?_
          intro g5 cap5 y3 hown5 hgrow5 _ hlt5
          have hbl := (Below.refl base _).grown hgrow5 hsz (fun k hk => (hown.lt k hk).1)
          have hx := hx.below hbl b3b
          have hp := at_below hp hbl b1b
          have hr := hr.below hbl b2b
          have hbx := hbx.below hbl gb
          have hB := bar_step hB hbl wb
          have hsz := Nat.le_trans hsz hbl.size
          clear hown hgrow5 hbl hnews
          refine hK.out _ _ ?_ (fun hHeld => ?_)
          · exact hp
          clear hK K
          try simp only [Act.put, List.setIfInBounds_toArray, List.set_cons_zero, List.set_cons_succ]
          refine wpAnyH_take (i := 6) (v := ?_) rfl (by kernel_rfl) (by kernel_rfl) (by kernel_rfl) (fun _ _ _ h => h) (Or.inl ⟨by rfl, ?_⟩) (by assumption) ?_
          rotate_left
          · intro Wx hSw
            try dsimp only at hSw
            go_simp
            try (with_reducible rfl)
          try simp only [Act.put, List.setIfInBounds_toArray, List.set_cons_zero, List.set_cons_succ]
          refine wpAnyH_ready (rs := [7]) (by kernel_rfl) (by simp) ?_
          refine AllReadyH.cons rfl (fun K hK => ?_) AllReadyH.nil
          have k1 := hx.c1
          have kf := hx.f
          go_simp
          refine hK.out _ _ (at_set hp (p := ⟨b3, 1, none⟩) n31 _) (fun hHeld => ?_)
          clear hK K
          try simp only [Act.put, List.setIfInBounds_toArray, List.set_cons_zero, List.set_cons_succ]
          refine wpAnyH_done (by kernel_rfl) ?_ _
          refine NoPanic.normal ?_
          have hx := hx.set1 (.slice (some ⟨g5, 0, none⟩) (q + 1) cap5)
          have hp := at_set hp (p := ⟨b3, 1, none⟩) n31 (.slice (some ⟨g5, 0, none⟩) (q + 1) cap5)
          have hr := box2_setOther hr (p := ⟨b3, 1, none⟩) n32 (.slice (some ⟨g5, 0, none⟩) (q + 1) cap5)
          have hbx := box2_setOther hbx (p := ⟨b3, 1, none⟩) n3g (.slice (some ⟨g5, 0, none⟩) (q + 1) cap5)
          have hB := bar_set hB (p := ⟨b3, 1, none⟩) wb3 (.slice (some ⟨g5, 0, none⟩) (q + 1) cap5)
          have hown := ownsRow_setCell_below hown5 (a := ⟨b3, 1, none⟩) b3b (.slice (some ⟨g5, 0, none⟩) (q + 1) cap5)
          have hsz : base ≤ (y3.setCell ⟨b3, 1, none⟩ (.slice (some ⟨g5, 0, none⟩) (q + 1) cap5)).heap.size := by simpa using hsz
          clear hown5 k1 kf
          go_wp2
          go_roundw
          case rel => exact ⟨q + 1, cs ++ [⟨n, k, zz⟩], _, s2, d2, by omega, by go_num, hx, by rw [cellsOf_snoc]; exact hown, by rw [List.length_append, HCL.out]; rfl, hbx, hz2', HR2, hB, hp, hr, hsz⟩
          case measure => simp [intOf]; omega
        · skip
          go_simp
          have hx := hx.alloc (.cells #[.string n, .int .i64 k, .bool zz] 41)
          have hp := at_alloc hp (.cells #[.string n, .int .i64 k, .bool zz] 41)
          have hr := hr.alloc (.cells #[.string n, .int .i64 k, .bool zz] 41)
          have hown := hown.alloc (.cells #[.string n, .int .i64 k, .bool zz] 41)
          have hB := bar_alloc hB (.cells #[.string n, .int .i64 k, .bool zz] 41)
          have hbx := hbx.alloc (.cells #[.string n, .int .i64 k, .bool zz] 41)
          have hsz : base ≤ (y1.alloc (.cells #[.string n, .int .i64 k, .bool zz] 41)).heap.size := Nat.le_trans hsz (by simp)
          have hnews := heap_alloc_new y1 (.cells #[.string n, .int .i64 k, .bool zz] 41)
          refine hK.out _ _ ?_ (fun hHeld => ?_)
          · exact hp
          clear hK K
          try simp only [Act.put, List.setIfInBounds_toArray, List.set_cons_zero, List.set_cons_succ]
          refine wpAnyH_ready (rs := [1]) (by kernel_rfl) (by simp) ?_
          refine AllReadyH.cons rfl (fun K hK => ?_) AllReadyH.nil
          have k1 := hx.c1
          go_simp
          refine hK.out _ _ ?_ (fun hHeld => ?_)
          · exact hp
          clear hK K
          try simp only [Act.put, List.setIfInBounds_toArray, List.set_cons_zero, List.set_cons_succ]
          clear k1
          refine wpAnyH_ready (rs := [5]) (by kernel_rfl) (by simp) ?_
          refine AllReadyH.cons rfl (fun K hK => ?_) AllReadyH.nil
          refine step_append_lies _ (by rfl) (.tmp 14) (.tmp 17) 22 (by rfl) base 41 i0 _ 3 32 Try.underlying22 hi hz0 hz1 hz2 rfl (by omega) sv q (cellsOf cs) (by rfl) hown ⟨y1.heap.size, 0, none⟩ 1 1 [.string n, .int .i64 k, .bool zz] (by rfl) (by rfl) (World.news_of_block hnews) (by simp [Value.oneCell']) (by omega) (by unfold maxLen; omega) (by omega) hsz _ rfl ?_
          intro g5 cap5 y3 hown5 hgrow5 _ hlt5
          have hbl := (Below.refl base _).grown hgrow5 hsz (fun k hk => (hown.lt k hk).1)
          have hx := hx.below hbl b3b
          have hp := at_below hp hbl b1b
          have hr := hr.below hbl b2b
          have hbx := hbx.below hbl gb
          have hB := bar_step hB hbl wb
          have hsz := Nat.le_trans hsz hbl.size
          clear hown hgrow5 hbl hnews
          refine hK.out _ _ ?_ (fun hHeld => ?_)
          · exact hp
          clear hK K
          try simp only [Act.put, List.setIfInBounds_toArray, List.set_cons_zero, List.set_cons_succ]
          refine wpAnyH_take (i := 6) (v := ?_) rfl (by kernel_rfl) (by kernel_rfl) (by kernel_rfl) (fun _ _ _ h => h) (Or.inl ⟨by rfl, ?_⟩) (by assumption) ?_
          rotate_left
          · intro Wx hSw
            try dsimp only at hSw
            go_simp
            try (with_reducible rfl)
          try simp only [Act.put, List.setIfInBounds_toArray, List.set_cons_zero, List.set_cons_succ]
          refine wpAnyH_ready (rs := [7]) (by kernel_rfl) (by simp) ?_
          refine AllReadyH.cons rfl (fun K hK => ?_) AllReadyH.nil
          have k1 := hx.c1
          have kf := hx.f
          go_simp
          refine hK.out _ _ (at_set hp (p := ⟨b3, 1, none⟩) n31 _) (fun hHeld => ?_)
          clear hK K
          try simp only [Act.put, List.setIfInBounds_toArray, List.set_cons_zero, List.set_cons_succ]
          refine wpAnyH_done (by kernel_rfl) ?_ _
          refine NoPanic.normal ?_
          have hx := hx.set1 (.slice (some ⟨g5, 0, none⟩) (q + 1) cap5)
          have hp := at_set hp (p := ⟨b3, 1, none⟩) n31 (.slice (some ⟨g5, 0, none⟩) (q + 1) cap5)
          have hr := box2_setOther hr (p := ⟨b3, 1, none⟩) n32 (.slice (some ⟨g5, 0, none⟩) (q + 1) cap5)
          have hbx := box2_setOther hbx (p := ⟨b3, 1, none⟩) n3g (.slice (some ⟨g5, 0, none⟩) (q + 1) cap5)
          have hB := bar_set hB (p := ⟨b3, 1, none⟩) wb3 (.slice (some ⟨g5, 0, none⟩) (q + 1) cap5)
          have hown := ownsRow_setCell_below hown5 (a := ⟨b3, 1, none⟩) b3b (.slice (some ⟨g5, 0, none⟩) (q + 1) cap5)
          have hsz : base ≤ (y3.setCell ⟨b3, 1, none⟩ (.slice (some ⟨g5, 0, none⟩) (q + 1) cap5)).heap.size := by simpa using hsz
          clear hown5 k1 kf
          go_wp2
          go_roundw
          case rel => exact ⟨q + 1, cs ++ [⟨n, k, zz⟩], _, s2, d2, by omega, by go_num, hx, by rw [cellsOf_snoc]; exact hown, by rw [List.length_append, HCL.out]; rfl, hbx, hz2', HR2, hB, hp, hr, hsz⟩
          case measure => simp [intOf]; omega
    · obtain rfl : q = m := by omega
      have hfin : RP = (cs, sa, da) := by
        rw [HR.out, Nat.sub_self]
        show (cs ++ [], _) = _
        rw [List.append_nil]
        rfl
      subst hfin
      obtain ⟨A, c, rfl, hcc, hcols⟩ := cols_of_own hown HCL.out
      have hcl := HCL.out
      clear hown HR HML
      have x0 := hx.c0
      have x1 := hx.c1
      have r0 := hr.c0
      have r1 := hr.c1
      have rf := hr.f
      go_wp2
      have hrZ := (hr.set0 (.string nm)).set1 (.slice A q c)
      have hbZ := box2_setOther (box2_setOther hbx (p := ⟨w.heap.size + 1, 0, none⟩) n2g (.string nm)) (p := ⟨w.heap.size + 1, 1, none⟩) n2g (.slice A q c)
      have hBZ := bar_set (bar_set hB (p := ⟨w.heap.size + 1, 0, none⟩) (by simp) (.string nm)) (p := ⟨w.heap.size + 1, 1, none⟩) (by simp) (.slice A q c)
      have hCZ := (hcols.bar ((Bar.refl (w.heap.size + 1) _).setCell 0 (.string nm)) (Or.inl b2b)).bar ((Bar.refl (w.heap.size + 1) _).setCell 1 (.slice A q c)) (Or.inl b2b)
      refine bodyPost_ret (results_sch rfl _ _ (w.heap.size + 1) _ _ rfl hrZ.c0 hrZ.c1) rfl ?_
      exact ⟨_, rfl, ⟨A, c, by rw [hcl], by rw [hcl]; exact hcc, hCZ.lower wb⟩, hbZ, hBZ⟩
end Go.Proofs.Ytajoklimdlalhaa.Sc
