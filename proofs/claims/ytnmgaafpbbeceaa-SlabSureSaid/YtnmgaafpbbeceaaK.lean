/- slab.Start. -/
import Derived.Test.YtnmgaafpbbeceaaJ
namespace Go.Proofs.Ytnmgaafpbbeceaa
open Go.RowKit Go.Shelf

/-- What stays, told plainly. -/
structure Fat where
  stay : Int
  torn : Int
  bytes : Int

def keptN (f : Fat) (i size : Nat) : Nat := (keptI f.stay f.torn f.bytes i size).toNat
theorem keptI_nat (f : Fat) (i size : Nat) : keptI f.stay f.torn f.bytes i size = (keptN f i size : Int) ∧ keptN f i size ≤ size := by
  unfold keptN keptI
  split
  · omega
  · split
    · omega
    · omega

theorem kept_nat (f : Fat) (i size : Nat) (w : World) (hi : i ≤ 1000000) (hs : size ≤ 1000000) (h0 : 0 ≤ f.stay) (h1 : f.stay < 18446744073709551616) :
    Calls Try.prog 22 #[.agg #[.int .u64 f.stay, .int .i64 f.torn, .int .i64 f.bytes], .int .i64 i, .int .i64 size] w fun e w' => e = .returned (.int .i64 (keptN f i size : Int)) ∧ Below w.heap.size w w' := by
  rw [← (keptI_nat f i size).1]
  exact kept_any f.stay f.torn f.bytes i size w hi hs h0 h1

/-- What is sure behind a start, of the first writes. -/
def startS (f : Fat) (S : Nat → ByteArray) (LA : Nat → Int) (LD : Nat → ByteArray) : Nat → Nat → ByteArray
  | 0 => S
  | k + 1 => fun j => if LA k = (j : Int) then laidB (startS f S LA LD k j) ((LD k).extract 0 (keptN f k (LD k).size)) else startS f S LA LD k j

theorem laidB_size (o d : ByteArray) (h : d.size ≤ o.size) : (laidB o d).size = o.size := by
  unfold laidB
  split
  · omega
  · rw [ByteArray.size_append, ByteArray.size_extract]
    omega

theorem startS_size (f : Fat) (S : Nat → ByteArray) (LA : Nat → Int) (LD : Nat → ByteArray) (n k : Nat) (hS : ∀ j, j < n → (S j).size = 256) (hL : ∀ j, j < k → (LD j).size = 256) : ∀ j, j < n → (startS f S LA LD k j).size = 256 := by
  induction k with
  | zero => exact hS
  | succ k ih =>
    intro j hj
    have h1 := ih (fun i hi => hL i (by omega)) j hj
    simp only [startS]
    split
    · rw [laidB_size _ _ (by rw [ByteArray.size_extract, h1, hL k (by omega)]; omega), h1]
    · exact h1

def Dev.started (D : Dev) (f : Fat) : Dev := { n := D.n, S := startS f D.S D.LA D.LD D.m, m := 0, LA := fun _ => 0, LD := fun _ => ⟨#[]⟩, dead := false, left := -1, deeds := 0 }

def DevRet (D : Dev) (w : World) (e : Ending) (w' : World) : Prop := ∃ v, e = .returned v ∧ IsDev w' v D ∧ Below w.heap.size w w'

structure Box3 (w : World) (g : Nat) (v0 v1 v2 : Value) : Prop where
  c0 : w.cell? ⟨g, 0, none⟩ = some v0
  c1 : w.cell? ⟨g, 1, none⟩ = some v1
  c2 : w.cell? ⟨g, 2, none⟩ = some v2
theorem Box3.below {g B : Nat} {w w' : World} {v0 v1 v2 : Value} (h : Box3 w g v0 v1 v2) (hb : Below B w w') (hB : g < B) : Box3 w' g v0 v1 v2 :=
  ⟨(hb.cell (p := ⟨g, 0, none⟩) hB).trans h.c0, (hb.cell (p := ⟨g, 1, none⟩) hB).trans h.c1, (hb.cell (p := ⟨g, 2, none⟩) hB).trans h.c2⟩
theorem Box3.new (w : World) (v0 v1 v2 : Value) (t : TypeId) : Box3 (w.alloc (.cells #[v0, v1, v2] t)) w.heap.size v0 v1 v2 := by
  constructor <;> simp [go_sem]

/-- What the region of a start reads, but for the sector: a write's two cells, a fate's three. -/
def StartCells (w : World) (t N : Nat) (x : Value) (d : Value) (v0 v1 v2 : Value) : Prop :=
  w.cell? ⟨t, 0, none⟩ = some x ∧ w.cell? ⟨t, 1, none⟩ = some d ∧ w.cell? ⟨N, 0, none⟩ = some v0 ∧ w.cell? ⟨N, 1, none⟩ = some v1 ∧ w.cell? ⟨N, 2, none⟩ = some v2
theorem StartCells.below {w w' : World} {t N B : Nat} {x d v0 v1 v2 : Value} (h : StartCells w t N x d v0 v1 v2) (hb : Below B w w') (h1 : t < B) (h2 : N < B) : StartCells w' t N x d v0 v1 v2 :=
  ⟨(hb.cell (p := ⟨t, 0, none⟩) h1).trans h.1, (hb.cell (p := ⟨t, 1, none⟩) h1).trans h.2.1, (hb.cell (p := ⟨N, 0, none⟩) h2).trans h.2.2.1, (hb.cell (p := ⟨N, 1, none⟩) h2).trans h.2.2.2.1, (hb.cell (p := ⟨N, 2, none⟩) h2).trans h.2.2.2.2⟩
theorem StartCells.set {w : World} {t N g a : Nat} {x d v0 v1 v2 : Value} (h : StartCells w t N x d v0 v1 v2) (h1 : g ≠ t) (h2 : g ≠ N) (u : Value) : StartCells (w.setCell ⟨g, a, none⟩ u) t N x d v0 v1 v2 := by
  have o : ∀ (T i : Nat), g ≠ T → (w.setCell ⟨g, a, none⟩ u).cell? ⟨T, i, none⟩ = w.cell? ⟨T, i, none⟩ := fun T i hT => World.cell?_setCell_other w _ _ u (fun e => hT (by injection e))
  exact ⟨(o _ _ h1).trans h.1, (o _ _ h1).trans h.2.1, (o _ _ h2).trans h.2.2.1, (o _ _ h2).trans h.2.2.2.1, (o _ _ h2).trans h.2.2.2.2⟩

set_option maxHeartbeats 4000000 in
theorem start_any {K : Nat} (v : Value) (D : Dev) (f : Fat) (w : World) (h : IsDev w v D) (hok : D.Ok K) (hK : K ≤ 100000) (f0 : 0 ≤ f.stay) (f1 : f.stay < 18446744073709551616) :
    Calls Try.prog 10 #[v, .agg #[.int .u64 f.stay, .int .i64 f.torn, .int .i64 f.bytes]] w (DevRet (D.started f) w) := by
  obtain ⟨b, B, c, k, rfl, hlt, hnc, hc, hl, h0⟩ := h
  have hm := hok.m2
  have hn1 := hok.n1
  have hn2 := hok.n2
  have HLA := Lib.hid hok.la
  have HLZ := Lib.hid hok.lz
  have HSZ := Lib.hid hok.sz
  have HC := Lib.hid hc
  have HL := Lib.hid hl
  have F1 := Lib.hid f1
  clear hc hl h0 hok f1
  obtain ⟨n, S, m, LA, LD, dead, left, deeds⟩ := D
  simp only at hm hnc hn1 hn2
  have HC2 : Hid (∀ j, j < n → w.cell? ⟨b, j, none⟩ = some (.string (S j))) := HC
  have HLA2 : Hid (∀ j, j < m → 0 ≤ LA j ∧ LA j < n) := HLA
  have HLZ2 : Hid (∀ j, j < m → (LD j).size = 256) := HLZ
  have HSZ2 : Hid (∀ j, j < n → (S j).size = 256) := HSZ
  clear HC HLA HLZ HSZ
  go_enter Try.func10, Try.ntmps10
  go_wp2_with (first
    | (go_at_call 19
       refine (clone_any b n c S _ hn1 hn2 (fun j hj => (((((Below.refl w.heap.size w).alloc (Nat.le_refl _) _).alloc (by simp) _).alloc (by simp; omega) _).cell (p := ⟨b, j, none⟩) hlt).trans (HC2.out j hj))).mono ?_
       rintro e w4 ⟨g, cap, rfl, hncap, hg3, hrow, hb34⟩
       simp only [World.size_alloc] at hb34 hg3
       have hx4 := (((Box5.new w _ _ _ _ _ 31).alloc _).alloc _).below hb34 (by omega)
       have hf4 := (((Box3.new (w.alloc _) _ _ _ 25).below (((Below.refl (w.heap.size + 2) _)).alloc (by simp) _) (by simp))).below hb34 (by simp)
       have hy4 := ((Box5.new ((w.alloc _).alloc _) _ _ _ _ _ 31)).below hb34 (by simp)
       have hcx1 := hx4.c1))
  simp only [World.size_alloc] at hf4 hy4
  have hs4 : w.heap.size + 1 + 1 + 1 ≤ w4.heap.size := by have := hb34.size; simpa using this
  have hbw4 : Below w.heap.size w w4 := ((((Below.refl w.heap.size w).alloc (Nat.le_refl _) _).alloc (by simp) _).alloc (by simp; omega) _).trans (hb34.mono (by omega))
  clear hb34
  go_loopw [14] (fun u wr => ∃ q : Nat, q ≤ m ∧ u = .int .i64 q ∧ Below (w.heap.size + 1 + 1 + 1) w4 wr ∧ StrRow wr g n (startS f S LA LD q)) (fun u _ => m - (intOf u).toNat)
  case atStart => exact ⟨0, Nat.zero_le _, rfl, Below.refl _ _, hrow⟩
  case round =>
    obtain ⟨q, hq, rfl, hbr, hrr⟩ := hrel
    have hx5 := hx4.below hbr (by omega)
    have hsr := hbr.size
    have hbw : Below w.heap.size w wr := hbw4.trans (hbr.mono (by omega))
    have hf5 := hf4.below hbr (by omega)
    by_cases hqm : q < m
    · obtain ⟨bl, rfl, hbl, hlc⟩ := HL.out (by omega)
      obtain ⟨a, ha⟩ := Int.eq_ofNat_of_zero_le (HLA2.out q hqm).1
      have han : a < n := by have := (HLA2.out q hqm).2; omega
      have kA : wr.cell? ⟨bl, q * 2, none⟩ = some (.int .i64 (a : Int)) := by rw [← ha]; exact (hbw.cell (p := ⟨bl, q * 2, none⟩) hbl).trans (hlc q hqm).1
      have kD : wr.cell? ⟨bl, q * 2 + 1, none⟩ = some (.string (LD q)) := (hbw.cell (p := ⟨bl, q * 2 + 1, none⟩) hbl).trans (hlc q hqm).2
      have HA := Lib.hid ha
      have HR := Lib.hid hrr
      have hgl := hrr.1
      have hx6 := hx5.alloc (.cells #[.int .i64 (a : Int), .string (LD q)] 41)
      have ha0 := hx6.c0
      have ha1 := hx6.c1
      have ha2 := hx6.c2
      have ha3 := hx6.c3
      have ha4 := hx6.c4
      have i1 : (0 : Int) ≤ (a : Int) := by omega
      have i2 : (a : Int) < (n : Int) := by omega
      have hHas : Hid (true = decide (0 ≤ (a : Int) ∧ (a : Int) < (n : Int))) := (decide_eq_true ⟨i1, i2⟩).symm
      have hz1 := startS_size f S LA LD n q HSZ2.out (fun j hj => HLZ2.out j (by omega)) a han
      have hz2 := HLZ2.out q hqm
      have HZ1 := Lib.hid hz1
      have HZ2 := Lib.hid hz2
      have hzl : (LD q).size ≤ 256 := by omega
      have hkp := (keptI_nat f q (LD q).size).2
      clear ha hrr hlc hz1 hz2
      go_wp2_with (first
        | (go_at_call 20
           refine (has_any _ _ _ _ _ _ _ _ _ _ _ true hHas.out).mono ?_
           rintro e w5 ⟨rfl, hb5⟩
           simp only [World.size_alloc] at hb5
           have hs5 := hb5.size
           simp only [World.size_alloc] at hs5
           have kt0 : w5.cell? ⟨wr.heap.size, 0, none⟩ = some (.int .i64 (a : Int)) := (hb5.cell (p := ⟨wr.heap.size, 0, none⟩) (by simp)).trans (by simp)
           have kt1 : w5.cell? ⟨wr.heap.size, 1, none⟩ = some (.string (LD q)) := (hb5.cell (p := ⟨wr.heap.size, 1, none⟩) (by simp)).trans (by simp)
           have hr5 : StrRow w5 g n (startS f S LA LD q) := (HR.out.below ((Below.refl wr.heap.size wr).alloc (Nat.le_refl _) _) (Nat.le_refl _)).below hb5 (by simp)
           have hf6 := (hf5.below ((Below.refl wr.heap.size wr).alloc (Nat.le_refl _) (.cells #[.int .i64 (a : Int), .string (LD q)] 41)) (by omega)).below hb5 (by omega)
           have kg := hr5.2.1 a han
           have kf := hr5.2.2 a))
      have hS0 : StartCells w5.drew wr.heap.size (w.heap.size + 1) (.int .i64 (a : Int)) (.string (LD q)) (.int .u64 f.stay) (.int .i64 f.torn) (.int .i64 f.bytes) := ⟨kt0, kt1, hf6.c0, hf6.c1, hf6.c2⟩
      have ng1 : g ≠ wr.heap.size := by omega
      have ng2 : g ≠ w.heap.size + 1 := by omega
      clear ha0 ha1 ha2 ha3 ha4 kA kD hcx1 kt0 kt1
      refine wp_region_noPanic ?_
      refine wp_region_held_drew (S := fun w' => w'.cell? ⟨wr.heap.size, 0, none⟩ = some (.int .i64 (a : Int)) ∧ w'.cell? ⟨wr.heap.size, 1, none⟩ = some (.string (LD q)) ∧ w'.cell? ⟨w.heap.size + 1, 0, none⟩ = some (.int .u64 f.stay) ∧ w'.cell? ⟨w.heap.size + 1, 1, none⟩ = some (.int .i64 f.torn) ∧ w'.cell? ⟨w.heap.size + 1, 2, none⟩ = some (.int .i64 f.bytes)) (by kernel_rfl) hS0 (fun hHeld => ?_)
      clear hx4 hx5 hx6 hf4 hf5 hy4
      refine wpAnyH_take (i := 0) (v := ?_) rfl (by kernel_rfl) (by kernel_rfl) (by kernel_rfl) (fun _ _ _ h => h) (Or.inl ⟨by rfl, ?_⟩) (by assumption) ?_
      rotate_left
      · intro Wx hSw
        try dsimp only at hSw
        go_simp
        try (with_reducible rfl)
      try simp only [Act.put, List.setIfInBounds_toArray, List.set_cons_zero, List.set_cons_succ]
      refine wpAnyH_take (i := 1) (v := ?_) rfl (by kernel_rfl) (by kernel_rfl) (by kernel_rfl) (fun _ _ _ h => h) (Or.inl ⟨by rfl, ?_⟩) (by assumption) ?_
      rotate_left
      · intro Wx hSw
        try dsimp only at hSw
        go_simp
        try (with_reducible rfl)
      try simp only [Act.put, List.setIfInBounds_toArray, List.set_cons_zero, List.set_cons_succ]
      refine wpAnyH_take (i := 2) (v := ?_) rfl (by kernel_rfl) (by kernel_rfl) (by kernel_rfl) (fun _ _ _ h => h) (Or.inl ⟨by rfl, ?_⟩) (by assumption) ?_
      rotate_left
      · intro Wx hSw
        try dsimp only at hSw
        go_simp
        try (with_reducible rfl)
      try simp only [Act.put, List.setIfInBounds_toArray, List.set_cons_zero, List.set_cons_succ]
      refine wpAnyH_take (i := 3) (v := ?_) rfl (by kernel_rfl) (by kernel_rfl) (by kernel_rfl) (fun _ _ _ h => h) (Or.inl ⟨by rfl, ?_⟩) (by assumption) ?_
      rotate_left
      · intro Wx hSw
        try dsimp only at hSw
        go_simp
        try (with_reducible rfl)
      try simp only [Act.put, List.setIfInBounds_toArray, List.set_cons_zero, List.set_cons_succ]
      refine wpAnyH_take (i := 4) (v := ?_) rfl (by kernel_rfl) (by kernel_rfl) (by kernel_rfl) (fun _ _ _ h => h) (Or.inl ⟨by rfl, ?_⟩) (by assumption) ?_
      rotate_left
      · intro Wx hSw
        try dsimp only at hSw
        go_simp
        try (with_reducible rfl)
      try simp only [Act.put, List.setIfInBounds_toArray, List.set_cons_zero, List.set_cons_succ]
      refine wpAnyH_take (i := 5) (v := ?_) rfl (by kernel_rfl) (by kernel_rfl) (by kernel_rfl) (fun _ _ _ h => h) (Or.inl ⟨by rfl, ?_⟩) (by assumption) ?_
      rotate_left
      · intro Wx hSw
        try dsimp only at hSw
        go_simp
        try (with_reducible rfl)
      try simp only [Act.put, List.setIfInBounds_toArray, List.set_cons_zero, List.set_cons_succ]
      refine wpAnyH_take (i := 6) (v := ?_) rfl (by kernel_rfl) (by kernel_rfl) (by kernel_rfl) (fun _ _ _ h => h) (Or.inl ⟨by rfl, ?_⟩) (by assumption) ?_
      rotate_left
      · intro Wx hSw
        try dsimp only at hSw
        go_simp
        try (with_reducible rfl)
      try simp only [Act.put, List.setIfInBounds_toArray, List.set_cons_zero, List.set_cons_succ]
      refine wpAnyH_take (i := 8) (v := ?_) rfl (by kernel_rfl) (by kernel_rfl) (by kernel_rfl) (fun _ _ _ h => h) (Or.inl ⟨by rfl, ?_⟩) (by assumption) ?_
      rotate_left
      · intro Wx hSw
        try dsimp only at hSw
        go_simp
        try (with_reducible rfl)
      try simp only [Act.put, List.setIfInBounds_toArray, List.set_cons_zero, List.set_cons_succ]
      refine wpAnyH_take (i := 9) (v := ?_) rfl (by kernel_rfl) (by kernel_rfl) (by kernel_rfl) (fun _ _ _ h => h) (Or.inl ⟨by rfl, ?_⟩) (by assumption) ?_
      rotate_left
      · intro Wx hSw
        try dsimp only at hSw
        go_simp
        try (with_reducible rfl)
      try simp only [Act.put, List.setIfInBounds_toArray, List.set_cons_zero, List.set_cons_succ]
      refine wpAnyH_take (i := 10) (v := ?_) rfl (by kernel_rfl) (by kernel_rfl) (by kernel_rfl) (fun _ _ _ h => h) (Or.inl ⟨by rfl, ?_⟩) (by assumption) ?_
      rotate_left
      · intro Wx hSw
        try dsimp only at hSw
        go_simp
        try (with_reducible rfl)
      try simp only [Act.put, List.setIfInBounds_toArray, List.set_cons_zero, List.set_cons_succ]
      refine wpAnyH_take (i := 11) (v := ?_) rfl (by kernel_rfl) (by kernel_rfl) (by kernel_rfl) (fun _ _ _ h => h) (Or.inl ⟨by rfl, ?_⟩) (by assumption) ?_
      rotate_left
      · intro Wx hSw
        try dsimp only at hSw
        go_simp
        try (with_reducible rfl)
      try simp only [Act.put, List.setIfInBounds_toArray, List.set_cons_zero, List.set_cons_succ]
      refine wpAnyH_take (i := 12) (v := ?_) rfl (by kernel_rfl) (by kernel_rfl) (by kernel_rfl) (fun _ _ _ h => h) (Or.inl ⟨by rfl, ?_⟩) (by assumption) ?_
      rotate_left
      · intro Wx hSw
        try dsimp only at hSw
        go_simp
        try (with_reducible rfl)
      try simp only [Act.put, List.setIfInBounds_toArray, List.set_cons_zero, List.set_cons_succ]
      refine wpAnyH_take (i := 13) (v := ?_) rfl (by kernel_rfl) (by kernel_rfl) (by kernel_rfl) (fun _ _ _ h => h) (Or.inl ⟨by rfl, ?_⟩) (by assumption) ?_
      rotate_left
      · intro Wx hSw
        try dsimp only at hSw
        go_simp
        try (with_reducible rfl)
      try simp only [Act.put, List.setIfInBounds_toArray, List.set_cons_zero, List.set_cons_succ]
      refine wpAnyH_take (i := 14) (v := ?_) rfl (by kernel_rfl) (by kernel_rfl) (by kernel_rfl) (fun _ _ _ h => h) (Or.inl ⟨by rfl, ?_⟩) (by assumption) ?_
      rotate_left
      · intro Wx hSw
        try dsimp only at hSw
        go_simp
        try (with_reducible rfl)
      try simp only [Act.put, List.setIfInBounds_toArray, List.set_cons_zero, List.set_cons_succ]
      refine wpAnyH_ready (rs := [7, 15]) (by kernel_rfl) (by simp) ?_
      refine AllReadyH.cons rfl (fun K hK => ?_) (AllReadyH.cons rfl (fun K hK => ?_) AllReadyH.nil)
      · -- the sector is read first
        go_simp
        refine hK.out _ _ ?_ (fun hHeld => ?_)
        · exact hS0
        clear hK K
        try simp only [Act.put, List.setIfInBounds_toArray, List.set_cons_zero, List.set_cons_succ]
        refine wpAnyH_ready (rs := [15]) (by kernel_rfl) (by simp) ?_
        refine AllReadyH.cons rfl (fun K hK => ?_) AllReadyH.nil
        go_simp
        refine (kept_nat f q (LD q).size _ (by omega) (by omega) f0 F1.out).mono ?_
        rintro e w6 ⟨rfl, hb6⟩
        have hb56 : Below w5.heap.size w5 w6 := (Below.refl _ w5).drew.trans hb6
        have hS6 := hS0.below hb6 (by simp; omega) (by simp; omega)
        have hr6 := hr5.below hb56 (Nat.le_refl _)
        have kg6 := hr6.2.1 a han
        have kf6 := hr6.2.2 a
        go_wp2_with fail
        refine hK.out _ _ ?_ (fun hHeld => ?_)
        · exact hS6
        clear hK K
        try simp only [Act.put, List.setIfInBounds_toArray, List.set_cons_zero, List.set_cons_succ]
        refine wpAnyH_take (i := 16) (v := ?_) rfl (by kernel_rfl) (by kernel_rfl) (by kernel_rfl) (fun _ _ _ h => h) (Or.inl ⟨by rfl, ?_⟩) (by assumption) ?_
        rotate_left
        · intro Wx hSw
          try dsimp only at hSw
          go_simp
          try (with_reducible rfl)
        try simp only [Act.put, List.setIfInBounds_toArray, List.set_cons_zero, List.set_cons_succ]
        refine wpAnyH_ready (rs := [17]) (by kernel_rfl) (by simp) ?_
        refine AllReadyH.cons rfl (fun K hK => ?_) AllReadyH.nil
        go_simp
        refine (laid_any _ _ _ (by rw [HZ1.out]; omega) (by rw [ByteArray.size_extract]; omega)).mono ?_
        rintro e w7 ⟨rfl, rfl⟩
        go_wp2_with fail
        refine hK.out _ _ ?_ (fun hHeld => ?_)
        · exact hS6
        clear hK K
        try simp only [Act.put, List.setIfInBounds_toArray, List.set_cons_zero, List.set_cons_succ]
        refine wpAnyH_take (i := 18) (v := ?_) rfl (by kernel_rfl) (by kernel_rfl) (by kernel_rfl) (fun _ _ _ h => h) (Or.inl ⟨by rfl, ?_⟩) (by assumption) ?_
        rotate_left
        · intro Wx hSw
          try dsimp only at hSw
          go_simp
          try (with_reducible rfl)
        try simp only [Act.put, List.setIfInBounds_toArray, List.set_cons_zero, List.set_cons_succ]
        refine wpAnyH_ready (rs := [19]) (by kernel_rfl) (by simp) ?_
        refine AllReadyH.cons rfl (fun K hK => ?_) AllReadyH.nil
        go_simp
        refine hK.out _ _ ?_ (fun hHeld => ?_)
        · exact hS6.set ng1 ng2 _
        clear hK K
        try simp only [Act.put, List.setIfInBounds_toArray, List.set_cons_zero, List.set_cons_succ]
        refine wpAnyH_done (by kernel_rfl) ?_ _
        refine NoPanic.normal ?_
        go_wp2
        go_roundw
        case rel =>
          refine ⟨q + 1, by omega, by go_num, ?_, ?_⟩
          · refine Below.setCell ?_ (by simp; omega) _
            exact hbr.trans (((Below.refl wr.heap.size wr).alloc (Nat.le_refl _) _ |>.trans (hb5.mono (by omega)) |>.trans (hb56.mono (by omega))).mono (by omega))
          · refine (hr6.set han _).congr fun j hj => ?_
            simp only [startS]
            rw [HA.out]
            by_cases e : j = a
            · subst e; simp
            · rw [if_neg e, if_neg (by omega)]
        case measure => simp [intOf]; omega
      · -- what stays is asked first
        go_simp
        refine (kept_nat f q (LD q).size _ (by omega) (by omega) f0 F1.out).mono ?_
        rintro e w6 ⟨rfl, hb6⟩
        have hb56 : Below w5.heap.size w5 w6 := (Below.refl _ w5).drew.trans hb6
        have hS6 := hS0.below hb6 (by simp; omega) (by simp; omega)
        have hr6 := hr5.below hb56 (Nat.le_refl _)
        have kg6 := hr6.2.1 a han
        have kf6 := hr6.2.2 a
        go_wp2_with fail
        refine hK.out _ _ ?_ (fun hHeld => ?_)
        · exact hS6
        clear hK K
        try simp only [Act.put, List.setIfInBounds_toArray, List.set_cons_zero, List.set_cons_succ]
        refine wpAnyH_take (i := 16) (v := ?_) rfl (by kernel_rfl) (by kernel_rfl) (by kernel_rfl) (fun _ _ _ h => h) (Or.inl ⟨by rfl, ?_⟩) (by assumption) ?_
        rotate_left
        · intro Wx hSw
          try dsimp only at hSw
          go_simp
          try (with_reducible rfl)
        try simp only [Act.put, List.setIfInBounds_toArray, List.set_cons_zero, List.set_cons_succ]
        refine wpAnyH_ready (rs := [7]) (by kernel_rfl) (by simp) ?_
        refine AllReadyH.cons rfl (fun K hK => ?_) AllReadyH.nil
        go_simp
        refine hK.out _ _ ?_ (fun hHeld => ?_)
        · exact hS6
        clear hK K
        try simp only [Act.put, List.setIfInBounds_toArray, List.set_cons_zero, List.set_cons_succ]
        refine wpAnyH_ready (rs := [17]) (by kernel_rfl) (by simp) ?_
        refine AllReadyH.cons rfl (fun K hK => ?_) AllReadyH.nil
        go_simp
        refine (laid_any _ _ _ (by rw [HZ1.out]; omega) (by rw [ByteArray.size_extract]; omega)).mono ?_
        rintro e w7 ⟨rfl, rfl⟩
        go_wp2_with fail
        refine hK.out _ _ ?_ (fun hHeld => ?_)
        · exact hS6
        clear hK K
        try simp only [Act.put, List.setIfInBounds_toArray, List.set_cons_zero, List.set_cons_succ]
        refine wpAnyH_take (i := 18) (v := ?_) rfl (by kernel_rfl) (by kernel_rfl) (by kernel_rfl) (fun _ _ _ h => h) (Or.inl ⟨by rfl, ?_⟩) (by assumption) ?_
        rotate_left
        · intro Wx hSw
          try dsimp only at hSw
          go_simp
          try (with_reducible rfl)
        try simp only [Act.put, List.setIfInBounds_toArray, List.set_cons_zero, List.set_cons_succ]
        refine wpAnyH_ready (rs := [19]) (by kernel_rfl) (by simp) ?_
        refine AllReadyH.cons rfl (fun K hK => ?_) AllReadyH.nil
        go_simp
        refine hK.out _ _ ?_ (fun hHeld => ?_)
        · exact hS6.set ng1 ng2 _
        clear hK K
        try simp only [Act.put, List.setIfInBounds_toArray, List.set_cons_zero, List.set_cons_succ]
        refine wpAnyH_done (by kernel_rfl) ?_ _
        refine NoPanic.normal ?_
        go_wp2
        go_roundw
        case rel =>
          refine ⟨q + 1, by omega, by go_num, ?_, ?_⟩
          · refine Below.setCell ?_ (by simp; omega) _
            exact hbr.trans (((Below.refl wr.heap.size wr).alloc (Nat.le_refl _) _ |>.trans (hb5.mono (by omega)) |>.trans (hb56.mono (by omega))).mono (by omega))
          · refine (hr6.set han _).congr fun j hj => ?_
            simp only [startS]
            rw [HA.out]
            by_cases e : j = a
            · subst e; simp
            · rw [if_neg e, if_neg (by omega)]
        case measure => simp [intOf]; omega
    · obtain rfl : q = m := by omega
      have hy5 := hy4.below hbr (by omega)
      have hfy := hy5.f
      have ky0 := hy5.c0
      have ky1 := hy5.c1
      have ky2 := hy5.c2
      have ky3 := hy5.c3
      have ky4 := hy5.c4
      have hgl := hrr.1
      have hd5 : DevAt wr g none (.agg #[.slice (some ⟨g, 0, none⟩) n cap, .slice none 0 0, .bool false, .int .i64 (-1), .int .i64 0]) (Dev.started { n := n, S := S, m := q, LA := LA, LD := LD, dead := dead, left := left, deeds := deeds } f) :=
        ⟨cap, 0, rfl, hgl, hncap, hrr.2.1, fun h => absurd h (by simp [Dev.started]), fun _ => ⟨rfl, rfl⟩⟩
      go_wp2
      refine bodyPost_ret (v := .agg #[.slice (some ⟨g, 0, none⟩) n cap, .slice none 0 0, .bool false, .int .i64 (-1), .int .i64 0]) (by simp [results, Try.results10, go_sem, ky0, ky1, ky2, ky3, ky4]) rfl ⟨_, rfl, ⟨g, none, ?_⟩, ?_⟩
      · repeat (first | (with_reducible exact hd5) | refine DevAt.setCell ?_ (by simp; omega) (fun a h => by cases h) _)
      · repeat (first | (with_reducible exact hbw) | refine Below.setCell ?_ (by simp; omega) _)
end Go.Proofs.Ytnmgaafpbbeceaa
