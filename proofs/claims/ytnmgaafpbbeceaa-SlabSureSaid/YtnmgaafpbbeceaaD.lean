/- Devices: what a value in memory says of one; New, Arm, Put. -/
import Derived.Test.YtnmgaafpbbeceaaS
namespace Go.Proofs.Ytnmgaafpbbeceaa
open Go.RowKit Go.Shelf

/-- A device, told plainly: n sectors that are sure, m writes that are not. -/
structure Dev where
  n : Nat
  S : Nat → ByteArray
  m : Nat
  LA : Nat → Int
  LD : Nat → ByteArray
  dead : Bool
  left : Int
  deeds : Int

/-- The value v tells the device D; its sectors lie in block b, its writes at B. -/
def DevAt (w : World) (b : Nat) (B : Option Addr) (v : Value) (D : Dev) : Prop :=
  ∃ (c k : Nat), v = .agg #[.slice (some ⟨b, 0, none⟩) D.n c, .slice B D.m k, .bool D.dead, .int .i64 D.left, .int .i64 D.deeds] ∧
    b < w.heap.size ∧ D.n ≤ c ∧ (∀ j, j < D.n → w.cell? ⟨b, j, none⟩ = some (.string (D.S j))) ∧ HasLate w B D.m D.LA D.LD ∧ (D.m = 0 → B = none ∧ k = 0)
def IsDev (w : World) (v : Value) (D : Dev) : Prop := ∃ b B, DevAt w b B v D

theorem HasLate.block_lt {w : World} {A : Option Addr} {m : Nat} {LA : Nat → Int} {LD : Nat → ByteArray} (h : HasLate w A m LA LD) (h0 : m = 0 → A = none) : ∀ a, A = some a → a.block < w.heap.size := by
  intro a ha
  rcases Nat.eq_zero_or_pos m with hm | hm
  · rw [h0 hm] at ha; cases ha
  · obtain ⟨b, hA, hlt, _⟩ := h hm
    rw [hA] at ha
    injection ha with ha
    subst ha
    exact hlt
theorem HasLate.setCell {w : World} {A : Option Addr} {m : Nat} {LA : Nat → Int} {LD : Nat → ByteArray} (h : HasLate w A m LA LD) {p : Addr} (hne : ∀ a, A = some a → p.block ≠ a.block) (u : Value) : HasLate (w.setCell p u) A m LA LD := by
  intro hm
  obtain ⟨b, hA, hlt, hc⟩ := h hm
  have hn := hne _ hA
  refine ⟨b, hA, by simpa using hlt, fun j hj => ?_⟩
  rw [World.cell?_setCell_other _ _ _ _ (fun e => hn (by rw [e])), World.cell?_setCell_other _ _ _ _ (fun e => hn (by rw [e]))]
  exact hc j hj
theorem DevAt.setCell {w : World} {b : Nat} {B : Option Addr} {v : Value} {D : Dev} (h : DevAt w b B v D) {p : Addr} (h1 : p.block ≠ b) (h2 : ∀ a, B = some a → p.block ≠ a.block) (u : Value) : DevAt (w.setCell p u) b B v D := by
  obtain ⟨c, k, hv, hlt, hnc, hc, hl, h0⟩ := h
  refine ⟨c, k, hv, by simpa using hlt, hnc, fun j hj => ?_, hl.setCell h2 u, h0⟩
  rw [World.cell?_setCell_other _ _ _ _ (fun e => h1 (by rw [e]))]
  exact hc j hj
theorem DevAt.lt {w : World} {b : Nat} {B : Option Addr} {v : Value} {D : Dev} (h : DevAt w b B v D) : b < w.heap.size ∧ ∀ a, B = some a → a.block < w.heap.size := by
  obtain ⟨c, k, hv, hlt, hnc, hc, hl, h0⟩ := h
  exact ⟨hlt, hl.block_lt fun hm => (h0 hm).1⟩
theorem DevAt.below {w w' : World} {b : Nat} {A : Option Addr} {v : Value} {D : Dev} {B : Nat} (h : DevAt w b A v D) (hb : Below B w w') (hB : w.heap.size ≤ B) : DevAt w' b A v D := by
  obtain ⟨c, k, hv, hlt, hnc, hc, hl, h0⟩ := h
  refine ⟨c, k, hv, Nat.lt_of_lt_of_le hlt hb.size, hnc, fun j hj => ?_, hl.below hb hB, h0⟩
  rw [hb.cell (p := ⟨b, j, none⟩) (Nat.lt_of_lt_of_le hlt hB)]
  exact hc j hj
theorem IsDev.below {w w' : World} {v : Value} {D : Dev} {B : Nat} (h : IsDev w v D) (hb : Below B w w') (hB : w.heap.size ≤ B) : IsDev w' v D := by
  obtain ⟨b, A, h⟩ := h
  exact ⟨b, A, h.below hb hB⟩

/-- A device as the calls make them: K bounds its writes and its deeds. -/
structure Dev.Ok (D : Dev) (K : Nat) : Prop where
  n1 : 1 ≤ D.n
  n2 : D.n ≤ 2000
  m2 : D.m ≤ K
  d1 : 0 ≤ D.deeds
  d2 : D.deeds ≤ K
  l1 : -9223372036854775808 ≤ D.left
  l2 : D.left ≤ 9223372036854775807
  sz : ∀ j, j < D.n → (D.S j).size = 256
  lz : ∀ j, j < D.m → (D.LD j).size = 256
  la : ∀ j, j < D.m → 0 ≤ D.LA j ∧ D.LA j < D.n

theorem bcell {W w1 : World} {B : Nat} (hb : Below B W w1) : (∀ b o, b < B → w1.cell? ⟨b, o, none⟩ = W.cell? ⟨b, o, none⟩) ∧ (∀ b o, b < B → w1.frozen? ⟨b, o, none⟩ = W.frozen? ⟨b, o, none⟩) :=
  ⟨fun b o h => hb.cell (p := ⟨b, o, none⟩) h, fun b o h => hb.frozen (p := ⟨b, o, none⟩) h⟩

def DevErr (D : Dev) (err : Int) (w : World) (e : Ending) (w' : World) : Prop :=
  ∃ v, e = .returned (.tuple #[v, .int .i64 err]) ∧ IsDev w' v D ∧ Below w.heap.size w w'

def fresh (n : Nat) : Dev := { n := n, S := fun _ => padB ⟨#[]⟩, m := 0, LA := fun _ => 0, LD := fun _ => ⟨#[]⟩, dead := false, left := -1, deeds := 0 }

theorem fresh_ok (n : Nat) (h1 : 1 ≤ n) (h2 : n ≤ 2000) : (fresh n).Ok 0 :=
  ⟨h1, h2, Nat.le_refl _, by simp [fresh], by simp [fresh], by simp [fresh], by simp [fresh], fun j _ => padB_size _ (by simp [ByteArray.size]), fun j hj => absurd hj (by simp [fresh]), fun j hj => absurd hj (by simp [fresh])⟩

set_option maxHeartbeats 1000000 in
theorem new_any (n : Nat) (w : World) (h1 : 1 ≤ n) (h2 : n ≤ 2000) : Calls Try.prog 13 #[.int .i64 n] w (DevErr (fresh n) 0 w) := by
  have hd1 : decide ((n : Int) < 1) = false := by simp; omega
  have hd2 : decide (2000 < (n : Int)) = false := by simp; omega
  go_enter Try.func13, Try.ntmps13
  go_wp2_with (first
    | (go_at_call 25
       refine (padded_any _ _ (by simp [ByteArray.size])).mono ?_
       rintro e w1 ⟨rfl, hb1⟩
       simp only [World.size_alloc] at hb1
       generalize hp : padB _ = p)
    | (go_at_call 26
       refine (repeat_slice _ _ n p _ (by omega) (by omega) (by simp) (by simp)).mono ?_
       rintro e w2 ⟨g, cap, rfl, hncap, hg, hc, hgw, hb2⟩
       simp only [World.size_alloc] at hb2
       have hs1 := hb1.size
       simp only [World.size_alloc] at hs1
       have hb3 := (hb1.alloc hs1 _).trans (hb2.mono (by omega))
       obtain ⟨hcc, hff⟩ := bcell hb3
       have HC := Lib.hid hc
       clear hc))
  have HB := Lib.hid hb3
  refine bodyPost_ret (v := .tuple #[.agg #[.slice (some ⟨g, 0, none⟩) n cap, .slice none 0 0, .bool false, .int .i64 (-1), .int .i64 0], .int .i64 0]) (by simp [results, Try.results13, go_sem, hcc]) rfl ?_
  simp only [World.size_alloc] at hgw
  have hne : w.heap.size ≠ g := by omega
  have hd : DevAt w2 g none (.agg #[.slice (some ⟨g, 0, none⟩) n cap, .slice none 0 0, .bool false, .int .i64 (-1), .int .i64 0]) (fresh n) :=
    ⟨cap, 0, rfl, hg, hncap, fun j hj => by rw [HC.out j hj, ← hp]; rfl, fun h => absurd h (by simp [fresh]), fun _ => ⟨rfl, rfl⟩⟩
  refine ⟨_, rfl, ⟨g, none, ?_⟩, ?_⟩
  · repeat (first | (with_reducible exact hd) | (with_reducible refine DevAt.setCell ?_ hne (fun a h => by cases h) _))
  · have hb4 : Below w.heap.size w w2 := ((Below.refl w.heap.size w).alloc (Nat.le_refl _) _).trans (HB.out.mono (by omega))
    repeat (first | (with_reducible exact hb4) | refine Below.setCell ?_ (by simp) _)

def armed (D : Dev) (x : Int) : Dev := { D with left := max x (-1) }

theorem arm_dev (v : Value) (D : Dev) (x : Int) (w : World) (h : IsDev w v D) :
    Calls Try.prog 14 #[v, .int .i64 x] w fun e w' => ∃ v', e = .returned v' ∧ IsDev w' v' (armed D x) ∧ Below w.heap.size w w' := by
  obtain ⟨b, B, c, k, rfl, hlt, hnc, hc, hl, h0⟩ := h
  refine (arm_any _ _ _ _ _ _ _ _ _ _ _).mono ?_
  rintro e w' ⟨rfl, hb⟩
  have hd : DevAt w b B (.agg #[.slice (some ⟨b, 0, none⟩) D.n c, .slice B D.m k, .bool D.dead, .int .i64 (max x (-1)), .int .i64 D.deeds]) (armed D x) := ⟨c, k, rfl, hlt, hnc, hc, hl, h0⟩
  exact ⟨_, rfl, ⟨b, B, hd.below hb (Nat.le_refl _)⟩, hb⟩

/-- Is there that sector? -/
def Dev.has (D : Dev) (x : Int) : Bool := decide (0 ≤ x ∧ x < D.n)
/-- Has it power? -/
def Dev.pow (D : Dev) : Bool := !D.dead && !(D.left == 0)
def Dev.down (D : Dev) : Dev := { D with dead := true }
def Dev.up (D : Dev) : Dev := { D with left := lessLeft D.left, deeds := D.deeds + 1 }
def Dev.putAt (D : Dev) (x : Int) (d : ByteArray) : Dev := { D.up with m := D.m + 1, LA := snocI D.LA D.m x, LD := snocD D.LD D.m (padB d) }

theorem pow_no {D : Dev} (hp : D.pow = false) : D.dead = true ∨ D.left = 0 := by
  unfold Dev.pow at hp
  cases hd : D.dead
  · rw [hd] at hp
    right
    simpa using hp
  · left; rfl
theorem pow_yes {D : Dev} (hp : D.pow = true) : D.dead = false ∧ D.left ≠ 0 := by
  unfold Dev.pow at hp
  have h1 : D.dead = false := by cases hd : D.dead <;> simp_all
  exact ⟨h1, by intro e; rw [h1, e] at hp; simp at hp⟩

theorem devErr_of {w W : World} {b : Nat} {B : Option Addr} {v : Value} {D : Dev} {err : Int} (h : DevAt w b B v D) (hb : Below w.heap.size w W) : DevErr D err w (.returned (.tuple #[v, .int .i64 err])) W :=
  ⟨v, rfl, ⟨b, B, h.below hb (Nat.le_refl _)⟩, hb⟩

set_option maxHeartbeats 1000000 in
theorem put_arg (v : Value) (D : Dev) (x : Int) (d : ByteArray) (w : World) (h : IsDev w v D) (hs : d.size ≤ 100000) (ha : D.has x = false ∨ 256 < d.size) :
    Calls Try.prog 12 #[v, .int .i64 x, .string d] w (DevErr D 1 w) := by
  obtain ⟨b, B, c, k, rfl, hlt, hnc, hc, hl, h0⟩ := h
  have hd : DevAt w b B _ D := ⟨c, k, rfl, hlt, hnc, hc, hl, h0⟩
  have HD := Lib.hid hd
  clear hd hc hl h0
  obtain ⟨n, S, m, LA, LD, dead, left, deeds⟩ := D
  cases hh : Dev.has ⟨n, S, m, LA, LD, dead, left, deeds⟩ x
  · have HH := Lib.hid hh
    clear hh ha
    go_enter Try.func12, Try.ntmps12
    go_wp2_with (first
      | (go_at_call 20
         refine (has_any _ _ _ _ _ _ _ _ _ _ _ false HH.out.symm).mono ?_
         rintro e w1 ⟨rfl, hb1⟩
         simp only [World.size_alloc] at hb1
         obtain ⟨hcc, hff⟩ := bcell hb1))
    refine bodyPost_ret (v := .tuple #[.agg #[.slice (some ⟨b, 0, none⟩) n c, .slice B m k, .bool dead, .int .i64 left, .int .i64 deeds], .int .i64 1]) (by simp [results, Try.results12, go_sem, hcc]) rfl (devErr_of HD.out ?_)
    have hb4 : Below w.heap.size w w1 := (((Below.refl w.heap.size w).alloc (by simp) _).alloc (by simp) _).trans (hb1.mono (by omega))
    repeat (first | (with_reducible exact hb4) | refine Below.setCell ?_ (by simp) _)
  · have hbig : 256 < d.size := by
      rcases ha with ha | ha
      · rw [hh] at ha; cases ha
      · exact ha
    have HH := Lib.hid hh
    clear hh ha
    go_enter Try.func12, Try.ntmps12
    go_wp2_with (first
      | (go_at_call 20
         refine (has_any _ _ _ _ _ _ _ _ _ _ _ true HH.out.symm).mono ?_
         rintro e w1 ⟨rfl, hb1⟩
         simp only [World.size_alloc] at hb1
         obtain ⟨hcc, hff⟩ := bcell hb1))
    refine bodyPost_ret (v := .tuple #[.agg #[.slice (some ⟨b, 0, none⟩) n c, .slice B m k, .bool dead, .int .i64 left, .int .i64 deeds], .int .i64 1]) (by simp [results, Try.results12, go_sem, hcc]) rfl (devErr_of HD.out ?_)
    have hb4 : Below w.heap.size w w1 := (((Below.refl w.heap.size w).alloc (by simp) _).alloc (by simp) _).trans (hb1.mono (by omega))
    repeat (first | (with_reducible exact hb4) | refine Below.setCell ?_ (by simp) _)

theorem DevAt.down {w : World} {b c k : Nat} {B : Option Addr} {D : Dev} (h : DevAt w b B (.agg #[.slice (some ⟨b, 0, none⟩) D.n c, .slice B D.m k, .bool D.dead, .int .i64 D.left, .int .i64 D.deeds]) D) :
    DevAt w b B (.agg #[.slice (some ⟨b, 0, none⟩) D.n c, .slice B D.m k, .bool true, .int .i64 D.left, .int .i64 D.deeds]) D.down := by
  obtain ⟨c', k', hv, hlt, hnc, hc, hl, h0⟩ := h
  simp only [Value.agg.injEq, Array.mk.injEq, List.cons.injEq, Value.slice.injEq, true_and, and_true] at hv
  obtain ⟨rfl, rfl⟩ := hv
  exact ⟨c, k, rfl, hlt, hnc, hc, hl, h0⟩

set_option maxHeartbeats 1000000 in
theorem put_down (v : Value) (D : Dev) (x : Int) (d : ByteArray) (w : World) (h : IsDev w v D) (hs : d.size ≤ 256) (ha : D.has x = true) (hp : D.pow = false) :
    Calls Try.prog 12 #[v, .int .i64 x, .string d] w (DevErr D.down 10 w) := by
  obtain ⟨b, B, c, k, rfl, hlt, hnc, hc, hl, h0⟩ := h
  have hd : DevAt w b B _ D := ⟨c, k, rfl, hlt, hnc, hc, hl, h0⟩
  have HD := Lib.hid hd.down
  have HH := Lib.hid ha
  have HQ := Lib.hid (pow_no hp)
  clear hd hc hl h0 ha hp
  obtain ⟨n, S, m, LA, LD, dead, left, deeds⟩ := D
  have HQ2 : Hid (dead = true ∨ left = 0) := HQ
  clear HQ
  go_enter Try.func12, Try.ntmps12
  go_wp2_with (first
    | (go_at_call 20
       refine (has_any _ _ _ _ _ _ _ _ _ _ _ true HH.out.symm).mono ?_
       rintro e w1 ⟨rfl, hb1⟩
       simp only [World.size_alloc] at hb1
       obtain ⟨hcc, hff⟩ := bcell hb1
       have hs1 := hb1.size
       simp only [World.size_alloc] at hs1)
    | (go_at_call 18
       refine (deed_no _ _ _ _ _ _ _ _ _ _ HQ2.out).mono ?_
       rintro e w2 ⟨rfl, hb2⟩
       have hb3 := hb1.trans (hb2.mono (by simpa using hs1))
       clear hcc hff
       have HX := Lib.hid (((Box5.new w _ _ _ _ _ 31).alloc _).below hb3 (by omega))
       have HY := Lib.hid ((Box5.new _ _ _ _ _ _ 31).below hb3 (by simp)))
    | (refine wpList_store5 rfl 31 (.tmp 3) (.tmp 22) rfl w.heap.size _ _ _ _ _ _ _ _ _ _ rfl rfl HX.out size31 (by simp [Value.oneCell']) ?_
       intro w3 hx3 hbut3
       have hy3 := HY.out.but hbut3 (by simp)
       simp only [World.size_alloc] at hy3
       have hcx0 := hx3.c0
       have hcx1 := hx3.c1
       have hcx2 := hx3.c2
       have hcx3 := hx3.c3
       have hcx4 := hx3.c4
       have hcy0 := hy3.c0
       have hcy1 := hy3.c1
       have hcy2 := hy3.c2
       have hcy3 := hy3.c3
       have hcy4 := hy3.c4
       have hfy := hy3.f))
  refine bodyPost_ret (v := .tuple #[.agg #[.slice (some ⟨b, 0, none⟩) n c, .slice B m k, .bool true, .int .i64 left, .int .i64 deeds], .int .i64 10]) (by simp [results, Try.results12, go_sem, hcy0, hcy1, hcy2, hcy3, hcy4]) rfl (devErr_of HD.out ?_)
  have hb4 : Below w.heap.size w w3 := ((((Below.refl w.heap.size w).alloc (by simp) _).alloc (by simp) _).trans (hb3.mono (by omega))).trans (hbut3.below (Nat.le_refl _))
  repeat (first | (with_reducible exact hb4) | refine Below.setCell ?_ (by simp) _)
end Go.Proofs.Ytnmgaafpbbeceaa
