/- Texts SlaJ, SlaK, SlaL, SlaM, SlaO, SlaZ, one behind the other. -/
import Derived.Test.YtdbemkdfndjakaaDoorMgD
/- slab.Flush. -/
namespace Go.Proofs.YtdbemkdfndjakaaDoor.Sla
open Go.RowKit Go.Shelf

/-- A row of n strings of the call's own. -/
def StrRow (w : World) (g n : Nat) (f : Nat → ByteArray) : Prop :=
  g < w.heap.size ∧ (∀ j, j < n → w.cell? ⟨g, j, none⟩ = some (.string (f j))) ∧ ∀ i, w.frozen? ⟨g, i, none⟩ = false
theorem StrRow.below {w w' : World} {g n B : Nat} {f : Nat → ByteArray} (h : StrRow w g n f) (hb : Below B w w') (hB : w.heap.size ≤ B) : StrRow w' g n f :=
  ⟨Nat.lt_of_lt_of_le h.1 hb.size, fun j hj => (hb.cell (p := ⟨g, j, none⟩) (Nat.lt_of_lt_of_le h.1 hB)).trans (h.2.1 j hj), fun i => (hb.frozen (p := ⟨g, i, none⟩) (Nat.lt_of_lt_of_le h.1 hB)).trans (h.2.2 i)⟩
theorem StrRow.set {w : World} {g n a : Nat} {f : Nat → ByteArray} (h : StrRow w g n f) (ha : a < n) (d : ByteArray) : StrRow (w.setCell ⟨g, a, none⟩ (.string d)) g n (fun j => if j = a then d else f j) := by
  refine ⟨by simpa using h.1, fun j hj => ?_, fun i => by simpa using h.2.2 i⟩
  by_cases e : j = a
  · subst e
    simp only [if_true]
    exact World.cell?_setCell_same _ _ _ (h.2.1 j hj)
  · simp only [if_neg e]
    rw [World.cell?_setCell_other _ _ _ _ (fun e' => e (by injection e' with _ e2; exact e2.symm))]
    exact h.2.1 j hj

def ClonePost (n : Nat) (S : Nat → ByteArray) (w : World) (e : Ending) (w' : World) : Prop :=
  ∃ g cap, e = .returned (.slice (some ⟨g, 0, none⟩) n cap) ∧ n ≤ cap ∧ w.heap.size ≤ g ∧ StrRow w' g n S ∧ Below w.heap.size w w'

theorem clone_any (b n c : Nat) (S : Nat → ByteArray) (w : World) (h1 : 1 ≤ n) (h2 : n ≤ 2000) (hc : ∀ j, j < n → w.cell? ⟨b, j, none⟩ = some (.string (S j))) :
    Calls Tryd.prog 54 #[.slice (some ⟨b, 0, none⟩) n c] w (ClonePost n S w) := by
  refine (Tryd.slices_Clone_string b 0 n c ((List.range n).map S) w (by simp) (by omega) (fun j hj => ?_)).mono ?_
  · simp only [List.length_map, List.length_range] at hj
    rw [Nat.zero_add, hc j hj]
    simp [List.getD, hj]
  · rintro e w' ⟨v', rfl, hown, _, hb⟩
    obtain ⟨g, cap, rfl, hg, hlt⟩ := hown.form (by omega)
    have hcap : n ≤ cap := by
      rcases hown.2 with ⟨h0, _⟩ | ⟨g', cap', cur, hv, _, _, hn, _⟩
      · cases h0
      · injection hv with _ _ h3
        subst h3
        exact hn
    refine ⟨g, cap, rfl, hcap, hg, ⟨hlt, fun j hj => ?_, fun i => hown.frozenAt i⟩, hb⟩
    rw [hown.cellAt j (by omega)]
    simp [hj]

/-- What is sure when the first writes are. -/
def flushS (S : Nat → ByteArray) (LA : Nat → Int) (LD : Nat → ByteArray) : Nat → Nat → ByteArray
  | 0 => S
  | k + 1 => fun j => if LA k = (j : Int) then LD k else flushS S LA LD k j
theorem StrRow.congr {w : World} {g n : Nat} {f f' : Nat → ByteArray} (h : StrRow w g n f) (e : ∀ j, j < n → f j = f' j) : StrRow w g n f' :=
  ⟨h.1, fun j hj => by rw [h.2.1 j hj, e j hj], h.2.2⟩

def Dev.flushed (D : Dev) : Dev := { D.up with S := flushS D.S D.LA D.LD D.m, m := 0, LA := fun _ => 0, LD := fun _ => ⟨#[]⟩ }

set_option maxHeartbeats 1000000 in
theorem flush_down (v : Value) (D : Dev) (w : World) (h : IsDev w v D) (hp : D.pow = false) :
    Calls Tryd.prog 40 #[v] w (DevErr D.down 10 w) := by
  obtain ⟨b, B, c, k, rfl, hlt, hnc, hc, hl, h0⟩ := h
  have hd : DevAt w b B _ D := ⟨c, k, rfl, hlt, hnc, hc, hl, h0⟩
  have HD := Lib.hid hd.down
  have HQ := Lib.hid (pow_no hp)
  clear hd hc hl h0 hp
  obtain ⟨n, S, m, LA, LD, dead, left, deeds⟩ := D
  have HQ2 : Hid (dead = true ∨ left = 0) := HQ
  clear HQ
  go_enter Tryd.func40, Tryd.ntmps40
  go_wp2_with (first
    | (go_at_call 49
       refine (deed_no _ _ _ _ _ _ _ _ _ _ HQ2.out).mono ?_
       rintro e w2 ⟨rfl, hb3⟩
       simp only [World.size_alloc] at hb3
       have HX := Lib.hid (((Box5.new w _ _ _ _ _ 39).alloc _).below hb3 (by omega))
       have HY := Lib.hid ((Box5.new _ _ _ _ _ _ 39).below hb3 (by simp)))
    | (refine wpList_store5 rfl 39 (.tmp 1) (.tmp 11) rfl w.heap.size _ _ _ _ _ _ _ _ _ _ rfl rfl HX.out size31 (by simp [Value.oneCell']) ?_
       intro w3 hx3 hbut3
       have hy3 := HY.out.but hbut3 (by simp)
       simp only [World.size_alloc] at hy3
       have hcx0 := hx3.c0
       have hcx1 := hx3.c1
       have hcx2 := hx3.c2
       have hcx3 := hx3.c3
       have hcx4 := hx3.c4
       have hcy0 := hy3.c0
       have hcy1 := hy3.c1
       have hcy2 := hy3.c2
       have hcy3 := hy3.c3
       have hcy4 := hy3.c4
       have hfy := hy3.f))
  refine bodyPost_ret (v := .tuple #[.agg #[.slice (some ⟨b, 0, none⟩) n c, .slice B m k, .bool true, .int .i64 left, .int .i64 deeds], .int .i64 10]) (by simp [results, Tryd.results40, go_sem, hcy0, hcy1, hcy2, hcy3, hcy4]) rfl (devErr_of HD.out ?_)
  have hb4 : Below w.heap.size w w3 := ((((Below.refl w.heap.size w).alloc (by simp) _).alloc (by simp) _).trans (hb3.mono (by omega))).trans (hbut3.below (Nat.le_refl _))
  repeat (first | (with_reducible exact hb4) | refine Below.setCell ?_ (by simp) _)

set_option maxHeartbeats 4000000 in
theorem flush_ok {K : Nat} (v : Value) (D : Dev) (w : World) (h : IsDev w v D) (hok : D.Ok K) (hK : K ≤ 100000) (hp : D.pow = true) :
    Calls Tryd.prog 40 #[v] w (DevErr D.flushed 0 w) := by
  obtain ⟨b, B, c, k, rfl, hlt, hnc, hc, hl, h0⟩ := h
  have HQ := Lib.hid (pow_yes hp)
  have hm := hok.m2
  have hd2 := hok.d2
  have hl1 := hok.l1
  have hl2 := hok.l2
  have hd1 := hok.d1
  have hn1 := hok.n1
  have hn2 := hok.n2
  have HLA := Lib.hid hok.la
  have HC := Lib.hid hc
  have HL := Lib.hid hl
  have H0 := Lib.hid h0
  clear hc hl h0 hp hok
  obtain ⟨n, S, m, LA, LD, dead, left, deeds⟩ := D
  have HQ2 : Hid (dead = false ∧ left ≠ 0) := HQ
  simp only at hm hd2 hl1 hl2 hd1 hnc hn1 hn2
  clear HQ
  obtain rfl : dead = false := HQ2.out.1
  have HQ3 := Lib.hid HQ2.out.2
  clear HQ2
  have HC2 : Hid (∀ j, j < n → w.cell? ⟨b, j, none⟩ = some (.string (S j))) := HC
  have HLA2 : Hid (∀ j, j < m → 0 ≤ LA j ∧ LA j < n) := HLA
  clear HC HLA
  go_enter Tryd.func40, Tryd.ntmps40
  go_wp2_with (first
    | (go_at_call 49
       refine (deed_yes _ _ _ _ _ _ _ _ _ HQ3.out (by omega) (by omega) (by omega) (by omega)).mono ?_
       rintro e w2 ⟨rfl, hb3⟩
       generalize hle : lessLeft left = left2
       simp only [World.size_alloc] at hb3
       have HX := Lib.hid (((Box5.new w _ _ _ _ _ 39).alloc _).below hb3 (by omega))
       have HY := Lib.hid ((Box5.new _ _ _ _ _ _ 39).below hb3 (by simp)))
    | (refine wpList_store5 rfl 39 (.tmp 1) (.tmp 11) rfl w.heap.size _ _ _ _ _ _ _ _ _ _ rfl rfl HX.out size31 (by simp [Value.oneCell']) ?_
       intro w3 hx3 hbut3
       have hy3 := HY.out.but hbut3 (by simp)
       simp only [World.size_alloc] at hy3
       have hb4 : Below w.heap.size w w3 := ((((Below.refl w.heap.size w).alloc (by simp) _).alloc (by simp) _).trans (hb3.mono (by omega))).trans (hbut3.below (Nat.le_refl _))
       have hs3 : w.heap.size + 1 < w3.heap.size := (World.block_lt_of_cell? w3 _ hy3.c0)
       have hcx0 := hx3.c0)
    | (go_at_call 54
       refine (clone_any b n c S w3 hn1 hn2 (fun j hj => (hb4.cell (p := ⟨b, j, none⟩) hlt).trans (HC2.out j hj))).mono ?_
       rintro e w4 ⟨g, cap, rfl, hncap, hg3, hrow, hb34⟩
       have hx4 := hx3.below hb34 (by omega)
       have hy4 := hy3.below hb34 (by omega)
       have hcx1 := hx4.c1))
  have HLE2 := Lib.hid hle
  have hs34 : w3.heap.size ≤ w4.heap.size := hb34.size
  have hb46 : Below w.heap.size w w4 := hb4.trans (hb34.mono (by omega))
  clear hle hb3 HX HY hbut3 hcx0 hcx1 hx3 hy3 hb34 hb4
  go_loopw [22] (fun u wr => ∃ q : Nat, q ≤ m ∧ u = .int .i64 q ∧ Below w3.heap.size w4 wr ∧ StrRow wr g n (flushS S LA LD q)) (fun u _ => m - (intOf u).toNat)
  case atStart => exact ⟨0, Nat.zero_le _, rfl, Below.refl _ _, hrow⟩
  case round =>
    obtain ⟨q, hq, rfl, hbr, hrr⟩ := hrel
    have hx5 := hx4.below hbr (by omega)
    have hcx0 := hx5.c0
    have hcx1 := hx5.c1
    have hcx2 := hx5.c2
    have hcx3 := hx5.c3
    have hcx4 := hx5.c4
    have hbw : Below w.heap.size w wr := hb46.trans (hbr.mono (by omega))
    by_cases hqm : q < m
    · obtain ⟨bl, rfl, hbl, hlc⟩ := HL.out (by omega)
      obtain ⟨a, ha⟩ := Int.eq_ofNat_of_zero_le (HLA2.out q hqm).1
      have han : a < n := by have := (HLA2.out q hqm).2; omega
      have kA : wr.cell? ⟨bl, q * 2, none⟩ = some (.int .i64 (a : Int)) := by rw [← ha]; exact (hbw.cell (p := ⟨bl, q * 2, none⟩) hbl).trans (hlc q hqm).1
      have kD : wr.cell? ⟨bl, q * 2 + 1, none⟩ = some (.string (LD q)) := (hbw.cell (p := ⟨bl, q * 2 + 1, none⟩) hbl).trans (hlc q hqm).2
      have HA := Lib.hid ha
      have HR := Lib.hid hrr
      have hgl := hrr.1
      have hsr := hbr.size
      have hx6 := hx5.alloc (.cells #[.int .i64 (a : Int), .string (LD q)] 69)
      have ha0 := hx6.c0
      have ha1 := hx6.c1
      have ha2 := hx6.c2
      have ha3 := hx6.c3
      have ha4 := hx6.c4
      have i1 : (0 : Int) ≤ (a : Int) := by omega
      have i2 : (a : Int) < (n : Int) := by omega
      have hHas : Hid (true = decide (0 ≤ (a : Int) ∧ (a : Int) < (n : Int))) := (decide_eq_true ⟨i1, i2⟩).symm
      clear ha hrr hlc
      go_wp2_with (first
        | (go_at_call 48
           refine (has_any _ _ _ _ _ _ _ _ _ _ _ true hHas.out).mono ?_
           rintro e w5 ⟨rfl, hb5⟩
           simp only [World.size_alloc] at hb5
           have kt0 : w5.cell? ⟨wr.heap.size, 0, none⟩ = some (.int .i64 (a : Int)) := (hb5.cell (p := ⟨wr.heap.size, 0, none⟩) (by simp)).trans (by simp)
           have kt1 : w5.cell? ⟨wr.heap.size, 1, none⟩ = some (.string (LD q)) := (hb5.cell (p := ⟨wr.heap.size, 1, none⟩) (by simp)).trans (by simp)
           have hr5 : StrRow w5 g n (flushS S LA LD q) := (HR.out.below ((Below.refl wr.heap.size wr).alloc (Nat.le_refl _) _) (Nat.le_refl _)).below hb5 (by simp)
           have kg := hr5.2.1 a han
           have kf := hr5.2.2 a))
      go_roundw
      case rel =>
        refine ⟨q + 1, by omega, by go_num, ?_, ?_⟩
        · refine Below.setCell ?_ (by simp; omega) _
          exact hbr.trans (((Below.refl wr.heap.size wr).alloc (Nat.le_refl _) _ |>.trans (hb5.mono (by omega))).mono (by omega))
        · refine (hr5.set han (LD q)).congr fun j hj => ?_
          simp only [flushS]
          rw [HA.out]
          by_cases e : j = a
          · subst e; simp
          · rw [if_neg e, if_neg (by omega)]
      case measure => simp [intOf]; omega
    · obtain rfl : q = m := by omega
      have hy5 := hy4.below hbr (by omega)
      have hfx := hx5.f
      have hfy := hy5.f
      have ky0 := hy5.c0
      have ky1 := hy5.c1
      have ky2 := hy5.c2
      have ky3 := hy5.c3
      have ky4 := hy5.c4
      have hgl := hrr.1
      have hd5 : DevAt wr g none (.agg #[.slice (some ⟨g, 0, none⟩) n cap, .slice none 0 0, .bool false, .int .i64 left2, .int .i64 (deeds + 1)]) (Dev.flushed { n := n, S := S, m := q, LA := LA, LD := LD, dead := false, left := left, deeds := deeds }) :=
        ⟨cap, 0, (by rw [← HLE2.out]; rfl), hgl, hncap, hrr.2.1, fun h => absurd h (by simp [Dev.flushed]), fun _ => ⟨rfl, rfl⟩⟩
      go_wp2
      refine bodyPost_ret (v := .tuple #[.agg #[.slice (some ⟨g, 0, none⟩) n cap, .slice none 0 0, .bool false, .int .i64 left2, .int .i64 (deeds + 1)], .int .i64 0]) (by simp [results, Tryd.results40, go_sem, ky0, ky1, ky2, ky3, ky4]) rfl ⟨_, rfl, ⟨g, none, ?_⟩, ?_⟩
      · repeat (first | (with_reducible exact hd5) | refine DevAt.setCell ?_ (by simp; omega) (fun a h => by cases h) _)
      · repeat (first | (with_reducible exact hbw) | refine Below.setCell ?_ (by simp) _)
end Go.Proofs.YtdbemkdfndjakaaDoor.Sla

/- slab.Start. -/
namespace Go.Proofs.YtdbemkdfndjakaaDoor.Sla
open Go.RowKit Go.Shelf

/-- What stays, told plainly. -/
structure Fat where
  stay : Int
  torn : Int
  bytes : Int

def keptN (f : Fat) (i size : Nat) : Nat := (keptI f.stay f.torn f.bytes i size).toNat
/-- What is sure behind a start, of the first writes. -/
def startS (f : Fat) (S : Nat → ByteArray) (LA : Nat → Int) (LD : Nat → ByteArray) : Nat → Nat → ByteArray
  | 0 => S
  | k + 1 => fun j => if LA k = (j : Int) then laidB (startS f S LA LD k j) ((LD k).extract 0 (keptN f k (LD k).size)) else startS f S LA LD k j

theorem laidB_size (o d : ByteArray) (h : d.size ≤ o.size) : (laidB o d).size = o.size := by
  unfold laidB
  split
  · omega
  · rw [ByteArray.size_append, ByteArray.size_extract]
    omega

theorem startS_size (f : Fat) (S : Nat → ByteArray) (LA : Nat → Int) (LD : Nat → ByteArray) (n k : Nat) (hS : ∀ j, j < n → (S j).size = 256) (hL : ∀ j, j < k → (LD j).size = 256) : ∀ j, j < n → (startS f S LA LD k j).size = 256 := by
  induction k with
  | zero => exact hS
  | succ k ih =>
    intro j hj
    have h1 := ih (fun i hi => hL i (by omega)) j hj
    simp only [startS]
    split
    · rw [laidB_size _ _ (by rw [ByteArray.size_extract, h1, hL k (by omega)]; omega), h1]
    · exact h1

def Dev.started (D : Dev) (f : Fat) : Dev := { n := D.n, S := startS f D.S D.LA D.LD D.m, m := 0, LA := fun _ => 0, LD := fun _ => ⟨#[]⟩, dead := false, left := -1, deeds := 0 }

def DevRet (D : Dev) (w : World) (e : Ending) (w' : World) : Prop := ∃ v, e = .returned v ∧ IsDev w' v D ∧ Below w.heap.size w w'

structure Box3 (w : World) (g : Nat) (v0 v1 v2 : Value) : Prop where
  c0 : w.cell? ⟨g, 0, none⟩ = some v0
  c1 : w.cell? ⟨g, 1, none⟩ = some v1
  c2 : w.cell? ⟨g, 2, none⟩ = some v2
theorem Box3.below {g B : Nat} {w w' : World} {v0 v1 v2 : Value} (h : Box3 w g v0 v1 v2) (hb : Below B w w') (hB : g < B) : Box3 w' g v0 v1 v2 :=
  ⟨(hb.cell (p := ⟨g, 0, none⟩) hB).trans h.c0, (hb.cell (p := ⟨g, 1, none⟩) hB).trans h.c1, (hb.cell (p := ⟨g, 2, none⟩) hB).trans h.c2⟩
theorem Box3.new (w : World) (v0 v1 v2 : Value) (t : TypeId) : Box3 (w.alloc (.cells #[v0, v1, v2] t)) w.heap.size v0 v1 v2 := by
  constructor <;> simp [go_sem]

/-- What the region of a start reads, but for the sector: a write's two cells, a fate's three. -/
def StartCells (w : World) (t N : Nat) (x : Value) (d : Value) (v0 v1 v2 : Value) : Prop :=
  w.cell? ⟨t, 0, none⟩ = some x ∧ w.cell? ⟨t, 1, none⟩ = some d ∧ w.cell? ⟨N, 0, none⟩ = some v0 ∧ w.cell? ⟨N, 1, none⟩ = some v1 ∧ w.cell? ⟨N, 2, none⟩ = some v2
theorem StartCells.below {w w' : World} {t N B : Nat} {x d v0 v1 v2 : Value} (h : StartCells w t N x d v0 v1 v2) (hb : Below B w w') (h1 : t < B) (h2 : N < B) : StartCells w' t N x d v0 v1 v2 :=
  ⟨(hb.cell (p := ⟨t, 0, none⟩) h1).trans h.1, (hb.cell (p := ⟨t, 1, none⟩) h1).trans h.2.1, (hb.cell (p := ⟨N, 0, none⟩) h2).trans h.2.2.1, (hb.cell (p := ⟨N, 1, none⟩) h2).trans h.2.2.2.1, (hb.cell (p := ⟨N, 2, none⟩) h2).trans h.2.2.2.2⟩
theorem StartCells.set {w : World} {t N g a : Nat} {x d v0 v1 v2 : Value} (h : StartCells w t N x d v0 v1 v2) (h1 : g ≠ t) (h2 : g ≠ N) (u : Value) : StartCells (w.setCell ⟨g, a, none⟩ u) t N x d v0 v1 v2 := by
  have o : ∀ (T i : Nat), g ≠ T → (w.setCell ⟨g, a, none⟩ u).cell? ⟨T, i, none⟩ = w.cell? ⟨T, i, none⟩ := fun T i hT => World.cell?_setCell_other w _ _ u (fun e => hT (by injection e))
  exact ⟨(o _ _ h1).trans h.1, (o _ _ h1).trans h.2.1, (o _ _ h2).trans h.2.2.1, (o _ _ h2).trans h.2.2.2.1, (o _ _ h2).trans h.2.2.2.2⟩

end Go.Proofs.YtdbemkdfndjakaaDoor.Sla

/- What each call makes of a device is a device again; whatever its arguments are. -/
namespace Go.Proofs.YtdbemkdfndjakaaDoor.Sla
open Go.RowKit Go.Shelf

theorem lessLeft_le (x : Int) (h1 : -9223372036854775808 ≤ x) (h2 : x ≤ 9223372036854775807) : -9223372036854775808 ≤ lessLeft x ∧ lessLeft x ≤ 9223372036854775807 := by
  unfold lessLeft
  split <;> omega

theorem Dev.Ok.more {D : Dev} {K K' : Nat} (h : D.Ok K) (hK : K ≤ K') : D.Ok K' :=
  { h with m2 := Nat.le_trans h.m2 hK, d2 := by have := h.d2; omega }
theorem Dev.Ok.down {D : Dev} {K : Nat} (h : D.Ok K) : D.down.Ok K := { h with }
theorem Dev.Ok.up {D : Dev} {K : Nat} (h : D.Ok K) : D.up.Ok (K + 1) :=
  ⟨h.n1, h.n2, by have := h.m2; show D.m ≤ K + 1; omega, by have := h.d1; show 0 ≤ D.deeds + 1; omega, by have := h.d2; show D.deeds + 1 ≤ ((K + 1 : Nat) : Int); omega,
   (lessLeft_le _ h.l1 h.l2).1, (lessLeft_le _ h.l1 h.l2).2, h.sz, h.lz, h.la⟩
theorem Dev.Ok.put {D : Dev} {K : Nat} (h : D.Ok K) (x : Int) (d : ByteArray) (hx : D.has x = true) (hd : d.size ≤ 256) : (D.putAt x d).Ok (K + 1) := by
  have hx' : 0 ≤ x ∧ x < D.n := by unfold Dev.has at hx; simpa using hx
  refine ⟨h.n1, h.n2, by have := h.m2; show D.m + 1 ≤ K + 1; omega, h.up.d1, h.up.d2, h.up.l1, h.up.l2, h.sz, fun j hj => ?_, fun j hj => ?_⟩
  · show (snocD D.LD D.m (padB d) j).size = 256
    have hj' : j < D.m + 1 := hj
    unfold snocD
    split
    · exact padB_size d hd
    · exact h.lz j (by omega)
  · show 0 ≤ snocI D.LA D.m x j ∧ snocI D.LA D.m x j < D.n
    have hj' : j < D.m + 1 := hj
    unfold snocI
    split
    · exact hx'
    · exact h.la j (by omega)
theorem flushS_size (S : Nat → ByteArray) (LA : Nat → Int) (LD : Nat → ByteArray) (n k : Nat) (hS : ∀ j, j < n → (S j).size = 256) (hL : ∀ j, j < k → (LD j).size = 256) : ∀ j, j < n → (flushS S LA LD k j).size = 256 := by
  induction k with
  | zero => exact hS
  | succ k ih =>
    intro j hj
    simp only [flushS]
    split
    · exact hL k (by omega)
    · exact ih (fun i hi => hL i (by omega)) j hj
theorem Dev.Ok.flushed {D : Dev} {K : Nat} (h : D.Ok K) : D.flushed.Ok (K + 1) :=
  ⟨h.n1, h.n2, Nat.zero_le _, h.up.d1, h.up.d2, h.up.l1, h.up.l2, flushS_size D.S D.LA D.LD D.n D.m h.sz h.lz, fun j hj => absurd hj (Nat.not_lt_zero j), fun j hj => absurd hj (Nat.not_lt_zero j)⟩
theorem Dev.Ok.started {D : Dev} {K : Nat} (h : D.Ok K) (f : Fat) : (D.started f).Ok 0 :=
  ⟨h.n1, h.n2, Nat.le_refl _, by simp [Dev.started], by simp [Dev.started], by simp [Dev.started], by simp [Dev.started], startS_size f D.S D.LA D.LD D.n D.m h.sz h.lz, fun j hj => absurd hj (Nat.not_lt_zero j), fun j hj => absurd hj (Nat.not_lt_zero j)⟩
theorem Dev.Ok.armed {D : Dev} {K : Nat} (h : D.Ok K) (x : Int) (hx : x ≤ 9223372036854775807) : (armed D x).Ok K :=
  { h with l1 := by show -9223372036854775808 ≤ max x (-1); omega, l2 := by show max x (-1) ≤ 9223372036854775807; omega }

/-- v' tells some device of n sectors, in a world where all that was there stays. -/
def Weak (n K : Nat) (w w' : World) (v' : Value) : Prop := ∃ D : Dev, IsDev w' v' D ∧ D.Ok K ∧ D.n = n ∧ Below w.heap.size w w'

end Go.Proofs.YtdbemkdfndjakaaDoor.Sla

/- Devices in memory whose variables are stored into. -/
namespace Go.Proofs.YtdbemkdfndjakaaDoor.Sla
open Go.RowKit Go.Shelf

theorem DevAt.but {w w' : World} {b g : Nat} {B : Option Addr} {v : Value} {D : Dev} (h : DevAt w b B v D) (hb : But g w w') (h1 : b ≠ g) (h2 : ∀ a, B = some a → a.block ≠ g) : DevAt w' b B v D := by
  obtain ⟨c, k, hv, hlt, hnc, hc, hl, h0⟩ := h
  refine ⟨c, k, hv, by rw [hb.size]; exact hlt, hnc, fun j hj => (hb.cell (p := ⟨b, j, none⟩) h1).trans (hc j hj), ?_, h0⟩
  intro hm
  obtain ⟨bl, hA, hlt', hcl⟩ := hl hm
  have hn := h2 _ hA
  exact ⟨bl, hA, by rw [hb.size]; exact hlt', fun j hj => ⟨(hb.cell (p := ⟨bl, j * 2, none⟩) hn).trans (hcl j hj).1, (hb.cell (p := ⟨bl, j * 2 + 1, none⟩) hn).trans (hcl j hj).2⟩⟩

/-- A variable whose first cell is a slice holds none of a device's cells. -/
theorem DevAt.apart {w : World} {b g : Nat} {B : Option Addr} {v : Value} {D : Dev} (h : DevAt w b B v D) (hn : 1 ≤ D.n) {A : Option Addr} {n c : Nat} (hx : w.cell? ⟨g, 0, none⟩ = some (.slice A n c)) : b ≠ g ∧ ∀ a, B = some a → a.block ≠ g := by
  obtain ⟨c', k, hv, hlt, hnc, hc, hl, h0⟩ := h
  refine ⟨?_, ?_⟩
  · rintro rfl
    have := hc 0 hn
    rw [hx] at this
    cases this
  · rintro a rfl e
    rcases Nat.eq_zero_or_pos D.m with hm | hm
    · cases (h0 hm).1
    · obtain ⟨bl, hA, _, hcl⟩ := hl hm
      injection hA with hA
      subst hA
      have h1 := (hcl 0 hm).1
      subst e
      rw [Nat.zero_mul, hx] at h1
      cases h1
theorem IsDev.but {w w' : World} {g : Nat} {v : Value} {D : Dev} (h : IsDev w v D) (hn : 1 ≤ D.n) {A : Option Addr} {n c : Nat} (hx : w.cell? ⟨g, 0, none⟩ = some (.slice A n c)) (hb : But g w w') : IsDev w' v D := by
  obtain ⟨b, B, h⟩ := h
  obtain ⟨h1, h2⟩ := h.apart hn hx
  exact ⟨b, B, h.but hb h1 h2⟩
theorem but5 (w : World) (g : Nat) (u0 u1 u2 u3 u4 : Value) : But g w (((((w.setCell ⟨g, 0, none⟩ u0).setCell ⟨g, 1, none⟩ u1).setCell ⟨g, 2, none⟩ u2).setCell ⟨g, 3, none⟩ u3).setCell ⟨g, 4, none⟩ u4) :=
  (((((But.refl g w).setCell 0 u0).setCell 1 u1).setCell 2 u2).setCell 3 u3).setCell 4 u4
theorem Weak.last {n K g : Nat} {w w' : World} {v : Value} {D : Dev} (hd : IsDev w' v D) (hok : D.Ok K) (hn : D.n = n) (hb : Below w.heap.size w w') (hg : w.heap.size ≤ g)
    {A : Option Addr} {m c : Nat} (hx : w'.cell? ⟨g, 0, none⟩ = some (.slice A m c)) (u0 u1 u2 u3 u4 : Value) :
    Weak n K w (((((w'.setCell ⟨g, 0, none⟩ u0).setCell ⟨g, 1, none⟩ u1).setCell ⟨g, 2, none⟩ u2).setCell ⟨g, 3, none⟩ u3).setCell ⟨g, 4, none⟩ u4) v :=
  ⟨D, hd.but hok.n1 hx (but5 w' g u0 u1 u2 u3 u4), hok, hn, hb.trans ((but5 w' g u0 u1 u2 u3 u4).below hg)⟩

end Go.Proofs.YtdbemkdfndjakaaDoor.Sla

/- The document's own comparison of two devices, where nothing is unsure. -/
namespace Go.Proofs.YtdbemkdfndjakaaDoor.Sla
open Go.RowKit Go.Shelf

end Go.Proofs.YtdbemkdfndjakaaDoor.Sla

/- The document's own comparison of two devices, whatever is unsure. -/
namespace Go.Proofs.YtdbemkdfndjakaaDoor.Sla
open Go.RowKit Go.Shelf

set_option maxHeartbeats 2000000 in
theorem same_late (b c b' c' n m k k' : Nat) (B B' : Option Addr) (S : Nat → ByteArray) (LA : Nat → Int) (LD : Nat → ByteArray) (dead : Bool) (left deeds : Int) (w : World) (hn : n ≤ 2000) (hm : m ≤ 100000) (hb : b < w.heap.size) (hb' : b' < w.heap.size)
    (h1 : ∀ j, j < n → w.cell? ⟨b, j, none⟩ = some (.string (S j))) (h2 : ∀ j, j < n → w.cell? ⟨b', j, none⟩ = some (.string (S j))) (h3 : HasLate w B m LA LD) (h4 : HasLate w B' m LA LD) :
    Calls Tryd.prog 26 #[.agg #[.slice (some ⟨b, 0, none⟩) n c, .slice B m k, .bool dead, .int .i64 left, .int .i64 deeds], .agg #[.slice (some ⟨b', 0, none⟩) n c', .slice B' m k', .bool dead, .int .i64 left, .int .i64 deeds]] w fun e w' =>
      e = .returned (.bool true) ∧ Below w.heap.size w w' := by
  have H1 := Lib.hid h1
  have H2 := Lib.hid h2
  have H3 := Lib.hid h3
  have H4 := Lib.hid h4
  clear h1 h2 h3 h4
  go_enter Tryd.func26, Tryd.ntmps26
  go_wp2_with fail
  go_loopw [5] (fun i wr => ∃ q : Nat, q ≤ n ∧ i = .int .i64 q ∧ Below w.heap.size w wr ∧ Box5 wr w.heap.size (.slice (some ⟨b, 0, none⟩) n c) (.slice B m k) (.bool dead) (.int .i64 left) (.int .i64 deeds) ∧ Box5 wr (w.heap.size + 1) (.slice (some ⟨b', 0, none⟩) n c') (.slice B' m k') (.bool dead) (.int .i64 left) (.int .i64 deeds)) (fun i _ => n - (intOf i).toNat)
  case atStart =>
    exact ⟨0, Nat.zero_le _, rfl, ((Below.refl w.heap.size w).alloc (Nat.le_refl _) _).alloc (by simp) _, (Box5.new w _ _ _ _ _ 39).alloc _, by have := Box5.new (w.alloc (.cells #[.slice (some ⟨b, 0, none⟩) n c, .slice B m k, .bool dead, .int .i64 left, .int .i64 deeds] 39)) (.slice (some ⟨b', 0, none⟩) n c') (.slice B' m k') (.bool dead) (.int .i64 left) (.int .i64 deeds) 39; simpa using this⟩
  case round =>
    obtain ⟨q, hq, rfl, hbr, hx, hy⟩ := hrel
    have x0 := hx.c0
    have x1 := hx.c1
    have y0 := hy.c0
    have y1 := hy.c1
    by_cases hqn : q < n
    · have k1 := (hbr.cell (p := ⟨b, q, none⟩) hb).trans (H1.out q hqn)
      have k2 := (hbr.cell (p := ⟨b', q, none⟩) hb').trans (H2.out q hqn)
      have i1 : (0 : Int) ≤ (q : Int) := by omega
      have i2 : (q : Int) < (n : Int) := by omega
      go_wp2
      go_quiet (fail)
      go_wp2
      go_roundw
      case rel => exact ⟨q + 1, by omega, by go_num, below_drewN hbr _, hx.below (below_drewN (Below.refl (w.heap.size + 2) wr) _) (by omega), hy.below (below_drewN (Below.refl (w.heap.size + 2) wr) _) (by omega)⟩
      case measure => simp [intOf]; omega
    · obtain rfl : q = n := by omega
      go_wp2
      go_loopw [6] (fun i wz => ∃ z : Nat, z ≤ m ∧ i = .int .i64 z ∧ Below w.heap.size w wz ∧ wz.cell? ⟨w.heap.size, 1, none⟩ = some (.slice B m k) ∧ wz.cell? ⟨w.heap.size + 1, 1, none⟩ = some (.slice B' m k')) (fun i _ => m - (intOf i).toNat)
      case atStart => exact ⟨0, Nat.zero_le _, rfl, hbr, x1, y1⟩
      case round =>
        obtain ⟨z, hz, rfl, hbz, z1, z2⟩ := hrel
        by_cases hzm : z < m
        · obtain ⟨l, rfl, hl, hlc⟩ := H3.out (by omega)
          obtain ⟨l', rfl, hl', hlc'⟩ := H4.out (by omega)
          obtain ⟨p0, p1⟩ := hlc z hzm
          obtain ⟨q0, q1⟩ := hlc' z hzm
          have k0 := (hbz.cell (p := ⟨l, z * 2, none⟩) hl).trans p0
          have k1 := (hbz.cell (p := ⟨l, z * 2 + 1, none⟩) hl).trans p1
          have k2 := (hbz.cell (p := ⟨l', z * 2, none⟩) hl').trans q0
          have k3 := (hbz.cell (p := ⟨l', z * 2 + 1, none⟩) hl').trans q1
          have i1 : (0 : Int) ≤ (z : Int) := by omega
          have i2 : (z : Int) < (m : Int) := by omega
          clear p0 p1 q0 q1 hlc hlc'
          go_wp2
          go_quiet (fail)
          go_wp2
          go_roundw
          case rel => exact ⟨z + 1, by omega, by go_num, below_drewN hbz _, ((below_drewN (Below.refl (w.heap.size + 1) wr) _).cell (p := ⟨w.heap.size, 1, none⟩) (by simp)).trans z1, ((below_drewN (Below.refl (w.heap.size + 2) wr) _).cell (p := ⟨w.heap.size + 1, 1, none⟩) (by simp)).trans z2⟩
          case measure => simp [intOf]; omega
        · obtain rfl : z = m := by omega
          go_wp2
          go_ret
          exact ⟨rfl, hbz⟩
end Go.Proofs.YtdbemkdfndjakaaDoor.Sla
