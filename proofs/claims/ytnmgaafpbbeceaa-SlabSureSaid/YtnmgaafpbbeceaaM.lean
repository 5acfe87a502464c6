/- One deed of the law's: whatever it is, a device is a device again. -/
import Derived.Test.YtnmgaafpbbeceaaL
namespace Go.Proofs.Ytnmgaafpbbeceaa
open Go.RowKit Go.Shelf

def DoesPost (n K : Nat) (w : World) (e : Ending) (w' : World) : Prop := ∃ v' s err, e = .returned (.tuple #[v', .string s, .int .i64 err]) ∧ Weak n K w w' v'

theorem DevAt.but {w w' : World} {b g : Nat} {B : Option Addr} {v : Value} {D : Dev} (h : DevAt w b B v D) (hb : But g w w') (h1 : b ≠ g) (h2 : ∀ a, B = some a → a.block ≠ g) : DevAt w' b B v D := by
  obtain ⟨c, k, hv, hlt, hnc, hc, hl, h0⟩ := h
  refine ⟨c, k, hv, by rw [hb.size]; exact hlt, hnc, fun j hj => (hb.cell (p := ⟨b, j, none⟩) h1).trans (hc j hj), ?_, h0⟩
  intro hm
  obtain ⟨bl, hA, hlt', hcl⟩ := hl hm
  have hn := h2 _ hA
  exact ⟨bl, hA, by rw [hb.size]; exact hlt', fun j hj => ⟨(hb.cell (p := ⟨bl, j * 2, none⟩) hn).trans (hcl j hj).1, (hb.cell (p := ⟨bl, j * 2 + 1, none⟩) hn).trans (hcl j hj).2⟩⟩

/-- A variable whose first cell is a slice holds none of a device's cells. -/
theorem DevAt.apart {w : World} {b g : Nat} {B : Option Addr} {v : Value} {D : Dev} (h : DevAt w b B v D) (hn : 1 ≤ D.n) {A : Option Addr} {n c : Nat} (hx : w.cell? ⟨g, 0, none⟩ = some (.slice A n c)) : b ≠ g ∧ ∀ a, B = some a → a.block ≠ g := by
  obtain ⟨c', k, hv, hlt, hnc, hc, hl, h0⟩ := h
  refine ⟨?_, ?_⟩
  · rintro rfl
    have := hc 0 hn
    rw [hx] at this
    cases this
  · rintro a rfl e
    rcases Nat.eq_zero_or_pos D.m with hm | hm
    · cases (h0 hm).1
    · obtain ⟨bl, hA, _, hcl⟩ := hl hm
      injection hA with hA
      subst hA
      have h1 := (hcl 0 hm).1
      subst e
      rw [Nat.zero_mul, hx] at h1
      cases h1
theorem IsDev.but {w w' : World} {g : Nat} {v : Value} {D : Dev} (h : IsDev w v D) (hn : 1 ≤ D.n) {A : Option Addr} {n c : Nat} (hx : w.cell? ⟨g, 0, none⟩ = some (.slice A n c)) (hb : But g w w') : IsDev w' v D := by
  obtain ⟨b, B, h⟩ := h
  obtain ⟨h1, h2⟩ := h.apart hn hx
  exact ⟨b, B, h.but hb h1 h2⟩
theorem but5 (w : World) (g : Nat) (u0 u1 u2 u3 u4 : Value) : But g w (((((w.setCell ⟨g, 0, none⟩ u0).setCell ⟨g, 1, none⟩ u1).setCell ⟨g, 2, none⟩ u2).setCell ⟨g, 3, none⟩ u3).setCell ⟨g, 4, none⟩ u4) :=
  (((((But.refl g w).setCell 0 u0).setCell 1 u1).setCell 2 u2).setCell 3 u3).setCell 4 u4
theorem Weak.last {n K g : Nat} {w w' : World} {v : Value} {D : Dev} (hd : IsDev w' v D) (hok : D.Ok K) (hn : D.n = n) (hb : Below w.heap.size w w') (hg : w.heap.size ≤ g)
    {A : Option Addr} {m c : Nat} (hx : w'.cell? ⟨g, 0, none⟩ = some (.slice A m c)) (u0 u1 u2 u3 u4 : Value) :
    Weak n K w (((((w'.setCell ⟨g, 0, none⟩ u0).setCell ⟨g, 1, none⟩ u1).setCell ⟨g, 2, none⟩ u2).setCell ⟨g, 3, none⟩ u3).setCell ⟨g, 4, none⟩ u4) v :=
  ⟨D, hd.but hok.n1 hx (but5 w' g u0 u1 u2 u3 u4), hok, hn, hb.trans ((but5 w' g u0 u1 u2 u3 u4).below hg)⟩

set_option maxHeartbeats 1000000 in
theorem does_put {K : Nat} (v : Value) (D : Dev) (at_ st tn by_ : Int) (d : ByteArray) (w : World) (h : IsDev w v D) (hok : D.Ok K) (hK : K ≤ 100000) (hs : d.size ≤ 100000) :
    Calls Try.prog 23 #[v, .agg #[.int .i64 0, .int .i64 at_, .string d, .int .u64 st, .int .i64 tn, .int .i64 by_]] w (DoesPost D.n (K + 1) w) := by
  have hh := h
  obtain ⟨b, B, c, k, rfl, hlt, hnc, hc, hl, h0⟩ := h
  have HH := Lib.hid hh
  have HO := Lib.hid hok
  clear hc hl h0 hh hok
  go_enter Try.func23, Try.ntmps23
  go_wp2_with (first
    | (go_at_call 12
       refine (put_weak _ D _ _ _ (HH.out.below ((((Below.refl w.heap.size w).alloc (Nat.le_refl _) _).alloc (by simp) _).alloc (by simp; omega) _) (Nat.le_refl _)) HO.out hK hs).mono ?_
       rintro e w2 ⟨v2, err, rfl, D2, ⟨b2, B2, c2, k2, rfl, hlt2, hnc2, hc2, hl2, h02⟩, hok2, hn2, hb2⟩
       have hdev2 : IsDev w2 (.agg #[.slice (some ⟨b2, 0, none⟩) D2.n c2, .slice B2 D2.m k2, .bool D2.dead, .int .i64 D2.left, .int .i64 D2.deeds]) D2 := ⟨b2, B2, c2, k2, rfl, hlt2, hnc2, hc2, hl2, h02⟩
       simp only [World.size_alloc] at hb2
       have hs2 : w.heap.size + 1 + 1 + 1 ≤ w2.heap.size := by have := hb2.size; simpa using this
       have hx2 := (((Box5.new w _ _ _ _ _ 31).alloc _).alloc _).below hb2 (by omega)
       have hy2 := (Box5.new ((w.alloc _).alloc _) _ _ _ _ _ 31).below hb2 (by simp)
       simp only [World.size_alloc] at hy2
       have hbw : Below w.heap.size w w2 := ((((Below.refl w.heap.size w).alloc (Nat.le_refl _) _).alloc (by simp) _).alloc (by simp; omega) _).trans (hb2.mono (by omega))
       have HD2 := Lib.hid hdev2
       have HN2 := Lib.hid hn2
       clear hc2 hl2 h02 hdev2 hn2)
    | (refine wpList_store5 rfl 31 (.tmp 2) (.tmp 20) rfl w.heap.size _ _ _ _ _ _ _ _ _ _ rfl rfl hx2 size31 (by simp [Value.oneCell']) ?_
       intro w3 hx3 hbut3
       have hy3 := hy2.but hbut3 (by omega)
       have hcx0 := hx3.c0
       have hcx1 := hx3.c1
       have hcx2 := hx3.c2
       have hcx3 := hx3.c3
       have hcx4 := hx3.c4
       have hcy0 := hy3.c0
       have hcy1 := hy3.c1
       have hcy2 := hy3.c2
       have hcy3 := hy3.c3
       have hcy4 := hy3.c4
       have hfy := hy3.f))
  refine bodyPost_ret (v := .tuple #[.agg #[.slice (some ⟨b2, 0, none⟩) D2.n c2, .slice B2 D2.m k2, .bool D2.dead, .int .i64 D2.left, .int .i64 D2.deeds], .string ⟨#[]⟩, .int .i64 err]) (by simp [results, Try.results23, go_sem, hcy0, hcy1, hcy2, hcy3, hcy4]) rfl ⟨_, _, _, rfl, ?_⟩
  exact Weak.last (HD2.out.but hok2.n1 hx2.c0 hbut3) hok2 HN2.out (hbw.trans (hbut3.below (Nat.le_refl _))) (by omega) hcy0 _ _ _ _ _

set_option maxHeartbeats 1000000 in
theorem does_get {K : Nat} (v : Value) (D : Dev) (at_ st tn by_ : Int) (d : ByteArray) (w : World) (h : IsDev w v D) (hok : D.Ok K) (hK : K ≤ 100000) :
    Calls Try.prog 23 #[v, .agg #[.int .i64 1, .int .i64 at_, .string d, .int .u64 st, .int .i64 tn, .int .i64 by_]] w (DoesPost D.n (K + 1) w) := by
  have hh := h
  obtain ⟨b, B, c, k, rfl, hlt, hnc, hc, hl, h0⟩ := h
  have HH := Lib.hid hh
  have HO := Lib.hid hok
  clear hc hl h0 hh hok
  go_enter Try.func23, Try.ntmps23
  go_wp2_with (first
    | (go_at_call 15
       refine (get_weak _ D _ _ (HH.out.below ((((Below.refl w.heap.size w).alloc (Nat.le_refl _) _).alloc (by simp) _).alloc (by simp; omega) _) (Nat.le_refl _)) HO.out hK).mono ?_
       rintro e w2 ⟨v2, s, err, rfl, D2, ⟨b2, B2, c2, k2, rfl, hlt2, hnc2, hc2, hl2, h02⟩, hok2, hn2, hb2⟩
       have hdev2 : IsDev w2 (.agg #[.slice (some ⟨b2, 0, none⟩) D2.n c2, .slice B2 D2.m k2, .bool D2.dead, .int .i64 D2.left, .int .i64 D2.deeds]) D2 := ⟨b2, B2, c2, k2, rfl, hlt2, hnc2, hc2, hl2, h02⟩
       simp only [World.size_alloc] at hb2
       have hs2 : w.heap.size + 1 + 1 + 1 ≤ w2.heap.size := by have := hb2.size; simpa using this
       have hx2 := (((Box5.new w _ _ _ _ _ 31).alloc _).alloc _).below hb2 (by omega)
       have hy2 := (Box5.new ((w.alloc _).alloc _) _ _ _ _ _ 31).below hb2 (by simp)
       simp only [World.size_alloc] at hy2
       have hbw : Below w.heap.size w w2 := ((((Below.refl w.heap.size w).alloc (Nat.le_refl _) _).alloc (by simp) _).alloc (by simp; omega) _).trans (hb2.mono (by omega))
       have HD2 := Lib.hid hdev2
       have HN2 := Lib.hid hn2
       clear hc2 hl2 h02 hdev2 hn2)
    | (refine wpList_store5 rfl 31 (.tmp 2) (.tmp 29) rfl w.heap.size _ _ _ _ _ _ _ _ _ _ rfl rfl hx2 size31 (by simp [Value.oneCell']) ?_
       intro w3 hx3 hbut3
       have hy3 := hy2.but hbut3 (by omega)
       have hcx0 := hx3.c0
       have hcx1 := hx3.c1
       have hcx2 := hx3.c2
       have hcx3 := hx3.c3
       have hcx4 := hx3.c4
       have hcy0 := hy3.c0
       have hcy1 := hy3.c1
       have hcy2 := hy3.c2
       have hcy3 := hy3.c3
       have hcy4 := hy3.c4
       have hfy := hy3.f))
  refine bodyPost_ret (v := .tuple #[.agg #[.slice (some ⟨b2, 0, none⟩) D2.n c2, .slice B2 D2.m k2, .bool D2.dead, .int .i64 D2.left, .int .i64 D2.deeds], .string s, .int .i64 err]) (by simp [results, Try.results23, go_sem, hcy0, hcy1, hcy2, hcy3, hcy4]) rfl ⟨_, _, _, rfl, ?_⟩
  exact Weak.last (HD2.out.but hok2.n1 hx2.c0 hbut3) hok2 HN2.out (hbw.trans (hbut3.below (Nat.le_refl _))) (by omega) hcy0 _ _ _ _ _

set_option maxHeartbeats 1000000 in
theorem does_flush {K : Nat} (v : Value) (D : Dev) (at_ st tn by_ : Int) (d : ByteArray) (w : World) (h : IsDev w v D) (hok : D.Ok K) (hK : K ≤ 100000) :
    Calls Try.prog 23 #[v, .agg #[.int .i64 2, .int .i64 at_, .string d, .int .u64 st, .int .i64 tn, .int .i64 by_]] w (DoesPost D.n (K + 1) w) := by
  have hh := h
  obtain ⟨b, B, c, k, rfl, hlt, hnc, hc, hl, h0⟩ := h
  have HH := Lib.hid hh
  have HO := Lib.hid hok
  clear hc hl h0 hh hok
  go_enter Try.func23, Try.ntmps23
  go_wp2_with (first
    | (go_at_call 9
       refine (flush_weak _ D _ (HH.out.below ((((Below.refl w.heap.size w).alloc (Nat.le_refl _) _).alloc (by simp) _).alloc (by simp; omega) _) (Nat.le_refl _)) HO.out hK).mono ?_
       rintro e w2 ⟨v2, err, rfl, D2, ⟨b2, B2, c2, k2, rfl, hlt2, hnc2, hc2, hl2, h02⟩, hok2, hn2, hb2⟩
       have hdev2 : IsDev w2 (.agg #[.slice (some ⟨b2, 0, none⟩) D2.n c2, .slice B2 D2.m k2, .bool D2.dead, .int .i64 D2.left, .int .i64 D2.deeds]) D2 := ⟨b2, B2, c2, k2, rfl, hlt2, hnc2, hc2, hl2, h02⟩
       simp only [World.size_alloc] at hb2
       have hs2 : w.heap.size + 1 + 1 + 1 ≤ w2.heap.size := by have := hb2.size; simpa using this
       have hx2 := (((Box5.new w _ _ _ _ _ 31).alloc _).alloc _).below hb2 (by omega)
       have hy2 := (Box5.new ((w.alloc _).alloc _) _ _ _ _ _ 31).below hb2 (by simp)
       simp only [World.size_alloc] at hy2
       have hbw : Below w.heap.size w w2 := ((((Below.refl w.heap.size w).alloc (Nat.le_refl _) _).alloc (by simp) _).alloc (by simp; omega) _).trans (hb2.mono (by omega))
       have HD2 := Lib.hid hdev2
       have HN2 := Lib.hid hn2
       clear hc2 hl2 h02 hdev2 hn2)
    | (refine wpList_store5 rfl 31 (.tmp 2) (.tmp 37) rfl w.heap.size _ _ _ _ _ _ _ _ _ _ rfl rfl hx2 size31 (by simp [Value.oneCell']) ?_
       intro w3 hx3 hbut3
       have hy3 := hy2.but hbut3 (by omega)
       have hcx0 := hx3.c0
       have hcx1 := hx3.c1
       have hcx2 := hx3.c2
       have hcx3 := hx3.c3
       have hcx4 := hx3.c4
       have hcy0 := hy3.c0
       have hcy1 := hy3.c1
       have hcy2 := hy3.c2
       have hcy3 := hy3.c3
       have hcy4 := hy3.c4
       have hfy := hy3.f))
  refine bodyPost_ret (v := .tuple #[.agg #[.slice (some ⟨b2, 0, none⟩) D2.n c2, .slice B2 D2.m k2, .bool D2.dead, .int .i64 D2.left, .int .i64 D2.deeds], .string ⟨#[]⟩, .int .i64 err]) (by simp [results, Try.results23, go_sem, hcy0, hcy1, hcy2, hcy3, hcy4]) rfl ⟨_, _, _, rfl, ?_⟩
  exact Weak.last (HD2.out.but hok2.n1 hx2.c0 hbut3) hok2 HN2.out (hbw.trans (hbut3.below (Nat.le_refl _))) (by omega) hcy0 _ _ _ _ _

set_option maxHeartbeats 1000000 in
theorem does_arm {K : Nat} (v : Value) (D : Dev) (at_ st tn by_ : Int) (d : ByteArray) (w : World) (h : IsDev w v D) (hok : D.Ok K) (hx : at_ ≤ 9223372036854775807) :
    Calls Try.prog 23 #[v, .agg #[.int .i64 3, .int .i64 at_, .string d, .int .u64 st, .int .i64 tn, .int .i64 by_]] w (DoesPost D.n (K + 1) w) := by
  have hh := h
  obtain ⟨b, B, c, k, rfl, hlt, hnc, hc, hl, h0⟩ := h
  have HH := Lib.hid hh
  have HO := Lib.hid hok
  clear hc hl h0 hh hok
  go_enter Try.func23, Try.ntmps23
  go_wp2_with (first
    | (go_at_call 14
       refine (arm_weak _ D _ _ (HH.out.below ((((Below.refl w.heap.size w).alloc (Nat.le_refl _) _).alloc (by simp) _).alloc (by simp; omega) _) (Nat.le_refl _)) HO.out hx).mono ?_
       rintro e w2 ⟨v2, rfl, D2, ⟨b2, B2, c2, k2, rfl, hlt2, hnc2, hc2, hl2, h02⟩, hok2, hn2, hb2⟩
       have hdev2 : IsDev w2 (.agg #[.slice (some ⟨b2, 0, none⟩) D2.n c2, .slice B2 D2.m k2, .bool D2.dead, .int .i64 D2.left, .int .i64 D2.deeds]) D2 := ⟨b2, B2, c2, k2, rfl, hlt2, hnc2, hc2, hl2, h02⟩
       simp only [World.size_alloc] at hb2
       have hs2 : w.heap.size + 1 + 1 + 1 ≤ w2.heap.size := by have := hb2.size; simpa using this
       have hx2 := (((Box5.new w _ _ _ _ _ 31).alloc _).alloc _).below hb2 (by omega)
       have hy2 := (Box5.new ((w.alloc _).alloc _) _ _ _ _ _ 31).below hb2 (by simp)
       simp only [World.size_alloc] at hy2
       have hbw : Below w.heap.size w w2 := ((((Below.refl w.heap.size w).alloc (Nat.le_refl _) _).alloc (by simp) _).alloc (by simp; omega) _).trans (hb2.mono (by omega))
       have HD2 := Lib.hid hdev2
       have HN2 := Lib.hid hn2
       clear hc2 hl2 h02 hdev2 hn2)
    | (refine wpList_store5 rfl 31 (.tmp 2) (.tmp 44) rfl w.heap.size _ _ _ _ _ _ _ _ _ _ rfl rfl hx2 size31 (by simp [Value.oneCell']) ?_
       intro w3 hx3 hbut3
       have hy3 := hy2.but hbut3 (by omega)
       have hcx0 := hx3.c0
       have hcx1 := hx3.c1
       have hcx2 := hx3.c2
       have hcx3 := hx3.c3
       have hcx4 := hx3.c4
       have hcy0 := hy3.c0
       have hcy1 := hy3.c1
       have hcy2 := hy3.c2
       have hcy3 := hy3.c3
       have hcy4 := hy3.c4
       have hfy := hy3.f))
  refine bodyPost_ret (v := .tuple #[.agg #[.slice (some ⟨b2, 0, none⟩) D2.n c2, .slice B2 D2.m k2, .bool D2.dead, .int .i64 D2.left, .int .i64 D2.deeds], .string ⟨#[]⟩, .int .i64 0]) (by simp [results, Try.results23, go_sem, hcy0, hcy1, hcy2, hcy3, hcy4]) rfl ⟨_, _, _, rfl, ?_⟩
  exact Weak.last (HD2.out.but hok2.n1 hx2.c0 hbut3) hok2 HN2.out (hbw.trans (hbut3.below (Nat.le_refl _))) (by omega) hcy0 _ _ _ _ _

set_option maxHeartbeats 1000000 in
theorem does_start {K : Nat} (v : Value) (D : Dev) (at_ st tn by_ : Int) (d : ByteArray) (w : World) (h : IsDev w v D) (hok : D.Ok K) (hK : K ≤ 100000) (f0 : 0 ≤ st) (f1 : st < 18446744073709551616) :
    Calls Try.prog 23 #[v, .agg #[.int .i64 4, .int .i64 at_, .string d, .int .u64 st, .int .i64 tn, .int .i64 by_]] w (DoesPost D.n (K + 1) w) := by
  have hh := h
  obtain ⟨b, B, c, k, rfl, hlt, hnc, hc, hl, h0⟩ := h
  have HH := Lib.hid hh
  have HO := Lib.hid hok
  clear hc hl h0 hh hok
  have F1 := Lib.hid f1
  clear f1
  go_enter Try.func23, Try.ntmps23
  go_wp2_with (first
    | (go_at_call 10
       refine (start_weak _ D ⟨st, tn, by_⟩ _ (HH.out.below ((((Below.refl w.heap.size w).alloc (Nat.le_refl _) _).alloc (by simp) _).alloc (by simp; omega) _) (Nat.le_refl _)) HO.out hK f0 F1.out).mono ?_
       rintro e w2 ⟨v2, rfl, D2, ⟨b2, B2, c2, k2, rfl, hlt2, hnc2, hc2, hl2, h02⟩, hok2, hn2, hb2⟩
       have hdev2 : IsDev w2 (.agg #[.slice (some ⟨b2, 0, none⟩) D2.n c2, .slice B2 D2.m k2, .bool D2.dead, .int .i64 D2.left, .int .i64 D2.deeds]) D2 := ⟨b2, B2, c2, k2, rfl, hlt2, hnc2, hc2, hl2, h02⟩
       simp only [World.size_alloc] at hb2
       have hs2 : w.heap.size + 1 + 1 + 1 ≤ w2.heap.size := by have := hb2.size; simpa using this
       have hx2 := (((Box5.new w _ _ _ _ _ 31).alloc _).alloc _).below hb2 (by omega)
       have hy2 := (Box5.new ((w.alloc _).alloc _) _ _ _ _ _ 31).below hb2 (by simp)
       simp only [World.size_alloc] at hy2
       have hbw : Below w.heap.size w w2 := ((((Below.refl w.heap.size w).alloc (Nat.le_refl _) _).alloc (by simp) _).alloc (by simp; omega) _).trans (hb2.mono (by omega))
       have HD2 := Lib.hid hdev2
       have HN2 := Lib.hid hn2
       clear hc2 hl2 h02 hdev2 hn2)
    | (refine wpList_store5 rfl 31 (.tmp 2) (.tmp 50) rfl w.heap.size _ _ _ _ _ _ _ _ _ _ rfl rfl hx2 size31 (by simp [Value.oneCell']) ?_
       intro w3 hx3 hbut3
       have hy3 := hy2.but hbut3 (by omega)
       have hcx0 := hx3.c0
       have hcx1 := hx3.c1
       have hcx2 := hx3.c2
       have hcx3 := hx3.c3
       have hcx4 := hx3.c4
       have hcy0 := hy3.c0
       have hcy1 := hy3.c1
       have hcy2 := hy3.c2
       have hcy3 := hy3.c3
       have hcy4 := hy3.c4
       have hfy := hy3.f))
  refine bodyPost_ret (v := .tuple #[.agg #[.slice (some ⟨b2, 0, none⟩) D2.n c2, .slice B2 D2.m k2, .bool D2.dead, .int .i64 D2.left, .int .i64 D2.deeds], .string ⟨#[]⟩, .int .i64 0]) (by simp [results, Try.results23, go_sem, hcy0, hcy1, hcy2, hcy3, hcy4]) rfl ⟨_, _, _, rfl, ?_⟩
  exact Weak.last (HD2.out.but hok2.n1 hx2.c0 hbut3) hok2 HN2.out (hbw.trans (hbut3.below (Nat.le_refl _))) (by omega) hcy0 _ _ _ _ _

set_option maxHeartbeats 1000000 in
theorem does_none {K : Nat} (v : Value) (D : Dev) (kind at_ st tn by_ : Int) (d : ByteArray) (w : World) (h : IsDev w v D) (hok : D.Ok K) (k0 : kind ≠ 0) (k1 : kind ≠ 1) (k2 : kind ≠ 2) (k3 : kind ≠ 3) (k4 : kind ≠ 4) :
    Calls Try.prog 23 #[v, .agg #[.int .i64 kind, .int .i64 at_, .string d, .int .u64 st, .int .i64 tn, .int .i64 by_]] w (DoesPost D.n (K + 1) w) := by
  have hh := h
  obtain ⟨b, B, c, k, rfl, hlt, hnc, hc, hl, h0⟩ := h
  have HH := Lib.hid hh
  have HO := Lib.hid hok
  have e0 : (kind == 0) = false := by simpa using k0
  have e1 : (kind == 1) = false := by simpa using k1
  have e2 : (kind == 2) = false := by simpa using k2
  have e3 : (kind == 3) = false := by simpa using k3
  have e4 : (kind == 4) = false := by simpa using k4
  clear hc hl h0 hh hok k0 k1 k2 k3 k4
  go_enter Try.func23, Try.ntmps23
  go_wp2
  have hb4 : Below w.heap.size w (((w.alloc (.cells #[.slice (some ⟨b, 0, none⟩) D.n c, .slice B D.m k, .bool D.dead, .int .i64 D.left, .int .i64 D.deeds] 31)).alloc (.cells #[.int .i64 kind, .int .i64 at_, .string d, .int .u64 st, .int .i64 tn, .int .i64 by_] 38)).alloc (.cells #[.slice (some ⟨b, 0, none⟩) D.n c, .slice B D.m k, .bool D.dead, .int .i64 D.left, .int .i64 D.deeds] 31)) :=
    (((Below.refl w.heap.size w).alloc (Nat.le_refl _) _).alloc (by simp) _).alloc (by simp; omega) _
  refine bodyPost_ret (v := .tuple #[.agg #[.slice (some ⟨b, 0, none⟩) D.n c, .slice B D.m k, .bool D.dead, .int .i64 D.left, .int .i64 D.deeds], .string ⟨#[]⟩, .int .i64 0]) (by simp [results, Try.results23, go_sem]) rfl ⟨_, _, _, rfl, D, HH.out.below hb4 (Nat.le_refl _), HO.out.more (by omega), rfl, hb4⟩

theorem does_any {K : Nat} (v : Value) (D : Dev) (kind at_ st tn by_ : Int) (d : ByteArray) (w : World) (h : IsDev w v D) (hok : D.Ok K) (hK : K ≤ 100000) (hs : d.size ≤ 100000) (hx : at_ ≤ 9223372036854775807) (f0 : 0 ≤ st) (f1 : st < 18446744073709551616) :
    Calls Try.prog 23 #[v, .agg #[.int .i64 kind, .int .i64 at_, .string d, .int .u64 st, .int .i64 tn, .int .i64 by_]] w (DoesPost D.n (K + 1) w) := by
  by_cases k0 : kind = 0
  · subst k0; exact does_put v D at_ st tn by_ d w h hok hK hs
  by_cases k1 : kind = 1
  · subst k1; exact does_get v D at_ st tn by_ d w h hok hK
  by_cases k2 : kind = 2
  · subst k2; exact does_flush v D at_ st tn by_ d w h hok hK
  by_cases k3 : kind = 3
  · subst k3; exact does_arm v D at_ st tn by_ d w h hok hx
  by_cases k4 : kind = 4
  · subst k4; exact does_start v D at_ st tn by_ d w h hok hK f0 f1
  exact does_none v D kind at_ st tn by_ d w h hok k0 k1 k2 k3 k4
end Go.Proofs.Ytnmgaafpbbeceaa
