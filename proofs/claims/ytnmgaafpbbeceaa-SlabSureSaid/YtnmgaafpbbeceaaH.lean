/- slab.Get. -/
import Derived.Test.YtnmgaafpbbeceaaG
namespace Go.Proofs.Ytnmgaafpbbeceaa
open Go.RowKit Go.Shelf

def GetErr (D : Dev) (s : ByteArray) (err : Int) (w : World) (e : Ending) (w' : World) : Prop :=
  ∃ v, e = .returned (.tuple #[v, .string s, .int .i64 err]) ∧ IsDev w' v D ∧ Below w.heap.size w w'
theorem getErr_of {w W : World} {b : Nat} {B : Option Addr} {v : Value} {D : Dev} {s : ByteArray} {err : Int} (h : DevAt w b B v D) (hb : Below w.heap.size w W) : GetErr D s err w (.returned (.tuple #[v, .string s, .int .i64 err])) W :=
  ⟨v, rfl, ⟨b, B, h.below hb (Nat.le_refl _)⟩, hb⟩

set_option maxHeartbeats 1000000 in
theorem get_arg (v : Value) (D : Dev) (x : Int) (w : World) (h : IsDev w v D) (ha : D.has x = false) :
    Calls Try.prog 15 #[v, .int .i64 x] w (GetErr D ⟨#[]⟩ 1 w) := by
  obtain ⟨b, B, c, k, rfl, hlt, hnc, hc, hl, h0⟩ := h
  have hd : DevAt w b B _ D := ⟨c, k, rfl, hlt, hnc, hc, hl, h0⟩
  have HD := Lib.hid hd
  have HH := Lib.hid ha
  clear hd hc hl h0 ha
  obtain ⟨n, S, m, LA, LD, dead, left, deeds⟩ := D
  go_enter Try.func15, Try.ntmps15
  go_wp2_with (first
    | (go_at_call 20
       refine (has_any _ _ _ _ _ _ _ _ _ _ _ false HH.out.symm).mono ?_
       rintro e w1 ⟨rfl, hb1⟩
       simp only [World.size_alloc] at hb1
       obtain ⟨hcc, hff⟩ := bcell hb1))
  refine bodyPost_ret (v := .tuple #[.agg #[.slice (some ⟨b, 0, none⟩) n c, .slice B m k, .bool dead, .int .i64 left, .int .i64 deeds], .string ⟨#[]⟩, .int .i64 1]) (by simp [results, Try.results15, go_sem, hcc]) rfl (getErr_of HD.out ?_)
  have hb4 : Below w.heap.size w w1 := (((Below.refl w.heap.size w).alloc (by simp) _).alloc (by simp) _).trans (hb1.mono (by omega))
  repeat (first | (with_reducible exact hb4) | refine Below.setCell ?_ (by simp) _)

set_option maxHeartbeats 1000000 in
theorem get_down (v : Value) (D : Dev) (x : Int) (w : World) (h : IsDev w v D) (ha : D.has x = true) (hp : D.pow = false) :
    Calls Try.prog 15 #[v, .int .i64 x] w (GetErr D.down ⟨#[]⟩ 10 w) := by
  obtain ⟨b, B, c, k, rfl, hlt, hnc, hc, hl, h0⟩ := h
  have hd : DevAt w b B _ D := ⟨c, k, rfl, hlt, hnc, hc, hl, h0⟩
  have HD := Lib.hid hd.down
  have HH := Lib.hid ha
  have HQ := Lib.hid (pow_no hp)
  clear hd hc hl h0 ha hp
  obtain ⟨n, S, m, LA, LD, dead, left, deeds⟩ := D
  have HQ2 : Hid (dead = true ∨ left = 0) := HQ
  clear HQ
  go_enter Try.func15, Try.ntmps15
  go_wp2_with (first
    | (go_at_call 20
       refine (has_any _ _ _ _ _ _ _ _ _ _ _ true HH.out.symm).mono ?_
       rintro e w1 ⟨rfl, hb1⟩
       simp only [World.size_alloc] at hb1
       obtain ⟨hcc, hff⟩ := bcell hb1
       have hs1 := hb1.size
       simp only [World.size_alloc] at hs1)
    | (go_at_call 18
       refine (deed_no _ _ _ _ _ _ _ _ _ _ HQ2.out).mono ?_
       rintro e w2 ⟨rfl, hb2⟩
       have hb3 := hb1.trans (hb2.mono (by simpa using hs1))
       clear hcc hff
       have HX := Lib.hid (((Box5.new w _ _ _ _ _ 31).alloc _).below hb3 (by omega))
       have HY := Lib.hid ((Box5.new _ _ _ _ _ _ 31).below hb3 (by simp)))
    | (refine wpList_store5 rfl 31 (.tmp 2) (.tmp 16) rfl w.heap.size _ _ _ _ _ _ _ _ _ _ rfl rfl HX.out size31 (by simp [Value.oneCell']) ?_
       intro w3 hx3 hbut3
       have hy3 := HY.out.but hbut3 (by simp)
       simp only [World.size_alloc] at hy3
       have hcx0 := hx3.c0
       have hcx1 := hx3.c1
       have hcx2 := hx3.c2
       have hcx3 := hx3.c3
       have hcx4 := hx3.c4
       have hcy0 := hy3.c0
       have hcy1 := hy3.c1
       have hcy2 := hy3.c2
       have hcy3 := hy3.c3
       have hcy4 := hy3.c4
       have hfy := hy3.f))
  refine bodyPost_ret (v := .tuple #[.agg #[.slice (some ⟨b, 0, none⟩) n c, .slice B m k, .bool true, .int .i64 left, .int .i64 deeds], .string ⟨#[]⟩, .int .i64 10]) (by simp [results, Try.results15, go_sem, hcy0, hcy1, hcy2, hcy3, hcy4]) rfl (getErr_of HD.out ?_)
  have hb4 : Below w.heap.size w w3 := ((((Below.refl w.heap.size w).alloc (by simp) _).alloc (by simp) _).trans (hb3.mono (by omega))).trans (hbut3.below (Nat.le_refl _))
  repeat (first | (with_reducible exact hb4) | refine Below.setCell ?_ (by simp) _)

end Go.Proofs.Ytnmgaafpbbeceaa
