/- The program's place, entry, bucket and Parse. -/
import Derived.Test.YtmjlfhfadmndhaaBpH
import Derived.Test.YtmjlfhfadmndhaaPacI
namespace Go.Proofs.Ytmjlfhfadmndhaa.Bu
open Go.RowKit Pac Ls Lex

theorem num_bad' (s : ByteArray) : numBad s true = true := by simp [numBad]
theorem btw_bad' (s : ByteArray) (lo hi : Int) : btwBad s true lo hi = true := by simp [btwBad, num_bad']
theorem txt_bad' (s : ByteArray) (m : Int) : txtBad s true m = true := by simp [txtBad, btw_bad']
theorem results_plc {fn : Func} {p : Tmp} (h : fn.results = #[.cell p 28]) (tmps : Array Value) (w : World) (g : Nat) (v0 v1 : Value)
    (hp : tmps.getD p undef = .pointer (some ⟨g, 0, none⟩)) (c0 : w.cell? ⟨g, 0, none⟩ = some v0) (c1 : w.cell? ⟨g, 1, none⟩ = some v1) :
    (results fn tmps).run Try.prog w = .ok (.agg #[v0, v1]) w := by
  have hp' : tmps[p]?.getD undef = .pointer (some ⟨g, 0, none⟩) := by simpa using hp
  clear hp
  simp only [results, h]
  go_simp
theorem results_ent {fn : Func} {p : Tmp} (h : fn.results = #[.cell p 30]) (tmps : Array Value) (w : World) (g : Nat) (v0 v1 v2 : Value)
    (hp : tmps.getD p undef = .pointer (some ⟨g, 0, none⟩)) (c0 : w.cell? ⟨g, 0, none⟩ = some v0) (c1 : w.cell? ⟨g, 1, none⟩ = some v1) (c2 : w.cell? ⟨g, 2, none⟩ = some v2) :
    (results fn tmps).run Try.prog w = .ok (.agg #[v0, v1, v2]) w := by
  have hp' : tmps[p]?.getD undef = .pointer (some ⟨g, 0, none⟩) := by simpa using hp
  clear hp
  simp only [results, h]
  go_simp
set_option maxRecDepth 20000 in
set_option maxHeartbeats 800000 in
theorem place_any (k : Nat) (w : World) (hk : k ≤ 511) :
    Calls Try.prog 52 #[.int .i64 k] w fun e w' => e = .returned (.agg #[.int .i64 ((k : Int) / 8), .int .i64 ((k : Int) % 8)]) ∧ Below w.heap.size w w' := by
  have hb := (Below.refl w.heap.size w).alloc (Nat.le_refl _) (.cells #[.int .i64 ((k : Int) / 8), .int .i64 ((k : Int) % 8)] 28)
  have hx := Box2.new w (.int .i64 ((k : Int) / 8)) (.int .i64 ((k : Int) % 8)) 28
  have a0 : (0 : Int) ≤ (k : Int) := by omega
  have HX := Lib.hid (And.intro hx hb)
  clear hx hb
  go_enter Try.func52, Try.ntmps52
  go_wp2
  refine bodyPost_ret (results_plc rfl _ _ w.heap.size _ _ rfl HX.out.1.c0 HX.out.1.c1) rfl ?_
  exact ⟨rfl, HX.out.2⟩
set_option maxRecDepth 20000 in
set_option maxHeartbeats 1600000 in
theorem entry_any (g : Nat) (S : ByteArray) (D : Bool) (w : World) (hb : IsBox w g S D) (hS : S.size ≤ 1000000000) :
    ∃ (ek : ByteArray) (at0 : Nat), Calls Try.prog 45 #[.pointer (some ⟨g, 0, none⟩)] w (fun e w' => e = .returned (.agg #[.string ek, .int .i64 ((at0 : Int) / 8), .int .i64 ((at0 : Int) % 8)]) ∧ IsBox w' g (numS (txtS S D 61) (txtBad S D 61)) (btwBad (txtS S D 61) (txtBad S D 61) 0 511) ∧ Bar g w w') ∧
      (D = false → readE S = (⟨ek, (at0 : Int) / 8, (at0 : Int) % 8⟩, numS (txtS S D 61) (txtBad S D 61), btwBad (txtS S D 61) (txtBad S D 61) 0 511)) := by
  obtain ⟨at0, hat, hat8⟩ := btw0 (txtS S D 61) (txtBad S D 61) 511
  have hat : btwR (txtS S D 61) (txtBad S D 61) 0 511 = (at0 : Int) := hat
  refine ⟨txtR S D 61, at0, ?_, ?_⟩
  · have hgl := hb.lt
    have hb0 := (Below.refl w.heap.size w).alloc (Nat.le_refl _) (.cells #[.string ⟨#[]⟩, .int .i64 0, .int .i64 0] 30)
    have hx := Box3.new w (.string ⟨#[]⟩) (.int .i64 0) (.int .i64 0) 30
    have hb := hb.below hb0 hgl
    have hsT : (txtS S D 61).size ≤ 1000000000 := Nat.le_trans (txtS_size S D 61) hS
    have hcT := boxText_any g S D 61 _ hb (by omega)
    have hcB := fun (W : World) (h : IsBox W g (txtS S D 61) (txtBad S D 61)) => boxBetween_any g (txtS S D 61) (txtBad S D 61) 0 511 W h (by omega)
    rw [hat] at hcB
    generalize txtR S D 61 = ek at hcT ⊢
    generalize numS (txtS S D 61) (txtBad S D 61) = S2 at hcB ⊢
    generalize btwBad (txtS S D 61) (txtBad S D 61) 0 511 = D2 at hcB ⊢
    generalize txtS S D 61 = S1 at hcT hcB hat hsT
    generalize txtBad S D 61 = D1 at hcT hcB hat
    clear hat hsT hb
    obtain ⟨h, hh⟩ : ∃ h, w.heap.size = h := ⟨_, rfl⟩
    have hR0 := Bar.of_below g hb0 (Nat.le_refl _)
    have hhl : h < (w.alloc (.cells #[.string ⟨#[]⟩, .int .i64 0, .int .i64 0] 30)).heap.size := by rw [← hh]; exact hx.lt
    have HH := Lib.hid hh
    rw [hh] at hx hgl
    have hx0 := Lib.hid (And.intro hx (And.intro hgl (And.intro hR0 hhl)))
    clear hb0 hx hgl hR0 hhl hh
    go_enter Try.func45, Try.ntmps45
    go_wp2_with fail
    rw [HH.out]
    generalize w.alloc (.cells #[.string ⟨#[]⟩, .int .i64 0, .int .i64 0] 30) = w1 at hcT hx0 ⊢
    refine hcT.mono ?_
    rintro e w2 ⟨rfl, hbx, hB2⟩
    obtain ⟨hx, hgl, hR0, hhl⟩ := hx0.out
    have hx2 := hx.bar hB2 (by omega)
    have hR2 := hR0.trans hB2
    have hl2 : h < w2.heap.size := Nat.lt_of_lt_of_le hhl hB2.size
    clear hcT hB2 hx hR0 hhl hx0
    go_wp2_with fail
    refine (hcB _ hbx).mono ?_
    rintro e w3 ⟨rfl, hbx3, hB3⟩
    have hx3 := hx2.bar hB3 (by omega)
    have hR3 := hR2.trans hB3
    have hl3 : h < w3.heap.size := Nat.lt_of_lt_of_le hl2 hB3.size
    clear hcB hB3 hbx hx2 hR2 hl2
    go_wp2_with fail
    refine (place_any at0 w3 hat8).mono ?_
    rintro e w4 ⟨rfl, hB4⟩
    have hx4 := hx3.below hB4 hl3
    have hbx4 := hbx3.below hB4 hbx3.lt
    have hR4 := hR3.trans (Bar.of_below g hB4 (Nat.le_refl _))
    have hl4 : h < w4.heap.size := Nat.lt_of_lt_of_le hl3 hB4.size
    clear hB4 hbx3 hx3 hR3 hl3
    have hx5 := ((hx4.set0 (.string ek)).set1 (.int .i64 ((at0 : Int) / 8))).set2 (.int .i64 ((at0 : Int) % 8))
    have hbx5 := hbx4.bar ((((Bar.refl h w4).setCell 0 (.string ek)).setCell 1 (.int .i64 ((at0 : Int) / 8))).setCell 2 (.int .i64 ((at0 : Int) % 8))) (show g ≠ h by omega)
    have hB5 := (((Below.refl w.heap.size w4).setCell (p := ⟨h, 0, none⟩) (by show w.heap.size ≤ h; rw [HH.out]; exact Nat.le_refl _) (.string ek)).setCell (p := ⟨h, 1, none⟩) (by show w.heap.size ≤ h; rw [HH.out]; exact Nat.le_refl _) (.int .i64 ((at0 : Int) / 8))).setCell (p := ⟨h, 2, none⟩) (by show w.heap.size ≤ h; rw [HH.out]; exact Nat.le_refl _) (.int .i64 ((at0 : Int) % 8))
    have hR5 : Bar g w (((w4.setCell ⟨h, 0, none⟩ (.string ek)).setCell ⟨h, 1, none⟩ (.int .i64 ((at0 : Int) / 8))).setCell ⟨h, 2, none⟩ (.int .i64 ((at0 : Int) % 8))) :=
      ⟨hB5.os.trans hR4.os, hB5.tape.trans hR4.tape, hB5.output.trans hR4.output, Nat.le_trans hR4.size hB5.size, fun k hk hkg => (hB5.block k hk).trans (hR4.block k hk hkg)⟩
    have HF := Lib.hid (And.intro hx5 (And.intro hbx5 hR5))
    have c0 := hx4.c0
    have c1 := hx4.c1
    have c2 := hx4.c2
    have cf := hx4.f
    clear hx5 hbx5 hB5 hR5 hx4 hbx4 hR4 hl4
    go_wp2
    refine bodyPost_ret (results_ent rfl _ _ h _ _ _ rfl HF.out.1.c0 HF.out.1.c1 HF.out.1.c2) rfl ?_
    exact ⟨rfl, HF.out.2.1, HF.out.2.2⟩
  · rintro rfl
    unfold readE
    rw [hat]
end Go.Proofs.Ytmjlfhfadmndhaa.Bu
