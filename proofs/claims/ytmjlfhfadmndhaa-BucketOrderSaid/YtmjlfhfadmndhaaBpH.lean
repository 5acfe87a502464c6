/- The program's number and Print. -/
import Derived.Test.YtmjlfhfadmndhaaBpG
import Derived.Test.YtmjlfhfadmndhaaByA
namespace Go.Proofs.Ytmjlfhfadmndhaa.Bu
open Go.RowKit Pac Ls Lex By

theorem infoU8 : (Try.prog.info? 5).map (fun i => (i.zero, i.size, i.bytes)) = some (some (.int .u8 0), 1, 1) := by kernel_rfl
set_option maxRecDepth 20000 in
set_option maxHeartbeats 800000 in
theorem number_any (t s : Int) (w : World) (h0 : 0 ≤ t) (h1 : t < 64) (h2 : 0 ≤ s) (h3 : s < 8) :
    Calls Try.prog 39 #[.agg #[.int .i64 t, .int .i64 s]] w fun e w' => e = .returned (.int .i64 (8 * t + s)) ∧ Below w.heap.size w w' := by
  have hb := (Below.refl w.heap.size w).alloc (Nat.le_refl _) (.cells #[.int .i64 t, .int .i64 s] 28)
  have hx := Box2.new w (.int .i64 t) (.int .i64 s) 28
  have x0 := hx.c0
  have x1 := hx.c1
  have z3 : IntKind.i64.wrap (8 * t) = 8 * t := IntWalk.i64_in _ (by omega)
  have z4 : IntKind.i64.wrap (8 * t + s) = 8 * t + s := IntWalk.i64_in _ (by omega)
  clear hx
  go_enter Try.func39, Try.ntmps39
  go_wp2
  go_ret
  exact ⟨rfl, hb⟩
theorem boxE_grown {w w' : World} {g : Nat} {row : Option Nat} {v0 v1 v2 : Value} (h : Box3 w g v0 v1 v2) (hg : w.grownBy w' row) (hne : some g ≠ row) : Box3 w' g v0 v1 v2 :=
  ⟨hg.cell h.c0 hne, hg.cell h.c1 hne, hg.cell h.c2 hne, fun i => (World.frozen?_of_block (hg.block g h.lt hne)).trans (h.f i)⟩
section
variable {A : Option Addr} {n cp : Nat} {l : List E} {w : World}
set_option maxRecDepth 20000 in
set_option maxHeartbeats 3200000 in
theorem print_any (lo : Nat) (hl : HasE w lo A l) (hn : l.length = n) (hc : n ≤ cp) (hb : IsB l) :
    Calls Try.prog 21 #[.slice A n cp] w fun e w' => e = .returned (.string (printB l)) ∧ Below w.heap.size w w' := by
  obtain ⟨iU, hi, hz0, hz1, hz2⟩ := info_parts infoU8
  have h9 : n ≤ 512 := by have := hb.len; omega
  have hP1 : preB l n = printB l := by rw [← hn, preB_full]
  have hP0 := preB_zero l
  rw [hn] at hP0
  have hc0 := fun W : World => num_any (n : Int) W (by omega) (by omega)
  rw [hP0] at hc0
  generalize printB l = ans at hP1 ⊢
  have HL := Lib.hid (And.intro hl (And.intro hn (And.intro hb hP1)))
  have hx0 := preB_size hb 0
  obtain ⟨x0, hx00⟩ : ∃ x, x = preB l 0 := ⟨_, rfl⟩
  rw [← hx00] at hc0 hx0
  have HX0 := Lib.hid hx00
  clear hl hn hb hP1 hP0 hx00
  go_enter Try.func21, Try.ntmps21
  go_wp2_with fail
  refine (hc0 _).mono ?_
  rintro e w1 ⟨rfl, hB⟩
  clear hc0
  obtain ⟨v0, w2, hcv, hO, hb2⟩ := run_bytes_own (P := Try.prog) w1 9 23 5 x0 Try.underlying9 Try.underlying23 Try.underlying5 (by unfold maxLen; omega)
  have hsz1 := hB.size
  have hB := hB.trans (hb2.mono hB.size)
  have hO' : OwnB w2 w.heap.size 5 v0 x0 := by
    obtain ⟨g, cap, cur, fz, e1, e2, r⟩ := hO
    exact ⟨g, cap, cur, fz, e1, Nat.le_trans hsz1 e2, r⟩
  clear hO hb2 hsz1
  go_wp2
  clear hcv
  go_loopw [3, 5, 12] (fun x _ i wr => ∃ (q : Nat) (s : ByteArray) (sv : Value), q ≤ n ∧ i = .int .i64 q ∧ x = sv ∧ OwnB wr w.heap.size 5 sv s ∧ Hid (s = preB l q) ∧ Below w.heap.size w wr) (fun _ _ i _ => n - (intOf i).toNat)
  case atStart => exact ⟨0, x0, v0, Nat.zero_le _, rfl, rfl, hO', HX0, hB⟩
  case round =>
    clear hB hx0 hO'
    obtain ⟨q, s, sv, hq, rfl, rfl, hO, hH, hB⟩ := hrel
    have hz : s.size ≤ 41490 := by rw [hH.out]; exact preB_size HL.out.2.2.1 q
    by_cases hlt : q < n
    · have hgt := List.getElem?_eq_getElem (l := l) (i := q) (by rw [HL.out.2.1]; exact hlt)
      generalize (l[q]'(by rw [HL.out.2.1]; exact hlt)) = x at hgt
      obtain ⟨b, o, rfl, _, hlb, d0, d1, d2⟩ := HasE.at (HL.out.1.below hB (Nat.le_refl _)) hgt
      have hm := List.mem_of_getElem? hgt
      have hk := HL.out.2.2.1.key _ hm
      have ht := HL.out.2.2.1.t0 _ hm
      have hs := HL.out.2.2.1.s0 _ hm
      have hcT := fun W : World => text_any x.key W (by omega)
      have hcM := fun W : World => number_any x.t x.s W ht.1 ht.2 hs.1 hs.2
      have hen : eNum x = 8 * x.t + x.s := by unfold eNum; omega
      have hcN := fun W : World => num_any (8 * x.t + x.s) W (by omega) (by omega)
      have hzt := txtB_size x.key
      have hzn := (encB_size (zig (8 * x.t + x.s))).2
      have HT : Hid (s ++ txtB x.key ++ encB (zig (8 * x.t + x.s)) = preB l (q + 1)) := Lib.hid (by rw [hH.out, ← hen, preB_next hgt])
      obtain ⟨ek, et, es⟩ := x
      simp only at d0 d1 d2 hk ht hs hcT hcN hzt hzn HT hcM
      generalize txtB ek = tx at hcT hzt HT
      generalize encB (zig (8 * et + es)) = ty at hcN hzn HT
      have i1 : (q : Int) < (n : Int) := by omega
      have i0 : (0 : Int) ≤ (q : Int) := by omega
      have hx := Box3.new wr (.string ek) (.int .i64 et) (.int .i64 es) 30
      have hbn := (Below.refl wr.heap.size wr).alloc (Nat.le_refl _) (.cells #[.string ek, .int .i64 et, .int .i64 es] 30)
      have hOl : Hid (∀ k, u3.ownBlock = some k → w.heap.size ≤ k ∧ k < wr.heap.size) := Lib.hid hO.lt
      have hO2 := hO.below hbn (Nat.le_refl _)
      have hB2 := hB.trans (hbn.mono hB.size)
      have hne : Hid (some wr.heap.size ≠ u3.ownBlock) := Lib.hid (fun h => by have := (hOl.out _ h.symm).2; omega)
      have x0 := hx.c0
      have x1 := hx.c1
      have x2 := hx.c2
      clear hgt hm hen hO hB hbn
      go_wp2_with fail
      generalize wr.alloc (.cells #[.string ek, .int .i64 et, .int .i64 es] 30) = w3 at hx hO2 hB2 x0 x1 x2 ⊢
      refine (hcT _).mono ?_
      rintro e w4 ⟨rfl, hw4⟩
      have hO4 := hO2.below hw4 (Nat.le_refl _)
      have hB4 := hB2.trans (hw4.mono hB2.size)
      have hx4 := hx.below hw4 hx.lt
      clear hw4 hcT d0 d1 d2 x0 x1 x2 hx hO2 hB2
      go_wp2_with (at_builtin; go_must (refine wpList_append_ownB _ rfl _ _ 23 9 rfl w.heap.size 5 iU Try.underlying23 Try.underlying9 hi hz0 hz1 hz2 u3 s tx rfl hO4 rfl (by unfold maxLen; omega) (by omega) hB4.size ?_))
      intro v5 w5 hO5 hgrow5
      have hB5 := hB4.grown hgrow5 hB4.size (fun k hk => (hO4.lt k hk).1)
      have hx5 := boxE_grown hx4 hgrow5 hne.out
      have hst : (s ++ tx).size = s.size + tx.size := ByteArray.size_append
      generalize s ++ tx = s5 at hst hO5 HT
      have x1 := hx5.c1
      have x2 := hx5.c2
      clear hgrow5 hO4 hB4 hx4
      go_wp2_with fail
      refine (hcM _).mono ?_
      rintro e w6 ⟨rfl, hw6⟩
      have hO6 := hO5.below hw6 (Nat.le_refl _)
      have hB6 := hB5.trans (hw6.mono hB5.size)
      clear hw6 hcM hO5 hB5 x1 x2 hx5
      go_wp2_with fail
      refine (hcN _).mono ?_
      rintro e w7 ⟨rfl, hw7⟩
      have hO7 := hO6.below hw7 (Nat.le_refl _)
      have hB7 := hB6.trans (hw7.mono hB6.size)
      clear hw7 hcN hO6 hB6
      go_wp2_with (at_builtin; go_must (refine wpList_append_ownB _ rfl _ _ 23 9 rfl w.heap.size 5 iU Try.underlying23 Try.underlying9 hi hz0 hz1 hz2 v5 s5 ty rfl hO7 rfl (by unfold maxLen; omega) (by omega) hB7.size ?_))
      intro v8 w8 hO8 hgrow8
      have hB8 := hB7.grown hgrow8 hB7.size (fun k hk => (hO7.lt k hk).1)
      clear hgrow8 hO7 hB7
      go_wp2
      go_roundw
      case rel => exact ⟨q + 1, s5 ++ ty, _, by omega, by go_num, rfl, hO8, HT, hB8⟩
      case measure => simp [intOf]; omega
    · obtain rfl : q = n := by omega
      have HQ : Hid (s = ans) := Lib.hid (hH.out.trans HL.out.2.2.2)
      have hcv := run_string_own (P := Try.prog) wr w.heap.size 23 9 5 _ s Try.underlying23 Try.underlying5 Try.underlying9 hO
      clear hO
      go_wp2
      go_ret
      exact ⟨by rw [HQ.out]; rfl, hB⟩
end
end Go.Proofs.Ytmjlfhfadmndhaa.Bu
