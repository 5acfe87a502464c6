/- Buckets: the document's Print, walked. -/
import Derived.Test.YtmjlfhfadmndhaaBuG
import Derived.Test.YtmjlfhfadmndhaaPacH
import Derived.Test.YtmjlfhfadmndhaaXua
import Derived.IntWalk
namespace Go.Proofs.Ytmjlfhfadmndhaa.Bu
open Go.RowKit Pac Ls Lex

theorem cell_below {w w' : World} (h : Below w.heap.size w w') {b i : Nat} {v : Value} (hc : w.cell? ⟨b, i, none⟩ = some v) : w'.cell? ⟨b, i, none⟩ = some v :=
  (h.cell (p := ⟨b, i, none⟩) (World.block_lt_of_cell? w _ hc)).trans hc
theorem txtB_size (s : ByteArray) : (txtB s).size ≤ s.size + 10 := by
  unfold txtB
  rw [ByteArray.size_append]
  have := (encB_size (zig s.size)).2
  omega
theorem catE_snoc (e : E) : ∀ l : List E, catE (l ++ [e]) = catE l ++ printE e
  | [] => by
    show printE e ++ (⟨#[]⟩ : ByteArray) = (⟨#[]⟩ : ByteArray) ++ printE e
    rw [app_empty, empty_app]
  | x :: l => by
    show printE x ++ catE (l ++ [e]) = printE x ++ catE l ++ printE e
    rw [catE_snoc e l, app_assoc]
theorem printE_size (e : E) (h : e.key.size ≤ 61) : (printE e).size ≤ 81 := by
  have h1 := txtB_size e.key
  have h2 := (encB_size (zig (eNum e))).2
  unfold printE
  rw [ByteArray.size_append]
  omega
theorem catE_size : ∀ l : List E, (∀ e ∈ l, e.key.size ≤ 61) → (catE l).size ≤ 81 * l.length
  | [], _ => Nat.le_refl _
  | e :: l, h => by
    have h1 := catE_size l (fun x hx => h x (List.mem_cons_of_mem _ hx))
    have h2 := printE_size e (h e (List.mem_cons_self ..))
    show (printE e ++ catE l).size ≤ _
    rw [ByteArray.size_append, List.length_cons]
    omega
/-- What is printed by the time when q entries are. -/
def preB (l : List E) (q : Nat) : ByteArray := encB (zig (l.length : Int)) ++ catE (l.take q)
theorem preB_size {l : List E} (h : IsB l) (q : Nat) : (preB l q).size ≤ 41490 := by
  have h1 := catE_size (l.take q) (fun e he => h.key e (List.mem_of_mem_take he))
  have h2 := (encB_size (zig (l.length : Int))).2
  have h3 := h.len
  rw [List.length_take] at h1
  unfold preB
  rw [ByteArray.size_append]
  omega
theorem preB_zero (l : List E) : encB (zig (l.length : Int)) = preB l 0 := by
  unfold preB
  show _ = _ ++ (⟨#[]⟩ : ByteArray)
  rw [app_empty]
theorem preB_next {l : List E} {q : Nat} {e : E} (h : l[q]? = some e) : preB l q ++ txtB e.key ++ encB (zig (eNum e)) = preB l (q + 1) := by
  unfold preB
  rw [take_snoc h, catE_snoc, app_assoc, app_assoc]
  rfl
theorem preB_full (l : List E) : preB l l.length = printB l := by unfold preB printB; rw [List.take_length]
section
variable {A : Option Addr} {n cp : Nat} {l : List E} {w : World}
set_option maxRecDepth 20000 in
set_option maxHeartbeats 3200000 in
theorem refPrint_any (lo : Nat) (hl : HasE w lo A l) (hn : l.length = n) (hr : IsB l) :
    Calls Try.prog 22 #[.slice A n cp] w fun e w' => e = .returned (.string (printB l)) ∧ Below w.heap.size w w' := by
  have h9 : n ≤ 512 := by have := hr.len; omega
  have hP1 : preB l n = printB l := by rw [← hn, preB_full]
  have hP0 := preB_zero l
  rw [hn] at hP0
  have hc0 := fun W : World => refNum_any (n : Int) W (by omega) (by omega)
  rw [hP0] at hc0
  generalize printB l = ans at hP1 ⊢
  have HL := Lib.hid (And.intro hl (And.intro hn (And.intro hr hP1)))
  have hx0 := preB_size hr 0
  obtain ⟨x0, hx00⟩ : ∃ x, x = preB l 0 := ⟨_, rfl⟩
  rw [← hx00] at hc0 hx0
  have HX0 := Lib.hid hx00
  clear hl hn hr hP1 hP0 hx00
  go_enter Try.func22, Try.ntmps22
  go_wp2_with fail
  refine (hc0 _).mono ?_
  rintro e w1 ⟨rfl, hy0⟩
  clear hc0
  go_wp2
  go_loopw [3, 4] (fun ov i wr => ∃ (q : Nat) (out : ByteArray), q ≤ n ∧ i = .int .i64 q ∧ ov = .string out ∧ Hid (out = preB l q) ∧ Below w.heap.size w wr) (fun _ i _ => n - (intOf i).toNat)
  case atStart => exact ⟨0, _, Nat.zero_le _, rfl, rfl, HX0, hy0⟩
  case round =>
    clear hy0 hx0 HX0
    obtain ⟨q, out, hq, rfl, rfl, hO, hB⟩ := hrel
    by_cases hlt : q < n
    · have hgt := List.getElem?_eq_getElem (l := l) (i := q) (by rw [HL.out.2.1]; exact hlt)
      generalize (l[q]'(by rw [HL.out.2.1]; exact hlt)) = x at hgt
      obtain ⟨b, o, rfl, _, hlb, d0, d1, d2⟩ := HasE.at (HL.out.1.below hB (Nat.le_refl _)) hgt
      have hm := List.mem_of_getElem? hgt
      have hk := HL.out.2.2.1.key _ hm
      have ht := HL.out.2.2.1.t0 _ hm
      have hs := HL.out.2.2.1.s0 _ hm
      have hos : out.size ≤ 41490 := by rw [hO.out]; exact preB_size HL.out.2.2.1 q
      have hcT := fun W : World => refText_any x.key W (by omega)
      have hcN := fun W : World => refNum_any (eNum x) W (by unfold eNum; omega) (by unfold eNum; omega)
      have hzt := txtB_size x.key
      have hzn := (encB_size (zig (eNum x))).2
      have HT : Hid (out ++ txtB x.key ++ encB (zig (eNum x)) = preB l (q + 1)) := Lib.hid (by rw [hO.out, preB_next hgt])
      have hen : eNum x = x.t * 8 + x.s := rfl
      rw [hen] at hcN hzn HT
      obtain ⟨ek, et, es⟩ := x
      simp only at d0 d1 d2 hk ht hs hcT hcN hzt hzn HT
      generalize txtB ek = tx at hcT hzt HT
      generalize encB (zig (et * 8 + es)) = ty at hcN hzn HT
      have hst : (out ++ tx).size = out.size + tx.size := ByteArray.size_append
      have z1 : out.size + tx.size ≤ 9223372036854775807 := by omega
      have z2 : out.size + tx.size + ty.size ≤ 9223372036854775807 := by omega
      have z3 : IntKind.i64.wrap (et * 8) = et * 8 := IntWalk.i64_in _ (by omega)
      have z4 : IntKind.i64.wrap (et * 8 + es) = et * 8 + es := IntWalk.i64_in _ (by omega)
      have i1 : (q : Int) < (n : Int) := by omega
      have i0 : (0 : Int) ≤ (q : Int) := by omega
      clear hgt hm hO hen
      go_wp2_with fail
      have hdr := (Below.refl wr.heap.size wr).drew
      refine Lex.region_lex (ops := bpops) (calls := bpcalls) bpord (fun W => W.cell? ⟨b, o + q * 3, none⟩ = some (.string ek) ∧ W.cell? ⟨b, o + q * 3 + 1, none⟩ = some (.int .i64 et) ∧ W.cell? ⟨b, o + q * 3 + 2, none⟩ = some (.int .i64 es)) (by kernel_rfl) (by kernel_rfl) bpsel (by kernel_rfl) (by kernel_rfl) bplex (⟨cell_below hdr d0, cell_below hdr d1, cell_below hdr d2⟩) ?_
      unfold bpord
      have d0 := cell_below hdr d0
      have d1 := cell_below hdr d1
      have d2 := cell_below hdr d2
      have hB := hB.trans (hdr.mono hB.size)
      clear hdr
      refine Lex.step_take (.string out) bp0 rfl (Lex.want_none rfl) (by intro Wx hSw; (try dsimp only at hSw); go_simp; (try (first | (with_reducible rfl) | assumption | rfl))) ?_
      simp only [Act.put, List.setIfInBounds_toArray, List.set_cons_zero, List.set_cons_succ]
      refine Lex.step_take (.slice (some ⟨b, o, none⟩) n cp) bp1 rfl (Lex.want_none rfl) (by intro Wx hSw; (try dsimp only at hSw); go_simp; (try (first | (with_reducible rfl) | assumption | rfl))) ?_
      simp only [Act.put, List.setIfInBounds_toArray, List.set_cons_zero, List.set_cons_succ]
      refine Lex.step_take (.int .i64 q) bp2 rfl (Lex.want_none rfl) (by intro Wx hSw; (try dsimp only at hSw); go_simp; (try (first | (with_reducible rfl) | assumption | rfl))) ?_
      simp only [Act.put, List.setIfInBounds_toArray, List.set_cons_zero, List.set_cons_succ]
      refine Lex.step_take (.pointer (some ⟨b, o + q * 3, none⟩)) bp3 rfl (Lex.want_none rfl) (by intro Wx hSw; (try dsimp only at hSw); go_simp; (try (first | (with_reducible rfl) | assumption | rfl))) ?_
      simp only [Act.put, List.setIfInBounds_toArray, List.set_cons_zero, List.set_cons_succ]
      refine Lex.step_take (.pointer (some ⟨b, o + q * 3, none⟩)) bp4 rfl (Lex.want_none rfl) (by intro Wx hSw; (try dsimp only at hSw); go_simp; (try (first | (with_reducible rfl) | assumption | rfl))) ?_
      simp only [Act.put, List.setIfInBounds_toArray, List.set_cons_zero, List.set_cons_succ]
      refine Lex.step_take (.string ek) bp5 rfl (Lex.want_none rfl) (by intro Wx hSw; (try dsimp only at hSw); go_simp; (try (first | (with_reducible rfl) | assumption | rfl))) ?_
      simp only [Act.put, List.setIfInBounds_toArray, List.set_cons_zero, List.set_cons_succ]
      refine Lex.step_take (.slice (some ⟨b, o, none⟩) n cp) bp8 rfl (Lex.want_none rfl) (by intro Wx hSw; (try dsimp only at hSw); go_simp; (try (first | (with_reducible rfl) | assumption | rfl))) ?_
      simp only [Act.put, List.setIfInBounds_toArray, List.set_cons_zero, List.set_cons_succ]
      refine Lex.step_take (.int .i64 q) bp9 rfl (Lex.want_none rfl) (by intro Wx hSw; (try dsimp only at hSw); go_simp; (try (first | (with_reducible rfl) | assumption | rfl))) ?_
      simp only [Act.put, List.setIfInBounds_toArray, List.set_cons_zero, List.set_cons_succ]
      refine Lex.step_take (.pointer (some ⟨b, o + q * 3, none⟩)) bp10 rfl (Lex.want_none rfl) (by intro Wx hSw; (try dsimp only at hSw); go_simp; (try (first | (with_reducible rfl) | assumption | rfl))) ?_
      simp only [Act.put, List.setIfInBounds_toArray, List.set_cons_zero, List.set_cons_succ]
      refine Lex.step_take (.pointer (some ⟨b, o + q * 3 + 1, none⟩)) bp11 rfl (Lex.want_none rfl) (by intro Wx hSw; (try dsimp only at hSw); go_simp; (try (first | (with_reducible rfl) | assumption | rfl))) ?_
      simp only [Act.put, List.setIfInBounds_toArray, List.set_cons_zero, List.set_cons_succ]
      refine Lex.step_take (.pointer (some ⟨b, o + q * 3 + 1, none⟩)) bp12 rfl (Lex.want_none rfl) (by intro Wx hSw; (try dsimp only at hSw); go_simp; (try (first | (with_reducible rfl) | assumption | rfl))) ?_
      simp only [Act.put, List.setIfInBounds_toArray, List.set_cons_zero, List.set_cons_succ]
      refine Lex.step_take (.int .i64 et) bp13 rfl (Lex.want_none rfl) (by intro Wx hSw; (try dsimp only at hSw); go_simp; (try (first | (with_reducible rfl) | assumption | rfl))) ?_
      simp only [Act.put, List.setIfInBounds_toArray, List.set_cons_zero, List.set_cons_succ]
      refine Lex.step_take (.int .i64 (et * 8)) bp14 rfl (Lex.want_none rfl) (by intro Wx hSw; (try dsimp only at hSw); go_simp; (try (first | (with_reducible rfl) | assumption | rfl))) ?_
      simp only [Act.put, List.setIfInBounds_toArray, List.set_cons_zero, List.set_cons_succ]
      refine Lex.step_take (.slice (some ⟨b, o, none⟩) n cp) bp15 rfl (Lex.want_none rfl) (by intro Wx hSw; (try dsimp only at hSw); go_simp; (try (first | (with_reducible rfl) | assumption | rfl))) ?_
      simp only [Act.put, List.setIfInBounds_toArray, List.set_cons_zero, List.set_cons_succ]
      refine Lex.step_take (.int .i64 q) bp16 rfl (Lex.want_none rfl) (by intro Wx hSw; (try dsimp only at hSw); go_simp; (try (first | (with_reducible rfl) | assumption | rfl))) ?_
      simp only [Act.put, List.setIfInBounds_toArray, List.set_cons_zero, List.set_cons_succ]
      refine Lex.step_take (.pointer (some ⟨b, o + q * 3, none⟩)) bp17 rfl (Lex.want_none rfl) (by intro Wx hSw; (try dsimp only at hSw); go_simp; (try (first | (with_reducible rfl) | assumption | rfl))) ?_
      simp only [Act.put, List.setIfInBounds_toArray, List.set_cons_zero, List.set_cons_succ]
      refine Lex.step_take (.pointer (some ⟨b, o + q * 3 + 1, none⟩)) bp18 rfl (Lex.want_none rfl) (by intro Wx hSw; (try dsimp only at hSw); go_simp; (try (first | (with_reducible rfl) | assumption | rfl))) ?_
      simp only [Act.put, List.setIfInBounds_toArray, List.set_cons_zero, List.set_cons_succ]
      refine Lex.step_take (.pointer (some ⟨b, o + q * 3 + 2, none⟩)) bp19 rfl (Lex.want_none rfl) (by intro Wx hSw; (try dsimp only at hSw); go_simp; (try (first | (with_reducible rfl) | assumption | rfl))) ?_
      simp only [Act.put, List.setIfInBounds_toArray, List.set_cons_zero, List.set_cons_succ]
      refine Lex.step_take (.int .i64 es) bp20 rfl (Lex.want_none rfl) (by intro Wx hSw; (try dsimp only at hSw); go_simp; (try (first | (with_reducible rfl) | assumption | rfl))) ?_
      simp only [Act.put, List.setIfInBounds_toArray, List.set_cons_zero, List.set_cons_succ]
      refine Lex.step_take (.int .i64 (et * 8 + es)) bp21 rfl (Lex.want_none rfl) (by intro Wx hSw; (try dsimp only at hSw); go_simp; (try (first | (with_reducible rfl) | assumption | rfl))) ?_
      simp only [Act.put, List.setIfInBounds_toArray, List.set_cons_zero, List.set_cons_succ]
      refine Lex.step_call bp6 rfl (Lex.want_none rfl) (fun K hK => ?_)
      go_simp
      refine (hcT _).mono ?_
      rintro e y1 ⟨rfl, hy1⟩
      have hB := hB.trans (hy1.mono hB.size)
      have d0 := cell_below hy1 d0
      have d1 := cell_below hy1 d1
      have d2 := cell_below hy1 d2
      clear hy1
      refine hK.out _ _ _ (fun _ h => h) ⟨d0, d1, d2⟩ ?_
      clear hK K
      try simp only [Act.put, List.setIfInBounds_toArray, List.set_cons_zero, List.set_cons_succ]
      refine Lex.step_take (.string (out ++ tx)) bp7 rfl (Lex.want_none rfl) (by intro Wx hSw; (try dsimp only at hSw); go_simp; (try (first | (with_reducible rfl) | assumption | rfl))) ?_
      simp only [Act.put, List.setIfInBounds_toArray, List.set_cons_zero, List.set_cons_succ]
      refine Lex.step_call bp22 rfl (Lex.want_none rfl) (fun K hK => ?_)
      go_simp
      refine (hcN _).mono ?_
      rintro e y2 ⟨rfl, hy2⟩
      have hB := hB.trans (hy2.mono hB.size)
      have d0 := cell_below hy2 d0
      have d1 := cell_below hy2 d1
      have d2 := cell_below hy2 d2
      clear hy2
      refine hK.out _ _ _ (fun _ h => h) ⟨d0, d1, d2⟩ ?_
      clear hK K
      try simp only [Act.put, List.setIfInBounds_toArray, List.set_cons_zero, List.set_cons_succ]
      refine Lex.step_take (.string (out ++ tx ++ ty)) bp23 rfl (Lex.want_none rfl) (by intro Wx hSw; (try dsimp only at hSw); go_simp; (try (first | (with_reducible rfl) | assumption | rfl))) ?_
      simp only [Act.put, List.setIfInBounds_toArray, List.set_cons_zero, List.set_cons_succ]
      refine Lex.step_take (.string (out ++ tx ++ ty)) bp24 rfl (Lex.want_none rfl) (by intro Wx hSw; (try dsimp only at hSw); go_simp; (try (first | (with_reducible rfl) | assumption | rfl))) ?_
      simp only [Act.put, List.setIfInBounds_toArray, List.set_cons_zero, List.set_cons_succ]
      refine NoPanic.normal ?_
      clear d0 d1 d2 hcT hcN z1 z2 z3 z4
      go_wp2
      go_roundw
      case rel => exact ⟨q + 1, _, by omega, by go_num, rfl, HT, hB⟩
      case measure => simp [intOf]; omega
    · obtain rfl : q = n := by omega
      have HU : Hid (ans = out) := Lib.hid (by rw [hO.out, HL.out.2.2.2])
      go_wp2
      go_ret
      exact ⟨by rw [HU.out]; rfl, hB⟩
end
end Go.Proofs.Ytmjlfhfadmndhaa.Bu
