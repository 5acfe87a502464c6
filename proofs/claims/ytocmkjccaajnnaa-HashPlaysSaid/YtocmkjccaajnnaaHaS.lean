/- HashFinds, walked. -/
import Derived.Test.YtocmkjccaajnnaaMgR
import Derived.Test.YtocmkjccaajnnaaMgY
namespace Go.Proofs.Ytocmkjccaajnnaa.Ha
open Go.RowKit Pac Bu Ls Lex Go.Proofs.Ytocmkjccaajnnaa.Or

section
variable {A0 : Option Addr} {n cp : Nat} {l : List Ac} {w : World}
set_option maxRecDepth 20000 in
set_option maxHeartbeats 12800000 in
theorem finds_any (hl : HasA w 0 A0 l) (hn : l.length = n) (h9 : n ≤ 9223372036854775807) (hks : ∀ a ∈ l, a.e.Ok) :
    Calls Try.prog 5 #[.slice A0 n cp] w fun e w' => e = .returned (.bool true) ∧ Below w.heap.size w w' := by
  have hcs := small_any (cp := cp) 0 100 hl hn h9 (by omega)
  have HL := Lib.hid (And.intro hl (And.intro hn hks))
  clear hl hn hks
  go_enter Try.func5, Try.ntmps5
  go_wp2_with fail
  refine hcs.mono ?_
  rintro e w1 ⟨b, rfl, hb, h1⟩
  clear hcs
  cases b
  · clear hb
    go_wp2_with fail
    refine (awake_any w1).mono ?_
    rintro e w2 ⟨rfl, h2⟩
    go_wp2
    go_ret
    exact ⟨rfl, h1.trans (h2.mono h1.size)⟩
  · have hsm := hb.1 rfl
    have hn100 : n ≤ 100 := by have := hsm.len; rw [HL.out.2.1] at this; exact this
    have HS := Lib.hid hsm
    clear hb hsm
    go_wp2_with fail
    refine (new_any w1).mono ?_
    rintro e w2 ⟨A, n0, cp0, rfl, hnn, hcc, hbs, hB⟩
    have hB := h1.trans (hB.mono h1.size)
    obtain ⟨g, hg⟩ : ∃ g, w2.heap.size = g := ⟨_, rfl⟩
    have hgw : w.heap.size ≤ g := by rw [← hg]; exact hB.size
    have hbs : HasBsX w2 (fun b => b ≠ g) A newH.bs := hbs.lt.mono (fun b h => by have := h.2; omega)
    have hv := VarH.new hnn hcc hbs
    have hB2 := hB.alloc hB.size (.cells #[.int .i64 (newH.lv : Nat), .int .i64 (newH.nx : Nat), .slice A n0 cp0] 27)
    obtain ⟨h0, hh0⟩ : ∃ h0, newH = h0 := ⟨_, rfl⟩
    have HH0 := Lib.hid (show h0 = runA (l.take 0) by rw [← hh0, List.take_zero]; rfl)
    rw [hh0] at hv hB2
    rw [hg] at hv
    clear hnn hcc hbs hB h1
    go_wp2
    clear hh0 hg
    generalize w2.alloc (.cells #[.int .i64 (h0.lv : Nat), .int .i64 (h0.nx : Nat), .slice A n0 cp0] 27) = w3 at hv hB2 ⊢
    have HGW := Lib.hid hgw
    clear hgw
    go_loopw [4] (fun i wr => ∃ (q : Nat) (h : H) (A : Option Addr) (m c : Nat), q ≤ n ∧ i = .int .i64 q ∧ Hid (h = runA (l.take q)) ∧ VarH wr g (fun b => b ≠ g) h A m c ∧ Below w.heap.size w wr) (fun i _ => n - (intOf i).toNat)
    case atStart => exact ⟨0, h0, A, n0, cp0, Nat.zero_le _, rfl, HH0, hv, hB2⟩
    case round =>
      clear hv hB2 HH0
      obtain ⟨q, h, A, m, c, hq, rfl, hH, hv, hB⟩ := hrel
      by_cases hlt : q < n
      · have hgt := List.getElem?_eq_getElem (l := l) (i := q) (by rw [HL.out.2.1]; exact hlt)
        generalize (l[q]'(by rw [HL.out.2.1]; exact hlt)) = x at hgt
        obtain ⟨b, o, rfl, _, hlb, d0, d1, d2, d3⟩ := HasA.at (HL.out.1.below hB (Nat.le_refl _)) hgt
        have hid : Idx spread h q := by rw [hH.out]; exact Idx.run HS.out.fine q (by rw [HL.out.2.1]; exact hq) (by omega)
        have hfx := HS.out.fine _ (List.mem_of_getElem? hgt)
        have hnext : Hid (doA h x = runA (l.take (q + 1))) := Lib.hid (by rw [run_take hgt, hH.out])
        obtain ⟨ak, ek, et, es⟩ := x
        simp only at d0 d1 d2 d3
        have i1 : (q : Int) < (n : Int) := by omega
        have i0 : (0 : Int) ≤ (q : Int) := by omega
        have c0 := hv.b.c0
        have c1 := hv.b.c1
        have c2 := hv.b.c2
        have cf := hv.b.f
        obtain ⟨h', hh'⟩ : ∃ h', doA h ⟨ak, ek, et, es⟩ = h' := ⟨_, rfl⟩
        have HH' : Hid (h' = runA (l.take (q + 1))) := Lib.hid (by rw [← hh']; exact hnext.out)
        clear hgt hnext
        by_cases k0 : ak = 0
        · subst k0
          have hcall := fun W (hW : HasBsX W (fun b => b ≠ g) A h.bs) => put_any (w := W) (fun b => b ≠ g) hid (by omega) hW hv.hn hv.hc ek et es hfx
          rw [show putH spread h ⟨ek, et, es⟩ = h' from hh'] at hcall
          clear hid hh' hfx
          have hdr := (Below.refl wr.heap.size wr).drew
          go_wp2_with fail
          refine Lex.region_last (ops := fpraw) (ops1 := fpops) (calls := fpcalls) 12 _ fpord (fun W => W.cell? ⟨g, 0, none⟩ = some (.int .i64 (h.lv : Nat)) ∧ W.cell? ⟨g, 1, none⟩ = some (.int .i64 (h.nx : Nat)) ∧ W.cell? ⟨g, 2, none⟩ = some (.slice A m c) ∧ W.cell? ⟨b, o + q * 4 + 1, none⟩ = some (.string ek) ∧ W.cell? ⟨b, o + q * 4 + 2, none⟩ = some (.int .i64 et) ∧ W.cell? ⟨b, o + q * 4 + 3, none⟩ = some (.int .i64 es)) (by kernel_rfl) fpeq fplast rfl rfl (by kernel_rfl) (by kernel_rfl) (by kernel_rfl) (by kernel_rfl) fpsel (by kernel_rfl) (by kernel_rfl) fplex (⟨cell_belowB hdr c0, cell_belowB hdr c1, cell_belowB hdr c2, cell_belowB hdr d1, cell_belowB hdr d2, cell_belowB hdr d3⟩) ?_
          unfold fpord
          have c0 := cell_belowB hdr c0
          have c1 := cell_belowB hdr c1
          have c2 := cell_belowB hdr c2
          have d1 := cell_belowB hdr d1
          have d2 := cell_belowB hdr d2
          have d3 := cell_belowB hdr d3
          have hv := hv.below hdr
          have hB := hB.trans (hdr.mono hB.size)
          clear hdr
          refine Lex.step_take (.agg #[.int .i64 (h.lv : Nat), .int .i64 (h.nx : Nat), .slice A m c]) fp0 rfl (Lex.want_none rfl) (by intro Wx hSw; (try dsimp only at hSw); go_simp; (try (first | (with_reducible rfl) | assumption | rfl))) ?_
          simp only [Act.put, List.setIfInBounds_toArray, List.set_cons_zero, List.set_cons_succ]
          refine Lex.step_take (.slice (some ⟨b, o, none⟩) n cp) fp1 rfl (Lex.want_none rfl) (by intro Wx hSw; (try dsimp only at hSw); go_simp; (try (first | (with_reducible rfl) | assumption | rfl))) ?_
          simp only [Act.put, List.setIfInBounds_toArray, List.set_cons_zero, List.set_cons_succ]
          refine Lex.step_take (.int .i64 q) fp2 rfl (Lex.want_none rfl) (by intro Wx hSw; (try dsimp only at hSw); go_simp; (try (first | (with_reducible rfl) | assumption | rfl))) ?_
          simp only [Act.put, List.setIfInBounds_toArray, List.set_cons_zero, List.set_cons_succ]
          refine Lex.step_take (.pointer (some ⟨b, o + q * 4, none⟩)) fp3 rfl (Lex.want_none rfl) (by intro Wx hSw; (try dsimp only at hSw); go_simp; (try (first | (with_reducible rfl) | assumption | rfl))) ?_
          simp only [Act.put, List.setIfInBounds_toArray, List.set_cons_zero, List.set_cons_succ]
          refine Lex.step_take (.pointer (some ⟨b, o + q * 4 + 1, none⟩)) fp4 rfl (Lex.want_none rfl) (by intro Wx hSw; (try dsimp only at hSw); go_simp; (try (first | (with_reducible rfl) | assumption | rfl))) ?_
          simp only [Act.put, List.setIfInBounds_toArray, List.set_cons_zero, List.set_cons_succ]
          refine Lex.step_take (.string ek) fp5 rfl (Lex.want_none rfl) (by intro Wx hSw; (try dsimp only at hSw); go_simp; (try (first | (with_reducible rfl) | assumption | rfl))) ?_
          simp only [Act.put, List.setIfInBounds_toArray, List.set_cons_zero, List.set_cons_succ]
          refine Lex.step_take (.slice (some ⟨b, o, none⟩) n cp) fp6 rfl (Lex.want_none rfl) (by intro Wx hSw; (try dsimp only at hSw); go_simp; (try (first | (with_reducible rfl) | assumption | rfl))) ?_
          simp only [Act.put, List.setIfInBounds_toArray, List.set_cons_zero, List.set_cons_succ]
          refine Lex.step_take (.int .i64 q) fp7 rfl (Lex.want_none rfl) (by intro Wx hSw; (try dsimp only at hSw); go_simp; (try (first | (with_reducible rfl) | assumption | rfl))) ?_
          simp only [Act.put, List.setIfInBounds_toArray, List.set_cons_zero, List.set_cons_succ]
          refine Lex.step_take (.pointer (some ⟨b, o + q * 4, none⟩)) fp8 rfl (Lex.want_none rfl) (by intro Wx hSw; (try dsimp only at hSw); go_simp; (try (first | (with_reducible rfl) | assumption | rfl))) ?_
          simp only [Act.put, List.setIfInBounds_toArray, List.set_cons_zero, List.set_cons_succ]
          refine Lex.step_take (.pointer (some ⟨b, o + q * 4 + 2, none⟩)) fp9 rfl (Lex.want_none rfl) (by intro Wx hSw; (try dsimp only at hSw); go_simp; (try (first | (with_reducible rfl) | assumption | rfl))) ?_
          simp only [Act.put, List.setIfInBounds_toArray, List.set_cons_zero, List.set_cons_succ]
          refine Lex.step_take (.agg #[.int .i64 et, .int .i64 es]) fp10 rfl (Lex.want_none rfl) (by intro Wx hSw; (try dsimp only at hSw); go_simp; (try (first | (with_reducible rfl) | assumption | rfl))) ?_
          simp only [Act.put, List.setIfInBounds_toArray, List.set_cons_zero, List.set_cons_succ]
          refine Lex.step_call fp11 rfl (Lex.want_none rfl) (fun K hK => ?_)
          go_simp
          refine (hcall _ hv.hb).mono ?_
          rintro e w3 ⟨A', n', cp', rfl, hn', hc', hb', hB'⟩
          have c0 := cell_belowB hB' c0
          have c1 := cell_belowB hB' c1
          have c2 := cell_belowB hB' c2
          have d1 := cell_belowB hB' d1
          have d2 := cell_belowB hB' d2
          have d3 := cell_belowB hB' d3
          have hx := hv.b.below hB' hv.b.lt
          have hgl := hv.b.lt
          have hb' : HasBsX w3 (fun b => b ≠ g) A' h'.bs := hash_x hb' (fun b h => by omega)
          have hv' := VarH.store hx hn' hc' hb' (fun h => h rfl)
          have hB3 := store3_below (hB.trans (hB'.mono hB.size)) HGW.out (.int .i64 (h'.lv : Nat)) (.int .i64 (h'.nx : Nat)) (.slice A' n' cp')
          have HV := Lib.hid (And.intro hv' hB3)
          clear hcall hv hB hv' hB3 hB' hb' hn' hc' hgl
          refine hK.out _ _ _ (fun _ h => h) ⟨c0, c1, c2, d1, d2, d3⟩ ?_
          clear hK K
          try simp only [Act.put, List.setIfInBounds_toArray, List.set_cons_zero, List.set_cons_succ]
          refine Lex.step_take (.bool true) fp12 rfl (Lex.want_none rfl) (by intro Wx hSw; (try dsimp only at hSw); go_simp; (try (first | (with_reducible rfl) | assumption | rfl))) ?_
          simp only [Act.put, List.setIfInBounds_toArray, List.set_cons_zero, List.set_cons_succ]
          have c0 := hx.c0
          have c1 := hx.c1
          have c2 := hx.c2
          have cf := hx.f
          clear hx
          refine Lex.last_op fplast rfl (fun K hK => ?_)
          go_simp
          refine hK.out _ _ ?_
          clear hK K
          clear d0 d1 d2 d3 c0 c1 c2 cf
          go_wp2
          go_roundw
          case rel => exact ⟨q + 1, h', A', n', cp', by omega, by go_num, HH', HV.out.1, HV.out.2⟩
          case measure => simp [intOf]; omega
        · by_cases k1 : ak = 1
          · subst k1
            have hcall := fun W (hW : HasBsX W (fun b => b ≠ g) A h.bs) => drop_any (w := W) (fun b => b ≠ g) hid (by omega) hW hv.hn hv.hc ek (Nat.le_trans hfx.1 (by omega))
            rw [show dropH spread h ek.data.toList = h' from hh'] at hcall
            clear hid hh' hfx
            have hdr := (Below.refl wr.heap.size wr).drew
            go_wp2_with fail
            refine Lex.region_last (ops := fdraw) (ops1 := fdops) (calls := fdcalls) 7 _ fdord (fun W => W.cell? ⟨g, 0, none⟩ = some (.int .i64 (h.lv : Nat)) ∧ W.cell? ⟨g, 1, none⟩ = some (.int .i64 (h.nx : Nat)) ∧ W.cell? ⟨g, 2, none⟩ = some (.slice A m c) ∧ W.cell? ⟨b, o + q * 4 + 1, none⟩ = some (.string ek) ∧ W.cell? ⟨b, o + q * 4 + 2, none⟩ = some (.int .i64 et) ∧ W.cell? ⟨b, o + q * 4 + 3, none⟩ = some (.int .i64 es)) (by kernel_rfl) fdeq fdlast rfl rfl (by kernel_rfl) (by kernel_rfl) (by kernel_rfl) (by kernel_rfl) fdsel (by kernel_rfl) (by kernel_rfl) fdlex (⟨cell_belowB hdr c0, cell_belowB hdr c1, cell_belowB hdr c2, cell_belowB hdr d1, cell_belowB hdr d2, cell_belowB hdr d3⟩) ?_
            unfold fdord
            have c0 := cell_belowB hdr c0
            have c1 := cell_belowB hdr c1
            have c2 := cell_belowB hdr c2
            have d1 := cell_belowB hdr d1
            have d2 := cell_belowB hdr d2
            have d3 := cell_belowB hdr d3
            have hv := hv.below hdr
            have hB := hB.trans (hdr.mono hB.size)
            clear hdr
            refine Lex.step_take (.agg #[.int .i64 (h.lv : Nat), .int .i64 (h.nx : Nat), .slice A m c]) fd0 rfl (Lex.want_none rfl) (by intro Wx hSw; (try dsimp only at hSw); go_simp; (try (first | (with_reducible rfl) | assumption | rfl))) ?_
            simp only [Act.put, List.setIfInBounds_toArray, List.set_cons_zero, List.set_cons_succ]
            refine Lex.step_take (.slice (some ⟨b, o, none⟩) n cp) fd1 rfl (Lex.want_none rfl) (by intro Wx hSw; (try dsimp only at hSw); go_simp; (try (first | (with_reducible rfl) | assumption | rfl))) ?_
            simp only [Act.put, List.setIfInBounds_toArray, List.set_cons_zero, List.set_cons_succ]
            refine Lex.step_take (.int .i64 q) fd2 rfl (Lex.want_none rfl) (by intro Wx hSw; (try dsimp only at hSw); go_simp; (try (first | (with_reducible rfl) | assumption | rfl))) ?_
            simp only [Act.put, List.setIfInBounds_toArray, List.set_cons_zero, List.set_cons_succ]
            refine Lex.step_take (.pointer (some ⟨b, o + q * 4, none⟩)) fd3 rfl (Lex.want_none rfl) (by intro Wx hSw; (try dsimp only at hSw); go_simp; (try (first | (with_reducible rfl) | assumption | rfl))) ?_
            simp only [Act.put, List.setIfInBounds_toArray, List.set_cons_zero, List.set_cons_succ]
            refine Lex.step_take (.pointer (some ⟨b, o + q * 4 + 1, none⟩)) fd4 rfl (Lex.want_none rfl) (by intro Wx hSw; (try dsimp only at hSw); go_simp; (try (first | (with_reducible rfl) | assumption | rfl))) ?_
            simp only [Act.put, List.setIfInBounds_toArray, List.set_cons_zero, List.set_cons_succ]
            refine Lex.step_take (.string ek) fd5 rfl (Lex.want_none rfl) (by intro Wx hSw; (try dsimp only at hSw); go_simp; (try (first | (with_reducible rfl) | assumption | rfl))) ?_
            simp only [Act.put, List.setIfInBounds_toArray, List.set_cons_zero, List.set_cons_succ]
            refine Lex.step_call fd6 rfl (Lex.want_none rfl) (fun K hK => ?_)
            go_simp
            refine (hcall _ hv.hb).mono ?_
            rintro e w3 ⟨A', n', cp', rfl, hn', hc', hb', hB'⟩
            have c0 := cell_belowB hB' c0
            have c1 := cell_belowB hB' c1
            have c2 := cell_belowB hB' c2
            have d1 := cell_belowB hB' d1
            have d2 := cell_belowB hB' d2
            have d3 := cell_belowB hB' d3
            have hx := hv.b.below hB' hv.b.lt
            have hgl := hv.b.lt
            have hb' : HasBsX w3 (fun b => b ≠ g) A' h'.bs := hash_x hb' (fun b h => by omega)
            have hv' := VarH.store hx hn' hc' hb' (fun h => h rfl)
            have hB3 := store3_below (hB.trans (hB'.mono hB.size)) HGW.out (.int .i64 (h'.lv : Nat)) (.int .i64 (h'.nx : Nat)) (.slice A' n' cp')
            have HV := Lib.hid (And.intro hv' hB3)
            clear hcall hv hB hv' hB3 hB' hb' hn' hc' hgl
            refine hK.out _ _ _ (fun _ h => h) ⟨c0, c1, c2, d1, d2, d3⟩ ?_
            clear hK K
            try simp only [Act.put, List.setIfInBounds_toArray, List.set_cons_zero, List.set_cons_succ]
            refine Lex.step_take (.bool true) fd7 rfl (Lex.want_none rfl) (by intro Wx hSw; (try dsimp only at hSw); go_simp; (try (first | (with_reducible rfl) | assumption | rfl))) ?_
            simp only [Act.put, List.setIfInBounds_toArray, List.set_cons_zero, List.set_cons_succ]
            have c0 := hx.c0
            have c1 := hx.c1
            have c2 := hx.c2
            have cf := hx.f
            clear hx
            refine Lex.last_op fdlast rfl (fun K hK => ?_)
            go_simp
            refine hK.out _ _ ?_
            clear hK K
            clear d0 d1 d2 d3 c0 c1 c2 cf
            go_wp2
            go_roundw
            case rel => exact ⟨q + 1, h', A', n', cp', by omega, by go_num, HH', HV.out.1, HV.out.2⟩
            case measure => simp [intOf]; omega
          · by_cases k2 : ak = 2
            · subst k2
              have hcall := fun W (hW : HasBsX W (fun b => b ≠ g) A h.bs) => halve_any (w := W) (fun b => b ≠ g) hid (by omega) hW hv.hn hv.hc
              rw [show halveH spread h = h' from hh'] at hcall
              clear hid hh' hfx
              go_wp2_with fail
              refine (hcall _ hv.hb).mono ?_
              rintro e w3 ⟨A', n', cp', rfl, hn', hc', hb', hB'⟩
              have hx := hv.b.below hB' hv.b.lt
              have hgl := hv.b.lt
              have hb' : HasBsX w3 (fun b => b ≠ g) A' h'.bs := hash_x hb' (fun b h => by omega)
              have hv' := VarH.store hx hn' hc' hb' (fun h => h rfl)
              have hB3 := store3_below (hB.trans (hB'.mono hB.size)) HGW.out (.int .i64 (h'.lv : Nat)) (.int .i64 (h'.nx : Nat)) (.slice A' n' cp')
              have HV := Lib.hid (And.intro hv' hB3)
              clear hcall hv hB hv' hB3 hB' hb' hn' hc' hgl d0 d1 d2 d3 c0 c1 c2 cf
              have c0 := hx.c0
              have c1 := hx.c1
              have c2 := hx.c2
              have cf := hx.f
              clear hx
              go_wp2
              go_roundw
              case rel => exact ⟨q + 1, h', A', n', cp', by omega, by go_num, HH', HV.out.1, HV.out.2⟩
              case measure => simp [intOf]; omega
            · have HH2 : Hid (h = runA (l.take (q + 1))) := Lib.hid (by
                rw [← HH'.out, ← hh']
                unfold doA
                rw [if_neg k0, if_neg k1, if_neg k2])
              have HV := Lib.hid (And.intro hv hB)
              have k0' : (ak == 0) = false := beq_eq_false_iff_ne.2 k0
              have k1' : (ak == 1) = false := beq_eq_false_iff_ne.2 k1
              have k2' : (ak == 2) = false := beq_eq_false_iff_ne.2 k2
              clear hid hh' hfx k0 k1 k2 c0 c1 c2 cf d1 d2 d3 hv hB
              go_wp2
              go_roundw
              case rel => exact ⟨q + 1, h, A, m, c, by omega, by go_num, HH2, HV.out.1, HV.out.2⟩
              case measure => simp [intOf]; omega
      · obtain rfl : n = q := by omega
        have hfull : l.take n = l := List.take_of_length_le (by rw [HL.out.2.1]; exact Nat.le_refl _)
        have hid : Idx spread h n := by rw [hH.out]; exact Idx.run HS.out.fine n (by rw [HL.out.2.1]; exact Nat.le_refl _) (by omega)
        have HR : Hid (h = runA l) := Lib.hid (by have h' := hH.out; rw [hfull] at h'; exact h')
        have HID := Lib.hid hid
        clear hfull hid hH hq hlt
        go_wp2
        go_loopw [5, 6, 7, 8, 9, 10, 11, 12] (fun s5 s6 _ _ _ _ _ _ wx => ∃ (i c1 : Nat), i ≤ n ∧ c1 ≤ i ∧ s6 = .int .i64 i ∧ s5 = .int .i64 c1 ∧ Hid (c1 = (numA l i).length) ∧ VarH wx g (fun b => b ≠ g) h A m c ∧ Below w.heap.size w wx) (fun _ i _ _ _ _ _ _ _ => n - (intOf i).toNat)
        case atStart => exact ⟨0, 0, Nat.zero_le _, Nat.zero_le _, rfl, rfl, Lib.hid rfl, hv, hB⟩
        case round =>
          clear hv hB
          rename World => wx
          obtain ⟨i, c1, hi, hci, rfl, rfl, hC, hv, hB⟩ := hrel
          by_cases hlt : i < n
          · have hgt := List.getElem?_eq_getElem (l := l) (i := i) (by rw [HL.out.2.1]; exact hlt)
            generalize (l[i]'(by rw [HL.out.2.1]; exact hlt)) = x at hgt
            have hA := HL.out.1.below hB (Nat.le_refl _)
            obtain ⟨b, o, rfl, _, hlb, _, e1, _, _⟩ := HasA.at hA hgt
            have hfx := HS.out.fine _ (List.mem_of_getElem? hgt)
            have HK := Lib.hid (key_at hgt)
            obtain ⟨ak, xk, et, es⟩ := x
            simp only at e1
            have hsz : xk.size ≤ 200 := Nat.le_trans hfx.1 (by omega)
            have HA := Lib.hid hA
            have HV := Lib.hid (And.intro hv hB)
            have hnew := (Below.refl wx.heap.size wx).alloc (Nat.le_refl _) (.cells #[.int .i64 0, .int .i64 0] 30)
            have hp := Box2.new wx (.int .i64 0) (.int .i64 0) 30
            have e1' := cell_belowB hnew e1
            obtain ⟨gw, hgw⟩ : ∃ gw, wx.heap.size = gw := ⟨_, rfl⟩
            have HG := Lib.hid hgw
            have hb0 := Lib.hid (Bar.of_below gw hnew (Nat.le_refl _))
            rw [hgw] at hp
            have i1 : (i : Int) < (n : Int) := by omega
            have i0 : (0 : Int) ≤ (i : Int) := by omega
            clear hgt hfx hA hv hB hnew
            go_wp2
            clear hgw
            generalize wx.alloc (.cells #[.int .i64 0, .int .i64 0] 30) = wi at hp hb0 e1' ⊢
            go_loopw [8, 9, 10] (fun s8 s9 s10 wy => ∃ (j : Nat) (th fi : Bool) (p s : Int), j ≤ n ∧ s10 = .int .i64 j ∧ s8 = .bool th ∧ s9 = .bool fi ∧ Box2 wy gw (.int .i64 p) (.int .i64 s) ∧ Hid (firstB l i j = fi ∧ (wantA (l.take j) xk.data.toList).isSome = th ∧ (wantA (l.take j) xk.data.toList).getD (0, 0) = (p, s)) ∧ Hid (Bar gw wx wy)) (fun _ _ k _ => n - (intOf k).toNat)
            case atStart => exact ⟨0, false, true, 0, 0, Nat.zero_le _, rfl, rfl, rfl, hp, Lib.hid ⟨first_zero l i, by rw [List.take_zero]; rfl, by rw [List.take_zero]; rfl⟩, hb0⟩
            case round =>
              clear hp hb0 e1'
              rename World => wy
              obtain ⟨j, th, fi, p, s, hj, rfl, rfl, rfl, hp, hI, hBa⟩ := hrel
              have hAy := hasL_old HA.out (Nat.le_of_eq HG.out) hBa.out
              have E1 := Lib.hid e1
              have e1 := (hBa.out.cell (p := ⟨b, o + i * 4 + 1, none⟩) (World.block_lt_of_cell? _ _ e1) (by have := World.block_lt_of_cell? _ _ e1; have := HG.out; show b ≠ gw; intro e; subst e; omega)).trans e1
              by_cases hlj : j < n
              · have hgt := List.getElem?_eq_getElem (l := l) (i := j) (by rw [HL.out.2.1]; exact hlj)
                generalize (l[j]'(by rw [HL.out.2.1]; exact hlj)) = y at hgt
                obtain ⟨b', o', hAe, _, _, d0, d1, d2, d3⟩ := HasA.at hAy hgt
                injection hAe with hAe
                injection hAe with a1 a2
                subst a1 a2
                have HT := Lib.hid (take_snocA hgt)
                have HKJ := Lib.hid (key_at hgt)
                obtain ⟨bk, yk, yt, ys⟩ := y
                simp only at d0 d1 d2 d3
                have j1 : (j : Int) < (n : Int) := by omega
                have j0 : (0 : Int) ≤ (j : Int) := by omega
                clear hgt hAy
                by_cases hk : yk.data.toList = xk.data.toList
                · have hbk : (yk.toList == xk.toList) = true := by rw [key_beq]; exact decide_eq_true hk
                  have HFS : Hid (firstB l i (j + 1) = (fi && decide ((i : Int) ≤ (j : Int)))) := Lib.hid (by rw [first_same (by rw [HKJ.out, HK.out]; exact hk), hI.out.1])
                  have HWS : Hid (wantA (l.take (j + 1)) xk.data.toList = wantS xk.data.toList (wantA (l.take j) xk.data.toList) ⟨bk, yk, yt, ys⟩) := Lib.hid (by rw [HT.out, want_snoc])
                  have HKK := Lib.hid (show (⟨yk, yt, ys⟩ : E).k = xk.data.toList from hk)
                  have HNE : Hid (b ≠ gw) := Lib.hid (by have := World.block_lt_of_cell? _ _ E1.out; have := HG.out; intro e; subst e; omega)
                  clear hk
                  go_wp2
                  go_quiet (fail)
                  have hdr := below_drewN (Below.refl wy.heap.size wy) nq
                  generalize wy.drewN nq = wz at hdr ⊢
                  have hp := hp.below hdr hp.lt
                  have d0 := cell_belowB hdr d0
                  have d2 := cell_belowB hdr d2
                  have d3 := cell_belowB hdr d3
                  have hBz := hBa.out.trans (Bar.of_below gw hdr (Nat.le_refl _))
                  clear hdr d1 e1 hBa
                  have p0 := hp.c0
                  have p1 := hp.c1
                  have pf := hp.f
                  have hfi : ∃ fi', (fi && decide ((i : Int) ≤ (j : Int))) = fi' := ⟨_, rfl⟩
                  obtain ⟨fi', hfi⟩ := hfi
                  have HFI : Hid (firstB l i (j + 1) = fi') := Lib.hid (HFS.out.trans hfi)
                  by_cases k0 : bk = 0
                  · subst k0
                    have HW1 : Hid (wantA (l.take (j + 1)) xk.data.toList = some (yt, ys)) := Lib.hid (by rw [HWS.out, wantS_put HKK.out rfl])
                    have HP2 := Lib.hid (And.intro ((hp.set0 (.int .i64 yt)).set1 (.int .i64 ys)) ((hBz.setCell 0 (.int .i64 yt)).setCell 1 (.int .i64 ys)))
                    have d0' := other2 gw (.int .i64 yt) (.int .i64 ys) d0 HNE.out
                    clear hp hBz HFS HWS
                    rcases (show (fi = false ∧ fi' = false) ∨ (fi = true ∧ decide (i ≤ j) = true ∧ fi' = true) ∨ (fi = true ∧ decide (i ≤ j) = false ∧ fi' = false) from by
                      rw [← hfi]
                      cases fi
                      · exact Or.inl ⟨rfl, rfl⟩
                      · by_cases hij : (i : Int) ≤ (j : Int)
                        · exact Or.inr (Or.inl ⟨rfl, decide_eq_true (by omega), by simp; omega⟩)
                        · exact Or.inr (Or.inr ⟨rfl, decide_eq_false (by omega), by simp; omega⟩)) with ⟨rfl, rfl⟩ | ⟨rfl, hij, rfl⟩ | ⟨rfl, hij, rfl⟩
                    all_goals clear hfi
                    all_goals
                      go_wp2
                      go_roundw
                      case rel => exact ⟨j + 1, true, _, yt, ys, by omega, by go_num, rfl, rfl, HP2.out.1, Lib.hid ⟨HFI.out, by rw [HW1.out]; rfl, by rw [HW1.out]; rfl⟩, Lib.hid HP2.out.2⟩
                      case measure => simp [intOf]; omega
                  · by_cases k1 : bk = 1
                    · subst k1
                      have HW1 : Hid (wantA (l.take (j + 1)) xk.data.toList = none) := Lib.hid (by rw [HWS.out, wantS_drop HKK.out (by show ¬ (1 : Int) = 0; omega) rfl])
                      have HP2 := Lib.hid (And.intro ((hp.set0 (.int .i64 0)).set1 (.int .i64 0)) ((hBz.setCell 0 (.int .i64 0)).setCell 1 (.int .i64 0)))
                      clear hp hBz HFS HWS k0
                      rcases (show (fi = false ∧ fi' = false) ∨ (fi = true ∧ decide (i ≤ j) = true ∧ fi' = true) ∨ (fi = true ∧ decide (i ≤ j) = false ∧ fi' = false) from by
                        rw [← hfi]
                        cases fi
                        · exact Or.inl ⟨rfl, rfl⟩
                        · by_cases hij : (i : Int) ≤ (j : Int)
                          · exact Or.inr (Or.inl ⟨rfl, decide_eq_true (by omega), by simp; omega⟩)
                          · exact Or.inr (Or.inr ⟨rfl, decide_eq_false (by omega), by simp; omega⟩)) with ⟨rfl, rfl⟩ | ⟨rfl, hij, rfl⟩ | ⟨rfl, hij, rfl⟩
                      all_goals clear hfi
                      all_goals
                        go_wp2
                        go_roundw
                        case rel => exact ⟨j + 1, false, _, 0, 0, by omega, by go_num, rfl, rfl, HP2.out.1, Lib.hid ⟨HFI.out, by rw [HW1.out]; rfl, by rw [HW1.out]; rfl⟩, Lib.hid HP2.out.2⟩
                        case measure => simp [intOf]; omega
                    · have HW1 : Hid (wantA (l.take (j + 1)) xk.data.toList = wantA (l.take j) xk.data.toList) := Lib.hid (by rw [HWS.out, wantS_else k0 k1])
                      have HP2 := Lib.hid (And.intro hp hBz)
                      have k0' : (bk == 0) = false := beq_eq_false_iff_ne.2 k0
                      have k1' : (bk == 1) = false := beq_eq_false_iff_ne.2 k1
                      clear hp hBz HFS HWS k0 k1 d2 d3
                      rcases (show (fi = false ∧ fi' = false) ∨ (fi = true ∧ decide (i ≤ j) = true ∧ fi' = true) ∨ (fi = true ∧ decide (i ≤ j) = false ∧ fi' = false) from by
                        rw [← hfi]
                        cases fi
                        · exact Or.inl ⟨rfl, rfl⟩
                        · by_cases hij : (i : Int) ≤ (j : Int)
                          · exact Or.inr (Or.inl ⟨rfl, decide_eq_true (by omega), by simp; omega⟩)
                          · exact Or.inr (Or.inr ⟨rfl, decide_eq_false (by omega), by simp; omega⟩)) with ⟨rfl, rfl⟩ | ⟨rfl, hij, rfl⟩ | ⟨rfl, hij, rfl⟩
                      all_goals clear hfi
                      all_goals
                        go_wp2
                        go_roundw
                        case rel => exact ⟨j + 1, th, _, p, s, by omega, by go_num, rfl, rfl, HP2.out.1, Lib.hid ⟨HFI.out, by rw [HW1.out]; exact hI.out.2.1, by rw [HW1.out]; exact hI.out.2.2⟩, Lib.hid HP2.out.2⟩
                        case measure => simp [intOf]; omega
                · have hbk : (yk.toList == xk.toList) = false := by rw [key_beq]; exact decide_eq_false hk
                  have HF1 : Hid (firstB l i (j + 1) = fi) := Lib.hid (by rw [first_other (by rw [HKJ.out, HK.out]; exact hk), hI.out.1])
                  have HW1 : Hid (wantA (l.take (j + 1)) xk.data.toList = wantA (l.take j) xk.data.toList) := Lib.hid (by rw [HT.out, want_snoc, wantS_other (show (⟨yk, yt, ys⟩ : E).k ≠ _ from hk)])
                  clear hk
                  go_wp2
                  go_quiet (fail)
                  have hdr := below_drewN (Below.refl wy.heap.size wy) nq
                  generalize wy.drewN nq = wz at hdr ⊢
                  have hp := hp.below hdr hp.lt
                  have HBz := Lib.hid (hBa.out.trans (Bar.of_below gw hdr (Nat.le_refl _)))
                  clear hdr d0 d1 d2 d3 e1 hBa
                  go_wp2
                  go_roundw
                  case rel => exact ⟨j + 1, th, fi, p, s, by omega, by go_num, rfl, rfl, hp, Lib.hid ⟨HF1.out, by rw [HW1.out]; exact hI.out.2.1, by rw [HW1.out]; exact hI.out.2.2⟩, HBz⟩
                  case measure => simp [intOf]; omega
              · obtain rfl : n = j := by omega
                have hfull : l.take n = l := List.take_of_length_le (by rw [HL.out.2.1]; exact Nat.le_refl _)
                have hI2 := hI.out
                rw [hfull] at hI2
                have hv := HV.out.1.past (Nat.le_of_eq HG.out) hBa.out
                have hB := HV.out.2.trans (hBa.out.below (B := w.heap.size) (by have := HG.out; have := HV.out.2.size; omega) HV.out.2.size)
                have hcg := fun W (hW : HasBs W 0 A h.bs) => get_any (w := W) HID.out (by omega) hW hv.hn hv.hc xk hsz
                have HW2 := Lib.hid (want_get l xk.data.toList)
                rw [← HR.out] at HW2
                have c0 := hv.b.c0
                have c1 := hv.b.c1
                have c2 := hv.b.c2
                have HI2 := Lib.hid hI2
                have HXK := Lib.hid hsz
                clear hfull hI hI2 hBa hAy
                go_wp2_with fail
                clear c0 c1 c2
                have hdr := (Below.refl wy.heap.size wy).drew
                have hv := hv.below hdr
                have hp := hp.below hdr hp.lt
                have hB := hB.trans (hdr.mono hB.size)
                have e1 := cell_belowB hdr e1
                refine Lex.region_tree (ops := fgops) fgtree (fun W => W.cell? ⟨g, 0, none⟩ = some (.int .i64 (h.lv : Nat)) ∧ W.cell? ⟨g, 1, none⟩ = some (.int .i64 (h.nx : Nat)) ∧ W.cell? ⟨g, 2, none⟩ = some (.slice A m c) ∧ W.cell? ⟨b, o + i * 4 + 1, none⟩ = some (.string xk)) (by kernel_rfl) (by kernel_rfl) fgsel fglex (⟨hv.b.c0, hv.b.c1, hv.b.c2, e1⟩) ?_
                unfold fgtree
                clear hdr
                generalize wy.drew = wd at hv hp hB e1 ⊢
                refine Lex.tree_take (.agg #[.int .i64 (h.lv : Nat), .int .i64 (h.nx : Nat), .slice A m c]) fg0 (Lex.want_none rfl) (by intro Wx hSw; (try dsimp only at hSw); go_simp; (try (first | (with_reducible rfl) | assumption | rfl))) ?_
                simp only [Act.put, List.setIfInBounds_toArray, List.set_cons_zero, List.set_cons_succ]
                refine Lex.tree_take (.slice (some ⟨b, o, none⟩) n cp) fg1 (Lex.want_none rfl) (by intro Wx hSw; (try dsimp only at hSw); go_simp; (try (first | (with_reducible rfl) | assumption | rfl))) ?_
                simp only [Act.put, List.setIfInBounds_toArray, List.set_cons_zero, List.set_cons_succ]
                refine Lex.tree_take (.int .i64 i) fg2 (Lex.want_none rfl) (by intro Wx hSw; (try dsimp only at hSw); go_simp; (try (first | (with_reducible rfl) | assumption | rfl))) ?_
                simp only [Act.put, List.setIfInBounds_toArray, List.set_cons_zero, List.set_cons_succ]
                refine Lex.tree_take (.pointer (some ⟨b, o + i * 4, none⟩)) fg3 (Lex.want_none rfl) (by intro Wx hSw; (try dsimp only at hSw); go_simp; (try (first | (with_reducible rfl) | assumption | rfl))) ?_
                simp only [Act.put, List.setIfInBounds_toArray, List.set_cons_zero, List.set_cons_succ]
                refine Lex.tree_take (.pointer (some ⟨b, o + i * 4 + 1, none⟩)) fg4 (Lex.want_none rfl) (by intro Wx hSw; (try dsimp only at hSw); go_simp; (try (first | (with_reducible rfl) | assumption | rfl))) ?_
                simp only [Act.put, List.setIfInBounds_toArray, List.set_cons_zero, List.set_cons_succ]
                refine Lex.tree_take (.string xk) fg5 (Lex.want_none rfl) (by intro Wx hSw; (try dsimp only at hSw); go_simp; (try (first | (with_reducible rfl) | assumption | rfl))) ?_
                simp only [Act.put, List.setIfInBounds_toArray, List.set_cons_zero, List.set_cons_succ]
                refine Lex.tree_call fg6 (Lex.want_none rfl) (fun K hK => ?_) ?_
                · go_simp
                  refine (hcg _ hv.hb.bs).mono ?_
                  rintro e ygqb he
                  obtain ⟨t2, s2, b2, rfl, hFgq, hy⟩ := find_vals he
                  clear he
                  have hv := hv.below hy
                  have e1 := cell_belowB hy e1
                  have hB := hB.trans (hy.mono hB.size)
                  have hp := hp.below hy hp.lt
                  clear hy
                  refine hK.out _ _ _ (fun _ h => h) (⟨hv.b.c0, hv.b.c1, hv.b.c2, e1⟩) ?_
                  clear hK K
                  try simp only [Act.put, List.setIfInBounds_toArray, List.set_cons_zero, List.set_cons_succ]
                  refine Lex.tree_take (.tuple #[.agg #[.int .i64 t2, .int .i64 s2], .bool b2]) fg7 (Lex.want_none rfl) (by intro Wx hSw; (try dsimp only at hSw); go_simp; (try (first | (with_reducible rfl) | assumption | rfl))) ?_
                  simp only [Act.put, List.setIfInBounds_toArray, List.set_cons_zero, List.set_cons_succ]
                  refine Lex.tree_take (.agg #[.int .i64 t2, .int .i64 s2]) fg8 (Lex.want_none rfl) (by intro Wx hSw; (try dsimp only at hSw); go_simp; (try (first | (with_reducible rfl) | assumption | rfl))) ?_
                  simp only [Act.put, List.setIfInBounds_toArray, List.set_cons_zero, List.set_cons_succ]
                  refine Lex.tree_take (.bool b2) fg9 (Lex.want_none rfl) (by intro Wx hSw; (try dsimp only at hSw); go_simp; (try (first | (with_reducible rfl) | assumption | rfl))) ?_
                  simp only [Act.put, List.setIfInBounds_toArray, List.set_cons_zero, List.set_cons_succ]
                  refine Lex.tree_call fg10 (Lex.want_none rfl) (fun K hK => ?_) Lex.tree_no
                  go_simp
                  have hlt := World.block_lt_of_cell? _ _ e1
                  have hnew := (Below.refl ygqb.heap.size ygqb).alloc (Nat.le_refl _) (.cells #[.int .i64 0, .int .i64 0] 30)
                  have hp2 := Box2.new ygqb (.int .i64 0) (.int .i64 0) 30
                  have hgqgq := hB.size
                  have hgl := hv.b.lt
                  have hl_hp := hp.lt
                  have hv := hv.newcell (.cells #[.int .i64 0, .int .i64 0] 30)
                  have e1 := cell_belowB hnew e1
                  have hB := hB.trans (hnew.mono hB.size)
                  have hp := hp.below hnew hp.lt
                  clear hnew
                  generalize ygqb.alloc (.cells #[.int .i64 0, .int .i64 0] 30) = zgqa at hv e1 hB hp2 hp ⊢
                  generalize ygqb.heap.size = gq at hlt hp2 hgqgq hgl hv hl_hp ⊢
                  refine hK.out _ _ _ (fun _ h => h) (⟨hv.b.c0, hv.b.c1, hv.b.c2, e1⟩) ?_
                  clear hK K
                  try simp only [Act.put, List.setIfInBounds_toArray, List.set_cons_zero, List.set_cons_succ]
                  refine Lex.tree_call fg11 (Lex.want_none rfl) (fun K hK => ?_) Lex.tree_no
                  have k0 := hp2.c0
                  have k1 := hp2.c1
                  have kf := hp2.f
                  go_simp
                  clear k0 k1 kf
                  have hbar := ((Bar.refl gq zgqa).setCell 0 (.int .i64 t2)).setCell 1 (.int .i64 s2)
                  have hp := hp.bar hbar (by omega)
                  have hp2 := (hp2.set0 (.int .i64 t2)).set1 (.int .i64 s2)
                  have hv := (hv.bar hbar (by omega) (fun h => by have := h.2; omega)).weak (fun _ h => h.1)
                  have e1 := (hbar.cell (p := ⟨b, o + i * 4 + 1, none⟩) (World.block_lt_of_cell? _ _ e1) (by show _ ≠ gq; omega)).trans e1
                  have hB := (hB.setCell (p := ⟨gq, 0, none⟩) hgqgq (.int .i64 t2)).setCell (p := ⟨gq, 1, none⟩) hgqgq (.int .i64 s2)
                  clear hbar
                  generalize ((zgqa.setCell ⟨gq, 0, none⟩ (.int .i64 t2)).setCell ⟨gq, 1, none⟩ (.int .i64 s2)) = sgqzgqa at hv e1 hB hp hp2 ⊢
                  refine hK.out _ _ _ (fun _ h => h) (⟨hv.b.c0, hv.b.c1, hv.b.c2, e1⟩) ?_
                  clear hK K
                  try simp only [Act.put, List.setIfInBounds_toArray, List.set_cons_zero, List.set_cons_succ]
                  refine Lex.tree_take (.bool b2) fg12 (Lex.want_none rfl) (by intro Wx hSw; (try dsimp only at hSw); go_simp; (try (first | (with_reducible rfl) | assumption | rfl))) ?_
                  simp only [Act.put, List.setIfInBounds_toArray, List.set_cons_zero, List.set_cons_succ]
                  refine Lex.tree_end ?_
                  refine NoPanic.normal ?_
                  have hEq : b2 = th ∧ t2 = p ∧ s2 = s := by
                    have h1 := hFgq.out.1
                    have h2 := hFgq.out.2
                    have h3 := HI2.out.2.1
                    have h4 := HI2.out.2.2
                    rw [place_at, HW2.out, h4] at h1
                    rw [← HW2.out, Option.isSome_map, h2] at h3
                    injection h1 with h5 h6
                    exact ⟨h3, h5.symm, h6.symm⟩
                  obtain ⟨rfl, rfl, rfl⟩ := hEq
                  have HV2 := Lib.hid (And.intro hv hB)
                  have hcnt : cntB l i = (fi && b2) := by unfold cntB; rw [HL.out.2.1, HI2.out.1, HK.out]; show (fi && (wantA l xk.data.toList).isSome) = _; rw [HI2.out.2.1]
                  have HN := Lib.hid (num_next l i)
                  rw [hcnt, ← hC.out] at HN
                  have q0 := hp.c0
                  have q1 := hp.c1
                  have r0 := hp2.c0
                  have r1 := hp2.c1
                  clear hv hB hp hp2 hcnt hcg e1
                  cases b2 <;> cases fi
                  · go_wp2
                    go_roundw
                    case rel => exact ⟨i + 1, c1, by omega, by omega, by go_num, rfl, Lib.hid (by rw [HN.out]; rfl), HV2.out.1, HV2.out.2⟩
                    case measure => simp [intOf]; omega
                  · go_wp2
                    go_roundw
                    case rel => exact ⟨i + 1, c1, by omega, by omega, by go_num, rfl, Lib.hid (by rw [HN.out]; rfl), HV2.out.1, HV2.out.2⟩
                    case measure => simp [intOf]; omega
                  · go_wp2
                    go_roundw
                    case rel => exact ⟨i + 1, c1, by omega, by omega, by go_num, rfl, Lib.hid (by rw [HN.out]; rfl), HV2.out.1, HV2.out.2⟩
                    case measure => simp [intOf]; omega
                  · go_wp2
                    go_roundw
                    case rel => exact ⟨i + 1, c1 + 1, by omega, by omega, by go_num, by go_num, Lib.hid (by rw [HN.out]; rfl), HV2.out.1, HV2.out.2⟩
                    case measure => simp [intOf]; omega
                refine Lex.tree_call fg10 (Lex.want_none rfl) (fun K hK => ?_) Lex.tree_no
                go_simp
                have hlt := World.block_lt_of_cell? _ _ e1
                have hnew := (Below.refl wd.heap.size wd).alloc (Nat.le_refl _) (.cells #[.int .i64 0, .int .i64 0] 30)
                have hp2 := Box2.new wd (.int .i64 0) (.int .i64 0) 30
                have hgqgq := hB.size
                have hgl := hv.b.lt
                have hl_hp := hp.lt
                have hv := hv.newcell (.cells #[.int .i64 0, .int .i64 0] 30)
                have e1 := cell_belowB hnew e1
                have hB := hB.trans (hnew.mono hB.size)
                have hp := hp.below hnew hp.lt
                clear hnew
                generalize wd.alloc (.cells #[.int .i64 0, .int .i64 0] 30) = zgqb at hv e1 hB hp2 hp ⊢
                generalize wd.heap.size = gq at hlt hp2 hgqgq hgl hv hl_hp ⊢
                refine hK.out _ _ _ (fun _ h => h) (⟨hv.b.c0, hv.b.c1, hv.b.c2, e1⟩) ?_
                clear hK K
                try simp only [Act.put, List.setIfInBounds_toArray, List.set_cons_zero, List.set_cons_succ]
                refine Lex.tree_call fg6 (Lex.want_none rfl) (fun K hK => ?_) Lex.tree_no
                go_simp
                refine (hcg _ hv.hb.bs).mono ?_
                rintro e ygqa he
                obtain ⟨t2, s2, b2, rfl, hFgq, hy⟩ := find_vals he
                clear he
                have hv := hv.below hy
                have e1 := cell_belowB hy e1
                have hB := hB.trans (hy.mono hB.size)
                have hp := hp.below hy hp.lt
                have hp2 := hp2.below hy hp2.lt
                clear hy
                refine hK.out _ _ _ (fun _ h => h) (⟨hv.b.c0, hv.b.c1, hv.b.c2, e1⟩) ?_
                clear hK K
                try simp only [Act.put, List.setIfInBounds_toArray, List.set_cons_zero, List.set_cons_succ]
                refine Lex.tree_take (.tuple #[.agg #[.int .i64 t2, .int .i64 s2], .bool b2]) fg7 (Lex.want_none rfl) (by intro Wx hSw; (try dsimp only at hSw); go_simp; (try (first | (with_reducible rfl) | assumption | rfl))) ?_
                simp only [Act.put, List.setIfInBounds_toArray, List.set_cons_zero, List.set_cons_succ]
                refine Lex.tree_take (.agg #[.int .i64 t2, .int .i64 s2]) fg8 (Lex.want_none rfl) (by intro Wx hSw; (try dsimp only at hSw); go_simp; (try (first | (with_reducible rfl) | assumption | rfl))) ?_
                simp only [Act.put, List.setIfInBounds_toArray, List.set_cons_zero, List.set_cons_succ]
                refine Lex.tree_take (.bool b2) fg9 (Lex.want_none rfl) (by intro Wx hSw; (try dsimp only at hSw); go_simp; (try (first | (with_reducible rfl) | assumption | rfl))) ?_
                simp only [Act.put, List.setIfInBounds_toArray, List.set_cons_zero, List.set_cons_succ]
                refine Lex.tree_call fg11 (Lex.want_none rfl) (fun K hK => ?_) Lex.tree_no
                have k0 := hp2.c0
                have k1 := hp2.c1
                have kf := hp2.f
                go_simp
                clear k0 k1 kf
                have hbar := ((Bar.refl gq ygqa).setCell 0 (.int .i64 t2)).setCell 1 (.int .i64 s2)
                have hp := hp.bar hbar (by omega)
                have hp2 := (hp2.set0 (.int .i64 t2)).set1 (.int .i64 s2)
                have hv := (hv.bar hbar (by omega) (fun h => by have := h.2; omega)).weak (fun _ h => h.1)
                have e1 := (hbar.cell (p := ⟨b, o + i * 4 + 1, none⟩) (World.block_lt_of_cell? _ _ e1) (by show _ ≠ gq; omega)).trans e1
                have hB := (hB.setCell (p := ⟨gq, 0, none⟩) hgqgq (.int .i64 t2)).setCell (p := ⟨gq, 1, none⟩) hgqgq (.int .i64 s2)
                clear hbar
                generalize ((ygqa.setCell ⟨gq, 0, none⟩ (.int .i64 t2)).setCell ⟨gq, 1, none⟩ (.int .i64 s2)) = sgqygqa at hv e1 hB hp hp2 ⊢
                refine hK.out _ _ _ (fun _ h => h) (⟨hv.b.c0, hv.b.c1, hv.b.c2, e1⟩) ?_
                clear hK K
                try simp only [Act.put, List.setIfInBounds_toArray, List.set_cons_zero, List.set_cons_succ]
                refine Lex.tree_take (.bool b2) fg12 (Lex.want_none rfl) (by intro Wx hSw; (try dsimp only at hSw); go_simp; (try (first | (with_reducible rfl) | assumption | rfl))) ?_
                simp only [Act.put, List.setIfInBounds_toArray, List.set_cons_zero, List.set_cons_succ]
                refine Lex.tree_end ?_
                refine NoPanic.normal ?_
                have hEq : b2 = th ∧ t2 = p ∧ s2 = s := by
                  have h1 := hFgq.out.1
                  have h2 := hFgq.out.2
                  have h3 := HI2.out.2.1
                  have h4 := HI2.out.2.2
                  rw [place_at, HW2.out, h4] at h1
                  rw [← HW2.out, Option.isSome_map, h2] at h3
                  injection h1 with h5 h6
                  exact ⟨h3, h5.symm, h6.symm⟩
                obtain ⟨rfl, rfl, rfl⟩ := hEq
                have HV2 := Lib.hid (And.intro hv hB)
                have hcnt : cntB l i = (fi && b2) := by unfold cntB; rw [HL.out.2.1, HI2.out.1, HK.out]; show (fi && (wantA l xk.data.toList).isSome) = _; rw [HI2.out.2.1]
                have HN := Lib.hid (num_next l i)
                rw [hcnt, ← hC.out] at HN
                have q0 := hp.c0
                have q1 := hp.c1
                have r0 := hp2.c0
                have r1 := hp2.c1
                clear hv hB hp hp2 hcnt hcg e1
                cases b2 <;> cases fi
                · go_wp2
                  go_roundw
                  case rel => exact ⟨i + 1, c1, by omega, by omega, by go_num, rfl, Lib.hid (by rw [HN.out]; rfl), HV2.out.1, HV2.out.2⟩
                  case measure => simp [intOf]; omega
                · go_wp2
                  go_roundw
                  case rel => exact ⟨i + 1, c1, by omega, by omega, by go_num, rfl, Lib.hid (by rw [HN.out]; rfl), HV2.out.1, HV2.out.2⟩
                  case measure => simp [intOf]; omega
                · go_wp2
                  go_roundw
                  case rel => exact ⟨i + 1, c1, by omega, by omega, by go_num, rfl, Lib.hid (by rw [HN.out]; rfl), HV2.out.1, HV2.out.2⟩
                  case measure => simp [intOf]; omega
                · go_wp2
                  go_roundw
                  case rel => exact ⟨i + 1, c1 + 1, by omega, by omega, by go_num, by go_num, Lib.hid (by rw [HN.out]; rfl), HV2.out.1, HV2.out.2⟩
                  case measure => simp [intOf]; omega
          · obtain rfl : n = i := by omega
            have hcn : c1 = countH h := by rw [hC.out, HR.out, ← num_count, HL.out.2.1]
            have hfo := HID.out.four
            rw [hv.hn] at hfo
            have hm9 : m ≤ 201 := by have := HID.out.len; have := hv.hn; omega
            have hcr := fun W (hW : HasBsX W (fun b => b ≠ g) A h.bs) => may_set (w := W) HID.out (by omega) hW.bs hv.hn hv.hc
            have hcc := fun W (hW : HasBsX W (fun b => b ≠ g) A h.bs) => count_any (w := W) HID.out (by omega) hW.bs hv.hn hv.hc
            rw [← hcn] at hcc hfo
            have hz : IntKind.i64.wrap (4 * (m : Int)) = 4 * (m : Int) := IntWalk.i64_in _ (by omega)
            have hle : (c1 : Int) ≤ 4 * (m : Int) := by omega
            clear hcn hfo hC
            go_wp2_with fail
            refine (awake_any _).mono ?_
            rintro e y1 ⟨rfl, hy⟩
            have hv := hv.below hy
            have hB := hB.trans (hy.mono hB.size)
            have c0 := hv.b.c0
            have c1' := hv.b.c1
            have c2 := hv.b.c2
            clear hy
            go_wp2_with fail
            refine (hcr _ hv.hb).mono ?_
            rintro e y2 ⟨rfl, hy⟩
            have hv := hv.below hy
            have hB := hB.trans (hy.mono hB.size)
            clear hy c0 c1' c2 hcr
            have c0 := hv.b.c0
            have c1' := hv.b.c1
            have c2 := hv.b.c2
            go_wp2_with fail
            refine (hcc _ hv.hb).mono ?_
            rintro e y3 ⟨rfl, hy⟩
            have hv := hv.below hy
            have hB := hB.trans (hy.mono hB.size)
            clear hy c0 c1' c2 hcc
            have c2 := hv.b.c2
            go_wp2
            go_ret
            exact ⟨rfl, hB⟩
end
end Go.Proofs.Ytocmkjccaajnnaa.Ha
