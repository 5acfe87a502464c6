/- HashHalves, walked. -/
import Derived.Test.YtocmkjccaajnnaaMgR
import Derived.Test.YtocmkjccaajnnaaMgZ
namespace Go.Proofs.Ytocmkjccaajnnaa.Ha
open Go.RowKit Pac Bu Ls Lex Go.Proofs.Ytocmkjccaajnnaa.Or

section
variable {A0 : Option Addr} {n cp : Nat} {l : List Ac} {w : World}
set_option maxRecDepth 20000 in
set_option maxHeartbeats 12800000 in
theorem halves_any (u : Nat) (hl : HasA w 0 A0 l) (hn : l.length = n) (h9 : n ≤ 9223372036854775807) (hu : u ≤ 255) :
    Calls Try.prog 6 #[.slice A0 n cp, .int .u8 u] w fun e w' => e = .returned (.bool true) ∧ Below w.heap.size w w' := by
  have hcs := small_any (cp := cp) 0 60 hl hn h9 (by omega)
  have HL := Lib.hid (And.intro hl hn)
  clear hl hn
  go_enter Try.func6, Try.ntmps6
  go_wp2_with fail
  refine hcs.mono ?_
  rintro e w1 ⟨b, rfl, hb, h1⟩
  clear hcs
  cases b
  · clear hb
    go_wp2_with fail
    refine (awake_any w1).mono ?_
    rintro e w2 ⟨rfl, h2⟩
    go_wp2
    go_ret
    exact ⟨rfl, h1.trans (h2.mono h1.size)⟩
  · have hsm := hb.1 rfl
    have hn60 : n ≤ 60 := by have := hsm.len; rw [HL.out.2] at this; exact this
    have HS := Lib.hid hsm
    clear hb hsm
    go_wp2_with fail
    refine (new_any w1).mono ?_
    rintro e w2 ⟨A, n0, cp0, rfl, hnn, hcc, hbs, hB⟩
    have hB := h1.trans (hB.mono h1.size)
    obtain ⟨g, hg⟩ : ∃ g, w2.heap.size = g := ⟨_, rfl⟩
    have hgw : w.heap.size ≤ g := by rw [← hg]; exact hB.size
    have hbs : HasBsX w2 (fun b => b ≠ g) A newH.bs := hbs.lt.mono (fun b h => by have := h.2; omega)
    have hv := VarH.new hnn hcc hbs
    have hB2 := hB.alloc hB.size (.cells #[.int .i64 (newH.lv : Nat), .int .i64 (newH.nx : Nat), .slice A n0 cp0] 27)
    obtain ⟨h0, hh0⟩ : ∃ h0, newH = h0 := ⟨_, rfl⟩
    have HH0 := Lib.hid (show h0 = putsA (l.take 0) by rw [← hh0, List.take_zero]; rfl)
    rw [hh0] at hv hB2
    rw [hg] at hv
    clear hnn hcc hbs hB h1
    go_wp2
    clear hh0 hg
    generalize w2.alloc (.cells #[.int .i64 (h0.lv : Nat), .int .i64 (h0.nx : Nat), .slice A n0 cp0] 27) = w3 at hv hB2 ⊢
    have HGW := Lib.hid hgw
    clear hgw
    go_loopw [6] (fun i wr => ∃ (q : Nat) (h : H) (A : Option Addr) (m c : Nat), q ≤ n ∧ i = .int .i64 q ∧ Hid (h = putsA (l.take q)) ∧ VarH wr g (fun b => b ≠ g) h A m c ∧ Below w.heap.size w wr) (fun i _ => n - (intOf i).toNat)
    case atStart => exact ⟨0, h0, A, n0, cp0, Nat.zero_le _, rfl, HH0, hv, hB2⟩
    case round =>
      clear hv hB2 HH0
      obtain ⟨q, h, A, m, c, hq, rfl, hH, hv, hB⟩ := hrel
      by_cases hlt : q < n
      · have hgt := List.getElem?_eq_getElem (l := l) (i := q) (by rw [HL.out.2]; exact hlt)
        generalize (l[q]'(by rw [HL.out.2]; exact hlt)) = x at hgt
        obtain ⟨b, o, rfl, _, hlb, d0, d1, d2, d3⟩ := HasA.at (HL.out.1.below hB (Nat.le_refl _)) hgt
        have hid : Idx spread h q := by rw [hH.out]; exact Idx.puts HS.out.fine q (by rw [HL.out.2]; exact hq) (by omega)
        have hfx := HS.out.fine _ (List.mem_of_getElem? hgt)
        have hnext : Hid (putH spread h x.e = putsA (l.take (q + 1))) := Lib.hid (by rw [puts_take hgt, hH.out])
        obtain ⟨ak, ek, et, es⟩ := x
        simp only at d0 d1 d2 d3
        have i1 : (q : Int) < (n : Int) := by omega
        have i0 : (0 : Int) ≤ (q : Int) := by omega
        have c0 := hv.b.c0
        have c1 := hv.b.c1
        have c2 := hv.b.c2
        have cf := hv.b.f
        obtain ⟨h', hh'⟩ : ∃ h', putH spread h ⟨ek, et, es⟩ = h' := ⟨_, rfl⟩
        have HH' : Hid (h' = putsA (l.take (q + 1))) := Lib.hid (by rw [← hh']; exact hnext.out)
        have hcall := fun W (hW : HasBsX W (fun b => b ≠ g) A h.bs) => put_any (w := W) (fun b => b ≠ g) hid (by omega) hW hv.hn hv.hc ek et es hfx
        rw [hh'] at hcall
        clear hgt hnext hid hh' hfx
        have hdr := (Below.refl wr.heap.size wr).drew
        go_wp2_with fail
        refine Lex.region_last (ops := fvraw) (ops1 := fvops) (calls := fvcalls) 12 _ fvord (fun W => W.cell? ⟨g, 0, none⟩ = some (.int .i64 (h.lv : Nat)) ∧ W.cell? ⟨g, 1, none⟩ = some (.int .i64 (h.nx : Nat)) ∧ W.cell? ⟨g, 2, none⟩ = some (.slice A m c) ∧ W.cell? ⟨b, o + q * 4 + 1, none⟩ = some (.string ek) ∧ W.cell? ⟨b, o + q * 4 + 2, none⟩ = some (.int .i64 et) ∧ W.cell? ⟨b, o + q * 4 + 3, none⟩ = some (.int .i64 es)) (by kernel_rfl) fveq fvlast rfl rfl (by kernel_rfl) (by kernel_rfl) (by kernel_rfl) (by kernel_rfl) fvsel (by kernel_rfl) (by kernel_rfl) fvlex (⟨cell_belowB hdr c0, cell_belowB hdr c1, cell_belowB hdr c2, cell_belowB hdr d1, cell_belowB hdr d2, cell_belowB hdr d3⟩) ?_
        unfold fvord
        have c0 := cell_belowB hdr c0
        have c1 := cell_belowB hdr c1
        have c2 := cell_belowB hdr c2
        have d1 := cell_belowB hdr d1
        have d2 := cell_belowB hdr d2
        have d3 := cell_belowB hdr d3
        have hv := hv.below hdr
        have hB := hB.trans (hdr.mono hB.size)
        clear hdr
        refine Lex.step_take (.agg #[.int .i64 (h.lv : Nat), .int .i64 (h.nx : Nat), .slice A m c]) fv0 rfl (Lex.want_none rfl) (by intro Wx hSw; (try dsimp only at hSw); go_simp; (try (first | (with_reducible rfl) | assumption | rfl))) ?_
        simp only [Act.put, List.setIfInBounds_toArray, List.set_cons_zero, List.set_cons_succ]
        refine Lex.step_take (.slice (some ⟨b, o, none⟩) n cp) fv1 rfl (Lex.want_none rfl) (by intro Wx hSw; (try dsimp only at hSw); go_simp; (try (first | (with_reducible rfl) | assumption | rfl))) ?_
        simp only [Act.put, List.setIfInBounds_toArray, List.set_cons_zero, List.set_cons_succ]
        refine Lex.step_take (.int .i64 q) fv2 rfl (Lex.want_none rfl) (by intro Wx hSw; (try dsimp only at hSw); go_simp; (try (first | (with_reducible rfl) | assumption | rfl))) ?_
        simp only [Act.put, List.setIfInBounds_toArray, List.set_cons_zero, List.set_cons_succ]
        refine Lex.step_take (.pointer (some ⟨b, o + q * 4, none⟩)) fv3 rfl (Lex.want_none rfl) (by intro Wx hSw; (try dsimp only at hSw); go_simp; (try (first | (with_reducible rfl) | assumption | rfl))) ?_
        simp only [Act.put, List.setIfInBounds_toArray, List.set_cons_zero, List.set_cons_succ]
        refine Lex.step_take (.pointer (some ⟨b, o + q * 4 + 1, none⟩)) fv4 rfl (Lex.want_none rfl) (by intro Wx hSw; (try dsimp only at hSw); go_simp; (try (first | (with_reducible rfl) | assumption | rfl))) ?_
        simp only [Act.put, List.setIfInBounds_toArray, List.set_cons_zero, List.set_cons_succ]
        refine Lex.step_take (.string ek) fv5 rfl (Lex.want_none rfl) (by intro Wx hSw; (try dsimp only at hSw); go_simp; (try (first | (with_reducible rfl) | assumption | rfl))) ?_
        simp only [Act.put, List.setIfInBounds_toArray, List.set_cons_zero, List.set_cons_succ]
        refine Lex.step_take (.slice (some ⟨b, o, none⟩) n cp) fv6 rfl (Lex.want_none rfl) (by intro Wx hSw; (try dsimp only at hSw); go_simp; (try (first | (with_reducible rfl) | assumption | rfl))) ?_
        simp only [Act.put, List.setIfInBounds_toArray, List.set_cons_zero, List.set_cons_succ]
        refine Lex.step_take (.int .i64 q) fv7 rfl (Lex.want_none rfl) (by intro Wx hSw; (try dsimp only at hSw); go_simp; (try (first | (with_reducible rfl) | assumption | rfl))) ?_
        simp only [Act.put, List.setIfInBounds_toArray, List.set_cons_zero, List.set_cons_succ]
        refine Lex.step_take (.pointer (some ⟨b, o + q * 4, none⟩)) fv8 rfl (Lex.want_none rfl) (by intro Wx hSw; (try dsimp only at hSw); go_simp; (try (first | (with_reducible rfl) | assumption | rfl))) ?_
        simp only [Act.put, List.setIfInBounds_toArray, List.set_cons_zero, List.set_cons_succ]
        refine Lex.step_take (.pointer (some ⟨b, o + q * 4 + 2, none⟩)) fv9 rfl (Lex.want_none rfl) (by intro Wx hSw; (try dsimp only at hSw); go_simp; (try (first | (with_reducible rfl) | assumption | rfl))) ?_
        simp only [Act.put, List.setIfInBounds_toArray, List.set_cons_zero, List.set_cons_succ]
        refine Lex.step_take (.agg #[.int .i64 et, .int .i64 es]) fv10 rfl (Lex.want_none rfl) (by intro Wx hSw; (try dsimp only at hSw); go_simp; (try (first | (with_reducible rfl) | assumption | rfl))) ?_
        simp only [Act.put, List.setIfInBounds_toArray, List.set_cons_zero, List.set_cons_succ]
        refine Lex.step_call fv11 rfl (Lex.want_none rfl) (fun K hK => ?_)
        go_simp
        refine (hcall _ hv.hb).mono ?_
        rintro e w3 ⟨A', n', cp', rfl, hn', hc', hb', hB'⟩
        have c0 := cell_belowB hB' c0
        have c1 := cell_belowB hB' c1
        have c2 := cell_belowB hB' c2
        have d1 := cell_belowB hB' d1
        have d2 := cell_belowB hB' d2
        have d3 := cell_belowB hB' d3
        have hx := hv.b.below hB' hv.b.lt
        have hgl := hv.b.lt
        have hb' : HasBsX w3 (fun b => b ≠ g) A' h'.bs := hash_x hb' (fun b h => by omega)
        have hv' := VarH.store hx hn' hc' hb' (fun h => h rfl)
        have hB3 := store3_below (hB.trans (hB'.mono hB.size)) HGW.out (.int .i64 (h'.lv : Nat)) (.int .i64 (h'.nx : Nat)) (.slice A' n' cp')
        have HV := Lib.hid (And.intro hv' hB3)
        clear hcall hv hB hv' hB3 hB' hb' hn' hc' hgl
        refine hK.out _ _ _ (fun _ h => h) ⟨c0, c1, c2, d1, d2, d3⟩ ?_
        clear hK K
        try simp only [Act.put, List.setIfInBounds_toArray, List.set_cons_zero, List.set_cons_succ]
        refine Lex.step_take (.bool true) fv12 rfl (Lex.want_none rfl) (by intro Wx hSw; (try dsimp only at hSw); go_simp; (try (first | (with_reducible rfl) | assumption | rfl))) ?_
        simp only [Act.put, List.setIfInBounds_toArray, List.set_cons_zero, List.set_cons_succ]
        have c0 := hx.c0
        have c1 := hx.c1
        have c2 := hx.c2
        have cf := hx.f
        clear hx
        refine Lex.last_op fvlast rfl (fun K hK => ?_)
        go_simp
        refine hK.out _ _ ?_
        clear hK K
        clear d0 d1 d2 d3 c0 c1 c2 cf
        go_wp2
        go_roundw
        case rel => exact ⟨q + 1, h', A', n', cp', by omega, by go_num, HH', HV.out.1, HV.out.2⟩
        case measure => simp [intOf]; omega
      · obtain rfl : n = q := by omega
        have hfull : l.take n = l := List.take_of_length_le (by rw [HL.out.2]; exact Nat.le_refl _)
        have hid : Idx spread h n := by rw [hH.out]; exact Idx.puts HS.out.fine n (by rw [HL.out.2]; exact Nat.le_refl _) (by omega)
        have HHS : Hid (∀ a ∈ l, hasK h a.e.k) := Lib.hid (fun a ha => by
          rw [hH.out, puts_has HS.out.fine n (by rw [HL.out.2]; exact Nat.le_refl _) (by omega)]
          exact ⟨a, by rw [hfull]; exact ha, rfl⟩)
        have HID := Lib.hid hid
        have c0 := hv.b.c0
        have c1 := hv.b.c1
        have c2 := hv.b.c2
        obtain ⟨gx, hgx⟩ : ∃ gx, wr.heap.size = gx := ⟨_, rfl⟩
        have hgw : g < gx := by rw [← hgx]; exact hv.b.lt
        have hv := hv.lt
        have hx := VarH.new hv.hn hv.hc hv.hb
        have hnew := (Below.refl wr.heap.size wr).alloc (Nat.le_refl _) (.cells #[.int .i64 (h.lv : Nat), .int .i64 (h.nx : Nat), .slice A m c] 27)
        have hv := hv.below hnew
        have hB := hB.trans (hnew.mono hB.size)
        rw [hgx] at hv hx
        have hv := hv.weak (Y := fun b => b ≠ g ∧ b ≠ gx) (fun b h => ⟨h.1, by have := h.2; omega⟩)
        have hx := hx.weak (Y := fun b => b ≠ g ∧ b ≠ gx) (fun b h => ⟨h.1, by have := h.2; omega⟩)
        have HGX := Lib.hid (And.intro hgw (show w.heap.size ≤ gx by have := HGW.out; omega))
        obtain ⟨T, hT⟩ : ∃ T, u % 40 = T := ⟨_, rfl⟩
        have z1 : (u : Int) % 40 = (T : Int) := by omega
        have hT39 : T ≤ 39 := by omega
        clear hfull hid hH hq hlt hnew hgw hT
        go_wp2
        clear c0 c1 c2 hgx
        generalize wr.alloc (.cells #[.int .i64 (h.lv : Nat), .int .i64 (h.nx : Nat), .slice A m c] 27) = wb at hv hx hB ⊢
        go_loopw [8] (fun s8 wx => ∃ (k : Nat) (x : H) (Ax : Option Addr) (mx cx : Nat), k ≤ T ∧ s8 = .int .i64 k ∧ Hid (x = halves k h) ∧ VarH wx gx (fun b => b ≠ g ∧ b ≠ gx) x Ax mx cx ∧ VarH wx g (fun b => b ≠ g ∧ b ≠ gx) h A m c ∧ Below w.heap.size w wx) (fun s8 _ => T - (intOf s8).toNat)
        case atStart => exact ⟨0, h, A, m, c, Nat.zero_le _, rfl, Lib.hid rfl, hx, hv, hB⟩
        case round =>
          clear hv hx hB
          rename World => wx
          obtain ⟨k, x, Ax, mx, cx, hk, rfl, hX, hx, hv, hB⟩ := hrel
          by_cases hlt : k < T
          · have hix : Idx spread x (n + k) := by rw [hX.out]; exact Idx.halves HID.out k (by omega)
            have hcall := halve_any (fun b => b ≠ g ∧ b ≠ gx) hix (by omega) hx.hb hx.hn hx.hc
            obtain ⟨x', hx'⟩ : ∃ x', halveH spread x = x' := ⟨_, rfl⟩
            have HX' : Hid (x' = halves (k + 1) h) := Lib.hid (by rw [← hx', hX.out]; rfl)
            rw [hx'] at hcall
            have i1 : (k : Int) < (T : Int) := by omega
            have x0 := hx.b.c0
            have x1 := hx.b.c1
            have x2 := hx.b.c2
            clear hix hx'
            go_wp2_with fail
            refine hcall.mono ?_
            rintro e w4 ⟨A', n', cp', rfl, hn', hc', hb', hB'⟩
            have hgl := hx.b.lt
            have hbx := hx.b.below hB' hx.b.lt
            have hv := hv.below hB'
            have hb' : HasBsX w4 (fun b => b ≠ g ∧ b ≠ gx) A' x'.bs := hash_x hb' (fun b h => by have := HGX.out.1; omega)
            have hx2 := VarH.store hbx hn' hc' hb' (fun h => h.2 rfl)
            have hv2 := hv.other (g' := gx) (by have := HGX.out.1; omega) (fun h => h.2 rfl) (.int .i64 (x'.lv : Nat)) (.int .i64 (x'.nx : Nat)) (.slice A' n' cp')
            have hB3 := store3_below (hB.trans (hB'.mono hB.size)) HGX.out.2 (.int .i64 (x'.lv : Nat)) (.int .i64 (x'.nx : Nat)) (.slice A' n' cp')
            have HV := Lib.hid (And.intro hx2 (And.intro hv2 hB3))
            clear hcall hv hB hx hx2 hv2 hB3 hB' hb' hn' hc' hgl x0 x1 x2
            have x0 := hbx.c0
            have x1 := hbx.c1
            have x2 := hbx.c2
            have xf := hbx.f
            clear hbx
            go_wp2
            go_roundw
            case rel => exact ⟨k + 1, x', A', n', cp', by omega, by go_num, HX', HV.out.1, HV.out.2.1, HV.out.2.2⟩
            case measure => simp [intOf]; omega
          · obtain rfl : T = k := by omega
            have hix : Idx spread x (n + T) := by rw [hX.out]; exact Idx.halves HID.out T (by omega)
            have HXI := Lib.hid hix
            have HXL : Hid (mx = m + T) := Lib.hid (by rw [← hx.hn, ← hv.hn, hX.out]; exact halves_len HID.out T (by omega))
            have HXC : Hid (countH x = countH h) := Lib.hid (by rw [hX.out]; exact halves_count HID.out T (by omega))
            have HXG : Hid (∀ key, getH spread x key = getH spread h key) := Lib.hid (fun key => by rw [hX.out]; exact halves_get HID.out key T (by omega))
            clear hix hX hk hlt
            go_wp2
            go_loopw [9, 10, 11, 12, 13] (fun s9 _ _ _ _ wy => ∃ i : Nat, i ≤ n ∧ s9 = .int .i64 i ∧ VarH wy gx (fun b => b ≠ g ∧ b ≠ gx) x Ax mx cx ∧ VarH wy g (fun b => b ≠ g ∧ b ≠ gx) h A m c ∧ Below w.heap.size w wy) (fun s9 _ _ _ _ _ => n - (intOf s9).toNat)
            case atStart => exact ⟨0, Nat.zero_le _, rfl, hx, hv, hB⟩
            case round =>
              clear hv hx hB
              rename World => wy
              obtain ⟨i, hi, rfl, hx, hv, hB⟩ := hrel
              by_cases hlt : i < n
              · have hgt := List.getElem?_eq_getElem (l := l) (i := i) (by rw [HL.out.2]; exact hlt)
                generalize (l[i]'(by rw [HL.out.2]; exact hlt)) = y at hgt
                obtain ⟨b, o, rfl, _, hlb, _, e1, _, _⟩ := HasA.at (HL.out.1.below hB (Nat.le_refl _)) hgt
                have hfx := HS.out.fine _ (List.mem_of_getElem? hgt)
                have hhas := HHS.out _ (List.mem_of_getElem? hgt)
                obtain ⟨ak, yk, et, es⟩ := y
                simp only at e1
                have hsz : yk.size ≤ 200 := Nat.le_trans hfx.1 (by omega)
                have HSM : Hid ((getH spread h yk.data.toList).isSome = true) := Lib.hid (HID.out.is.has_get.1 hhas)
                have hcg := fun W (hW : HasBs W 0 A h.bs) => get_any (w := W) HID.out (by omega) hW hv.hn hv.hc yk hsz
                have hcx := fun W (hW : HasBs W 0 Ax x.bs) => get_any (w := W) HXI.out (by omega) hW hx.hn hx.hc yk hsz
                rw [HXG.out] at hcx
                have i1 : (i : Int) < (n : Int) := by omega
                have i0 : (0 : Int) ≤ (i : Int) := by omega
                have c0 := hv.b.c0
                have c1 := hv.b.c1
                have c2 := hv.b.c2
                clear hgt hfx hhas
                go_wp2_with fail
                clear c0 c1 c2
                have hdr := (Below.refl wy.heap.size wy).drew
                have hv := hv.below hdr
                have hx := hx.below hdr
                have hB := hB.trans (hdr.mono hB.size)
                have e1 := cell_belowB hdr e1
                refine Lex.region_tree (ops := fxops) fxtree (fun W => W.cell? ⟨g, 0, none⟩ = some (.int .i64 (h.lv : Nat)) ∧ W.cell? ⟨g, 1, none⟩ = some (.int .i64 (h.nx : Nat)) ∧ W.cell? ⟨g, 2, none⟩ = some (.slice A m c) ∧ W.cell? ⟨b, o + i * 4 + 1, none⟩ = some (.string yk)) (by kernel_rfl) (by kernel_rfl) fxsel fxlex (⟨hv.b.c0, hv.b.c1, hv.b.c2, e1⟩) ?_
                unfold fxtree
                clear hdr
                generalize wy.drew = wd at hv hx hB e1 ⊢
                refine Lex.tree_take (.agg #[.int .i64 (h.lv : Nat), .int .i64 (h.nx : Nat), .slice A m c]) fx0 (Lex.want_none rfl) (by intro Wx hSw; (try dsimp only at hSw); go_simp; (try (first | (with_reducible rfl) | assumption | rfl))) ?_
                simp only [Act.put, List.setIfInBounds_toArray, List.set_cons_zero, List.set_cons_succ]
                refine Lex.tree_take (.slice (some ⟨b, o, none⟩) n cp) fx1 (Lex.want_none rfl) (by intro Wx hSw; (try dsimp only at hSw); go_simp; (try (first | (with_reducible rfl) | assumption | rfl))) ?_
                simp only [Act.put, List.setIfInBounds_toArray, List.set_cons_zero, List.set_cons_succ]
                refine Lex.tree_take (.int .i64 i) fx2 (Lex.want_none rfl) (by intro Wx hSw; (try dsimp only at hSw); go_simp; (try (first | (with_reducible rfl) | assumption | rfl))) ?_
                simp only [Act.put, List.setIfInBounds_toArray, List.set_cons_zero, List.set_cons_succ]
                refine Lex.tree_take (.pointer (some ⟨b, o + i * 4, none⟩)) fx3 (Lex.want_none rfl) (by intro Wx hSw; (try dsimp only at hSw); go_simp; (try (first | (with_reducible rfl) | assumption | rfl))) ?_
                simp only [Act.put, List.setIfInBounds_toArray, List.set_cons_zero, List.set_cons_succ]
                refine Lex.tree_take (.pointer (some ⟨b, o + i * 4 + 1, none⟩)) fx4 (Lex.want_none rfl) (by intro Wx hSw; (try dsimp only at hSw); go_simp; (try (first | (with_reducible rfl) | assumption | rfl))) ?_
                simp only [Act.put, List.setIfInBounds_toArray, List.set_cons_zero, List.set_cons_succ]
                refine Lex.tree_take (.string yk) fx5 (Lex.want_none rfl) (by intro Wx hSw; (try dsimp only at hSw); go_simp; (try (first | (with_reducible rfl) | assumption | rfl))) ?_
                simp only [Act.put, List.setIfInBounds_toArray, List.set_cons_zero, List.set_cons_succ]
                refine Lex.tree_call fx6 (Lex.want_none rfl) (fun K hK => ?_) ?_
                · go_simp
                  refine (hcg _ hv.hb.bs).mono ?_
                  rintro e ygab he
                  obtain ⟨pa, qa, ba, rfl, hFga, hy⟩ := find_vals he
                  clear he
                  have hv := hv.below hy
                  have e1 := cell_belowB hy e1
                  have hB := hB.trans (hy.mono hB.size)
                  have hx := hx.below hy
                  clear hy
                  refine hK.out _ _ _ (fun _ h => h) (⟨hv.b.c0, hv.b.c1, hv.b.c2, e1⟩) ?_
                  clear hK K
                  try simp only [Act.put, List.setIfInBounds_toArray, List.set_cons_zero, List.set_cons_succ]
                  refine Lex.tree_take (.tuple #[.agg #[.int .i64 pa, .int .i64 qa], .bool ba]) fx7 (Lex.want_none rfl) (by intro Wx hSw; (try dsimp only at hSw); go_simp; (try (first | (with_reducible rfl) | assumption | rfl))) ?_
                  simp only [Act.put, List.setIfInBounds_toArray, List.set_cons_zero, List.set_cons_succ]
                  refine Lex.tree_take (.agg #[.int .i64 pa, .int .i64 qa]) fx8 (Lex.want_none rfl) (by intro Wx hSw; (try dsimp only at hSw); go_simp; (try (first | (with_reducible rfl) | assumption | rfl))) ?_
                  simp only [Act.put, List.setIfInBounds_toArray, List.set_cons_zero, List.set_cons_succ]
                  refine Lex.tree_take (.bool ba) fx9 (Lex.want_none rfl) (by intro Wx hSw; (try dsimp only at hSw); go_simp; (try (first | (with_reducible rfl) | assumption | rfl))) ?_
                  simp only [Act.put, List.setIfInBounds_toArray, List.set_cons_zero, List.set_cons_succ]
                  refine Lex.tree_call fx10 (Lex.want_none rfl) (fun K hK => ?_) Lex.tree_no
                  go_simp
                  have hlt := World.block_lt_of_cell? _ _ e1
                  have hnew := (Below.refl ygab.heap.size ygab).alloc (Nat.le_refl _) (.cells #[.int .i64 0, .int .i64 0] 30)
                  have hpa := Box2.new ygab (.int .i64 0) (.int .i64 0) 30
                  have hgqga := hB.size
                  have hgl := hv.b.lt
                  have hl_hx := hx.b.lt
                  have hv := hv.newcell (.cells #[.int .i64 0, .int .i64 0] 30)
                  have e1 := cell_belowB hnew e1
                  have hB := hB.trans (hnew.mono hB.size)
                  have hx := hx.newcell (.cells #[.int .i64 0, .int .i64 0] 30)
                  clear hnew
                  generalize ygab.alloc (.cells #[.int .i64 0, .int .i64 0] 30) = zgaa at hv e1 hB hpa hx ⊢
                  generalize ygab.heap.size = ga at hlt hpa hgqga hgl hv hl_hx hx ⊢
                  refine hK.out _ _ _ (fun _ h => h) (⟨hv.b.c0, hv.b.c1, hv.b.c2, e1⟩) ?_
                  clear hK K
                  try simp only [Act.put, List.setIfInBounds_toArray, List.set_cons_zero, List.set_cons_succ]
                  refine Lex.tree_call fx11 (Lex.want_none rfl) (fun K hK => ?_) Lex.tree_no
                  have k0 := hpa.c0
                  have k1 := hpa.c1
                  have kf := hpa.f
                  go_simp
                  clear k0 k1 kf
                  have hbar := ((Bar.refl ga zgaa).setCell 0 (.int .i64 pa)).setCell 1 (.int .i64 qa)
                  have hx := (hx.bar hbar (by omega) (fun h => by have := h.2; omega)).weak (fun _ h => h.1)
                  have hpa := (hpa.set0 (.int .i64 pa)).set1 (.int .i64 qa)
                  have hv := (hv.bar hbar (by omega) (fun h => by have := h.2; omega)).weak (fun _ h => h.1)
                  have e1 := (hbar.cell (p := ⟨b, o + i * 4 + 1, none⟩) (World.block_lt_of_cell? _ _ e1) (by show _ ≠ ga; omega)).trans e1
                  have hB := (hB.setCell (p := ⟨ga, 0, none⟩) hgqga (.int .i64 pa)).setCell (p := ⟨ga, 1, none⟩) hgqga (.int .i64 qa)
                  clear hbar
                  generalize ((zgaa.setCell ⟨ga, 0, none⟩ (.int .i64 pa)).setCell ⟨ga, 1, none⟩ (.int .i64 qa)) = sgazgaa at hv e1 hB hx hpa ⊢
                  refine hK.out _ _ _ (fun _ h => h) (⟨hv.b.c0, hv.b.c1, hv.b.c2, e1⟩) ?_
                  clear hK K
                  try simp only [Act.put, List.setIfInBounds_toArray, List.set_cons_zero, List.set_cons_succ]
                  refine Lex.tree_take (.bool ba) fx12 (Lex.want_none rfl) (by intro Wx hSw; (try dsimp only at hSw); go_simp; (try (first | (with_reducible rfl) | assumption | rfl))) ?_
                  simp only [Act.put, List.setIfInBounds_toArray, List.set_cons_zero, List.set_cons_succ]
                  refine Lex.tree_end ?_
                  refine NoPanic.normal ?_
                  have c0 := hx.b.c0
                  have c1 := hx.b.c1
                  have c2 := hx.b.c2
                  go_wp2_with fail
                  clear c0 c1 c2
                  have hdr := (Below.refl sgazgaa.heap.size sgazgaa).drew
                  have hv := hv.below hdr
                  have hx := hx.below hdr
                  have hpa := hpa.below hdr hpa.lt
                  have hB := hB.trans (hdr.mono hB.size)
                  have e1 := cell_belowB hdr e1
                  refine Lex.region_tree (ops := fyops) fytree (fun W => W.cell? ⟨gx, 0, none⟩ = some (.int .i64 (x.lv : Nat)) ∧ W.cell? ⟨gx, 1, none⟩ = some (.int .i64 (x.nx : Nat)) ∧ W.cell? ⟨gx, 2, none⟩ = some (.slice Ax mx cx) ∧ W.cell? ⟨b, o + i * 4 + 1, none⟩ = some (.string yk)) (by kernel_rfl) (by kernel_rfl) fysel fylex (⟨hx.b.c0, hx.b.c1, hx.b.c2, e1⟩) ?_
                  unfold fytree
                  clear hdr
                  generalize sgazgaa.drew = we at hv hx hpa hB e1 ⊢
                  refine Lex.tree_take (.agg #[.int .i64 (x.lv : Nat), .int .i64 (x.nx : Nat), .slice Ax mx cx]) fy0 (Lex.want_none rfl) (by intro Wx hSw; (try dsimp only at hSw); go_simp; (try (first | (with_reducible rfl) | assumption | rfl))) ?_
                  simp only [Act.put, List.setIfInBounds_toArray, List.set_cons_zero, List.set_cons_succ]
                  refine Lex.tree_take (.slice (some ⟨b, o, none⟩) n cp) fy1 (Lex.want_none rfl) (by intro Wx hSw; (try dsimp only at hSw); go_simp; (try (first | (with_reducible rfl) | assumption | rfl))) ?_
                  simp only [Act.put, List.setIfInBounds_toArray, List.set_cons_zero, List.set_cons_succ]
                  refine Lex.tree_take (.int .i64 i) fy2 (Lex.want_none rfl) (by intro Wx hSw; (try dsimp only at hSw); go_simp; (try (first | (with_reducible rfl) | assumption | rfl))) ?_
                  simp only [Act.put, List.setIfInBounds_toArray, List.set_cons_zero, List.set_cons_succ]
                  refine Lex.tree_take (.pointer (some ⟨b, o + i * 4, none⟩)) fy3 (Lex.want_none rfl) (by intro Wx hSw; (try dsimp only at hSw); go_simp; (try (first | (with_reducible rfl) | assumption | rfl))) ?_
                  simp only [Act.put, List.setIfInBounds_toArray, List.set_cons_zero, List.set_cons_succ]
                  refine Lex.tree_take (.pointer (some ⟨b, o + i * 4 + 1, none⟩)) fy4 (Lex.want_none rfl) (by intro Wx hSw; (try dsimp only at hSw); go_simp; (try (first | (with_reducible rfl) | assumption | rfl))) ?_
                  simp only [Act.put, List.setIfInBounds_toArray, List.set_cons_zero, List.set_cons_succ]
                  refine Lex.tree_take (.string yk) fy5 (Lex.want_none rfl) (by intro Wx hSw; (try dsimp only at hSw); go_simp; (try (first | (with_reducible rfl) | assumption | rfl))) ?_
                  simp only [Act.put, List.setIfInBounds_toArray, List.set_cons_zero, List.set_cons_succ]
                  refine Lex.tree_call fy6 (Lex.want_none rfl) (fun K hK => ?_) ?_
                  · go_simp
                    refine (hcx _ hx.hb.bs).mono ?_
                    rintro e ygbb he
                    obtain ⟨pb, qb, bb, rfl, hFgb, hy⟩ := find_vals he
                    clear he
                    have hx := hx.below hy
                    have e1 := cell_belowB hy e1
                    have hB := hB.trans (hy.mono hB.size)
                    have hv := hv.below hy
                    have hpa := hpa.below hy hpa.lt
                    clear hy
                    refine hK.out _ _ _ (fun _ h => h) (⟨hx.b.c0, hx.b.c1, hx.b.c2, e1⟩) ?_
                    clear hK K
                    try simp only [Act.put, List.setIfInBounds_toArray, List.set_cons_zero, List.set_cons_succ]
                    refine Lex.tree_take (.tuple #[.agg #[.int .i64 pb, .int .i64 qb], .bool bb]) fy7 (Lex.want_none rfl) (by intro Wx hSw; (try dsimp only at hSw); go_simp; (try (first | (with_reducible rfl) | assumption | rfl))) ?_
                    simp only [Act.put, List.setIfInBounds_toArray, List.set_cons_zero, List.set_cons_succ]
                    refine Lex.tree_take (.agg #[.int .i64 pb, .int .i64 qb]) fy8 (Lex.want_none rfl) (by intro Wx hSw; (try dsimp only at hSw); go_simp; (try (first | (with_reducible rfl) | assumption | rfl))) ?_
                    simp only [Act.put, List.setIfInBounds_toArray, List.set_cons_zero, List.set_cons_succ]
                    refine Lex.tree_take (.bool bb) fy9 (Lex.want_none rfl) (by intro Wx hSw; (try dsimp only at hSw); go_simp; (try (first | (with_reducible rfl) | assumption | rfl))) ?_
                    simp only [Act.put, List.setIfInBounds_toArray, List.set_cons_zero, List.set_cons_succ]
                    refine Lex.tree_call fy10 (Lex.want_none rfl) (fun K hK => ?_) Lex.tree_no
                    go_simp
                    have hlt := World.block_lt_of_cell? _ _ e1
                    have hnew := (Below.refl ygbb.heap.size ygbb).alloc (Nat.le_refl _) (.cells #[.int .i64 0, .int .i64 0] 30)
                    have hpb := Box2.new ygbb (.int .i64 0) (.int .i64 0) 30
                    have hgqgb := hB.size
                    have hgl := hx.b.lt
                    have hl_hv := hv.b.lt
                    have hl_hpa := hpa.lt
                    have hx := hx.newcell (.cells #[.int .i64 0, .int .i64 0] 30)
                    have e1 := cell_belowB hnew e1
                    have hB := hB.trans (hnew.mono hB.size)
                    have hv := hv.newcell (.cells #[.int .i64 0, .int .i64 0] 30)
                    have hpa := hpa.below hnew hpa.lt
                    clear hnew
                    generalize ygbb.alloc (.cells #[.int .i64 0, .int .i64 0] 30) = zgba at hx e1 hB hpb hv hpa ⊢
                    generalize ygbb.heap.size = gb at hlt hpb hgqgb hgl hx hl_hv hl_hpa hv ⊢
                    refine hK.out _ _ _ (fun _ h => h) (⟨hx.b.c0, hx.b.c1, hx.b.c2, e1⟩) ?_
                    clear hK K
                    try simp only [Act.put, List.setIfInBounds_toArray, List.set_cons_zero, List.set_cons_succ]
                    refine Lex.tree_call fy11 (Lex.want_none rfl) (fun K hK => ?_) Lex.tree_no
                    have k0 := hpb.c0
                    have k1 := hpb.c1
                    have kf := hpb.f
                    go_simp
                    clear k0 k1 kf
                    have hbar := ((Bar.refl gb zgba).setCell 0 (.int .i64 pb)).setCell 1 (.int .i64 qb)
                    have hv := (hv.bar hbar (by omega) (fun h => by have := h.2; omega)).weak (fun _ h => h.1)
                    have hpa := hpa.bar hbar (by omega)
                    have hpb := (hpb.set0 (.int .i64 pb)).set1 (.int .i64 qb)
                    have hx := (hx.bar hbar (by omega) (fun h => by have := h.2; omega)).weak (fun _ h => h.1)
                    have e1 := (hbar.cell (p := ⟨b, o + i * 4 + 1, none⟩) (World.block_lt_of_cell? _ _ e1) (by show _ ≠ gb; omega)).trans e1
                    have hB := (hB.setCell (p := ⟨gb, 0, none⟩) hgqgb (.int .i64 pb)).setCell (p := ⟨gb, 1, none⟩) hgqgb (.int .i64 qb)
                    clear hbar
                    generalize ((zgba.setCell ⟨gb, 0, none⟩ (.int .i64 pb)).setCell ⟨gb, 1, none⟩ (.int .i64 qb)) = sgbzgba at hx e1 hB hv hpa hpb ⊢
                    refine hK.out _ _ _ (fun _ h => h) (⟨hx.b.c0, hx.b.c1, hx.b.c2, e1⟩) ?_
                    clear hK K
                    try simp only [Act.put, List.setIfInBounds_toArray, List.set_cons_zero, List.set_cons_succ]
                    refine Lex.tree_take (.bool bb) fy12 (Lex.want_none rfl) (by intro Wx hSw; (try dsimp only at hSw); go_simp; (try (first | (with_reducible rfl) | assumption | rfl))) ?_
                    simp only [Act.put, List.setIfInBounds_toArray, List.set_cons_zero, List.set_cons_succ]
                    refine Lex.tree_end ?_
                    refine NoPanic.normal ?_
                    have hEq : ba = true ∧ bb = true ∧ pb = pa ∧ qb = qa := by
                      have h1 := hFga.out.1
                      have h2 := hFga.out.2
                      have h3 := hFgb.out.1
                      have h4 := hFgb.out.2
                      rw [HSM.out] at h2 h4
                      rw [h1] at h3
                      injection h3 with h5 h6
                      exact ⟨h2.symm, h4.symm, h5.symm, h6.symm⟩
                    obtain ⟨rfl, rfl, rfl, rfl⟩ := hEq
                    have HV2 := Lib.hid (And.intro hx (And.intro hv hB))
                    have q0 := hpa.c0
                    have q1 := hpa.c1
                    have r0 := hpb.c0
                    have r1 := hpb.c1
                    clear hv hB hpa hpb hx hcg hcx e1
                    go_wp2
                    go_roundw
                    case rel => exact ⟨i + 1, by omega, by go_num, HV2.out.1, HV2.out.2.1, HV2.out.2.2⟩
                    case measure => simp [intOf]; omega
                  refine Lex.tree_call fy10 (Lex.want_none rfl) (fun K hK => ?_) Lex.tree_no
                  go_simp
                  have hlt := World.block_lt_of_cell? _ _ e1
                  have hnew := (Below.refl we.heap.size we).alloc (Nat.le_refl _) (.cells #[.int .i64 0, .int .i64 0] 30)
                  have hpb := Box2.new we (.int .i64 0) (.int .i64 0) 30
                  have hgqgb := hB.size
                  have hgl := hx.b.lt
                  have hl_hv := hv.b.lt
                  have hl_hpa := hpa.lt
                  have hx := hx.newcell (.cells #[.int .i64 0, .int .i64 0] 30)
                  have e1 := cell_belowB hnew e1
                  have hB := hB.trans (hnew.mono hB.size)
                  have hv := hv.newcell (.cells #[.int .i64 0, .int .i64 0] 30)
                  have hpa := hpa.below hnew hpa.lt
                  clear hnew
                  generalize we.alloc (.cells #[.int .i64 0, .int .i64 0] 30) = zgbb at hx e1 hB hpb hv hpa ⊢
                  generalize we.heap.size = gb at hlt hpb hgqgb hgl hx hl_hv hl_hpa hv ⊢
                  refine hK.out _ _ _ (fun _ h => h) (⟨hx.b.c0, hx.b.c1, hx.b.c2, e1⟩) ?_
                  clear hK K
                  try simp only [Act.put, List.setIfInBounds_toArray, List.set_cons_zero, List.set_cons_succ]
                  refine Lex.tree_call fy6 (Lex.want_none rfl) (fun K hK => ?_) Lex.tree_no
                  go_simp
                  refine (hcx _ hx.hb.bs).mono ?_
                  rintro e ygba he
                  obtain ⟨pb, qb, bb, rfl, hFgb, hy⟩ := find_vals he
                  clear he
                  have hx := hx.below hy
                  have e1 := cell_belowB hy e1
                  have hB := hB.trans (hy.mono hB.size)
                  have hv := hv.below hy
                  have hpa := hpa.below hy hpa.lt
                  have hpb := hpb.below hy hpb.lt
                  clear hy
                  refine hK.out _ _ _ (fun _ h => h) (⟨hx.b.c0, hx.b.c1, hx.b.c2, e1⟩) ?_
                  clear hK K
                  try simp only [Act.put, List.setIfInBounds_toArray, List.set_cons_zero, List.set_cons_succ]
                  refine Lex.tree_take (.tuple #[.agg #[.int .i64 pb, .int .i64 qb], .bool bb]) fy7 (Lex.want_none rfl) (by intro Wx hSw; (try dsimp only at hSw); go_simp; (try (first | (with_reducible rfl) | assumption | rfl))) ?_
                  simp only [Act.put, List.setIfInBounds_toArray, List.set_cons_zero, List.set_cons_succ]
                  refine Lex.tree_take (.agg #[.int .i64 pb, .int .i64 qb]) fy8 (Lex.want_none rfl) (by intro Wx hSw; (try dsimp only at hSw); go_simp; (try (first | (with_reducible rfl) | assumption | rfl))) ?_
                  simp only [Act.put, List.setIfInBounds_toArray, List.set_cons_zero, List.set_cons_succ]
                  refine Lex.tree_take (.bool bb) fy9 (Lex.want_none rfl) (by intro Wx hSw; (try dsimp only at hSw); go_simp; (try (first | (with_reducible rfl) | assumption | rfl))) ?_
                  simp only [Act.put, List.setIfInBounds_toArray, List.set_cons_zero, List.set_cons_succ]
                  refine Lex.tree_call fy11 (Lex.want_none rfl) (fun K hK => ?_) Lex.tree_no
                  have k0 := hpb.c0
                  have k1 := hpb.c1
                  have kf := hpb.f
                  go_simp
                  clear k0 k1 kf
                  have hbar := ((Bar.refl gb ygba).setCell 0 (.int .i64 pb)).setCell 1 (.int .i64 qb)
                  have hv := (hv.bar hbar (by omega) (fun h => by have := h.2; omega)).weak (fun _ h => h.1)
                  have hpa := hpa.bar hbar (by omega)
                  have hpb := (hpb.set0 (.int .i64 pb)).set1 (.int .i64 qb)
                  have hx := (hx.bar hbar (by omega) (fun h => by have := h.2; omega)).weak (fun _ h => h.1)
                  have e1 := (hbar.cell (p := ⟨b, o + i * 4 + 1, none⟩) (World.block_lt_of_cell? _ _ e1) (by show _ ≠ gb; omega)).trans e1
                  have hB := (hB.setCell (p := ⟨gb, 0, none⟩) hgqgb (.int .i64 pb)).setCell (p := ⟨gb, 1, none⟩) hgqgb (.int .i64 qb)
                  clear hbar
                  generalize ((ygba.setCell ⟨gb, 0, none⟩ (.int .i64 pb)).setCell ⟨gb, 1, none⟩ (.int .i64 qb)) = sgbygba at hx e1 hB hv hpa hpb ⊢
                  refine hK.out _ _ _ (fun _ h => h) (⟨hx.b.c0, hx.b.c1, hx.b.c2, e1⟩) ?_
                  clear hK K
                  try simp only [Act.put, List.setIfInBounds_toArray, List.set_cons_zero, List.set_cons_succ]
                  refine Lex.tree_take (.bool bb) fy12 (Lex.want_none rfl) (by intro Wx hSw; (try dsimp only at hSw); go_simp; (try (first | (with_reducible rfl) | assumption | rfl))) ?_
                  simp only [Act.put, List.setIfInBounds_toArray, List.set_cons_zero, List.set_cons_succ]
                  refine Lex.tree_end ?_
                  refine NoPanic.normal ?_
                  have hEq : ba = true ∧ bb = true ∧ pb = pa ∧ qb = qa := by
                    have h1 := hFga.out.1
                    have h2 := hFga.out.2
                    have h3 := hFgb.out.1
                    have h4 := hFgb.out.2
                    rw [HSM.out] at h2 h4
                    rw [h1] at h3
                    injection h3 with h5 h6
                    exact ⟨h2.symm, h4.symm, h5.symm, h6.symm⟩
                  obtain ⟨rfl, rfl, rfl, rfl⟩ := hEq
                  have HV2 := Lib.hid (And.intro hx (And.intro hv hB))
                  have q0 := hpa.c0
                  have q1 := hpa.c1
                  have r0 := hpb.c0
                  have r1 := hpb.c1
                  clear hv hB hpa hpb hx hcg hcx e1
                  go_wp2
                  go_roundw
                  case rel => exact ⟨i + 1, by omega, by go_num, HV2.out.1, HV2.out.2.1, HV2.out.2.2⟩
                  case measure => simp [intOf]; omega
                refine Lex.tree_call fx10 (Lex.want_none rfl) (fun K hK => ?_) Lex.tree_no
                go_simp
                have hlt := World.block_lt_of_cell? _ _ e1
                have hnew := (Below.refl wd.heap.size wd).alloc (Nat.le_refl _) (.cells #[.int .i64 0, .int .i64 0] 30)
                have hpa := Box2.new wd (.int .i64 0) (.int .i64 0) 30
                have hgqga := hB.size
                have hgl := hv.b.lt
                have hl_hx := hx.b.lt
                have hv := hv.newcell (.cells #[.int .i64 0, .int .i64 0] 30)
                have e1 := cell_belowB hnew e1
                have hB := hB.trans (hnew.mono hB.size)
                have hx := hx.newcell (.cells #[.int .i64 0, .int .i64 0] 30)
                clear hnew
                generalize wd.alloc (.cells #[.int .i64 0, .int .i64 0] 30) = zgab at hv e1 hB hpa hx ⊢
                generalize wd.heap.size = ga at hlt hpa hgqga hgl hv hl_hx hx ⊢
                refine hK.out _ _ _ (fun _ h => h) (⟨hv.b.c0, hv.b.c1, hv.b.c2, e1⟩) ?_
                clear hK K
                try simp only [Act.put, List.setIfInBounds_toArray, List.set_cons_zero, List.set_cons_succ]
                refine Lex.tree_call fx6 (Lex.want_none rfl) (fun K hK => ?_) Lex.tree_no
                go_simp
                refine (hcg _ hv.hb.bs).mono ?_
                rintro e ygaa he
                obtain ⟨pa, qa, ba, rfl, hFga, hy⟩ := find_vals he
                clear he
                have hv := hv.below hy
                have e1 := cell_belowB hy e1
                have hB := hB.trans (hy.mono hB.size)
                have hx := hx.below hy
                have hpa := hpa.below hy hpa.lt
                clear hy
                refine hK.out _ _ _ (fun _ h => h) (⟨hv.b.c0, hv.b.c1, hv.b.c2, e1⟩) ?_
                clear hK K
                try simp only [Act.put, List.setIfInBounds_toArray, List.set_cons_zero, List.set_cons_succ]
                refine Lex.tree_take (.tuple #[.agg #[.int .i64 pa, .int .i64 qa], .bool ba]) fx7 (Lex.want_none rfl) (by intro Wx hSw; (try dsimp only at hSw); go_simp; (try (first | (with_reducible rfl) | assumption | rfl))) ?_
                simp only [Act.put, List.setIfInBounds_toArray, List.set_cons_zero, List.set_cons_succ]
                refine Lex.tree_take (.agg #[.int .i64 pa, .int .i64 qa]) fx8 (Lex.want_none rfl) (by intro Wx hSw; (try dsimp only at hSw); go_simp; (try (first | (with_reducible rfl) | assumption | rfl))) ?_
                simp only [Act.put, List.setIfInBounds_toArray, List.set_cons_zero, List.set_cons_succ]
                refine Lex.tree_take (.bool ba) fx9 (Lex.want_none rfl) (by intro Wx hSw; (try dsimp only at hSw); go_simp; (try (first | (with_reducible rfl) | assumption | rfl))) ?_
                simp only [Act.put, List.setIfInBounds_toArray, List.set_cons_zero, List.set_cons_succ]
                refine Lex.tree_call fx11 (Lex.want_none rfl) (fun K hK => ?_) Lex.tree_no
                have k0 := hpa.c0
                have k1 := hpa.c1
                have kf := hpa.f
                go_simp
                clear k0 k1 kf
                have hbar := ((Bar.refl ga ygaa).setCell 0 (.int .i64 pa)).setCell 1 (.int .i64 qa)
                have hx := (hx.bar hbar (by omega) (fun h => by have := h.2; omega)).weak (fun _ h => h.1)
                have hpa := (hpa.set0 (.int .i64 pa)).set1 (.int .i64 qa)
                have hv := (hv.bar hbar (by omega) (fun h => by have := h.2; omega)).weak (fun _ h => h.1)
                have e1 := (hbar.cell (p := ⟨b, o + i * 4 + 1, none⟩) (World.block_lt_of_cell? _ _ e1) (by show _ ≠ ga; omega)).trans e1
                have hB := (hB.setCell (p := ⟨ga, 0, none⟩) hgqga (.int .i64 pa)).setCell (p := ⟨ga, 1, none⟩) hgqga (.int .i64 qa)
                clear hbar
                generalize ((ygaa.setCell ⟨ga, 0, none⟩ (.int .i64 pa)).setCell ⟨ga, 1, none⟩ (.int .i64 qa)) = sgaygaa at hv e1 hB hx hpa ⊢
                refine hK.out _ _ _ (fun _ h => h) (⟨hv.b.c0, hv.b.c1, hv.b.c2, e1⟩) ?_
                clear hK K
                try simp only [Act.put, List.setIfInBounds_toArray, List.set_cons_zero, List.set_cons_succ]
                refine Lex.tree_take (.bool ba) fx12 (Lex.want_none rfl) (by intro Wx hSw; (try dsimp only at hSw); go_simp; (try (first | (with_reducible rfl) | assumption | rfl))) ?_
                simp only [Act.put, List.setIfInBounds_toArray, List.set_cons_zero, List.set_cons_succ]
                refine Lex.tree_end ?_
                refine NoPanic.normal ?_
                have c0 := hx.b.c0
                have c1 := hx.b.c1
                have c2 := hx.b.c2
                go_wp2_with fail
                clear c0 c1 c2
                have hdr := (Below.refl sgaygaa.heap.size sgaygaa).drew
                have hv := hv.below hdr
                have hx := hx.below hdr
                have hpa := hpa.below hdr hpa.lt
                have hB := hB.trans (hdr.mono hB.size)
                have e1 := cell_belowB hdr e1
                refine Lex.region_tree (ops := fyops) fytree (fun W => W.cell? ⟨gx, 0, none⟩ = some (.int .i64 (x.lv : Nat)) ∧ W.cell? ⟨gx, 1, none⟩ = some (.int .i64 (x.nx : Nat)) ∧ W.cell? ⟨gx, 2, none⟩ = some (.slice Ax mx cx) ∧ W.cell? ⟨b, o + i * 4 + 1, none⟩ = some (.string yk)) (by kernel_rfl) (by kernel_rfl) fysel fylex (⟨hx.b.c0, hx.b.c1, hx.b.c2, e1⟩) ?_
                unfold fytree
                clear hdr
                generalize sgaygaa.drew = we at hv hx hpa hB e1 ⊢
                refine Lex.tree_take (.agg #[.int .i64 (x.lv : Nat), .int .i64 (x.nx : Nat), .slice Ax mx cx]) fy0 (Lex.want_none rfl) (by intro Wx hSw; (try dsimp only at hSw); go_simp; (try (first | (with_reducible rfl) | assumption | rfl))) ?_
                simp only [Act.put, List.setIfInBounds_toArray, List.set_cons_zero, List.set_cons_succ]
                refine Lex.tree_take (.slice (some ⟨b, o, none⟩) n cp) fy1 (Lex.want_none rfl) (by intro Wx hSw; (try dsimp only at hSw); go_simp; (try (first | (with_reducible rfl) | assumption | rfl))) ?_
                simp only [Act.put, List.setIfInBounds_toArray, List.set_cons_zero, List.set_cons_succ]
                refine Lex.tree_take (.int .i64 i) fy2 (Lex.want_none rfl) (by intro Wx hSw; (try dsimp only at hSw); go_simp; (try (first | (with_reducible rfl) | assumption | rfl))) ?_
                simp only [Act.put, List.setIfInBounds_toArray, List.set_cons_zero, List.set_cons_succ]
                refine Lex.tree_take (.pointer (some ⟨b, o + i * 4, none⟩)) fy3 (Lex.want_none rfl) (by intro Wx hSw; (try dsimp only at hSw); go_simp; (try (first | (with_reducible rfl) | assumption | rfl))) ?_
                simp only [Act.put, List.setIfInBounds_toArray, List.set_cons_zero, List.set_cons_succ]
                refine Lex.tree_take (.pointer (some ⟨b, o + i * 4 + 1, none⟩)) fy4 (Lex.want_none rfl) (by intro Wx hSw; (try dsimp only at hSw); go_simp; (try (first | (with_reducible rfl) | assumption | rfl))) ?_
                simp only [Act.put, List.setIfInBounds_toArray, List.set_cons_zero, List.set_cons_succ]
                refine Lex.tree_take (.string yk) fy5 (Lex.want_none rfl) (by intro Wx hSw; (try dsimp only at hSw); go_simp; (try (first | (with_reducible rfl) | assumption | rfl))) ?_
                simp only [Act.put, List.setIfInBounds_toArray, List.set_cons_zero, List.set_cons_succ]
                refine Lex.tree_call fy6 (Lex.want_none rfl) (fun K hK => ?_) ?_
                · go_simp
                  refine (hcx _ hx.hb.bs).mono ?_
                  rintro e ygbb he
                  obtain ⟨pb, qb, bb, rfl, hFgb, hy⟩ := find_vals he
                  clear he
                  have hx := hx.below hy
                  have e1 := cell_belowB hy e1
                  have hB := hB.trans (hy.mono hB.size)
                  have hv := hv.below hy
                  have hpa := hpa.below hy hpa.lt
                  clear hy
                  refine hK.out _ _ _ (fun _ h => h) (⟨hx.b.c0, hx.b.c1, hx.b.c2, e1⟩) ?_
                  clear hK K
                  try simp only [Act.put, List.setIfInBounds_toArray, List.set_cons_zero, List.set_cons_succ]
                  refine Lex.tree_take (.tuple #[.agg #[.int .i64 pb, .int .i64 qb], .bool bb]) fy7 (Lex.want_none rfl) (by intro Wx hSw; (try dsimp only at hSw); go_simp; (try (first | (with_reducible rfl) | assumption | rfl))) ?_
                  simp only [Act.put, List.setIfInBounds_toArray, List.set_cons_zero, List.set_cons_succ]
                  refine Lex.tree_take (.agg #[.int .i64 pb, .int .i64 qb]) fy8 (Lex.want_none rfl) (by intro Wx hSw; (try dsimp only at hSw); go_simp; (try (first | (with_reducible rfl) | assumption | rfl))) ?_
                  simp only [Act.put, List.setIfInBounds_toArray, List.set_cons_zero, List.set_cons_succ]
                  refine Lex.tree_take (.bool bb) fy9 (Lex.want_none rfl) (by intro Wx hSw; (try dsimp only at hSw); go_simp; (try (first | (with_reducible rfl) | assumption | rfl))) ?_
                  simp only [Act.put, List.setIfInBounds_toArray, List.set_cons_zero, List.set_cons_succ]
                  refine Lex.tree_call fy10 (Lex.want_none rfl) (fun K hK => ?_) Lex.tree_no
                  go_simp
                  have hlt := World.block_lt_of_cell? _ _ e1
                  have hnew := (Below.refl ygbb.heap.size ygbb).alloc (Nat.le_refl _) (.cells #[.int .i64 0, .int .i64 0] 30)
                  have hpb := Box2.new ygbb (.int .i64 0) (.int .i64 0) 30
                  have hgqgb := hB.size
                  have hgl := hx.b.lt
                  have hl_hv := hv.b.lt
                  have hl_hpa := hpa.lt
                  have hx := hx.newcell (.cells #[.int .i64 0, .int .i64 0] 30)
                  have e1 := cell_belowB hnew e1
                  have hB := hB.trans (hnew.mono hB.size)
                  have hv := hv.newcell (.cells #[.int .i64 0, .int .i64 0] 30)
                  have hpa := hpa.below hnew hpa.lt
                  clear hnew
                  generalize ygbb.alloc (.cells #[.int .i64 0, .int .i64 0] 30) = zgba at hx e1 hB hpb hv hpa ⊢
                  generalize ygbb.heap.size = gb at hlt hpb hgqgb hgl hx hl_hv hl_hpa hv ⊢
                  refine hK.out _ _ _ (fun _ h => h) (⟨hx.b.c0, hx.b.c1, hx.b.c2, e1⟩) ?_
                  clear hK K
                  try simp only [Act.put, List.setIfInBounds_toArray, List.set_cons_zero, List.set_cons_succ]
                  refine Lex.tree_call fy11 (Lex.want_none rfl) (fun K hK => ?_) Lex.tree_no
                  have k0 := hpb.c0
                  have k1 := hpb.c1
                  have kf := hpb.f
                  go_simp
                  clear k0 k1 kf
                  have hbar := ((Bar.refl gb zgba).setCell 0 (.int .i64 pb)).setCell 1 (.int .i64 qb)
                  have hv := (hv.bar hbar (by omega) (fun h => by have := h.2; omega)).weak (fun _ h => h.1)
                  have hpa := hpa.bar hbar (by omega)
                  have hpb := (hpb.set0 (.int .i64 pb)).set1 (.int .i64 qb)
                  have hx := (hx.bar hbar (by omega) (fun h => by have := h.2; omega)).weak (fun _ h => h.1)
                  have e1 := (hbar.cell (p := ⟨b, o + i * 4 + 1, none⟩) (World.block_lt_of_cell? _ _ e1) (by show _ ≠ gb; omega)).trans e1
                  have hB := (hB.setCell (p := ⟨gb, 0, none⟩) hgqgb (.int .i64 pb)).setCell (p := ⟨gb, 1, none⟩) hgqgb (.int .i64 qb)
                  clear hbar
                  generalize ((zgba.setCell ⟨gb, 0, none⟩ (.int .i64 pb)).setCell ⟨gb, 1, none⟩ (.int .i64 qb)) = sgbzgba at hx e1 hB hv hpa hpb ⊢
                  refine hK.out _ _ _ (fun _ h => h) (⟨hx.b.c0, hx.b.c1, hx.b.c2, e1⟩) ?_
                  clear hK K
                  try simp only [Act.put, List.setIfInBounds_toArray, List.set_cons_zero, List.set_cons_succ]
                  refine Lex.tree_take (.bool bb) fy12 (Lex.want_none rfl) (by intro Wx hSw; (try dsimp only at hSw); go_simp; (try (first | (with_reducible rfl) | assumption | rfl))) ?_
                  simp only [Act.put, List.setIfInBounds_toArray, List.set_cons_zero, List.set_cons_succ]
                  refine Lex.tree_end ?_
                  refine NoPanic.normal ?_
                  have hEq : ba = true ∧ bb = true ∧ pb = pa ∧ qb = qa := by
                    have h1 := hFga.out.1
                    have h2 := hFga.out.2
                    have h3 := hFgb.out.1
                    have h4 := hFgb.out.2
                    rw [HSM.out] at h2 h4
                    rw [h1] at h3
                    injection h3 with h5 h6
                    exact ⟨h2.symm, h4.symm, h5.symm, h6.symm⟩
                  obtain ⟨rfl, rfl, rfl, rfl⟩ := hEq
                  have HV2 := Lib.hid (And.intro hx (And.intro hv hB))
                  have q0 := hpa.c0
                  have q1 := hpa.c1
                  have r0 := hpb.c0
                  have r1 := hpb.c1
                  clear hv hB hpa hpb hx hcg hcx e1
                  go_wp2
                  go_roundw
                  case rel => exact ⟨i + 1, by omega, by go_num, HV2.out.1, HV2.out.2.1, HV2.out.2.2⟩
                  case measure => simp [intOf]; omega
                refine Lex.tree_call fy10 (Lex.want_none rfl) (fun K hK => ?_) Lex.tree_no
                go_simp
                have hlt := World.block_lt_of_cell? _ _ e1
                have hnew := (Below.refl we.heap.size we).alloc (Nat.le_refl _) (.cells #[.int .i64 0, .int .i64 0] 30)
                have hpb := Box2.new we (.int .i64 0) (.int .i64 0) 30
                have hgqgb := hB.size
                have hgl := hx.b.lt
                have hl_hv := hv.b.lt
                have hl_hpa := hpa.lt
                have hx := hx.newcell (.cells #[.int .i64 0, .int .i64 0] 30)
                have e1 := cell_belowB hnew e1
                have hB := hB.trans (hnew.mono hB.size)
                have hv := hv.newcell (.cells #[.int .i64 0, .int .i64 0] 30)
                have hpa := hpa.below hnew hpa.lt
                clear hnew
                generalize we.alloc (.cells #[.int .i64 0, .int .i64 0] 30) = zgbb at hx e1 hB hpb hv hpa ⊢
                generalize we.heap.size = gb at hlt hpb hgqgb hgl hx hl_hv hl_hpa hv ⊢
                refine hK.out _ _ _ (fun _ h => h) (⟨hx.b.c0, hx.b.c1, hx.b.c2, e1⟩) ?_
                clear hK K
                try simp only [Act.put, List.setIfInBounds_toArray, List.set_cons_zero, List.set_cons_succ]
                refine Lex.tree_call fy6 (Lex.want_none rfl) (fun K hK => ?_) Lex.tree_no
                go_simp
                refine (hcx _ hx.hb.bs).mono ?_
                rintro e ygba he
                obtain ⟨pb, qb, bb, rfl, hFgb, hy⟩ := find_vals he
                clear he
                have hx := hx.below hy
                have e1 := cell_belowB hy e1
                have hB := hB.trans (hy.mono hB.size)
                have hv := hv.below hy
                have hpa := hpa.below hy hpa.lt
                have hpb := hpb.below hy hpb.lt
                clear hy
                refine hK.out _ _ _ (fun _ h => h) (⟨hx.b.c0, hx.b.c1, hx.b.c2, e1⟩) ?_
                clear hK K
                try simp only [Act.put, List.setIfInBounds_toArray, List.set_cons_zero, List.set_cons_succ]
                refine Lex.tree_take (.tuple #[.agg #[.int .i64 pb, .int .i64 qb], .bool bb]) fy7 (Lex.want_none rfl) (by intro Wx hSw; (try dsimp only at hSw); go_simp; (try (first | (with_reducible rfl) | assumption | rfl))) ?_
                simp only [Act.put, List.setIfInBounds_toArray, List.set_cons_zero, List.set_cons_succ]
                refine Lex.tree_take (.agg #[.int .i64 pb, .int .i64 qb]) fy8 (Lex.want_none rfl) (by intro Wx hSw; (try dsimp only at hSw); go_simp; (try (first | (with_reducible rfl) | assumption | rfl))) ?_
                simp only [Act.put, List.setIfInBounds_toArray, List.set_cons_zero, List.set_cons_succ]
                refine Lex.tree_take (.bool bb) fy9 (Lex.want_none rfl) (by intro Wx hSw; (try dsimp only at hSw); go_simp; (try (first | (with_reducible rfl) | assumption | rfl))) ?_
                simp only [Act.put, List.setIfInBounds_toArray, List.set_cons_zero, List.set_cons_succ]
                refine Lex.tree_call fy11 (Lex.want_none rfl) (fun K hK => ?_) Lex.tree_no
                have k0 := hpb.c0
                have k1 := hpb.c1
                have kf := hpb.f
                go_simp
                clear k0 k1 kf
                have hbar := ((Bar.refl gb ygba).setCell 0 (.int .i64 pb)).setCell 1 (.int .i64 qb)
                have hv := (hv.bar hbar (by omega) (fun h => by have := h.2; omega)).weak (fun _ h => h.1)
                have hpa := hpa.bar hbar (by omega)
                have hpb := (hpb.set0 (.int .i64 pb)).set1 (.int .i64 qb)
                have hx := (hx.bar hbar (by omega) (fun h => by have := h.2; omega)).weak (fun _ h => h.1)
                have e1 := (hbar.cell (p := ⟨b, o + i * 4 + 1, none⟩) (World.block_lt_of_cell? _ _ e1) (by show _ ≠ gb; omega)).trans e1
                have hB := (hB.setCell (p := ⟨gb, 0, none⟩) hgqgb (.int .i64 pb)).setCell (p := ⟨gb, 1, none⟩) hgqgb (.int .i64 qb)
                clear hbar
                generalize ((ygba.setCell ⟨gb, 0, none⟩ (.int .i64 pb)).setCell ⟨gb, 1, none⟩ (.int .i64 qb)) = sgbygba at hx e1 hB hv hpa hpb ⊢
                refine hK.out _ _ _ (fun _ h => h) (⟨hx.b.c0, hx.b.c1, hx.b.c2, e1⟩) ?_
                clear hK K
                try simp only [Act.put, List.setIfInBounds_toArray, List.set_cons_zero, List.set_cons_succ]
                refine Lex.tree_take (.bool bb) fy12 (Lex.want_none rfl) (by intro Wx hSw; (try dsimp only at hSw); go_simp; (try (first | (with_reducible rfl) | assumption | rfl))) ?_
                simp only [Act.put, List.setIfInBounds_toArray, List.set_cons_zero, List.set_cons_succ]
                refine Lex.tree_end ?_
                refine NoPanic.normal ?_
                have hEq : ba = true ∧ bb = true ∧ pb = pa ∧ qb = qa := by
                  have h1 := hFga.out.1
                  have h2 := hFga.out.2
                  have h3 := hFgb.out.1
                  have h4 := hFgb.out.2
                  rw [HSM.out] at h2 h4
                  rw [h1] at h3
                  injection h3 with h5 h6
                  exact ⟨h2.symm, h4.symm, h5.symm, h6.symm⟩
                obtain ⟨rfl, rfl, rfl, rfl⟩ := hEq
                have HV2 := Lib.hid (And.intro hx (And.intro hv hB))
                have q0 := hpa.c0
                have q1 := hpa.c1
                have r0 := hpb.c0
                have r1 := hpb.c1
                clear hv hB hpa hpb hx hcg hcx e1
                go_wp2
                go_roundw
                case rel => exact ⟨i + 1, by omega, by go_num, HV2.out.1, HV2.out.2.1, HV2.out.2.2⟩
                case measure => simp [intOf]; omega
              · obtain rfl : n = i := by omega
                have hcr := fun W (hW : HasBsX W (fun b => b ≠ g ∧ b ≠ gx) Ax x.bs) => may_set (w := W) HXI.out (by omega) hW.bs hx.hn hx.hc
                have hcc := fun W (hW : HasBsX W (fun b => b ≠ g ∧ b ≠ gx) Ax x.bs) => count_any (w := W) HXI.out (by omega) hW.bs hx.hn hx.hc
                have hcd := fun W (hW : HasBsX W (fun b => b ≠ g ∧ b ≠ gx) A h.bs) => count_any (w := W) HID.out (by omega) hW.bs hv.hn hv.hc
                rw [HXC.out] at hcc
                generalize countH h = cc at hcc hcd
                have hml : m ≤ 61 := by have := HID.out.len; have := hv.hn; omega
                have z2 : IntKind.i64.wrap ((m : Int) + (T : Int)) = (m : Int) + (T : Int) := IntWalk.i64_in _ (by omega)
                have z4 : IntKind.i64.wrap (T : Int) = (T : Int) := IntWalk.i64_in _ (by omega)
                have z3 : ((mx : Int) == (m : Int) + (T : Int)) = true := by rw [beq_iff_eq, HXL.out]; push_cast; rfl
                have c0 := hv.b.c0
                have c1 := hv.b.c1
                have c2 := hv.b.c2
                have x0 := hx.b.c0
                have x1 := hx.b.c1
                have x2 := hx.b.c2
                go_wp2_with fail
                have hdr := (Below.refl wy.heap.size wy).drew
                refine Lex.region_lex (ops := feops) (calls := fecalls) feord (fun W => W.cell? ⟨g, 0, none⟩ = some (.int .i64 (h.lv : Nat)) ∧ W.cell? ⟨g, 1, none⟩ = some (.int .i64 (h.nx : Nat)) ∧ W.cell? ⟨g, 2, none⟩ = some (.slice A m c) ∧ W.cell? ⟨gx, 0, none⟩ = some (.int .i64 (x.lv : Nat)) ∧ W.cell? ⟨gx, 1, none⟩ = some (.int .i64 (x.nx : Nat)) ∧ W.cell? ⟨gx, 2, none⟩ = some (.slice Ax mx cx)) (by kernel_rfl) (by kernel_rfl) fesel (by kernel_rfl) (by kernel_rfl) felex (⟨cell_belowB hdr c0, cell_belowB hdr c1, cell_belowB hdr c2, cell_belowB hdr x0, cell_belowB hdr x1, cell_belowB hdr x2⟩) ?_
                unfold feord
                have c0 := cell_belowB hdr c0
                have c1 := cell_belowB hdr c1
                have c2 := cell_belowB hdr c2
                have x0 := cell_belowB hdr x0
                have x1 := cell_belowB hdr x1
                have x2 := cell_belowB hdr x2
                have hv := hv.below hdr
                have hx := hx.below hdr
                have hB := hB.trans (hdr.mono hB.size)
                clear hdr
                refine Lex.step_call fe0 rfl (Lex.want_none rfl) (fun K hK => ?_)
                go_simp
                refine (awake_any _).mono ?_
                rintro e y1 ⟨rfl, hy⟩
                have c0 := cell_belowB hy c0
                have c1 := cell_belowB hy c1
                have c2 := cell_belowB hy c2
                have x0 := cell_belowB hy x0
                have x1 := cell_belowB hy x1
                have x2 := cell_belowB hy x2
                have hv := hv.below hy
                have hx := hx.below hy
                have hB := hB.trans (hy.mono hB.size)
                clear hy
                refine hK.out _ _ _ (fun _ h => h) ⟨c0, c1, c2, x0, x1, x2⟩ ?_
                clear hK K
                try simp only [Act.put, List.setIfInBounds_toArray, List.set_cons_zero, List.set_cons_succ]
                refine Lex.step_take (.bool true) fe1 rfl (Lex.want_none rfl) (by intro Wx hSw; (try dsimp only at hSw); go_simp; (try (first | (with_reducible rfl) | assumption | rfl))) ?_
                simp only [Act.put, List.setIfInBounds_toArray, List.set_cons_zero, List.set_cons_succ]
                refine Lex.step_take (.agg #[.int .i64 (x.lv : Nat), .int .i64 (x.nx : Nat), .slice Ax mx cx]) fe2 rfl (Lex.want_some rfl fe1 rfl (b' := true) rfl rfl) (by intro Wx hSw; (try dsimp only at hSw); go_simp; (try (first | (with_reducible rfl) | assumption | rfl))) ?_
                simp only [Act.put, List.setIfInBounds_toArray, List.set_cons_zero, List.set_cons_succ]
                refine Lex.step_call fe3 rfl (Lex.want_some rfl fe1 rfl (b' := true) rfl rfl) (fun K hK => ?_)
                go_simp
                refine (hcr _ hx.hb).mono ?_
                rintro e y2 ⟨rfl, hy⟩
                have c0 := cell_belowB hy c0
                have c1 := cell_belowB hy c1
                have c2 := cell_belowB hy c2
                have x0 := cell_belowB hy x0
                have x1 := cell_belowB hy x1
                have x2 := cell_belowB hy x2
                have hv := hv.below hy
                have hx := hx.below hy
                have hB := hB.trans (hy.mono hB.size)
                clear hy
                refine hK.out _ _ _ (fun _ h => h) ⟨c0, c1, c2, x0, x1, x2⟩ ?_
                clear hK K
                try simp only [Act.put, List.setIfInBounds_toArray, List.set_cons_zero, List.set_cons_succ]
                refine Lex.step_take (.bool true) fe4 rfl (Lex.want_none rfl) (by intro Wx hSw; (try dsimp only at hSw); go_simp; (try (first | (with_reducible rfl) | assumption | rfl))) ?_
                simp only [Act.put, List.setIfInBounds_toArray, List.set_cons_zero, List.set_cons_succ]
                refine Lex.step_take (.bool true) fe5 rfl (Lex.want_none rfl) (by intro Wx hSw; (try dsimp only at hSw); go_simp; (try (first | (with_reducible rfl) | assumption | rfl))) ?_
                simp only [Act.put, List.setIfInBounds_toArray, List.set_cons_zero, List.set_cons_succ]
                refine Lex.step_take (.pointer (some ⟨gx, 2, none⟩)) fe6 rfl (Lex.want_some rfl fe5 rfl (b' := true) rfl rfl) (by intro Wx hSw; (try dsimp only at hSw); go_simp; (try (first | (with_reducible rfl) | assumption | rfl))) ?_
                simp only [Act.put, List.setIfInBounds_toArray, List.set_cons_zero, List.set_cons_succ]
                refine Lex.step_take (.slice Ax mx cx) fe7 rfl (Lex.want_some rfl fe5 rfl (b' := true) rfl rfl) (by intro Wx hSw; (try dsimp only at hSw); go_simp; (try (first | (with_reducible rfl) | assumption | rfl))) ?_
                simp only [Act.put, List.setIfInBounds_toArray, List.set_cons_zero, List.set_cons_succ]
                refine Lex.step_take (.int .i64 (mx : Int)) fe8 rfl (Lex.want_some rfl fe5 rfl (b' := true) rfl rfl) (by intro Wx hSw; (try dsimp only at hSw); go_simp; (try (first | (with_reducible rfl) | assumption | rfl))) ?_
                simp only [Act.put, List.setIfInBounds_toArray, List.set_cons_zero, List.set_cons_succ]
                refine Lex.step_take (.pointer (some ⟨g, 2, none⟩)) fe9 rfl (Lex.want_some rfl fe5 rfl (b' := true) rfl rfl) (by intro Wx hSw; (try dsimp only at hSw); go_simp; (try (first | (with_reducible rfl) | assumption | rfl))) ?_
                simp only [Act.put, List.setIfInBounds_toArray, List.set_cons_zero, List.set_cons_succ]
                refine Lex.step_take (.slice A m c) fe10 rfl (Lex.want_some rfl fe5 rfl (b' := true) rfl rfl) (by intro Wx hSw; (try dsimp only at hSw); go_simp; (try (first | (with_reducible rfl) | assumption | rfl))) ?_
                simp only [Act.put, List.setIfInBounds_toArray, List.set_cons_zero, List.set_cons_succ]
                refine Lex.step_take (.int .i64 (m : Int)) fe11 rfl (Lex.want_some rfl fe5 rfl (b' := true) rfl rfl) (by intro Wx hSw; (try dsimp only at hSw); go_simp; (try (first | (with_reducible rfl) | assumption | rfl))) ?_
                simp only [Act.put, List.setIfInBounds_toArray, List.set_cons_zero, List.set_cons_succ]
                refine Lex.step_take (.int .u8 u) fe12 rfl (Lex.want_some rfl fe5 rfl (b' := true) rfl rfl) (by intro Wx hSw; (try dsimp only at hSw); go_simp; (try (first | (with_reducible rfl) | assumption | rfl))) ?_
                simp only [Act.put, List.setIfInBounds_toArray, List.set_cons_zero, List.set_cons_succ]
                refine Lex.step_take (.int .u8 (T : Int)) fe13 rfl (Lex.want_some rfl fe5 rfl (b' := true) rfl rfl) (by intro Wx hSw; (try dsimp only at hSw); go_simp; (try (first | (with_reducible rfl) | assumption | rfl))) ?_
                simp only [Act.put, List.setIfInBounds_toArray, List.set_cons_zero, List.set_cons_succ]
                refine Lex.step_take (.int .i64 (T : Int)) fe14 rfl (Lex.want_some rfl fe5 rfl (b' := true) rfl rfl) (by intro Wx hSw; (try dsimp only at hSw); go_simp; (try (first | (with_reducible rfl) | assumption | rfl))) ?_
                simp only [Act.put, List.setIfInBounds_toArray, List.set_cons_zero, List.set_cons_succ]
                refine Lex.step_take (.int .i64 ((m : Int) + (T : Int))) fe15 rfl (Lex.want_some rfl fe5 rfl (b' := true) rfl rfl) (by intro Wx hSw; (try dsimp only at hSw); go_simp; (try (first | (with_reducible rfl) | assumption | rfl))) ?_
                simp only [Act.put, List.setIfInBounds_toArray, List.set_cons_zero, List.set_cons_succ]
                refine Lex.step_take (.bool true) fe16 rfl (Lex.want_some rfl fe5 rfl (b' := true) rfl rfl) (by intro Wx hSw; (try dsimp only at hSw); go_simp; (try (first | (with_reducible rfl) | assumption | rfl))) ?_
                simp only [Act.put, List.setIfInBounds_toArray, List.set_cons_zero, List.set_cons_succ]
                refine Lex.step_take (.bool true) fe17 rfl (Lex.want_none rfl) (by intro Wx hSw; (try dsimp only at hSw); go_simp; (try (first | (with_reducible rfl) | assumption | rfl))) ?_
                simp only [Act.put, List.setIfInBounds_toArray, List.set_cons_zero, List.set_cons_succ]
                refine Lex.step_take (.bool true) fe18 rfl (Lex.want_none rfl) (by intro Wx hSw; (try dsimp only at hSw); go_simp; (try (first | (with_reducible rfl) | assumption | rfl))) ?_
                simp only [Act.put, List.setIfInBounds_toArray, List.set_cons_zero, List.set_cons_succ]
                refine Lex.step_take (.agg #[.int .i64 (x.lv : Nat), .int .i64 (x.nx : Nat), .slice Ax mx cx]) fe19 rfl (Lex.want_some rfl fe18 rfl (b' := true) rfl rfl) (by intro Wx hSw; (try dsimp only at hSw); go_simp; (try (first | (with_reducible rfl) | assumption | rfl))) ?_
                simp only [Act.put, List.setIfInBounds_toArray, List.set_cons_zero, List.set_cons_succ]
                refine Lex.step_take (.agg #[.int .i64 (h.lv : Nat), .int .i64 (h.nx : Nat), .slice A m c]) fe21 rfl (Lex.want_some rfl fe18 rfl (b' := true) rfl rfl) (by intro Wx hSw; (try dsimp only at hSw); go_simp; (try (first | (with_reducible rfl) | assumption | rfl))) ?_
                simp only [Act.put, List.setIfInBounds_toArray, List.set_cons_zero, List.set_cons_succ]
                refine Lex.step_call fe20 rfl (Lex.want_some rfl fe18 rfl (b' := true) rfl rfl) (fun K hK => ?_)
                go_simp
                refine (hcc _ hx.hb).mono ?_
                rintro e y3 ⟨rfl, hy⟩
                have c0 := cell_belowB hy c0
                have c1 := cell_belowB hy c1
                have c2 := cell_belowB hy c2
                have x0 := cell_belowB hy x0
                have x1 := cell_belowB hy x1
                have x2 := cell_belowB hy x2
                have hv := hv.below hy
                have hx := hx.below hy
                have hB := hB.trans (hy.mono hB.size)
                clear hy
                refine hK.out _ _ _ (fun _ h => h) ⟨c0, c1, c2, x0, x1, x2⟩ ?_
                clear hK K
                try simp only [Act.put, List.setIfInBounds_toArray, List.set_cons_zero, List.set_cons_succ]
                refine Lex.step_call fe22 rfl (Lex.want_some rfl fe18 rfl (b' := true) rfl rfl) (fun K hK => ?_)
                go_simp
                refine (hcd _ hv.hb).mono ?_
                rintro e y4 ⟨rfl, hy⟩
                have c0 := cell_belowB hy c0
                have c1 := cell_belowB hy c1
                have c2 := cell_belowB hy c2
                have x0 := cell_belowB hy x0
                have x1 := cell_belowB hy x1
                have x2 := cell_belowB hy x2
                have hv := hv.below hy
                have hx := hx.below hy
                have hB := hB.trans (hy.mono hB.size)
                clear hy
                refine hK.out _ _ _ (fun _ h => h) ⟨c0, c1, c2, x0, x1, x2⟩ ?_
                clear hK K
                try simp only [Act.put, List.setIfInBounds_toArray, List.set_cons_zero, List.set_cons_succ]
                refine Lex.step_take (.bool true) fe23 rfl (Lex.want_some rfl fe18 rfl (b' := true) rfl rfl) (by intro Wx hSw; (try dsimp only at hSw); go_simp; (try (first | (with_reducible rfl) | assumption | rfl))) ?_
                simp only [Act.put, List.setIfInBounds_toArray, List.set_cons_zero, List.set_cons_succ]
                refine Lex.step_take (.bool true) fe24 rfl (Lex.want_none rfl) (by intro Wx hSw; (try dsimp only at hSw); go_simp; (try (first | (with_reducible rfl) | assumption | rfl))) ?_
                simp only [Act.put, List.setIfInBounds_toArray, List.set_cons_zero, List.set_cons_succ]
                refine Lex.step_take (.bool true) fe25 rfl (Lex.want_none rfl) (by intro Wx hSw; (try dsimp only at hSw); go_simp; (try (first | (with_reducible rfl) | assumption | rfl))) ?_
                simp only [Act.put, List.setIfInBounds_toArray, List.set_cons_zero, List.set_cons_succ]
                refine NoPanic.normal ?_
                clear c0 c1 c2 x0 x1 x2 hcr hcc hcd z2 z3 z4
                go_wp2
                go_ret
                exact ⟨rfl, hB⟩
end
end Go.Proofs.Ytocmkjccaajnnaa.Ha
