/- HashPlays, walked. -/
import Derived.Test.YtocmkjccaajnnaaMgR
import Derived.Test.YtocmkjccaajnnaaXum
namespace Go.Proofs.Ytocmkjccaajnnaa.Ha
open Go.RowKit Pac Bu Ls Lex Go.Proofs.Ytocmkjccaajnnaa.Or

section
variable {A : Option Addr} {n cp i : Nat} {w : World} {h : H}
theorem Idx.fit (hh : Idx spread h i) (hi : i ≤ 200) (hn : h.bs.length = n) : n ≤ 201 ∧ h.lv ≤ 8 ∧ h.nx ≤ 1000 ∧ (∀ r ∈ h.bs, r.length ≤ 200) ∧ (∀ r ∈ h.bs, ∀ e ∈ r, e.key.size ≤ 9223372036854775807) := by
  have h1 := hh.len
  have h2 := hh.is.l8
  have h3 := hh.is.nx
  have h4 := hh.is.len
  exact ⟨by omega, h2, by omega, fun r hr => Nat.le_trans ((hh.small hi).1 r hr) hi, fun r hr e he => Nat.le_trans ((hh.small hi).2 r hr e he).1 (by omega)⟩
theorem refPut_idx (X : Nat → Prop) (hh : Idx spread h i) (hi : i ≤ 200) (hb : HasBsX w X A h.bs) (hn : h.bs.length = n) (hc : n ≤ cp) (k : ByteArray) (t s : Int) (he : FineP ⟨k, t, s⟩) :
    Calls Try.prog 13 #[.agg #[.int .i64 h.lv, .int .i64 h.nx, .slice A n cp], .string k, .agg #[.int .i64 t, .int .i64 s]] w (HashPost X (putH spread h ⟨k, t, s⟩) w) := by
  obtain ⟨h1, h2, h3, h4, h5⟩ := hh.fit hi hn
  exact refPutH_any X h k t s hh.is hb hn (by omega) (fun r hr => by have := h4 r hr; omega) h5 (Nat.le_trans he.1 (by omega))
theorem refDrop_idx (X : Nat → Prop) (hh : Idx spread h i) (hi : i ≤ 200) (hb : HasBsX w X A h.bs) (hn : h.bs.length = n) (hc : n ≤ cp) (k : ByteArray) (hk : k.size ≤ 200) :
    Calls Try.prog 15 #[.agg #[.int .i64 h.lv, .int .i64 h.nx, .slice A n cp], .string k] w (HashPost X (dropH spread h k.data.toList) w) := by
  obtain ⟨h1, h2, h3, h4, h5⟩ := hh.fit hi hn
  obtain ⟨bk, hbk⟩ := hh.is.here k.data.toList
  exact refDropH_any X h k bk hb hn (by omega) h2 h3 hbk (by have := h4 bk (List.mem_of_getElem? hbk); omega) (by omega)
theorem refHalve_idx (X : Nat → Prop) (hh : Idx spread h i) (hi : i ≤ 200) (hb : HasBsX w X A h.bs) (hn : h.bs.length = n) (hc : n ≤ cp) :
    Calls Try.prog 17 #[.agg #[.int .i64 h.lv, .int .i64 h.nx, .slice A n cp]] w (HashPost X (halveH spread h) w) := by
  obtain ⟨h1, h2, h3, h4, h5⟩ := hh.fit hi hn
  obtain ⟨bk, hbk⟩ := hh.is.next
  exact refHalve_any X h bk hb hn hc (by omega) h2 hh.is.nx hbk (by have := h4 bk (List.mem_of_getElem? hbk); omega) (h5 bk (List.mem_of_getElem? hbk))
theorem refGet_idx (hh : Idx spread h i) (hi : i ≤ 200) (hb : HasBs w 0 A h.bs) (hn : h.bs.length = n) (hc : n ≤ cp) (k : ByteArray) (hk : k.size ≤ 200) :
    Calls Try.prog 19 #[.agg #[.int .i64 h.lv, .int .i64 h.nx, .slice A n cp], .string k] w (FindPost (getH spread h k.data.toList) w) := by
  obtain ⟨h1, h2, h3, h4, h5⟩ := hh.fit hi hn
  obtain ⟨bk, hbk⟩ := hh.is.here k.data.toList
  exact refGet_any h k bk hb hn (by omega) h2 h3 hbk (by have := h4 bk (List.mem_of_getElem? hbk); omega) (by omega)
theorem refCount_idx (hh : Idx spread h i) (hi : i ≤ 200) (hb : HasBs w 0 A h.bs) (hn : h.bs.length = n) (hc : n ≤ cp) :
    Calls Try.prog 22 #[.agg #[.int .i64 h.lv, .int .i64 h.nx, .slice A n cp]] w fun e w' => e = .returned (.int .i64 (countH h : Nat)) ∧ Below w.heap.size w w' := by
  obtain ⟨h1, h2, h3, h4, h5⟩ := hh.fit hi hn
  exact refCount_any (h.lv : Nat) (h.nx : Nat) 0 hb hn (by omega) (fun r hr => by have := h4 r hr; omega)
end
section
variable {A0 : Option Addr} {n cp : Nat} {l : List Ac} {w : World}
set_option maxRecDepth 20000 in
set_option maxHeartbeats 25600000 in
theorem plays_any (k : ByteArray) (hl : HasA w 0 A0 l) (hn : l.length = n) (h9 : n ≤ 9223372036854775807) (hk9 : k.size ≤ 9223372036854775807) :
    Calls Try.prog 3 #[.slice A0 n cp, .string k] w fun e w' => e = .returned (.bool true) ∧ Below w.heap.size w w' := by
  have hcs := small_any (cp := cp) 0 80 hl hn h9 (by omega)
  have HL := Lib.hid (And.intro hl hn)
  clear hl hn
  go_enter Try.func3, Try.ntmps3
  go_wp2_with fail
  refine hcs.mono ?_
  rintro e w1 ⟨b, rfl, hb, h1⟩
  clear hcs
  cases b
  · clear hb
    go_wp2_with fail
    refine (awake_any w1).mono ?_
    rintro e w2 ⟨rfl, h2⟩
    go_wp2
    go_ret
    exact ⟨rfl, h1.trans (h2.mono h1.size)⟩
  · have hsm := hb.1 rfl
    have hn80 : n ≤ 80 := by have := hsm.len; rw [HL.out.2] at this; exact this
    have HS := Lib.hid hsm
    clear hb hsm
    by_cases hk2 : 200 < k.size
    · have i2 : (200 : Int) < (k.size : Int) := by omega
      go_wp2_with fail
      refine (awake_any w1).mono ?_
      rintro e w2 ⟨rfl, h2⟩
      go_wp2
      go_ret
      exact ⟨rfl, h1.trans (h2.mono h1.size)⟩
    · have i2 : ¬ (200 : Int) < (k.size : Int) := by omega
      have hk : k.size ≤ 200 := by omega
      clear hk2
      go_wp2_with fail
      refine (new_any _).mono ?_
      rintro e w2 ⟨A, n0, cp0, rfl, hnn, hcc, hbs, hy⟩
      have hB2 := h1.trans (hy.mono h1.size)
      clear h1 hy
      go_wp2_with fail
      refine (refNew_any _).mono ?_
      rintro e w3 ⟨B, n1, cp1, rfl, hnn1, hcc1, hbs1, hy⟩
      have hB3 := hB2.trans (hy.mono hB2.size)
      have hbs := hbs.lt.below hy (Nat.le_refl _)
      clear hB2
      obtain ⟨h0, hh0⟩ : ∃ h0, newH = h0 := ⟨_, rfl⟩
      have HH0 := Lib.hid (show h0 = runA (l.take 0) by rw [← hh0, List.take_zero]; rfl)
      have hD := duo_new hB3 hnn hcc hbs hnn1 hcc1 hbs1
      rw [hh0] at hD
      obtain ⟨gx, hgx⟩ : ∃ gx, w3.heap.size = gx := ⟨_, rfl⟩
      rw [hgx] at hD
      clear hnn hcc hbs hnn1 hcc1 hbs1 hy hB3
      go_wp2
      clear hh0 hgx
      generalize (w3.alloc (.cells #[.int .i64 (h0.lv : Nat), .int .i64 (h0.nx : Nat), .slice A n0 cp0] 27)).alloc (.cells #[.int .i64 (h0.lv : Nat), .int .i64 (h0.nx : Nat), .slice B n1 cp1] 27) = w4 at hD ⊢
      generalize gx + 1 = gy at hD ⊢
      go_loopw [7, 8, 9, 10, 11] (fun s7 _ _ _ _ wx => ∃ (q : Nat) (h : H) (A : Option Addr) (m c : Nat) (B : Option Addr) (m2 c2 : Nat), q ≤ n ∧ s7 = .int .i64 q ∧ Hid (h = runA (l.take q)) ∧ Duo w wx gx gy h h A m c B m2 c2) (fun s7 _ _ _ _ _ => n - (intOf s7).toNat)
      case atStart => exact ⟨0, h0, A, n0, cp0, B, n1, cp1, Nat.zero_le _, rfl, HH0, hD⟩
      case round =>
        clear hD HH0
        rename World => wx
        obtain ⟨q, h, A, m, c, B, m2, c2, hq, rfl, hH, hD⟩ := hrel
        by_cases hlt : q < n
        · have hgt := List.getElem?_eq_getElem (l := l) (i := q) (by rw [HL.out.2]; exact hlt)
          generalize (l[q]'(by rw [HL.out.2]; exact hlt)) = x at hgt
          obtain ⟨b, o, rfl, _, hlb, d0, d1, d2, d3⟩ := HasA.at (HL.out.1.below hD.b (Nat.le_refl _)) hgt
          have hid : Idx spread h q := by rw [hH.out]; exact Idx.run HS.out.fine q (by rw [HL.out.2]; exact hq) (by omega)
          have hfx := HS.out.fine _ (List.mem_of_getElem? hgt)
          have hnext : Hid (doA h x = runA (l.take (q + 1))) := Lib.hid (by rw [run_take hgt, hH.out])
          have hidn : Idx spread (doA h x) (q + 1) := hid.doA (by omega) hfx
          obtain ⟨ak, ek, et, es⟩ := x
          simp only at d0 d1 d2 d3
          have i1 : (q : Int) < (n : Int) := by omega
          have i0 : (0 : Int) ≤ (q : Int) := by omega
          obtain ⟨h', hh'⟩ : ∃ h', doA h ⟨ak, ek, et, es⟩ = h' := ⟨_, rfl⟩
          have HH' : Hid (h' = runA (l.take (q + 1))) := Lib.hid (by rw [← hh']; exact hnext.out)
          rw [hh'] at hidn
          have HIX' := Lib.hid hidn
          have x0 := hD.x.b.c0
          have x1 := hD.x.b.c1
          have x2 := hD.x.b.c2
          have y0 := hD.y.b.c0
          have y1 := hD.y.b.c1
          have y2 := hD.y.b.c2
          clear hgt hnext hidn
          by_cases k0 : ak = 0
          · subst k0
            have hcx := fun W (hW : HasBsX W (fun b => b ≠ gx ∧ b ≠ gy) A h.bs) => put_any (w := W) (fun b => b ≠ gx ∧ b ≠ gy) hid (by omega) hW hD.x.hn hD.x.hc ek et es hfx
            have hcy := fun W (hW : HasBsX W (fun b => b ≠ gx ∧ b ≠ gy) B h.bs) => refPut_idx (w := W) (fun b => b ≠ gx ∧ b ≠ gy) hid (by omega) hW hD.y.hn hD.y.hc ek et es hfx
            rw [show putH spread h ⟨ek, et, es⟩ = h' from hh'] at hcx hcy
            clear hid hh' hfx
            have hdr := (Below.refl wx.heap.size wx).drew
            go_wp2_with fail
            refine Lex.region_parts (ops := ppraw) (ops1 := ppops) (calls := ppcalls) 24 ppord (fun W => W.cell? ⟨gx, 0, none⟩ = some (.int .i64 (h.lv : Nat)) ∧ W.cell? ⟨gx, 1, none⟩ = some (.int .i64 (h.nx : Nat)) ∧ W.cell? ⟨gx, 2, none⟩ = some (.slice A m c) ∧ W.cell? ⟨gy, 0, none⟩ = some (.int .i64 (h.lv : Nat)) ∧ W.cell? ⟨gy, 1, none⟩ = some (.int .i64 (h.nx : Nat)) ∧ W.cell? ⟨gy, 2, none⟩ = some (.slice B m2 c2) ∧ W.cell? ⟨b, o + q * 4 + 1, none⟩ = some (.string ek) ∧ W.cell? ⟨b, o + q * 4 + 2, none⟩ = some (.int .i64 et) ∧ W.cell? ⟨b, o + q * 4 + 3, none⟩ = some (.int .i64 es)) (by kernel_rfl) ppcut (by rw [ppsize]; decide) (by kernel_rfl) (by kernel_rfl) (by kernel_rfl) ppsel (by kernel_rfl) (by kernel_rfl) pplex (⟨cell_belowB hdr x0, cell_belowB hdr x1, cell_belowB hdr x2, cell_belowB hdr y0, cell_belowB hdr y1, cell_belowB hdr y2, cell_belowB hdr d1, cell_belowB hdr d2, cell_belowB hdr d3⟩) ?_
            unfold ppord
            have x0 := cell_belowB hdr x0
            have x1 := cell_belowB hdr x1
            have x2 := cell_belowB hdr x2
            have y0 := cell_belowB hdr y0
            have y1 := cell_belowB hdr y1
            have y2 := cell_belowB hdr y2
            have d1 := cell_belowB hdr d1
            have d2 := cell_belowB hdr d2
            have d3 := cell_belowB hdr d3
            have hD := hD.below hdr
            clear hdr
            refine Lex.step_take (.agg #[.int .i64 (h.lv : Nat), .int .i64 (h.nx : Nat), .slice A m c]) pp0 rfl (Lex.want_none rfl) (by intro Wx hSw; (try dsimp only at hSw); go_simp; (try (first | (with_reducible rfl) | assumption | rfl))) ?_
            simp only [Act.put, List.setIfInBounds_toArray, List.set_cons_zero, List.set_cons_succ]
            refine Lex.step_take (.slice (some ⟨b, o, none⟩) n cp) pp1 rfl (Lex.want_none rfl) (by intro Wx hSw; (try dsimp only at hSw); go_simp; (try (first | (with_reducible rfl) | assumption | rfl))) ?_
            simp only [Act.put, List.setIfInBounds_toArray, List.set_cons_zero, List.set_cons_succ]
            refine Lex.step_take (.int .i64 q) pp2 rfl (Lex.want_none rfl) (by intro Wx hSw; (try dsimp only at hSw); go_simp; (try (first | (with_reducible rfl) | assumption | rfl))) ?_
            simp only [Act.put, List.setIfInBounds_toArray, List.set_cons_zero, List.set_cons_succ]
            refine Lex.step_take (.pointer (some ⟨b, o + q * 4, none⟩)) pp3 rfl (Lex.want_none rfl) (by intro Wx hSw; (try dsimp only at hSw); go_simp; (try (first | (with_reducible rfl) | assumption | rfl))) ?_
            simp only [Act.put, List.setIfInBounds_toArray, List.set_cons_zero, List.set_cons_succ]
            refine Lex.step_take (.pointer (some ⟨b, o + q * 4 + 1, none⟩)) pp4 rfl (Lex.want_none rfl) (by intro Wx hSw; (try dsimp only at hSw); go_simp; (try (first | (with_reducible rfl) | assumption | rfl))) ?_
            simp only [Act.put, List.setIfInBounds_toArray, List.set_cons_zero, List.set_cons_succ]
            refine Lex.step_take (.string ek) pp5 rfl (Lex.want_none rfl) (by intro Wx hSw; (try dsimp only at hSw); go_simp; (try (first | (with_reducible rfl) | assumption | rfl))) ?_
            simp only [Act.put, List.setIfInBounds_toArray, List.set_cons_zero, List.set_cons_succ]
            refine Lex.step_take (.slice (some ⟨b, o, none⟩) n cp) pp6 rfl (Lex.want_none rfl) (by intro Wx hSw; (try dsimp only at hSw); go_simp; (try (first | (with_reducible rfl) | assumption | rfl))) ?_
            simp only [Act.put, List.setIfInBounds_toArray, List.set_cons_zero, List.set_cons_succ]
            refine Lex.step_take (.int .i64 q) pp7 rfl (Lex.want_none rfl) (by intro Wx hSw; (try dsimp only at hSw); go_simp; (try (first | (with_reducible rfl) | assumption | rfl))) ?_
            simp only [Act.put, List.setIfInBounds_toArray, List.set_cons_zero, List.set_cons_succ]
            refine Lex.step_take (.pointer (some ⟨b, o + q * 4, none⟩)) pp8 rfl (Lex.want_none rfl) (by intro Wx hSw; (try dsimp only at hSw); go_simp; (try (first | (with_reducible rfl) | assumption | rfl))) ?_
            simp only [Act.put, List.setIfInBounds_toArray, List.set_cons_zero, List.set_cons_succ]
            refine Lex.step_take (.pointer (some ⟨b, o + q * 4 + 2, none⟩)) pp9 rfl (Lex.want_none rfl) (by intro Wx hSw; (try dsimp only at hSw); go_simp; (try (first | (with_reducible rfl) | assumption | rfl))) ?_
            simp only [Act.put, List.setIfInBounds_toArray, List.set_cons_zero, List.set_cons_succ]
            refine Lex.step_take (.agg #[.int .i64 et, .int .i64 es]) pp10 rfl (Lex.want_none rfl) (by intro Wx hSw; (try dsimp only at hSw); go_simp; (try (first | (with_reducible rfl) | assumption | rfl))) ?_
            simp only [Act.put, List.setIfInBounds_toArray, List.set_cons_zero, List.set_cons_succ]
            refine Lex.step_take (.agg #[.int .i64 (h.lv : Nat), .int .i64 (h.nx : Nat), .slice B m2 c2]) pp12 rfl (Lex.want_none rfl) (by intro Wx hSw; (try dsimp only at hSw); go_simp; (try (first | (with_reducible rfl) | assumption | rfl))) ?_
            simp only [Act.put, List.setIfInBounds_toArray, List.set_cons_zero, List.set_cons_succ]
            refine Lex.step_take (.slice (some ⟨b, o, none⟩) n cp) pp13 rfl (Lex.want_none rfl) (by intro Wx hSw; (try dsimp only at hSw); go_simp; (try (first | (with_reducible rfl) | assumption | rfl))) ?_
            simp only [Act.put, List.setIfInBounds_toArray, List.set_cons_zero, List.set_cons_succ]
            refine Lex.step_take (.int .i64 q) pp14 rfl (Lex.want_none rfl) (by intro Wx hSw; (try dsimp only at hSw); go_simp; (try (first | (with_reducible rfl) | assumption | rfl))) ?_
            simp only [Act.put, List.setIfInBounds_toArray, List.set_cons_zero, List.set_cons_succ]
            refine Lex.step_take (.pointer (some ⟨b, o + q * 4, none⟩)) pp15 rfl (Lex.want_none rfl) (by intro Wx hSw; (try dsimp only at hSw); go_simp; (try (first | (with_reducible rfl) | assumption | rfl))) ?_
            simp only [Act.put, List.setIfInBounds_toArray, List.set_cons_zero, List.set_cons_succ]
            refine Lex.step_take (.pointer (some ⟨b, o + q * 4 + 1, none⟩)) pp16 rfl (Lex.want_none rfl) (by intro Wx hSw; (try dsimp only at hSw); go_simp; (try (first | (with_reducible rfl) | assumption | rfl))) ?_
            simp only [Act.put, List.setIfInBounds_toArray, List.set_cons_zero, List.set_cons_succ]
            refine Lex.step_take (.string ek) pp17 rfl (Lex.want_none rfl) (by intro Wx hSw; (try dsimp only at hSw); go_simp; (try (first | (with_reducible rfl) | assumption | rfl))) ?_
            simp only [Act.put, List.setIfInBounds_toArray, List.set_cons_zero, List.set_cons_succ]
            refine Lex.step_take (.slice (some ⟨b, o, none⟩) n cp) pp18 rfl (Lex.want_none rfl) (by intro Wx hSw; (try dsimp only at hSw); go_simp; (try (first | (with_reducible rfl) | assumption | rfl))) ?_
            simp only [Act.put, List.setIfInBounds_toArray, List.set_cons_zero, List.set_cons_succ]
            refine Lex.step_take (.int .i64 q) pp19 rfl (Lex.want_none rfl) (by intro Wx hSw; (try dsimp only at hSw); go_simp; (try (first | (with_reducible rfl) | assumption | rfl))) ?_
            simp only [Act.put, List.setIfInBounds_toArray, List.set_cons_zero, List.set_cons_succ]
            refine Lex.step_take (.pointer (some ⟨b, o + q * 4, none⟩)) pp20 rfl (Lex.want_none rfl) (by intro Wx hSw; (try dsimp only at hSw); go_simp; (try (first | (with_reducible rfl) | assumption | rfl))) ?_
            simp only [Act.put, List.setIfInBounds_toArray, List.set_cons_zero, List.set_cons_succ]
            refine Lex.step_take (.pointer (some ⟨b, o + q * 4 + 2, none⟩)) pp21 rfl (Lex.want_none rfl) (by intro Wx hSw; (try dsimp only at hSw); go_simp; (try (first | (with_reducible rfl) | assumption | rfl))) ?_
            simp only [Act.put, List.setIfInBounds_toArray, List.set_cons_zero, List.set_cons_succ]
            refine Lex.step_take (.agg #[.int .i64 et, .int .i64 es]) pp22 rfl (Lex.want_none rfl) (by intro Wx hSw; (try dsimp only at hSw); go_simp; (try (first | (with_reducible rfl) | assumption | rfl))) ?_
            simp only [Act.put, List.setIfInBounds_toArray, List.set_cons_zero, List.set_cons_succ]
            refine Lex.step_call pp11 rfl (Lex.want_none rfl) (fun K hK => ?_)
            go_simp
            have hDo := hD
            refine (hcx _ hD.x.hb).mono ?_
            rintro e p1 ⟨A', n', c', rfl, hn', hc', hb', hy⟩
            have hb' := duo_x hDo (Nat.le_refl _) hb'
            have x0 := cell_belowB hy x0
            have x1 := cell_belowB hy x1
            have x2 := cell_belowB hy x2
            have y0 := cell_belowB hy y0
            have y1 := cell_belowB hy y1
            have y2 := cell_belowB hy y2
            have d1 := cell_belowB hy d1
            have d2 := cell_belowB hy d2
            have d3 := cell_belowB hy d3
            have hD := hD.below hy
            clear hy hDo hcx
            refine hK.out _ _ _ (fun _ h => h) (⟨x0, x1, x2, y0, y1, y2, d1, d2, d3⟩) ?_
            clear hK K
            try simp only [Act.put, List.setIfInBounds_toArray, List.set_cons_zero, List.set_cons_succ]
            refine Lex.step_call pp23 rfl (Lex.want_none rfl) (fun K hK => ?_)
            go_simp
            have hDo := hD
            refine (hcy _ hD.y.hb).mono ?_
            rintro e p2 ⟨B', m', d', rfl, hm', hd', hbb, hy⟩
            have hbb := duo_x hDo (Nat.le_refl _) hbb
            have hb' := hb'.below hy (Nat.le_refl _)
            have x0 := cell_belowB hy x0
            have x1 := cell_belowB hy x1
            have x2 := cell_belowB hy x2
            have y0 := cell_belowB hy y0
            have y1 := cell_belowB hy y1
            have y2 := cell_belowB hy y2
            have d1 := cell_belowB hy d1
            have d2 := cell_belowB hy d2
            have d3 := cell_belowB hy d3
            have hD := hD.below hy
            clear hy hDo hcy
            refine hK.out _ _ _ (fun _ h => h) (⟨x0, x1, x2, y0, y1, y2, d1, d2, d3⟩) ?_
            clear hK K
            try simp only [Act.put, List.setIfInBounds_toArray, List.set_cons_zero, List.set_cons_succ]
            refine Lex.tail_two ppr0 ppr1 ppr2 (by rw [ppsize]; decide) ?_
            have xf := hD.x.b.f
            refine Lex.tail_op ppt0 rfl (fun K hK => ?_)
            go_simp
            refine hK.out _ _ ?_
            clear hK K xf x0 x1 x2 y0 y1 y2 d1 d2 d3
            have hbb := hbb.lt.bar (by intro h; exact h.1.1 rfl) (bar3 p2 gx (.int .i64 (h'.lv : Nat)) (.int .i64 (h'.nx : Nat)) (.slice A' n' c'))
            have hD := hD.putX hn' hc' hb'
            generalize (((p2.setCell ⟨gx, 0, none⟩ (.int .i64 (h'.lv : Nat))).setCell ⟨gx, 1, none⟩ (.int .i64 (h'.nx : Nat))).setCell ⟨gx, 2, none⟩ (.slice A' n' c')) = p3 at hD hbb ⊢
            have hbb := hbb.mono (Y := fun b => b ≠ gx ∧ b ≠ gy) (fun _ h => h.1)
            have y0 := hD.y.b.c0
            have y1 := hD.y.b.c1
            have y2 := hD.y.b.c2
            have yf := hD.y.b.f
            refine Lex.tail_op ppt1 rfl (fun K hK => ?_)
            go_simp
            refine hK.out _ _ ?_
            clear hK K y0 y1 y2 yf
            have hD := hD.putY hm' hd' hbb
            generalize (((p3.setCell ⟨gy, 0, none⟩ (.int .i64 (h'.lv : Nat))).setCell ⟨gy, 1, none⟩ (.int .i64 (h'.nx : Nat))).setCell ⟨gy, 2, none⟩ (.slice B' m' d')) = p4 at hD ⊢
            refine NoPanic.normal ?_
            clear d0
            have hcg := fun W (hW : HasBs W 0 A' h'.bs) => get_any (w := W) HIX'.out (by omega) hW hD.x.hn hD.x.hc k hk
            have hch := fun W (hW : HasBs W 0 B' h'.bs) => refGet_idx (w := W) HIX'.out (by omega) hW hD.y.hn hD.y.hc k hk
            have x0 := hD.x.b.c0
            have x1 := hD.x.b.c1
            have x2 := hD.x.b.c2
            have y0 := hD.y.b.c0
            have y1 := hD.y.b.c1
            have y2 := hD.y.b.c2
            go_wp2_with fail
            refine (hcg _ hD.x.hb.bs).mono ?_
            rintro e u1 he
            obtain ⟨p1, q1, b1, rfl, hF1, hy⟩ := find_vals he
            have hD := hD.below hy
            have hnew := (Below.refl u1.heap.size u1).alloc (Nat.le_refl _) (.cells #[.int .i64 p1, .int .i64 q1] 30)
            have hp := Box2.new u1 (.int .i64 p1) (.int .i64 q1) 30
            have hD := hD.below hnew
            obtain ⟨g1, hg1⟩ : ∃ g, u1.heap.size = g := ⟨_, rfl⟩
            rw [hg1] at hp
            clear x0 x1 x2 y0 y1 y2 he hy hcg hnew
            generalize hz1 : u1.alloc (.cells #[.int .i64 p1, .int .i64 q1] 30) = z1 at hD hp
            have x0 := hD.x.b.c0
            have x1 := hD.x.b.c1
            have x2 := hD.x.b.c2
            have y0 := hD.y.b.c0
            have y1 := hD.y.b.c1
            have y2 := hD.y.b.c2
            go_wp2_with fail
            (try rw [hz1])
            clear hz1 hg1
            refine (hch _ hD.y.hb.bs).mono ?_
            rintro e u2 he
            obtain ⟨p2, q2, b2, rfl, hF2, hy⟩ := find_vals he
            have hEq : b2 = b1 ∧ p2 = p1 ∧ q2 = q1 := by
              have h1 := hF1.out.1
              rw [hF2.out.1] at h1
              injection h1 with h5 h6
              exact ⟨hF2.out.2.symm.trans hF1.out.2, h5, h6⟩
            obtain ⟨rfl, rfl, rfl⟩ := hEq
            have hD := hD.below hy
            have hp := hp.below hy hp.lt
            have hnew := (Below.refl u2.heap.size u2).alloc (Nat.le_refl _) (.cells #[.int .i64 p2, .int .i64 q2] 30)
            have hp2 := Box2.new u2 (.int .i64 p2) (.int .i64 q2) 30
            have hD := hD.below hnew
            have hp := hp.below hnew hp.lt
            obtain ⟨g2, hg2⟩ : ∃ g, u2.heap.size = g := ⟨_, rfl⟩
            rw [hg2] at hp2
            clear x0 x1 x2 y0 y1 y2 he hy hch hnew hF1 hF2
            generalize hz2 : u2.alloc (.cells #[.int .i64 p2, .int .i64 q2] 30) = z2 at hD hp hp2
            have x0 := hD.x.b.c0
            have x1 := hD.x.b.c1
            have x2 := hD.x.b.c2
            have y0 := hD.y.b.c0
            have y1 := hD.y.b.c1
            have y2 := hD.y.b.c2
            have r0 := hp.c0
            have r1 := hp.c1
            have s0 := hp2.c0
            have s1 := hp2.c1
            have hsm := HIX'.out.small (by omega)
            have hlen := HIX'.out.len
            have hxn := hD.x.hn
            have hyn := hD.y.hn
            have HCS := Lib.hid (fun W (hX : HasBs W 0 A' h'.bs) (hY : HasBs W 0 B' h'.bs) => refSameH_any (cp := c') (cp2 := d') (w := W) (h'.lv : Nat) (h'.nx : Nat) (h'.lv : Nat) (h'.nx : Nat) 0 0 hX hxn (by omega) (fun r hr => by have := hsm.1 r hr; omega) hY hyn (fun r hr => by have := hsm.1 r hr; omega))
            have HCC := Lib.hid (fun W (hX : HasBs W 0 A' h'.bs) => count_any (w := W) HIX'.out (by omega) hX hxn hD.x.hc)
            have HCD := Lib.hid (fun W (hX : HasBs W 0 B' h'.bs) => refCount_idx (w := W) HIX'.out (by omega) hX hyn hD.y.hc)
            clear hsm hlen hxn hyn
            go_wp2_with fail
            (try rw [hz2])
            clear hz2 hg2
            have hdr := (Below.refl z2.heap.size z2).drew
            refine Lex.region_lex (ops := psops) (calls := pscalls) psord (fun W => W.cell? ⟨gx, 0, none⟩ = some (.int .i64 (h'.lv : Nat)) ∧ W.cell? ⟨gx, 1, none⟩ = some (.int .i64 (h'.nx : Nat)) ∧ W.cell? ⟨gx, 2, none⟩ = some (.slice A' n' c') ∧ W.cell? ⟨gy, 0, none⟩ = some (.int .i64 (h'.lv : Nat)) ∧ W.cell? ⟨gy, 1, none⟩ = some (.int .i64 (h'.nx : Nat)) ∧ W.cell? ⟨gy, 2, none⟩ = some (.slice B' m' d') ∧ W.cell? ⟨g1, 0, none⟩ = some (.int .i64 p2) ∧ W.cell? ⟨g1, 1, none⟩ = some (.int .i64 q2) ∧ W.cell? ⟨g2, 0, none⟩ = some (.int .i64 p2) ∧ W.cell? ⟨g2, 1, none⟩ = some (.int .i64 q2)) (by kernel_rfl) (by kernel_rfl) pssel (by kernel_rfl) (by kernel_rfl) pslex (⟨cell_belowB hdr x0, cell_belowB hdr x1, cell_belowB hdr x2, cell_belowB hdr y0, cell_belowB hdr y1, cell_belowB hdr y2, cell_belowB hdr r0, cell_belowB hdr r1, cell_belowB hdr s0, cell_belowB hdr s1⟩) ?_
            unfold psord
            have x0 := cell_belowB hdr x0
            have x1 := cell_belowB hdr x1
            have x2 := cell_belowB hdr x2
            have y0 := cell_belowB hdr y0
            have y1 := cell_belowB hdr y1
            have y2 := cell_belowB hdr y2
            have r0 := cell_belowB hdr r0
            have r1 := cell_belowB hdr r1
            have s0 := cell_belowB hdr s0
            have s1 := cell_belowB hdr s1
            have hD := hD.below hdr
            clear hdr
            refine Lex.step_take (.agg #[.int .i64 (h'.lv : Nat), .int .i64 (h'.nx : Nat), .slice A' n' c']) ps0 rfl (Lex.want_none rfl) (by intro Wx hSw; (try dsimp only at hSw); go_simp; (try (first | (with_reducible rfl) | assumption | rfl))) ?_
            simp only [Act.put, List.setIfInBounds_toArray, List.set_cons_zero, List.set_cons_succ]
            refine Lex.step_take (.agg #[.int .i64 (h'.lv : Nat), .int .i64 (h'.nx : Nat), .slice B' m' d']) ps1 rfl (Lex.want_none rfl) (by intro Wx hSw; (try dsimp only at hSw); go_simp; (try (first | (with_reducible rfl) | assumption | rfl))) ?_
            simp only [Act.put, List.setIfInBounds_toArray, List.set_cons_zero, List.set_cons_succ]
            refine Lex.step_call ps2 rfl (Lex.want_none rfl) (fun K hK => ?_)
            go_simp
            refine (HCS.out _ hD.x.hb.bs hD.y.hb.bs).mono ?_
            rintro e v1 ⟨sb, rfl, hsb, hy⟩
            obtain rfl : sb = true := hsb.2 (by simp)
            clear hsb
            have x0 := cell_belowB hy x0
            have x1 := cell_belowB hy x1
            have x2 := cell_belowB hy x2
            have y0 := cell_belowB hy y0
            have y1 := cell_belowB hy y1
            have y2 := cell_belowB hy y2
            have r0 := cell_belowB hy r0
            have r1 := cell_belowB hy r1
            have s0 := cell_belowB hy s0
            have s1 := cell_belowB hy s1
            have hD := hD.below hy
            clear hy
            refine hK.out _ _ _ (fun _ h => h) (⟨x0, x1, x2, y0, y1, y2, r0, r1, s0, s1⟩) ?_
            clear hK K
            try simp only [Act.put, List.setIfInBounds_toArray, List.set_cons_zero, List.set_cons_succ]
            refine Lex.step_take (.bool false) ps3 rfl (Lex.want_none rfl) (by intro Wx hSw; (try dsimp only at hSw); go_simp; (try (first | (with_reducible rfl) | assumption | rfl))) ?_
            simp only [Act.put, List.setIfInBounds_toArray, List.set_cons_zero, List.set_cons_succ]
            refine Lex.step_take (.bool false) ps4 rfl (Lex.want_none rfl) (by intro Wx hSw; (try dsimp only at hSw); go_simp; (try (first | (with_reducible rfl) | assumption | rfl))) ?_
            simp only [Act.put, List.setIfInBounds_toArray, List.set_cons_zero, List.set_cons_succ]
            refine Lex.step_take (.agg #[.int .i64 (h'.lv : Nat), .int .i64 (h'.nx : Nat), .slice A' n' c']) ps5 rfl (Lex.want_some rfl ps4 rfl (b' := false) rfl rfl) (by intro Wx hSw; (try dsimp only at hSw); go_simp; (try (first | (with_reducible rfl) | assumption | rfl))) ?_
            simp only [Act.put, List.setIfInBounds_toArray, List.set_cons_zero, List.set_cons_succ]
            refine Lex.step_take (.agg #[.int .i64 (h'.lv : Nat), .int .i64 (h'.nx : Nat), .slice B' m' d']) ps7 rfl (Lex.want_some rfl ps4 rfl (b' := false) rfl rfl) (by intro Wx hSw; (try dsimp only at hSw); go_simp; (try (first | (with_reducible rfl) | assumption | rfl))) ?_
            simp only [Act.put, List.setIfInBounds_toArray, List.set_cons_zero, List.set_cons_succ]
            refine Lex.step_call ps6 rfl (Lex.want_some rfl ps4 rfl (b' := false) rfl rfl) (fun K hK => ?_)
            go_simp
            refine (HCC.out _ hD.x.hb.bs).mono ?_
            rintro e v2 ⟨rfl, hy⟩
            have x0 := cell_belowB hy x0
            have x1 := cell_belowB hy x1
            have x2 := cell_belowB hy x2
            have y0 := cell_belowB hy y0
            have y1 := cell_belowB hy y1
            have y2 := cell_belowB hy y2
            have r0 := cell_belowB hy r0
            have r1 := cell_belowB hy r1
            have s0 := cell_belowB hy s0
            have s1 := cell_belowB hy s1
            have hD := hD.below hy
            clear hy
            refine hK.out _ _ _ (fun _ h => h) (⟨x0, x1, x2, y0, y1, y2, r0, r1, s0, s1⟩) ?_
            clear hK K
            try simp only [Act.put, List.setIfInBounds_toArray, List.set_cons_zero, List.set_cons_succ]
            refine Lex.step_call ps8 rfl (Lex.want_some rfl ps4 rfl (b' := false) rfl rfl) (fun K hK => ?_)
            go_simp
            refine (HCD.out _ hD.y.hb.bs).mono ?_
            rintro e v3 ⟨rfl, hy⟩
            have x0 := cell_belowB hy x0
            have x1 := cell_belowB hy x1
            have x2 := cell_belowB hy x2
            have y0 := cell_belowB hy y0
            have y1 := cell_belowB hy y1
            have y2 := cell_belowB hy y2
            have r0 := cell_belowB hy r0
            have r1 := cell_belowB hy r1
            have s0 := cell_belowB hy s0
            have s1 := cell_belowB hy s1
            have hD := hD.below hy
            clear hy
            refine hK.out _ _ _ (fun _ h => h) (⟨x0, x1, x2, y0, y1, y2, r0, r1, s0, s1⟩) ?_
            clear hK K
            try simp only [Act.put, List.setIfInBounds_toArray, List.set_cons_zero, List.set_cons_succ]
            refine Lex.step_take (.bool false) ps9 rfl (Lex.want_some rfl ps4 rfl (b' := false) rfl rfl) (by intro Wx hSw; (try dsimp only at hSw); go_simp; (try (first | (with_reducible rfl) | assumption | rfl))) ?_
            simp only [Act.put, List.setIfInBounds_toArray, List.set_cons_zero, List.set_cons_succ]
            refine Lex.step_take (.bool false) ps10 rfl (Lex.want_none rfl) (by intro Wx hSw; (try dsimp only at hSw); go_simp; (try (first | (with_reducible rfl) | assumption | rfl))) ?_
            simp only [Act.put, List.setIfInBounds_toArray, List.set_cons_zero, List.set_cons_succ]
            refine Lex.step_take (.bool false) ps11 rfl (Lex.want_none rfl) (by intro Wx hSw; (try dsimp only at hSw); go_simp; (try (first | (with_reducible rfl) | assumption | rfl))) ?_
            simp only [Act.put, List.setIfInBounds_toArray, List.set_cons_zero, List.set_cons_succ]
            refine Lex.step_take (.agg #[.int .i64 p2, .int .i64 q2]) ps12 rfl (Lex.want_some rfl ps11 rfl (b' := false) rfl rfl) (by intro Wx hSw; (try dsimp only at hSw); go_simp; (try (first | (with_reducible rfl) | assumption | rfl))) ?_
            simp only [Act.put, List.setIfInBounds_toArray, List.set_cons_zero, List.set_cons_succ]
            refine Lex.step_take (.agg #[.int .i64 p2, .int .i64 q2]) ps13 rfl (Lex.want_some rfl ps11 rfl (b' := false) rfl rfl) (by intro Wx hSw; (try dsimp only at hSw); go_simp; (try (first | (with_reducible rfl) | assumption | rfl))) ?_
            simp only [Act.put, List.setIfInBounds_toArray, List.set_cons_zero, List.set_cons_succ]
            refine Lex.step_take (.bool false) ps14 rfl (Lex.want_some rfl ps11 rfl (b' := false) rfl rfl) (by intro Wx hSw; (try dsimp only at hSw); go_simp; (try (first | (with_reducible rfl) | assumption | rfl))) ?_
            simp only [Act.put, List.setIfInBounds_toArray, List.set_cons_zero, List.set_cons_succ]
            refine Lex.step_take (.bool false) ps15 rfl (Lex.want_none rfl) (by intro Wx hSw; (try dsimp only at hSw); go_simp; (try (first | (with_reducible rfl) | assumption | rfl))) ?_
            simp only [Act.put, List.setIfInBounds_toArray, List.set_cons_zero, List.set_cons_succ]
            refine Lex.step_take (.bool false) ps16 rfl (Lex.want_none rfl) (by intro Wx hSw; (try dsimp only at hSw); go_simp; (try (first | (with_reducible rfl) | assumption | rfl))) ?_
            simp only [Act.put, List.setIfInBounds_toArray, List.set_cons_zero, List.set_cons_succ]
            refine Lex.step_take (.bool b2) ps17 rfl (Lex.want_some rfl ps16 rfl (b' := false) rfl rfl) (by intro Wx hSw; (try dsimp only at hSw); go_simp; (try (first | (with_reducible rfl) | assumption | rfl))) ?_
            simp only [Act.put, List.setIfInBounds_toArray, List.set_cons_zero, List.set_cons_succ]
            refine Lex.step_take (.bool b2) ps18 rfl (Lex.want_some rfl ps16 rfl (b' := false) rfl rfl) (by intro Wx hSw; (try dsimp only at hSw); go_simp; (try (first | (with_reducible rfl) | assumption | rfl))) ?_
            simp only [Act.put, List.setIfInBounds_toArray, List.set_cons_zero, List.set_cons_succ]
            refine Lex.step_take (.bool false) ps19 rfl (Lex.want_some rfl ps16 rfl (b' := false) rfl rfl) (by intro Wx hSw; (try dsimp only at hSw); go_simp; (try (first | (with_reducible rfl) | assumption | rfl))) ?_
            simp only [Act.put, List.setIfInBounds_toArray, List.set_cons_zero, List.set_cons_succ]
            refine Lex.step_take (.bool false) ps20 rfl (Lex.want_none rfl) (by intro Wx hSw; (try dsimp only at hSw); go_simp; (try (first | (with_reducible rfl) | assumption | rfl))) ?_
            simp only [Act.put, List.setIfInBounds_toArray, List.set_cons_zero, List.set_cons_succ]
            refine NoPanic.normal ?_
            have hD := Lib.hid hD
            clear x0 x1 x2 y0 y1 y2 r0 r1 s0 s1 hp hp2
            go_wp2
            go_roundw
            case rel => exact ⟨q + 1, h', A', n', c', B', m', d', by omega, by go_num, HH', hD.out⟩
            case measure => simp [intOf]; omega
          · by_cases k1 : ak = 1
            · subst k1
              have hcx := fun W (hW : HasBsX W (fun b => b ≠ gx ∧ b ≠ gy) A h.bs) => drop_any (w := W) (fun b => b ≠ gx ∧ b ≠ gy) hid (by omega) hW hD.x.hn hD.x.hc ek (Nat.le_trans hfx.1 (by omega))
              have hcy := fun W (hW : HasBsX W (fun b => b ≠ gx ∧ b ≠ gy) B h.bs) => refDrop_idx (w := W) (fun b => b ≠ gx ∧ b ≠ gy) hid (by omega) hW hD.y.hn hD.y.hc ek (Nat.le_trans hfx.1 (by omega))
              rw [show dropH spread h ek.data.toList = h' from hh'] at hcx hcy
              clear hid hh' hfx
              have hdr := (Below.refl wx.heap.size wx).drew
              go_wp2_with fail
              refine Lex.region_parts (ops := pdraw) (ops1 := pdops) (calls := pdcalls) 14 pdord (fun W => W.cell? ⟨gx, 0, none⟩ = some (.int .i64 (h.lv : Nat)) ∧ W.cell? ⟨gx, 1, none⟩ = some (.int .i64 (h.nx : Nat)) ∧ W.cell? ⟨gx, 2, none⟩ = some (.slice A m c) ∧ W.cell? ⟨gy, 0, none⟩ = some (.int .i64 (h.lv : Nat)) ∧ W.cell? ⟨gy, 1, none⟩ = some (.int .i64 (h.nx : Nat)) ∧ W.cell? ⟨gy, 2, none⟩ = some (.slice B m2 c2) ∧ W.cell? ⟨b, o + q * 4 + 1, none⟩ = some (.string ek)) (by kernel_rfl) pdcut (by rw [pdsize]; decide) (by kernel_rfl) (by kernel_rfl) (by kernel_rfl) pdsel (by kernel_rfl) (by kernel_rfl) pdlex (⟨cell_belowB hdr x0, cell_belowB hdr x1, cell_belowB hdr x2, cell_belowB hdr y0, cell_belowB hdr y1, cell_belowB hdr y2, cell_belowB hdr d1⟩) ?_
              unfold pdord
              have x0 := cell_belowB hdr x0
              have x1 := cell_belowB hdr x1
              have x2 := cell_belowB hdr x2
              have y0 := cell_belowB hdr y0
              have y1 := cell_belowB hdr y1
              have y2 := cell_belowB hdr y2
              have d1 := cell_belowB hdr d1
              have hD := hD.below hdr
              clear hdr
              refine Lex.step_take (.agg #[.int .i64 (h.lv : Nat), .int .i64 (h.nx : Nat), .slice A m c]) pd0 rfl (Lex.want_none rfl) (by intro Wx hSw; (try dsimp only at hSw); go_simp; (try (first | (with_reducible rfl) | assumption | rfl))) ?_
              simp only [Act.put, List.setIfInBounds_toArray, List.set_cons_zero, List.set_cons_succ]
              refine Lex.step_take (.slice (some ⟨b, o, none⟩) n cp) pd1 rfl (Lex.want_none rfl) (by intro Wx hSw; (try dsimp only at hSw); go_simp; (try (first | (with_reducible rfl) | assumption | rfl))) ?_
              simp only [Act.put, List.setIfInBounds_toArray, List.set_cons_zero, List.set_cons_succ]
              refine Lex.step_take (.int .i64 q) pd2 rfl (Lex.want_none rfl) (by intro Wx hSw; (try dsimp only at hSw); go_simp; (try (first | (with_reducible rfl) | assumption | rfl))) ?_
              simp only [Act.put, List.setIfInBounds_toArray, List.set_cons_zero, List.set_cons_succ]
              refine Lex.step_take (.pointer (some ⟨b, o + q * 4, none⟩)) pd3 rfl (Lex.want_none rfl) (by intro Wx hSw; (try dsimp only at hSw); go_simp; (try (first | (with_reducible rfl) | assumption | rfl))) ?_
              simp only [Act.put, List.setIfInBounds_toArray, List.set_cons_zero, List.set_cons_succ]
              refine Lex.step_take (.pointer (some ⟨b, o + q * 4 + 1, none⟩)) pd4 rfl (Lex.want_none rfl) (by intro Wx hSw; (try dsimp only at hSw); go_simp; (try (first | (with_reducible rfl) | assumption | rfl))) ?_
              simp only [Act.put, List.setIfInBounds_toArray, List.set_cons_zero, List.set_cons_succ]
              refine Lex.step_take (.string ek) pd5 rfl (Lex.want_none rfl) (by intro Wx hSw; (try dsimp only at hSw); go_simp; (try (first | (with_reducible rfl) | assumption | rfl))) ?_
              simp only [Act.put, List.setIfInBounds_toArray, List.set_cons_zero, List.set_cons_succ]
              refine Lex.step_take (.agg #[.int .i64 (h.lv : Nat), .int .i64 (h.nx : Nat), .slice B m2 c2]) pd7 rfl (Lex.want_none rfl) (by intro Wx hSw; (try dsimp only at hSw); go_simp; (try (first | (with_reducible rfl) | assumption | rfl))) ?_
              simp only [Act.put, List.setIfInBounds_toArray, List.set_cons_zero, List.set_cons_succ]
              refine Lex.step_take (.slice (some ⟨b, o, none⟩) n cp) pd8 rfl (Lex.want_none rfl) (by intro Wx hSw; (try dsimp only at hSw); go_simp; (try (first | (with_reducible rfl) | assumption | rfl))) ?_
              simp only [Act.put, List.setIfInBounds_toArray, List.set_cons_zero, List.set_cons_succ]
              refine Lex.step_take (.int .i64 q) pd9 rfl (Lex.want_none rfl) (by intro Wx hSw; (try dsimp only at hSw); go_simp; (try (first | (with_reducible rfl) | assumption | rfl))) ?_
              simp only [Act.put, List.setIfInBounds_toArray, List.set_cons_zero, List.set_cons_succ]
              refine Lex.step_take (.pointer (some ⟨b, o + q * 4, none⟩)) pd10 rfl (Lex.want_none rfl) (by intro Wx hSw; (try dsimp only at hSw); go_simp; (try (first | (with_reducible rfl) | assumption | rfl))) ?_
              simp only [Act.put, List.setIfInBounds_toArray, List.set_cons_zero, List.set_cons_succ]
              refine Lex.step_take (.pointer (some ⟨b, o + q * 4 + 1, none⟩)) pd11 rfl (Lex.want_none rfl) (by intro Wx hSw; (try dsimp only at hSw); go_simp; (try (first | (with_reducible rfl) | assumption | rfl))) ?_
              simp only [Act.put, List.setIfInBounds_toArray, List.set_cons_zero, List.set_cons_succ]
              refine Lex.step_take (.string ek) pd12 rfl (Lex.want_none rfl) (by intro Wx hSw; (try dsimp only at hSw); go_simp; (try (first | (with_reducible rfl) | assumption | rfl))) ?_
              simp only [Act.put, List.setIfInBounds_toArray, List.set_cons_zero, List.set_cons_succ]
              refine Lex.step_call pd6 rfl (Lex.want_none rfl) (fun K hK => ?_)
              go_simp
              have hDo := hD
              refine (hcx _ hD.x.hb).mono ?_
              rintro e p1 ⟨A', n', c', rfl, hn', hc', hb', hy⟩
              have hb' := duo_x hDo (Nat.le_refl _) hb'
              have x0 := cell_belowB hy x0
              have x1 := cell_belowB hy x1
              have x2 := cell_belowB hy x2
              have y0 := cell_belowB hy y0
              have y1 := cell_belowB hy y1
              have y2 := cell_belowB hy y2
              have d1 := cell_belowB hy d1
              have hD := hD.below hy
              clear hy hDo hcx
              refine hK.out _ _ _ (fun _ h => h) (⟨x0, x1, x2, y0, y1, y2, d1⟩) ?_
              clear hK K
              try simp only [Act.put, List.setIfInBounds_toArray, List.set_cons_zero, List.set_cons_succ]
              refine Lex.step_call pd13 rfl (Lex.want_none rfl) (fun K hK => ?_)
              go_simp
              have hDo := hD
              refine (hcy _ hD.y.hb).mono ?_
              rintro e p2 ⟨B', m', d', rfl, hm', hd', hbb, hy⟩
              have hbb := duo_x hDo (Nat.le_refl _) hbb
              have hb' := hb'.below hy (Nat.le_refl _)
              have x0 := cell_belowB hy x0
              have x1 := cell_belowB hy x1
              have x2 := cell_belowB hy x2
              have y0 := cell_belowB hy y0
              have y1 := cell_belowB hy y1
              have y2 := cell_belowB hy y2
              have d1 := cell_belowB hy d1
              have hD := hD.below hy
              clear hy hDo hcy
              refine hK.out _ _ _ (fun _ h => h) (⟨x0, x1, x2, y0, y1, y2, d1⟩) ?_
              clear hK K
              try simp only [Act.put, List.setIfInBounds_toArray, List.set_cons_zero, List.set_cons_succ]
              refine Lex.tail_two pdr0 pdr1 pdr2 (by rw [pdsize]; decide) ?_
              have xf := hD.x.b.f
              refine Lex.tail_op pdt0 rfl (fun K hK => ?_)
              go_simp
              refine hK.out _ _ ?_
              clear hK K xf x0 x1 x2 y0 y1 y2 d1
              have hbb := hbb.lt.bar (by intro h; exact h.1.1 rfl) (bar3 p2 gx (.int .i64 (h'.lv : Nat)) (.int .i64 (h'.nx : Nat)) (.slice A' n' c'))
              have hD := hD.putX hn' hc' hb'
              generalize (((p2.setCell ⟨gx, 0, none⟩ (.int .i64 (h'.lv : Nat))).setCell ⟨gx, 1, none⟩ (.int .i64 (h'.nx : Nat))).setCell ⟨gx, 2, none⟩ (.slice A' n' c')) = p3 at hD hbb ⊢
              have hbb := hbb.mono (Y := fun b => b ≠ gx ∧ b ≠ gy) (fun _ h => h.1)
              have y0 := hD.y.b.c0
              have y1 := hD.y.b.c1
              have y2 := hD.y.b.c2
              have yf := hD.y.b.f
              refine Lex.tail_op pdt1 rfl (fun K hK => ?_)
              go_simp
              refine hK.out _ _ ?_
              clear hK K y0 y1 y2 yf
              have hD := hD.putY hm' hd' hbb
              generalize (((p3.setCell ⟨gy, 0, none⟩ (.int .i64 (h'.lv : Nat))).setCell ⟨gy, 1, none⟩ (.int .i64 (h'.nx : Nat))).setCell ⟨gy, 2, none⟩ (.slice B' m' d')) = p4 at hD ⊢
              refine NoPanic.normal ?_
              clear d0 d2 d3
              have hcg := fun W (hW : HasBs W 0 A' h'.bs) => get_any (w := W) HIX'.out (by omega) hW hD.x.hn hD.x.hc k hk
              have hch := fun W (hW : HasBs W 0 B' h'.bs) => refGet_idx (w := W) HIX'.out (by omega) hW hD.y.hn hD.y.hc k hk
              have x0 := hD.x.b.c0
              have x1 := hD.x.b.c1
              have x2 := hD.x.b.c2
              have y0 := hD.y.b.c0
              have y1 := hD.y.b.c1
              have y2 := hD.y.b.c2
              go_wp2_with fail
              refine (hcg _ hD.x.hb.bs).mono ?_
              rintro e u1 he
              obtain ⟨p1, q1, b1, rfl, hF1, hy⟩ := find_vals he
              have hD := hD.below hy
              have hnew := (Below.refl u1.heap.size u1).alloc (Nat.le_refl _) (.cells #[.int .i64 p1, .int .i64 q1] 30)
              have hp := Box2.new u1 (.int .i64 p1) (.int .i64 q1) 30
              have hD := hD.below hnew
              obtain ⟨g1, hg1⟩ : ∃ g, u1.heap.size = g := ⟨_, rfl⟩
              rw [hg1] at hp
              clear x0 x1 x2 y0 y1 y2 he hy hcg hnew
              generalize hz1 : u1.alloc (.cells #[.int .i64 p1, .int .i64 q1] 30) = z1 at hD hp
              have x0 := hD.x.b.c0
              have x1 := hD.x.b.c1
              have x2 := hD.x.b.c2
              have y0 := hD.y.b.c0
              have y1 := hD.y.b.c1
              have y2 := hD.y.b.c2
              go_wp2_with fail
              (try rw [hz1])
              clear hz1 hg1
              refine (hch _ hD.y.hb.bs).mono ?_
              rintro e u2 he
              obtain ⟨p2, q2, b2, rfl, hF2, hy⟩ := find_vals he
              have hEq : b2 = b1 ∧ p2 = p1 ∧ q2 = q1 := by
                have h1 := hF1.out.1
                rw [hF2.out.1] at h1
                injection h1 with h5 h6
                exact ⟨hF2.out.2.symm.trans hF1.out.2, h5, h6⟩
              obtain ⟨rfl, rfl, rfl⟩ := hEq
              have hD := hD.below hy
              have hp := hp.below hy hp.lt
              have hnew := (Below.refl u2.heap.size u2).alloc (Nat.le_refl _) (.cells #[.int .i64 p2, .int .i64 q2] 30)
              have hp2 := Box2.new u2 (.int .i64 p2) (.int .i64 q2) 30
              have hD := hD.below hnew
              have hp := hp.below hnew hp.lt
              obtain ⟨g2, hg2⟩ : ∃ g, u2.heap.size = g := ⟨_, rfl⟩
              rw [hg2] at hp2
              clear x0 x1 x2 y0 y1 y2 he hy hch hnew hF1 hF2
              generalize hz2 : u2.alloc (.cells #[.int .i64 p2, .int .i64 q2] 30) = z2 at hD hp hp2
              have x0 := hD.x.b.c0
              have x1 := hD.x.b.c1
              have x2 := hD.x.b.c2
              have y0 := hD.y.b.c0
              have y1 := hD.y.b.c1
              have y2 := hD.y.b.c2
              have r0 := hp.c0
              have r1 := hp.c1
              have s0 := hp2.c0
              have s1 := hp2.c1
              have hsm := HIX'.out.small (by omega)
              have hlen := HIX'.out.len
              have hxn := hD.x.hn
              have hyn := hD.y.hn
              have HCS := Lib.hid (fun W (hX : HasBs W 0 A' h'.bs) (hY : HasBs W 0 B' h'.bs) => refSameH_any (cp := c') (cp2 := d') (w := W) (h'.lv : Nat) (h'.nx : Nat) (h'.lv : Nat) (h'.nx : Nat) 0 0 hX hxn (by omega) (fun r hr => by have := hsm.1 r hr; omega) hY hyn (fun r hr => by have := hsm.1 r hr; omega))
              have HCC := Lib.hid (fun W (hX : HasBs W 0 A' h'.bs) => count_any (w := W) HIX'.out (by omega) hX hxn hD.x.hc)
              have HCD := Lib.hid (fun W (hX : HasBs W 0 B' h'.bs) => refCount_idx (w := W) HIX'.out (by omega) hX hyn hD.y.hc)
              clear hsm hlen hxn hyn
              go_wp2_with fail
              (try rw [hz2])
              clear hz2 hg2
              have hdr := (Below.refl z2.heap.size z2).drew
              refine Lex.region_lex (ops := psops) (calls := pscalls) psord (fun W => W.cell? ⟨gx, 0, none⟩ = some (.int .i64 (h'.lv : Nat)) ∧ W.cell? ⟨gx, 1, none⟩ = some (.int .i64 (h'.nx : Nat)) ∧ W.cell? ⟨gx, 2, none⟩ = some (.slice A' n' c') ∧ W.cell? ⟨gy, 0, none⟩ = some (.int .i64 (h'.lv : Nat)) ∧ W.cell? ⟨gy, 1, none⟩ = some (.int .i64 (h'.nx : Nat)) ∧ W.cell? ⟨gy, 2, none⟩ = some (.slice B' m' d') ∧ W.cell? ⟨g1, 0, none⟩ = some (.int .i64 p2) ∧ W.cell? ⟨g1, 1, none⟩ = some (.int .i64 q2) ∧ W.cell? ⟨g2, 0, none⟩ = some (.int .i64 p2) ∧ W.cell? ⟨g2, 1, none⟩ = some (.int .i64 q2)) (by kernel_rfl) (by kernel_rfl) pssel (by kernel_rfl) (by kernel_rfl) pslex (⟨cell_belowB hdr x0, cell_belowB hdr x1, cell_belowB hdr x2, cell_belowB hdr y0, cell_belowB hdr y1, cell_belowB hdr y2, cell_belowB hdr r0, cell_belowB hdr r1, cell_belowB hdr s0, cell_belowB hdr s1⟩) ?_
              unfold psord
              have x0 := cell_belowB hdr x0
              have x1 := cell_belowB hdr x1
              have x2 := cell_belowB hdr x2
              have y0 := cell_belowB hdr y0
              have y1 := cell_belowB hdr y1
              have y2 := cell_belowB hdr y2
              have r0 := cell_belowB hdr r0
              have r1 := cell_belowB hdr r1
              have s0 := cell_belowB hdr s0
              have s1 := cell_belowB hdr s1
              have hD := hD.below hdr
              clear hdr
              refine Lex.step_take (.agg #[.int .i64 (h'.lv : Nat), .int .i64 (h'.nx : Nat), .slice A' n' c']) ps0 rfl (Lex.want_none rfl) (by intro Wx hSw; (try dsimp only at hSw); go_simp; (try (first | (with_reducible rfl) | assumption | rfl))) ?_
              simp only [Act.put, List.setIfInBounds_toArray, List.set_cons_zero, List.set_cons_succ]
              refine Lex.step_take (.agg #[.int .i64 (h'.lv : Nat), .int .i64 (h'.nx : Nat), .slice B' m' d']) ps1 rfl (Lex.want_none rfl) (by intro Wx hSw; (try dsimp only at hSw); go_simp; (try (first | (with_reducible rfl) | assumption | rfl))) ?_
              simp only [Act.put, List.setIfInBounds_toArray, List.set_cons_zero, List.set_cons_succ]
              refine Lex.step_call ps2 rfl (Lex.want_none rfl) (fun K hK => ?_)
              go_simp
              refine (HCS.out _ hD.x.hb.bs hD.y.hb.bs).mono ?_
              rintro e v1 ⟨sb, rfl, hsb, hy⟩
              obtain rfl : sb = true := hsb.2 (by simp)
              clear hsb
              have x0 := cell_belowB hy x0
              have x1 := cell_belowB hy x1
              have x2 := cell_belowB hy x2
              have y0 := cell_belowB hy y0
              have y1 := cell_belowB hy y1
              have y2 := cell_belowB hy y2
              have r0 := cell_belowB hy r0
              have r1 := cell_belowB hy r1
              have s0 := cell_belowB hy s0
              have s1 := cell_belowB hy s1
              have hD := hD.below hy
              clear hy
              refine hK.out _ _ _ (fun _ h => h) (⟨x0, x1, x2, y0, y1, y2, r0, r1, s0, s1⟩) ?_
              clear hK K
              try simp only [Act.put, List.setIfInBounds_toArray, List.set_cons_zero, List.set_cons_succ]
              refine Lex.step_take (.bool false) ps3 rfl (Lex.want_none rfl) (by intro Wx hSw; (try dsimp only at hSw); go_simp; (try (first | (with_reducible rfl) | assumption | rfl))) ?_
              simp only [Act.put, List.setIfInBounds_toArray, List.set_cons_zero, List.set_cons_succ]
              refine Lex.step_take (.bool false) ps4 rfl (Lex.want_none rfl) (by intro Wx hSw; (try dsimp only at hSw); go_simp; (try (first | (with_reducible rfl) | assumption | rfl))) ?_
              simp only [Act.put, List.setIfInBounds_toArray, List.set_cons_zero, List.set_cons_succ]
              refine Lex.step_take (.agg #[.int .i64 (h'.lv : Nat), .int .i64 (h'.nx : Nat), .slice A' n' c']) ps5 rfl (Lex.want_some rfl ps4 rfl (b' := false) rfl rfl) (by intro Wx hSw; (try dsimp only at hSw); go_simp; (try (first | (with_reducible rfl) | assumption | rfl))) ?_
              simp only [Act.put, List.setIfInBounds_toArray, List.set_cons_zero, List.set_cons_succ]
              refine Lex.step_take (.agg #[.int .i64 (h'.lv : Nat), .int .i64 (h'.nx : Nat), .slice B' m' d']) ps7 rfl (Lex.want_some rfl ps4 rfl (b' := false) rfl rfl) (by intro Wx hSw; (try dsimp only at hSw); go_simp; (try (first | (with_reducible rfl) | assumption | rfl))) ?_
              simp only [Act.put, List.setIfInBounds_toArray, List.set_cons_zero, List.set_cons_succ]
              refine Lex.step_call ps6 rfl (Lex.want_some rfl ps4 rfl (b' := false) rfl rfl) (fun K hK => ?_)
              go_simp
              refine (HCC.out _ hD.x.hb.bs).mono ?_
              rintro e v2 ⟨rfl, hy⟩
              have x0 := cell_belowB hy x0
              have x1 := cell_belowB hy x1
              have x2 := cell_belowB hy x2
              have y0 := cell_belowB hy y0
              have y1 := cell_belowB hy y1
              have y2 := cell_belowB hy y2
              have r0 := cell_belowB hy r0
              have r1 := cell_belowB hy r1
              have s0 := cell_belowB hy s0
              have s1 := cell_belowB hy s1
              have hD := hD.below hy
              clear hy
              refine hK.out _ _ _ (fun _ h => h) (⟨x0, x1, x2, y0, y1, y2, r0, r1, s0, s1⟩) ?_
              clear hK K
              try simp only [Act.put, List.setIfInBounds_toArray, List.set_cons_zero, List.set_cons_succ]
              refine Lex.step_call ps8 rfl (Lex.want_some rfl ps4 rfl (b' := false) rfl rfl) (fun K hK => ?_)
              go_simp
              refine (HCD.out _ hD.y.hb.bs).mono ?_
              rintro e v3 ⟨rfl, hy⟩
              have x0 := cell_belowB hy x0
              have x1 := cell_belowB hy x1
              have x2 := cell_belowB hy x2
              have y0 := cell_belowB hy y0
              have y1 := cell_belowB hy y1
              have y2 := cell_belowB hy y2
              have r0 := cell_belowB hy r0
              have r1 := cell_belowB hy r1
              have s0 := cell_belowB hy s0
              have s1 := cell_belowB hy s1
              have hD := hD.below hy
              clear hy
              refine hK.out _ _ _ (fun _ h => h) (⟨x0, x1, x2, y0, y1, y2, r0, r1, s0, s1⟩) ?_
              clear hK K
              try simp only [Act.put, List.setIfInBounds_toArray, List.set_cons_zero, List.set_cons_succ]
              refine Lex.step_take (.bool false) ps9 rfl (Lex.want_some rfl ps4 rfl (b' := false) rfl rfl) (by intro Wx hSw; (try dsimp only at hSw); go_simp; (try (first | (with_reducible rfl) | assumption | rfl))) ?_
              simp only [Act.put, List.setIfInBounds_toArray, List.set_cons_zero, List.set_cons_succ]
              refine Lex.step_take (.bool false) ps10 rfl (Lex.want_none rfl) (by intro Wx hSw; (try dsimp only at hSw); go_simp; (try (first | (with_reducible rfl) | assumption | rfl))) ?_
              simp only [Act.put, List.setIfInBounds_toArray, List.set_cons_zero, List.set_cons_succ]
              refine Lex.step_take (.bool false) ps11 rfl (Lex.want_none rfl) (by intro Wx hSw; (try dsimp only at hSw); go_simp; (try (first | (with_reducible rfl) | assumption | rfl))) ?_
              simp only [Act.put, List.setIfInBounds_toArray, List.set_cons_zero, List.set_cons_succ]
              refine Lex.step_take (.agg #[.int .i64 p2, .int .i64 q2]) ps12 rfl (Lex.want_some rfl ps11 rfl (b' := false) rfl rfl) (by intro Wx hSw; (try dsimp only at hSw); go_simp; (try (first | (with_reducible rfl) | assumption | rfl))) ?_
              simp only [Act.put, List.setIfInBounds_toArray, List.set_cons_zero, List.set_cons_succ]
              refine Lex.step_take (.agg #[.int .i64 p2, .int .i64 q2]) ps13 rfl (Lex.want_some rfl ps11 rfl (b' := false) rfl rfl) (by intro Wx hSw; (try dsimp only at hSw); go_simp; (try (first | (with_reducible rfl) | assumption | rfl))) ?_
              simp only [Act.put, List.setIfInBounds_toArray, List.set_cons_zero, List.set_cons_succ]
              refine Lex.step_take (.bool false) ps14 rfl (Lex.want_some rfl ps11 rfl (b' := false) rfl rfl) (by intro Wx hSw; (try dsimp only at hSw); go_simp; (try (first | (with_reducible rfl) | assumption | rfl))) ?_
              simp only [Act.put, List.setIfInBounds_toArray, List.set_cons_zero, List.set_cons_succ]
              refine Lex.step_take (.bool false) ps15 rfl (Lex.want_none rfl) (by intro Wx hSw; (try dsimp only at hSw); go_simp; (try (first | (with_reducible rfl) | assumption | rfl))) ?_
              simp only [Act.put, List.setIfInBounds_toArray, List.set_cons_zero, List.set_cons_succ]
              refine Lex.step_take (.bool false) ps16 rfl (Lex.want_none rfl) (by intro Wx hSw; (try dsimp only at hSw); go_simp; (try (first | (with_reducible rfl) | assumption | rfl))) ?_
              simp only [Act.put, List.setIfInBounds_toArray, List.set_cons_zero, List.set_cons_succ]
              refine Lex.step_take (.bool b2) ps17 rfl (Lex.want_some rfl ps16 rfl (b' := false) rfl rfl) (by intro Wx hSw; (try dsimp only at hSw); go_simp; (try (first | (with_reducible rfl) | assumption | rfl))) ?_
              simp only [Act.put, List.setIfInBounds_toArray, List.set_cons_zero, List.set_cons_succ]
              refine Lex.step_take (.bool b2) ps18 rfl (Lex.want_some rfl ps16 rfl (b' := false) rfl rfl) (by intro Wx hSw; (try dsimp only at hSw); go_simp; (try (first | (with_reducible rfl) | assumption | rfl))) ?_
              simp only [Act.put, List.setIfInBounds_toArray, List.set_cons_zero, List.set_cons_succ]
              refine Lex.step_take (.bool false) ps19 rfl (Lex.want_some rfl ps16 rfl (b' := false) rfl rfl) (by intro Wx hSw; (try dsimp only at hSw); go_simp; (try (first | (with_reducible rfl) | assumption | rfl))) ?_
              simp only [Act.put, List.setIfInBounds_toArray, List.set_cons_zero, List.set_cons_succ]
              refine Lex.step_take (.bool false) ps20 rfl (Lex.want_none rfl) (by intro Wx hSw; (try dsimp only at hSw); go_simp; (try (first | (with_reducible rfl) | assumption | rfl))) ?_
              simp only [Act.put, List.setIfInBounds_toArray, List.set_cons_zero, List.set_cons_succ]
              refine NoPanic.normal ?_
              have hD := Lib.hid hD
              clear x0 x1 x2 y0 y1 y2 r0 r1 s0 s1 hp hp2
              go_wp2
              go_roundw
              case rel => exact ⟨q + 1, h', A', n', c', B', m', d', by omega, by go_num, HH', hD.out⟩
              case measure => simp [intOf]; omega
            · by_cases k2 : ak = 2
              · subst k2
                have hcx := fun W (hW : HasBsX W (fun b => b ≠ gx ∧ b ≠ gy) A h.bs) => halve_any (w := W) (fun b => b ≠ gx ∧ b ≠ gy) hid (by omega) hW hD.x.hn hD.x.hc
                have hcy := fun W (hW : HasBsX W (fun b => b ≠ gx ∧ b ≠ gy) B h.bs) => refHalve_idx (w := W) (fun b => b ≠ gx ∧ b ≠ gy) hid (by omega) hW hD.y.hn hD.y.hc
                rw [show halveH spread h = h' from hh'] at hcx hcy
                clear hid hh' hfx
                have hdr := (Below.refl wx.heap.size wx).drew
                go_wp2_with fail
                refine Lex.region_parts (ops := phraw) (ops1 := phops) (calls := phcalls) 4 phord (fun W => W.cell? ⟨gx, 0, none⟩ = some (.int .i64 (h.lv : Nat)) ∧ W.cell? ⟨gx, 1, none⟩ = some (.int .i64 (h.nx : Nat)) ∧ W.cell? ⟨gx, 2, none⟩ = some (.slice A m c) ∧ W.cell? ⟨gy, 0, none⟩ = some (.int .i64 (h.lv : Nat)) ∧ W.cell? ⟨gy, 1, none⟩ = some (.int .i64 (h.nx : Nat)) ∧ W.cell? ⟨gy, 2, none⟩ = some (.slice B m2 c2)) (by kernel_rfl) phcut (by rw [phsize]; decide) (by kernel_rfl) (by kernel_rfl) (by kernel_rfl) phsel (by kernel_rfl) (by kernel_rfl) phlex (⟨cell_belowB hdr x0, cell_belowB hdr x1, cell_belowB hdr x2, cell_belowB hdr y0, cell_belowB hdr y1, cell_belowB hdr y2⟩) ?_
                unfold phord
                have x0 := cell_belowB hdr x0
                have x1 := cell_belowB hdr x1
                have x2 := cell_belowB hdr x2
                have y0 := cell_belowB hdr y0
                have y1 := cell_belowB hdr y1
                have y2 := cell_belowB hdr y2
                have hD := hD.below hdr
                clear hdr
                refine Lex.step_take (.agg #[.int .i64 (h.lv : Nat), .int .i64 (h.nx : Nat), .slice A m c]) ph0 rfl (Lex.want_none rfl) (by intro Wx hSw; (try dsimp only at hSw); go_simp; (try (first | (with_reducible rfl) | assumption | rfl))) ?_
                simp only [Act.put, List.setIfInBounds_toArray, List.set_cons_zero, List.set_cons_succ]
                refine Lex.step_take (.agg #[.int .i64 (h.lv : Nat), .int .i64 (h.nx : Nat), .slice B m2 c2]) ph2 rfl (Lex.want_none rfl) (by intro Wx hSw; (try dsimp only at hSw); go_simp; (try (first | (with_reducible rfl) | assumption | rfl))) ?_
                simp only [Act.put, List.setIfInBounds_toArray, List.set_cons_zero, List.set_cons_succ]
                refine Lex.step_call ph1 rfl (Lex.want_none rfl) (fun K hK => ?_)
                go_simp
                have hDo := hD
                refine (hcx _ hD.x.hb).mono ?_
                rintro e p1 ⟨A', n', c', rfl, hn', hc', hb', hy⟩
                have hb' := duo_x hDo (Nat.le_refl _) hb'
                have x0 := cell_belowB hy x0
                have x1 := cell_belowB hy x1
                have x2 := cell_belowB hy x2
                have y0 := cell_belowB hy y0
                have y1 := cell_belowB hy y1
                have y2 := cell_belowB hy y2
                have hD := hD.below hy
                clear hy hDo hcx
                refine hK.out _ _ _ (fun _ h => h) (⟨x0, x1, x2, y0, y1, y2⟩) ?_
                clear hK K
                try simp only [Act.put, List.setIfInBounds_toArray, List.set_cons_zero, List.set_cons_succ]
                refine Lex.step_call ph3 rfl (Lex.want_none rfl) (fun K hK => ?_)
                go_simp
                have hDo := hD
                refine (hcy _ hD.y.hb).mono ?_
                rintro e p2 ⟨B', m', d', rfl, hm', hd', hbb, hy⟩
                have hbb := duo_x hDo (Nat.le_refl _) hbb
                have hb' := hb'.below hy (Nat.le_refl _)
                have x0 := cell_belowB hy x0
                have x1 := cell_belowB hy x1
                have x2 := cell_belowB hy x2
                have y0 := cell_belowB hy y0
                have y1 := cell_belowB hy y1
                have y2 := cell_belowB hy y2
                have hD := hD.below hy
                clear hy hDo hcy
                refine hK.out _ _ _ (fun _ h => h) (⟨x0, x1, x2, y0, y1, y2⟩) ?_
                clear hK K
                try simp only [Act.put, List.setIfInBounds_toArray, List.set_cons_zero, List.set_cons_succ]
                refine Lex.tail_two phr0 phr1 phr2 (by rw [phsize]; decide) ?_
                have xf := hD.x.b.f
                refine Lex.tail_op pht0 rfl (fun K hK => ?_)
                go_simp
                refine hK.out _ _ ?_
                clear hK K xf x0 x1 x2 y0 y1 y2
                have hbb := hbb.lt.bar (by intro h; exact h.1.1 rfl) (bar3 p2 gx (.int .i64 (h'.lv : Nat)) (.int .i64 (h'.nx : Nat)) (.slice A' n' c'))
                have hD := hD.putX hn' hc' hb'
                generalize (((p2.setCell ⟨gx, 0, none⟩ (.int .i64 (h'.lv : Nat))).setCell ⟨gx, 1, none⟩ (.int .i64 (h'.nx : Nat))).setCell ⟨gx, 2, none⟩ (.slice A' n' c')) = p3 at hD hbb ⊢
                have hbb := hbb.mono (Y := fun b => b ≠ gx ∧ b ≠ gy) (fun _ h => h.1)
                have y0 := hD.y.b.c0
                have y1 := hD.y.b.c1
                have y2 := hD.y.b.c2
                have yf := hD.y.b.f
                refine Lex.tail_op pht1 rfl (fun K hK => ?_)
                go_simp
                refine hK.out _ _ ?_
                clear hK K y0 y1 y2 yf
                have hD := hD.putY hm' hd' hbb
                generalize (((p3.setCell ⟨gy, 0, none⟩ (.int .i64 (h'.lv : Nat))).setCell ⟨gy, 1, none⟩ (.int .i64 (h'.nx : Nat))).setCell ⟨gy, 2, none⟩ (.slice B' m' d')) = p4 at hD ⊢
                refine NoPanic.normal ?_
                clear d0 d1 d2 d3
                have hcg := fun W (hW : HasBs W 0 A' h'.bs) => get_any (w := W) HIX'.out (by omega) hW hD.x.hn hD.x.hc k hk
                have hch := fun W (hW : HasBs W 0 B' h'.bs) => refGet_idx (w := W) HIX'.out (by omega) hW hD.y.hn hD.y.hc k hk
                have x0 := hD.x.b.c0
                have x1 := hD.x.b.c1
                have x2 := hD.x.b.c2
                have y0 := hD.y.b.c0
                have y1 := hD.y.b.c1
                have y2 := hD.y.b.c2
                go_wp2_with fail
                refine (hcg _ hD.x.hb.bs).mono ?_
                rintro e u1 he
                obtain ⟨p1, q1, b1, rfl, hF1, hy⟩ := find_vals he
                have hD := hD.below hy
                have hnew := (Below.refl u1.heap.size u1).alloc (Nat.le_refl _) (.cells #[.int .i64 p1, .int .i64 q1] 30)
                have hp := Box2.new u1 (.int .i64 p1) (.int .i64 q1) 30
                have hD := hD.below hnew
                obtain ⟨g1, hg1⟩ : ∃ g, u1.heap.size = g := ⟨_, rfl⟩
                rw [hg1] at hp
                clear x0 x1 x2 y0 y1 y2 he hy hcg hnew
                generalize hz1 : u1.alloc (.cells #[.int .i64 p1, .int .i64 q1] 30) = z1 at hD hp
                have x0 := hD.x.b.c0
                have x1 := hD.x.b.c1
                have x2 := hD.x.b.c2
                have y0 := hD.y.b.c0
                have y1 := hD.y.b.c1
                have y2 := hD.y.b.c2
                go_wp2_with fail
                (try rw [hz1])
                clear hz1 hg1
                refine (hch _ hD.y.hb.bs).mono ?_
                rintro e u2 he
                obtain ⟨p2, q2, b2, rfl, hF2, hy⟩ := find_vals he
                have hEq : b2 = b1 ∧ p2 = p1 ∧ q2 = q1 := by
                  have h1 := hF1.out.1
                  rw [hF2.out.1] at h1
                  injection h1 with h5 h6
                  exact ⟨hF2.out.2.symm.trans hF1.out.2, h5, h6⟩
                obtain ⟨rfl, rfl, rfl⟩ := hEq
                have hD := hD.below hy
                have hp := hp.below hy hp.lt
                have hnew := (Below.refl u2.heap.size u2).alloc (Nat.le_refl _) (.cells #[.int .i64 p2, .int .i64 q2] 30)
                have hp2 := Box2.new u2 (.int .i64 p2) (.int .i64 q2) 30
                have hD := hD.below hnew
                have hp := hp.below hnew hp.lt
                obtain ⟨g2, hg2⟩ : ∃ g, u2.heap.size = g := ⟨_, rfl⟩
                rw [hg2] at hp2
                clear x0 x1 x2 y0 y1 y2 he hy hch hnew hF1 hF2
                generalize hz2 : u2.alloc (.cells #[.int .i64 p2, .int .i64 q2] 30) = z2 at hD hp hp2
                have x0 := hD.x.b.c0
                have x1 := hD.x.b.c1
                have x2 := hD.x.b.c2
                have y0 := hD.y.b.c0
                have y1 := hD.y.b.c1
                have y2 := hD.y.b.c2
                have r0 := hp.c0
                have r1 := hp.c1
                have s0 := hp2.c0
                have s1 := hp2.c1
                have hsm := HIX'.out.small (by omega)
                have hlen := HIX'.out.len
                have hxn := hD.x.hn
                have hyn := hD.y.hn
                have HCS := Lib.hid (fun W (hX : HasBs W 0 A' h'.bs) (hY : HasBs W 0 B' h'.bs) => refSameH_any (cp := c') (cp2 := d') (w := W) (h'.lv : Nat) (h'.nx : Nat) (h'.lv : Nat) (h'.nx : Nat) 0 0 hX hxn (by omega) (fun r hr => by have := hsm.1 r hr; omega) hY hyn (fun r hr => by have := hsm.1 r hr; omega))
                have HCC := Lib.hid (fun W (hX : HasBs W 0 A' h'.bs) => count_any (w := W) HIX'.out (by omega) hX hxn hD.x.hc)
                have HCD := Lib.hid (fun W (hX : HasBs W 0 B' h'.bs) => refCount_idx (w := W) HIX'.out (by omega) hX hyn hD.y.hc)
                clear hsm hlen hxn hyn
                go_wp2_with fail
                (try rw [hz2])
                clear hz2 hg2
                have hdr := (Below.refl z2.heap.size z2).drew
                refine Lex.region_lex (ops := psops) (calls := pscalls) psord (fun W => W.cell? ⟨gx, 0, none⟩ = some (.int .i64 (h'.lv : Nat)) ∧ W.cell? ⟨gx, 1, none⟩ = some (.int .i64 (h'.nx : Nat)) ∧ W.cell? ⟨gx, 2, none⟩ = some (.slice A' n' c') ∧ W.cell? ⟨gy, 0, none⟩ = some (.int .i64 (h'.lv : Nat)) ∧ W.cell? ⟨gy, 1, none⟩ = some (.int .i64 (h'.nx : Nat)) ∧ W.cell? ⟨gy, 2, none⟩ = some (.slice B' m' d') ∧ W.cell? ⟨g1, 0, none⟩ = some (.int .i64 p2) ∧ W.cell? ⟨g1, 1, none⟩ = some (.int .i64 q2) ∧ W.cell? ⟨g2, 0, none⟩ = some (.int .i64 p2) ∧ W.cell? ⟨g2, 1, none⟩ = some (.int .i64 q2)) (by kernel_rfl) (by kernel_rfl) pssel (by kernel_rfl) (by kernel_rfl) pslex (⟨cell_belowB hdr x0, cell_belowB hdr x1, cell_belowB hdr x2, cell_belowB hdr y0, cell_belowB hdr y1, cell_belowB hdr y2, cell_belowB hdr r0, cell_belowB hdr r1, cell_belowB hdr s0, cell_belowB hdr s1⟩) ?_
                unfold psord
                have x0 := cell_belowB hdr x0
                have x1 := cell_belowB hdr x1
                have x2 := cell_belowB hdr x2
                have y0 := cell_belowB hdr y0
                have y1 := cell_belowB hdr y1
                have y2 := cell_belowB hdr y2
                have r0 := cell_belowB hdr r0
                have r1 := cell_belowB hdr r1
                have s0 := cell_belowB hdr s0
                have s1 := cell_belowB hdr s1
                have hD := hD.below hdr
                clear hdr
                refine Lex.step_take (.agg #[.int .i64 (h'.lv : Nat), .int .i64 (h'.nx : Nat), .slice A' n' c']) ps0 rfl (Lex.want_none rfl) (by intro Wx hSw; (try dsimp only at hSw); go_simp; (try (first | (with_reducible rfl) | assumption | rfl))) ?_
                simp only [Act.put, List.setIfInBounds_toArray, List.set_cons_zero, List.set_cons_succ]
                refine Lex.step_take (.agg #[.int .i64 (h'.lv : Nat), .int .i64 (h'.nx : Nat), .slice B' m' d']) ps1 rfl (Lex.want_none rfl) (by intro Wx hSw; (try dsimp only at hSw); go_simp; (try (first | (with_reducible rfl) | assumption | rfl))) ?_
                simp only [Act.put, List.setIfInBounds_toArray, List.set_cons_zero, List.set_cons_succ]
                refine Lex.step_call ps2 rfl (Lex.want_none rfl) (fun K hK => ?_)
                go_simp
                refine (HCS.out _ hD.x.hb.bs hD.y.hb.bs).mono ?_
                rintro e v1 ⟨sb, rfl, hsb, hy⟩
                obtain rfl : sb = true := hsb.2 (by simp)
                clear hsb
                have x0 := cell_belowB hy x0
                have x1 := cell_belowB hy x1
                have x2 := cell_belowB hy x2
                have y0 := cell_belowB hy y0
                have y1 := cell_belowB hy y1
                have y2 := cell_belowB hy y2
                have r0 := cell_belowB hy r0
                have r1 := cell_belowB hy r1
                have s0 := cell_belowB hy s0
                have s1 := cell_belowB hy s1
                have hD := hD.below hy
                clear hy
                refine hK.out _ _ _ (fun _ h => h) (⟨x0, x1, x2, y0, y1, y2, r0, r1, s0, s1⟩) ?_
                clear hK K
                try simp only [Act.put, List.setIfInBounds_toArray, List.set_cons_zero, List.set_cons_succ]
                refine Lex.step_take (.bool false) ps3 rfl (Lex.want_none rfl) (by intro Wx hSw; (try dsimp only at hSw); go_simp; (try (first | (with_reducible rfl) | assumption | rfl))) ?_
                simp only [Act.put, List.setIfInBounds_toArray, List.set_cons_zero, List.set_cons_succ]
                refine Lex.step_take (.bool false) ps4 rfl (Lex.want_none rfl) (by intro Wx hSw; (try dsimp only at hSw); go_simp; (try (first | (with_reducible rfl) | assumption | rfl))) ?_
                simp only [Act.put, List.setIfInBounds_toArray, List.set_cons_zero, List.set_cons_succ]
                refine Lex.step_take (.agg #[.int .i64 (h'.lv : Nat), .int .i64 (h'.nx : Nat), .slice A' n' c']) ps5 rfl (Lex.want_some rfl ps4 rfl (b' := false) rfl rfl) (by intro Wx hSw; (try dsimp only at hSw); go_simp; (try (first | (with_reducible rfl) | assumption | rfl))) ?_
                simp only [Act.put, List.setIfInBounds_toArray, List.set_cons_zero, List.set_cons_succ]
                refine Lex.step_take (.agg #[.int .i64 (h'.lv : Nat), .int .i64 (h'.nx : Nat), .slice B' m' d']) ps7 rfl (Lex.want_some rfl ps4 rfl (b' := false) rfl rfl) (by intro Wx hSw; (try dsimp only at hSw); go_simp; (try (first | (with_reducible rfl) | assumption | rfl))) ?_
                simp only [Act.put, List.setIfInBounds_toArray, List.set_cons_zero, List.set_cons_succ]
                refine Lex.step_call ps6 rfl (Lex.want_some rfl ps4 rfl (b' := false) rfl rfl) (fun K hK => ?_)
                go_simp
                refine (HCC.out _ hD.x.hb.bs).mono ?_
                rintro e v2 ⟨rfl, hy⟩
                have x0 := cell_belowB hy x0
                have x1 := cell_belowB hy x1
                have x2 := cell_belowB hy x2
                have y0 := cell_belowB hy y0
                have y1 := cell_belowB hy y1
                have y2 := cell_belowB hy y2
                have r0 := cell_belowB hy r0
                have r1 := cell_belowB hy r1
                have s0 := cell_belowB hy s0
                have s1 := cell_belowB hy s1
                have hD := hD.below hy
                clear hy
                refine hK.out _ _ _ (fun _ h => h) (⟨x0, x1, x2, y0, y1, y2, r0, r1, s0, s1⟩) ?_
                clear hK K
                try simp only [Act.put, List.setIfInBounds_toArray, List.set_cons_zero, List.set_cons_succ]
                refine Lex.step_call ps8 rfl (Lex.want_some rfl ps4 rfl (b' := false) rfl rfl) (fun K hK => ?_)
                go_simp
                refine (HCD.out _ hD.y.hb.bs).mono ?_
                rintro e v3 ⟨rfl, hy⟩
                have x0 := cell_belowB hy x0
                have x1 := cell_belowB hy x1
                have x2 := cell_belowB hy x2
                have y0 := cell_belowB hy y0
                have y1 := cell_belowB hy y1
                have y2 := cell_belowB hy y2
                have r0 := cell_belowB hy r0
                have r1 := cell_belowB hy r1
                have s0 := cell_belowB hy s0
                have s1 := cell_belowB hy s1
                have hD := hD.below hy
                clear hy
                refine hK.out _ _ _ (fun _ h => h) (⟨x0, x1, x2, y0, y1, y2, r0, r1, s0, s1⟩) ?_
                clear hK K
                try simp only [Act.put, List.setIfInBounds_toArray, List.set_cons_zero, List.set_cons_succ]
                refine Lex.step_take (.bool false) ps9 rfl (Lex.want_some rfl ps4 rfl (b' := false) rfl rfl) (by intro Wx hSw; (try dsimp only at hSw); go_simp; (try (first | (with_reducible rfl) | assumption | rfl))) ?_
                simp only [Act.put, List.setIfInBounds_toArray, List.set_cons_zero, List.set_cons_succ]
                refine Lex.step_take (.bool false) ps10 rfl (Lex.want_none rfl) (by intro Wx hSw; (try dsimp only at hSw); go_simp; (try (first | (with_reducible rfl) | assumption | rfl))) ?_
                simp only [Act.put, List.setIfInBounds_toArray, List.set_cons_zero, List.set_cons_succ]
                refine Lex.step_take (.bool false) ps11 rfl (Lex.want_none rfl) (by intro Wx hSw; (try dsimp only at hSw); go_simp; (try (first | (with_reducible rfl) | assumption | rfl))) ?_
                simp only [Act.put, List.setIfInBounds_toArray, List.set_cons_zero, List.set_cons_succ]
                refine Lex.step_take (.agg #[.int .i64 p2, .int .i64 q2]) ps12 rfl (Lex.want_some rfl ps11 rfl (b' := false) rfl rfl) (by intro Wx hSw; (try dsimp only at hSw); go_simp; (try (first | (with_reducible rfl) | assumption | rfl))) ?_
                simp only [Act.put, List.setIfInBounds_toArray, List.set_cons_zero, List.set_cons_succ]
                refine Lex.step_take (.agg #[.int .i64 p2, .int .i64 q2]) ps13 rfl (Lex.want_some rfl ps11 rfl (b' := false) rfl rfl) (by intro Wx hSw; (try dsimp only at hSw); go_simp; (try (first | (with_reducible rfl) | assumption | rfl))) ?_
                simp only [Act.put, List.setIfInBounds_toArray, List.set_cons_zero, List.set_cons_succ]
                refine Lex.step_take (.bool false) ps14 rfl (Lex.want_some rfl ps11 rfl (b' := false) rfl rfl) (by intro Wx hSw; (try dsimp only at hSw); go_simp; (try (first | (with_reducible rfl) | assumption | rfl))) ?_
                simp only [Act.put, List.setIfInBounds_toArray, List.set_cons_zero, List.set_cons_succ]
                refine Lex.step_take (.bool false) ps15 rfl (Lex.want_none rfl) (by intro Wx hSw; (try dsimp only at hSw); go_simp; (try (first | (with_reducible rfl) | assumption | rfl))) ?_
                simp only [Act.put, List.setIfInBounds_toArray, List.set_cons_zero, List.set_cons_succ]
                refine Lex.step_take (.bool false) ps16 rfl (Lex.want_none rfl) (by intro Wx hSw; (try dsimp only at hSw); go_simp; (try (first | (with_reducible rfl) | assumption | rfl))) ?_
                simp only [Act.put, List.setIfInBounds_toArray, List.set_cons_zero, List.set_cons_succ]
                refine Lex.step_take (.bool b2) ps17 rfl (Lex.want_some rfl ps16 rfl (b' := false) rfl rfl) (by intro Wx hSw; (try dsimp only at hSw); go_simp; (try (first | (with_reducible rfl) | assumption | rfl))) ?_
                simp only [Act.put, List.setIfInBounds_toArray, List.set_cons_zero, List.set_cons_succ]
                refine Lex.step_take (.bool b2) ps18 rfl (Lex.want_some rfl ps16 rfl (b' := false) rfl rfl) (by intro Wx hSw; (try dsimp only at hSw); go_simp; (try (first | (with_reducible rfl) | assumption | rfl))) ?_
                simp only [Act.put, List.setIfInBounds_toArray, List.set_cons_zero, List.set_cons_succ]
                refine Lex.step_take (.bool false) ps19 rfl (Lex.want_some rfl ps16 rfl (b' := false) rfl rfl) (by intro Wx hSw; (try dsimp only at hSw); go_simp; (try (first | (with_reducible rfl) | assumption | rfl))) ?_
                simp only [Act.put, List.setIfInBounds_toArray, List.set_cons_zero, List.set_cons_succ]
                refine Lex.step_take (.bool false) ps20 rfl (Lex.want_none rfl) (by intro Wx hSw; (try dsimp only at hSw); go_simp; (try (first | (with_reducible rfl) | assumption | rfl))) ?_
                simp only [Act.put, List.setIfInBounds_toArray, List.set_cons_zero, List.set_cons_succ]
                refine NoPanic.normal ?_
                have hD := Lib.hid hD
                clear x0 x1 x2 y0 y1 y2 r0 r1 s0 s1 hp hp2
                go_wp2
                go_roundw
                case rel => exact ⟨q + 1, h', A', n', c', B', m', d', by omega, by go_num, HH', hD.out⟩
                case measure => simp [intOf]; omega
              · have hhe : h = h' := by
                  rw [← hh']
                  unfold doA
                  rw [if_neg k0, if_neg k1, if_neg k2]
                clear hh'
                subst hhe
                have k0' : (ak == 0) = false := beq_eq_false_iff_ne.2 k0
                have k1' : (ak == 1) = false := beq_eq_false_iff_ne.2 k1
                have k2' : (ak == 2) = false := beq_eq_false_iff_ne.2 k2
                clear hid hfx k0 k1 k2 d1 d2 d3 x0 x1 x2 y0 y1 y2
                have hcg := fun W (hW : HasBs W 0 A h.bs) => get_any (w := W) HIX'.out (by omega) hW hD.x.hn hD.x.hc k hk
                have hch := fun W (hW : HasBs W 0 B h.bs) => refGet_idx (w := W) HIX'.out (by omega) hW hD.y.hn hD.y.hc k hk
                have x0 := hD.x.b.c0
                have x1 := hD.x.b.c1
                have x2 := hD.x.b.c2
                have y0 := hD.y.b.c0
                have y1 := hD.y.b.c1
                have y2 := hD.y.b.c2
                go_wp2_with fail
                refine (hcg _ hD.x.hb.bs).mono ?_
                rintro e u1 he
                obtain ⟨p1, q1, b1, rfl, hF1, hy⟩ := find_vals he
                have hD := hD.below hy
                have hnew := (Below.refl u1.heap.size u1).alloc (Nat.le_refl _) (.cells #[.int .i64 p1, .int .i64 q1] 30)
                have hp := Box2.new u1 (.int .i64 p1) (.int .i64 q1) 30
                have hD := hD.below hnew
                obtain ⟨g1, hg1⟩ : ∃ g, u1.heap.size = g := ⟨_, rfl⟩
                rw [hg1] at hp
                clear x0 x1 x2 y0 y1 y2 he hy hcg hnew
                generalize hz1 : u1.alloc (.cells #[.int .i64 p1, .int .i64 q1] 30) = z1 at hD hp
                have x0 := hD.x.b.c0
                have x1 := hD.x.b.c1
                have x2 := hD.x.b.c2
                have y0 := hD.y.b.c0
                have y1 := hD.y.b.c1
                have y2 := hD.y.b.c2
                go_wp2_with fail
                (try rw [hz1])
                clear hz1 hg1
                refine (hch _ hD.y.hb.bs).mono ?_
                rintro e u2 he
                obtain ⟨p2, q2, b2, rfl, hF2, hy⟩ := find_vals he
                have hEq : b2 = b1 ∧ p2 = p1 ∧ q2 = q1 := by
                  have h1 := hF1.out.1
                  rw [hF2.out.1] at h1
                  injection h1 with h5 h6
                  exact ⟨hF2.out.2.symm.trans hF1.out.2, h5, h6⟩
                obtain ⟨rfl, rfl, rfl⟩ := hEq
                have hD := hD.below hy
                have hp := hp.below hy hp.lt
                have hnew := (Below.refl u2.heap.size u2).alloc (Nat.le_refl _) (.cells #[.int .i64 p2, .int .i64 q2] 30)
                have hp2 := Box2.new u2 (.int .i64 p2) (.int .i64 q2) 30
                have hD := hD.below hnew
                have hp := hp.below hnew hp.lt
                obtain ⟨g2, hg2⟩ : ∃ g, u2.heap.size = g := ⟨_, rfl⟩
                rw [hg2] at hp2
                clear x0 x1 x2 y0 y1 y2 he hy hch hnew hF1 hF2
                generalize hz2 : u2.alloc (.cells #[.int .i64 p2, .int .i64 q2] 30) = z2 at hD hp hp2
                have x0 := hD.x.b.c0
                have x1 := hD.x.b.c1
                have x2 := hD.x.b.c2
                have y0 := hD.y.b.c0
                have y1 := hD.y.b.c1
                have y2 := hD.y.b.c2
                have r0 := hp.c0
                have r1 := hp.c1
                have s0 := hp2.c0
                have s1 := hp2.c1
                have hsm := HIX'.out.small (by omega)
                have hlen := HIX'.out.len
                have hxn := hD.x.hn
                have hyn := hD.y.hn
                have HCS := Lib.hid (fun W (hX : HasBs W 0 A h.bs) (hY : HasBs W 0 B h.bs) => refSameH_any (cp := c) (cp2 := c2) (w := W) (h.lv : Nat) (h.nx : Nat) (h.lv : Nat) (h.nx : Nat) 0 0 hX hxn (by omega) (fun r hr => by have := hsm.1 r hr; omega) hY hyn (fun r hr => by have := hsm.1 r hr; omega))
                have HCC := Lib.hid (fun W (hX : HasBs W 0 A h.bs) => count_any (w := W) HIX'.out (by omega) hX hxn hD.x.hc)
                have HCD := Lib.hid (fun W (hX : HasBs W 0 B h.bs) => refCount_idx (w := W) HIX'.out (by omega) hX hyn hD.y.hc)
                clear hsm hlen hxn hyn
                go_wp2_with fail
                (try rw [hz2])
                clear hz2 hg2
                have hdr := (Below.refl z2.heap.size z2).drew
                refine Lex.region_lex (ops := psops) (calls := pscalls) psord (fun W => W.cell? ⟨gx, 0, none⟩ = some (.int .i64 (h.lv : Nat)) ∧ W.cell? ⟨gx, 1, none⟩ = some (.int .i64 (h.nx : Nat)) ∧ W.cell? ⟨gx, 2, none⟩ = some (.slice A m c) ∧ W.cell? ⟨gy, 0, none⟩ = some (.int .i64 (h.lv : Nat)) ∧ W.cell? ⟨gy, 1, none⟩ = some (.int .i64 (h.nx : Nat)) ∧ W.cell? ⟨gy, 2, none⟩ = some (.slice B m2 c2) ∧ W.cell? ⟨g1, 0, none⟩ = some (.int .i64 p2) ∧ W.cell? ⟨g1, 1, none⟩ = some (.int .i64 q2) ∧ W.cell? ⟨g2, 0, none⟩ = some (.int .i64 p2) ∧ W.cell? ⟨g2, 1, none⟩ = some (.int .i64 q2)) (by kernel_rfl) (by kernel_rfl) pssel (by kernel_rfl) (by kernel_rfl) pslex (⟨cell_belowB hdr x0, cell_belowB hdr x1, cell_belowB hdr x2, cell_belowB hdr y0, cell_belowB hdr y1, cell_belowB hdr y2, cell_belowB hdr r0, cell_belowB hdr r1, cell_belowB hdr s0, cell_belowB hdr s1⟩) ?_
                unfold psord
                have x0 := cell_belowB hdr x0
                have x1 := cell_belowB hdr x1
                have x2 := cell_belowB hdr x2
                have y0 := cell_belowB hdr y0
                have y1 := cell_belowB hdr y1
                have y2 := cell_belowB hdr y2
                have r0 := cell_belowB hdr r0
                have r1 := cell_belowB hdr r1
                have s0 := cell_belowB hdr s0
                have s1 := cell_belowB hdr s1
                have hD := hD.below hdr
                clear hdr
                refine Lex.step_take (.agg #[.int .i64 (h.lv : Nat), .int .i64 (h.nx : Nat), .slice A m c]) ps0 rfl (Lex.want_none rfl) (by intro Wx hSw; (try dsimp only at hSw); go_simp; (try (first | (with_reducible rfl) | assumption | rfl))) ?_
                simp only [Act.put, List.setIfInBounds_toArray, List.set_cons_zero, List.set_cons_succ]
                refine Lex.step_take (.agg #[.int .i64 (h.lv : Nat), .int .i64 (h.nx : Nat), .slice B m2 c2]) ps1 rfl (Lex.want_none rfl) (by intro Wx hSw; (try dsimp only at hSw); go_simp; (try (first | (with_reducible rfl) | assumption | rfl))) ?_
                simp only [Act.put, List.setIfInBounds_toArray, List.set_cons_zero, List.set_cons_succ]
                refine Lex.step_call ps2 rfl (Lex.want_none rfl) (fun K hK => ?_)
                go_simp
                refine (HCS.out _ hD.x.hb.bs hD.y.hb.bs).mono ?_
                rintro e v1 ⟨sb, rfl, hsb, hy⟩
                obtain rfl : sb = true := hsb.2 (by simp)
                clear hsb
                have x0 := cell_belowB hy x0
                have x1 := cell_belowB hy x1
                have x2 := cell_belowB hy x2
                have y0 := cell_belowB hy y0
                have y1 := cell_belowB hy y1
                have y2 := cell_belowB hy y2
                have r0 := cell_belowB hy r0
                have r1 := cell_belowB hy r1
                have s0 := cell_belowB hy s0
                have s1 := cell_belowB hy s1
                have hD := hD.below hy
                clear hy
                refine hK.out _ _ _ (fun _ h => h) (⟨x0, x1, x2, y0, y1, y2, r0, r1, s0, s1⟩) ?_
                clear hK K
                try simp only [Act.put, List.setIfInBounds_toArray, List.set_cons_zero, List.set_cons_succ]
                refine Lex.step_take (.bool false) ps3 rfl (Lex.want_none rfl) (by intro Wx hSw; (try dsimp only at hSw); go_simp; (try (first | (with_reducible rfl) | assumption | rfl))) ?_
                simp only [Act.put, List.setIfInBounds_toArray, List.set_cons_zero, List.set_cons_succ]
                refine Lex.step_take (.bool false) ps4 rfl (Lex.want_none rfl) (by intro Wx hSw; (try dsimp only at hSw); go_simp; (try (first | (with_reducible rfl) | assumption | rfl))) ?_
                simp only [Act.put, List.setIfInBounds_toArray, List.set_cons_zero, List.set_cons_succ]
                refine Lex.step_take (.agg #[.int .i64 (h.lv : Nat), .int .i64 (h.nx : Nat), .slice A m c]) ps5 rfl (Lex.want_some rfl ps4 rfl (b' := false) rfl rfl) (by intro Wx hSw; (try dsimp only at hSw); go_simp; (try (first | (with_reducible rfl) | assumption | rfl))) ?_
                simp only [Act.put, List.setIfInBounds_toArray, List.set_cons_zero, List.set_cons_succ]
                refine Lex.step_take (.agg #[.int .i64 (h.lv : Nat), .int .i64 (h.nx : Nat), .slice B m2 c2]) ps7 rfl (Lex.want_some rfl ps4 rfl (b' := false) rfl rfl) (by intro Wx hSw; (try dsimp only at hSw); go_simp; (try (first | (with_reducible rfl) | assumption | rfl))) ?_
                simp only [Act.put, List.setIfInBounds_toArray, List.set_cons_zero, List.set_cons_succ]
                refine Lex.step_call ps6 rfl (Lex.want_some rfl ps4 rfl (b' := false) rfl rfl) (fun K hK => ?_)
                go_simp
                refine (HCC.out _ hD.x.hb.bs).mono ?_
                rintro e v2 ⟨rfl, hy⟩
                have x0 := cell_belowB hy x0
                have x1 := cell_belowB hy x1
                have x2 := cell_belowB hy x2
                have y0 := cell_belowB hy y0
                have y1 := cell_belowB hy y1
                have y2 := cell_belowB hy y2
                have r0 := cell_belowB hy r0
                have r1 := cell_belowB hy r1
                have s0 := cell_belowB hy s0
                have s1 := cell_belowB hy s1
                have hD := hD.below hy
                clear hy
                refine hK.out _ _ _ (fun _ h => h) (⟨x0, x1, x2, y0, y1, y2, r0, r1, s0, s1⟩) ?_
                clear hK K
                try simp only [Act.put, List.setIfInBounds_toArray, List.set_cons_zero, List.set_cons_succ]
                refine Lex.step_call ps8 rfl (Lex.want_some rfl ps4 rfl (b' := false) rfl rfl) (fun K hK => ?_)
                go_simp
                refine (HCD.out _ hD.y.hb.bs).mono ?_
                rintro e v3 ⟨rfl, hy⟩
                have x0 := cell_belowB hy x0
                have x1 := cell_belowB hy x1
                have x2 := cell_belowB hy x2
                have y0 := cell_belowB hy y0
                have y1 := cell_belowB hy y1
                have y2 := cell_belowB hy y2
                have r0 := cell_belowB hy r0
                have r1 := cell_belowB hy r1
                have s0 := cell_belowB hy s0
                have s1 := cell_belowB hy s1
                have hD := hD.below hy
                clear hy
                refine hK.out _ _ _ (fun _ h => h) (⟨x0, x1, x2, y0, y1, y2, r0, r1, s0, s1⟩) ?_
                clear hK K
                try simp only [Act.put, List.setIfInBounds_toArray, List.set_cons_zero, List.set_cons_succ]
                refine Lex.step_take (.bool false) ps9 rfl (Lex.want_some rfl ps4 rfl (b' := false) rfl rfl) (by intro Wx hSw; (try dsimp only at hSw); go_simp; (try (first | (with_reducible rfl) | assumption | rfl))) ?_
                simp only [Act.put, List.setIfInBounds_toArray, List.set_cons_zero, List.set_cons_succ]
                refine Lex.step_take (.bool false) ps10 rfl (Lex.want_none rfl) (by intro Wx hSw; (try dsimp only at hSw); go_simp; (try (first | (with_reducible rfl) | assumption | rfl))) ?_
                simp only [Act.put, List.setIfInBounds_toArray, List.set_cons_zero, List.set_cons_succ]
                refine Lex.step_take (.bool false) ps11 rfl (Lex.want_none rfl) (by intro Wx hSw; (try dsimp only at hSw); go_simp; (try (first | (with_reducible rfl) | assumption | rfl))) ?_
                simp only [Act.put, List.setIfInBounds_toArray, List.set_cons_zero, List.set_cons_succ]
                refine Lex.step_take (.agg #[.int .i64 p2, .int .i64 q2]) ps12 rfl (Lex.want_some rfl ps11 rfl (b' := false) rfl rfl) (by intro Wx hSw; (try dsimp only at hSw); go_simp; (try (first | (with_reducible rfl) | assumption | rfl))) ?_
                simp only [Act.put, List.setIfInBounds_toArray, List.set_cons_zero, List.set_cons_succ]
                refine Lex.step_take (.agg #[.int .i64 p2, .int .i64 q2]) ps13 rfl (Lex.want_some rfl ps11 rfl (b' := false) rfl rfl) (by intro Wx hSw; (try dsimp only at hSw); go_simp; (try (first | (with_reducible rfl) | assumption | rfl))) ?_
                simp only [Act.put, List.setIfInBounds_toArray, List.set_cons_zero, List.set_cons_succ]
                refine Lex.step_take (.bool false) ps14 rfl (Lex.want_some rfl ps11 rfl (b' := false) rfl rfl) (by intro Wx hSw; (try dsimp only at hSw); go_simp; (try (first | (with_reducible rfl) | assumption | rfl))) ?_
                simp only [Act.put, List.setIfInBounds_toArray, List.set_cons_zero, List.set_cons_succ]
                refine Lex.step_take (.bool false) ps15 rfl (Lex.want_none rfl) (by intro Wx hSw; (try dsimp only at hSw); go_simp; (try (first | (with_reducible rfl) | assumption | rfl))) ?_
                simp only [Act.put, List.setIfInBounds_toArray, List.set_cons_zero, List.set_cons_succ]
                refine Lex.step_take (.bool false) ps16 rfl (Lex.want_none rfl) (by intro Wx hSw; (try dsimp only at hSw); go_simp; (try (first | (with_reducible rfl) | assumption | rfl))) ?_
                simp only [Act.put, List.setIfInBounds_toArray, List.set_cons_zero, List.set_cons_succ]
                refine Lex.step_take (.bool b2) ps17 rfl (Lex.want_some rfl ps16 rfl (b' := false) rfl rfl) (by intro Wx hSw; (try dsimp only at hSw); go_simp; (try (first | (with_reducible rfl) | assumption | rfl))) ?_
                simp only [Act.put, List.setIfInBounds_toArray, List.set_cons_zero, List.set_cons_succ]
                refine Lex.step_take (.bool b2) ps18 rfl (Lex.want_some rfl ps16 rfl (b' := false) rfl rfl) (by intro Wx hSw; (try dsimp only at hSw); go_simp; (try (first | (with_reducible rfl) | assumption | rfl))) ?_
                simp only [Act.put, List.setIfInBounds_toArray, List.set_cons_zero, List.set_cons_succ]
                refine Lex.step_take (.bool false) ps19 rfl (Lex.want_some rfl ps16 rfl (b' := false) rfl rfl) (by intro Wx hSw; (try dsimp only at hSw); go_simp; (try (first | (with_reducible rfl) | assumption | rfl))) ?_
                simp only [Act.put, List.setIfInBounds_toArray, List.set_cons_zero, List.set_cons_succ]
                refine Lex.step_take (.bool false) ps20 rfl (Lex.want_none rfl) (by intro Wx hSw; (try dsimp only at hSw); go_simp; (try (first | (with_reducible rfl) | assumption | rfl))) ?_
                simp only [Act.put, List.setIfInBounds_toArray, List.set_cons_zero, List.set_cons_succ]
                refine NoPanic.normal ?_
                have hD := Lib.hid hD
                clear x0 x1 x2 y0 y1 y2 r0 r1 s0 s1 hp hp2
                go_wp2
                go_roundw
                case rel => exact ⟨q + 1, h, A, m, c, B, m2, c2, by omega, by go_num, HH', hD.out⟩
                case measure => simp [intOf]; omega
        · obtain rfl : n = q := by omega
          have hB := hD.b
          clear hD
          go_wp2_with fail
          refine (awake_any _).mono ?_
          rintro e w2 ⟨rfl, h2⟩
          go_wp2
          go_ret
          exact ⟨rfl, hB.trans (h2.mono hB.size)⟩
end
end Go.Proofs.Ytocmkjccaajnnaa.Ha
