/- Is there room for one that is put: the law, walked. -/
import Derived.Test.YtjjedadhkdpceaaClO
import Derived.Test.YtjjedadhkdpceaaLeD
import Derived.Test.YtjjedadhkdpceaaXch
namespace Go.Proofs.Ytjjedadhkdpceaa.Cl
open Go.RowKit Pac Lex

/-- One that was asked for has gone; one that is free wasn't asked for. -/
def oldL (x : C) (l : List P) : Bool := l.any (fun p => decide (resI (findL x.l p.no) < 0) && p.ref)
def otherL (l : List P) : Bool := l.any (fun p => decide (p.pins = 0) && !p.ref)
theorem old_snoc (x : C) (l : List P) (p : P) : oldL x (l ++ [p]) = (oldL x l || (decide (resI (findL x.l p.no) < 0) && p.ref)) := by unfold oldL; rw [List.any_append]; simp
theorem other_snoc (l : List P) (p : P) : otherL (l ++ [p]) = (otherL l || (decide (p.pins = 0) && !p.ref)) := by unfold otherL; rw [List.any_append]; simp
theorem resI_lt {o : Option Nat} : resI o < 0 ↔ o = none := by
  cases o with
  | none => exact ⟨fun _ => rfl, fun _ => by decide⟩
  | some i => exact ⟨fun h => by have : ((i : Nat) : Int) < 0 := h; omega, fun h => by cases h⟩
theorem old_other {m : Nat} {c : C} (h : Ok m c) (n : Int) (d : ByteArray) (h1 : oldL (putC c n d) c.l = true) (h2 : otherL c.l = true) : False := by
  unfold oldL at h1
  unfold otherL at h2
  obtain ⟨p, hp, hp2⟩ := List.any_eq_true.1 h1
  obtain ⟨q, hq, hq2⟩ := List.any_eq_true.1 h2
  simp only [Bool.and_eq_true, decide_eq_true_eq, Bool.not_eq_true'] at hp2 hq2
  exact room_old h hp (resI_lt.1 hp2.1) hp2.2 hq hq2.1 hq2.2
/-- What the law knows behind the deeds: the pages at hand; what they are behind one more. -/
structure RoomM (w : World) (gc gx : Nat) (A1 : Option Addr) (n1 cp1 : Nat) (c : C) (A3 : Option Addr) (n3 cp3 : Nat) (x : C) (W : World) : Prop where
  v : VarC W gc A1 n1 cp1 c (fun b => b ≠ gc)
  u : Box2 W gx (.slice A3 n3 cp3) (.int .i64 x.h)
  hn : x.l.length = n3
  hc : n3 ≤ cp3
  p : HasP W 0 A3 x.l
  B : Below w.heap.size w W
theorem RoomM.below {w W W' : World} {gc gx n1 cp1 n3 cp3 : Nat} {A1 A3 : Option Addr} {c x : C} (m : RoomM w gc gx A1 n1 cp1 c A3 n3 cp3 x W) (h : Below W.heap.size W W') : RoomM w gc gx A1 n1 cp1 c A3 n3 cp3 x W' :=
  ⟨m.v.below h, m.u.below h m.u.lt, m.hn, m.hc, m.p.below h (Nat.le_refl _), m.B.trans (h.mono m.B.size)⟩
section
variable {D : Option Addr} {n cp : Nat} {l : List A} {w : World}
set_option maxRecDepth 20000 in
set_option maxHeartbeats 12800000 in
theorem clockRoom_any (no : Int) (lo : Nat) (hl : HasA w lo D l) (hn : l.length = n) (h9 : n ≤ 9223372036854775807) (ho : ∀ a ∈ l, OkA a) (hno0 : -9223372036854775808 ≤ no) (hno1 : no ≤ 9223372036854775807) :
    Calls Try.prog 5 #[.slice D n cp, .int .i64 no] w fun e w' => e = .returned (.bool true) ∧ Below w.heap.size w w' := by
  have hS := small_any (cp := cp) lo hl hn h9
  have HL := Lib.hid (And.intro hl (And.intro hn ho))
  clear hl hn ho
  go_enter Try.func5, Try.ntmps5
  go_wp2_with fail
  refine hS.mono ?_
  rintro e w1 ⟨b, rfl, hb, hv⟩
  clear hS
  cases b
  · have HV := Lib.hid hv
    clear hb hv
    go_wp2_with fail
    refine (awake_any _).mono ?_
    rintro e w2 ⟨rfl, hv⟩
    have HB := Lib.hid (HV.out.trans (hv.mono HV.out.size))
    clear hv HV
    go_wp2
    go_ret
    exact ⟨rfl, HB.out⟩
  have hsm : SmallA l := hb.1 rfl
  clear hb
  have hnx := (Below.refl w1.heap.size w1).alloc (Nat.le_refl _) (.cells #[.slice none 0 0, .int .i64 0] 24)
  have hvx : VarC (w1.alloc (.cells #[.slice none 0 0, .int .i64 0] 24)) w1.heap.size none 0 0 ⟨[], 0⟩ (fun b => b ≠ w1.heap.size) := ⟨Box2.new w1 (.slice none 0 0) (.int .i64 0) 24, rfl, Nat.le_refl _, ⟨fun h => absurd rfl h, fun h => absurd rfl h, fun _ => ⟨rfl, rfl⟩⟩⟩
  have hw1s := hv.size
  have hB := hv.trans (hnx.mono hv.size)
  obtain ⟨gc, hgc⟩ : ∃ g, w1.heap.size = g := ⟨_, rfl⟩
  rw [hgc] at hvx hw1s
  generalize hwx : w1.alloc (.cells #[.slice none 0 0, .int .i64 0] 24) = wx at hvx hB
  have HX := Lib.hid hw1s
  clear hnx hw1s hv
  go_wp2
  clear hwx hgc
  go_loopw [6] (fun i wr => ∃ (q : Nat) (c : C) (A1 : Option Addr) (n1 cp1 : Nat), q ≤ n ∧ i = .int .i64 q ∧ Ok q c ∧ VarC wr gc A1 n1 cp1 c (fun b => b ≠ gc) ∧ Below w.heap.size w wr) (fun i _ => n - (intOf i).toNat)
  case atStart => exact ⟨0, ⟨[], 0⟩, none, 0, 0, Nat.zero_le _, rfl, ok_none, hvx, hB⟩
  case round =>
    clear hvx hB
    obtain ⟨q, c, A1, n1, cp1, hq, rfl, hok, hvx, hB⟩ := hrel
    have hn9 : n ≤ 100 := by rw [← HL.out.2.1]; exact hsm.len
    by_cases hlt : q < n
    · have hgt := List.getElem?_eq_getElem (l := l) (i := q) (by rw [HL.out.2.1]; exact hlt)
      generalize (l[q]'(by rw [HL.out.2.1]; exact hlt)) = a at hgt
      have hfa := hsm.fine HL.out.2.2 a (List.mem_of_getElem? hgt)
      have hok2 := hok.does hfa
      obtain ⟨⟨c2, s, b0⟩, hr⟩ : ∃ r, doesC c a = r := ⟨_, rfl⟩
      have hdo := fun (W : World) (h : HasPX W (fun b => b ≠ gc) A1 cp1 c.l) => does_any (w := W) (m := q) _ c a hok (by omega) hfa h hvx.hn hvx.hc
      rw [hr] at hdo hok2
      obtain ⟨bD, oD, hD, hlb, d0, d1, d2⟩ := HasA.at (HL.out.1.below hB (Nat.le_refl _)) hgt
      obtain ⟨kind, pno, data⟩ := a
      simp only at d0 d1 d2
      subst hD
      have i1 : (q : Int) < (n : Int) := by omega
      have i0 : (0 : Int) ≤ (q : Int) := by omega
      clear hgt hfa hr hlb
      have x0 := hvx.b.c0
      have x1 := hvx.b.c1
      go_wp2_with fail
      have hdr := (Below.refl wr.heap.size wr).drew
      refine Lex.region_parts (ops := czraw) (ops1 := czops) (calls := czcalls) 7 czord (fun W => W.cell? ⟨gc, 0, none⟩ = some (.slice A1 n1 cp1) ∧ W.cell? ⟨gc, 1, none⟩ = some (.int .i64 c.h) ∧ W.cell? ⟨bD, oD + q * 3, none⟩ = some (.int .i64 kind) ∧ W.cell? ⟨bD, oD + q * 3 + 1, none⟩ = some (.int .i64 pno) ∧ W.cell? ⟨bD, oD + q * 3 + 2, none⟩ = some (.string data)) (by kernel_rfl) czcut (by rw [czsize]; decide) (by kernel_rfl) (by kernel_rfl) (by kernel_rfl) czsel (by kernel_rfl) (by kernel_rfl) czlex (⟨cell_belowB hdr x0, cell_belowB hdr x1, cell_belowB hdr d0, cell_belowB hdr d1, cell_belowB hdr d2⟩) ?_
      unfold czord
      have x0 := cell_belowB hdr x0
      have x1 := cell_belowB hdr x1
      have d0 := cell_belowB hdr d0
      have d1 := cell_belowB hdr d1
      have d2 := cell_belowB hdr d2
      refine Lex.step_take (.agg #[.slice A1 n1 cp1, .int .i64 c.h]) cz0 rfl (Lex.want_none rfl) (by intro Wx hSw; (try dsimp only at hSw); go_simp; (try (first | (with_reducible rfl) | assumption | rfl))) ?_
      simp only [Act.put, List.setIfInBounds_toArray, List.set_cons_zero, List.set_cons_succ]
      refine Lex.step_take (.slice (some ⟨bD, oD, none⟩) n cp) cz1 rfl (Lex.want_none rfl) (by intro Wx hSw; (try dsimp only at hSw); go_simp; (try (first | (with_reducible rfl) | assumption | rfl))) ?_
      simp only [Act.put, List.setIfInBounds_toArray, List.set_cons_zero, List.set_cons_succ]
      refine Lex.step_take (.int .i64 (q : Int)) cz2 rfl (Lex.want_none rfl) (by intro Wx hSw; (try dsimp only at hSw); go_simp; (try (first | (with_reducible rfl) | assumption | rfl))) ?_
      simp only [Act.put, List.setIfInBounds_toArray, List.set_cons_zero, List.set_cons_succ]
      refine Lex.step_take (.pointer (some ⟨bD, oD + q * 3, none⟩)) cz3 rfl (Lex.want_none rfl) (by intro Wx hSw; (try dsimp only at hSw); go_simp; (try (first | (with_reducible rfl) | assumption | rfl))) ?_
      simp only [Act.put, List.setIfInBounds_toArray, List.set_cons_zero, List.set_cons_succ]
      refine Lex.step_take (.agg #[.int .i64 kind, .int .i64 pno, .string data]) cz4 rfl (Lex.want_none rfl) (by intro Wx hSw; (try dsimp only at hSw); go_simp; (try (first | (with_reducible rfl) | assumption | rfl))) ?_
      simp only [Act.put, List.setIfInBounds_toArray, List.set_cons_zero, List.set_cons_succ]
      refine Lex.step_call cz5 rfl (Lex.want_none rfl) (fun K hK => ?_)
      go_simp
      refine (hdo _ (hvx.hl.below hdr (Nat.le_refl _))).mono ?_
      rintro e w3 ⟨v, rfl, ⟨A3, n3, cp3, rfl, hn3, hc3, hl3⟩, hy⟩
      have x0 := cell_belowB hy x0
      have x1 := cell_belowB hy x1
      have d0 := cell_belowB hy d0
      have d1 := cell_belowB hy d1
      have d2 := cell_belowB hy d2
      have hy := hdr.trans (hy.mono hdr.size)
      refine hK.out _ _ _ (fun _ h => h) ⟨x0, x1, d0, d1, d2⟩ ?_
      clear hK K
      try simp only [Act.put, List.setIfInBounds_toArray, List.set_cons_zero, List.set_cons_succ]
      refine Lex.step_take (.tuple #[.agg #[.slice A3 n3 cp3, .int .i64 c2.h], .string s, .bool b0]) cz6 rfl (Lex.want_none rfl) (by intro Wx hSw; (try dsimp only at hSw); go_simp; (try (first | (with_reducible rfl) | assumption | rfl))) ?_
      simp only [Act.put, List.setIfInBounds_toArray, List.set_cons_zero, List.set_cons_succ]
      refine Lex.tail_lex (ops := czraw) (calls := [10]) (n := 7) [7, 8, 9, 10] (fun _ => True) czrsel (by rw [czsize]; rfl) (by kernel_rfl) cztlex trivial ?_
      refine Lex.step_take (.agg #[.slice A3 n3 cp3, .int .i64 c2.h]) czt7 rfl (Lex.want_none rfl) (by intro Wx hSw; go_simp; (try (first | (with_reducible rfl) | assumption | rfl))) ?_
      simp only [Act.put, List.setIfInBounds_toArray, List.set_cons_zero, List.set_cons_succ]
      refine Lex.step_take (.string s) czt8 rfl (Lex.want_none rfl) (by intro Wx hSw; go_simp; (try (first | (with_reducible rfl) | assumption | rfl))) ?_
      simp only [Act.put, List.setIfInBounds_toArray, List.set_cons_zero, List.set_cons_succ]
      refine Lex.step_take (.bool b0) czt9 rfl (Lex.want_none rfl) (by intro Wx hSw; go_simp; (try (first | (with_reducible rfl) | assumption | rfl))) ?_
      simp only [Act.put, List.setIfInBounds_toArray, List.set_cons_zero, List.set_cons_succ]
      refine Lex.step_call czt10 rfl (Lex.want_none rfl) (fun K hK => ?_)
      have hxb := hvx.b.below hy hvx.b.lt
      have xf0 := hxb.f 0
      have xf1 := hxb.f 1
      go_simp
      refine hK.out _ _ _ (fun _ h => h) trivial ?_
      clear hK K
      try simp only [Act.put, List.setIfInBounds_toArray, List.set_cons_zero, List.set_cons_succ]
      refine NoPanic.normal ?_
      have hgcw := hvx.b.lt
      have hl3 : HasPX w3 (fun b => b ≠ gc ∨ wr.heap.size ≤ b) A3 cp3 c2.l := hl3
      have hbar := bar2 w3 gc (.slice A3 n3 cp3) (.int .i64 c2.h)
      have HV := Lib.hid (And.intro hok2 (And.intro ((varC_store hxb hn3 hc3 hl3 hgcw (fun h => h rfl)).mono (Y := fun b => b ≠ gc) (fun b h => by rcases h with h | h; exact h; omega)) ((hB.trans (hy.mono hB.size)).trans (hbar.below (B := w.heap.size) HX.out (Nat.le_trans hB.size hy.size)))))
      clear x0 x1 d0 d1 d2 hdo hvx hB hxb hl3 hbar hdr hy xf0 xf1 hgcw
      go_wp2
      go_roundw
      case rel => exact ⟨q + 1, c2, A3, n3, cp3, by omega, by go_num, HV.out.1, HV.out.2.1, HV.out.2.2⟩
      case measure => simp [intOf]; omega
    · obtain rfl : q = n := by omega
      have hc8 := hok.len
      have hn1 : c.l.length = n1 := hvx.hn
      have x0 := hvx.b.c0
      have x1 := hvx.b.c1
      go_wp2
      clear x0 x1
      go_loopw [7, 8] (fun h i wk => ∃ k : Nat, k ≤ n1 ∧ i = .int .i64 k ∧ h = .int .i64 (cntH (c.l.take k) : Nat) ∧ VarC wk gc A1 n1 cp1 c (fun b => b ≠ gc) ∧ Below w.heap.size w wk) (fun _ i _ => n1 - (intOf i).toNat)
      case atStart => exact ⟨0, Nat.zero_le _, rfl, rfl, hvx, hB⟩
      case round =>
        clear hvx hB
        obtain ⟨k, hk, rfl, rfl, hvx, hB⟩ := hrel
        have x0 := hvx.b.c0
        have x1 := hvx.b.c1
        by_cases hkl : k < n1
        · have hp := List.getElem?_eq_getElem (l := c.l) (i := k) (by rw [hn1]; exact hkl)
          generalize (c.l[k]'(by rw [hn1]; exact hkl)) = p at hp
          obtain ⟨b1, o1, hA1, hlb1, e0, e1, e2, e3⟩ := HasP.at hvx.hl.p hp
          have hcs := cnt_snoc (c.l.take k) p
          rw [← take_snoc hp] at hcs
          have hcl := cnt_le (c.l.take k)
          rw [List.length_take] at hcl
          obtain ⟨pno, pdata, pref, pp⟩ := p
          simp only at e3 hcs
          have j1 : (k : Int) < (n1 : Int) := by omega
          have j0 : (0 : Int) ≤ (k : Int) := by omega
          obtain ⟨hd, hhd⟩ : ∃ h, cntH (c.l.take k) = h := ⟨_, rfl⟩
          rw [hhd] at hcs hcl ⊢
          have hz : IntKind.i64.wrap ((hd : Int) + 1) = (hd : Int) + 1 := IntWalk.i64_in _ (by omega)
          have HV := Lib.hid (And.intro hvx (And.intro hB hcs))
          subst hA1
          clear hhd hp hlb1 e0 e1 e2 hcl hvx hB hcs
          by_cases hpos : 0 < pp
          · have hh := HV.out.2.2
            rw [if_pos hpos] at hh
            have HH := Lib.hid hh
            clear hh
            go_wp2
            go_roundw
            case rel => exact ⟨k + 1, by omega, by go_num, by rw [HH.out]; go_num, HV.out.1, HV.out.2.1⟩
            case measure => simp [intOf]; omega
          · have hh := HV.out.2.2
            rw [if_neg hpos] at hh
            have HH := Lib.hid hh
            clear hh
            go_wp2
            go_roundw
            case rel => exact ⟨k + 1, by omega, by go_num, by rw [HH.out]; go_num, HV.out.1, HV.out.2.1⟩
            case measure => simp [intOf]; omega
        · obtain rfl : n1 = k := by omega
          rw [List.take_of_length_le (by rw [hn1]; exact Nat.le_refl _)]
          have hcall := put_any (m := q) (fun b => b ≠ gc) no ⟨#[110, 101, 119]⟩ hok (by omega) hvx.hl hvx.hn hvx.hc hno0 hno1 (by decide)
          have hokx := hok.put (d := ⟨#[110, 101, 119]⟩) (by decide) hno0 hno1
          have hroom := room (n := no) (d := ⟨#[110, 101, 119]⟩) hok
          have hoo := old_other hok no ⟨#[110, 101, 119]⟩
          generalize hx' : putC c no ⟨#[110, 101, 119]⟩ = x at hcall hokx hroom hoo
          have HO := Lib.hid (And.intro hroom hoo)
          clear hx' hroom hoo
          go_wp2_with fail
          refine hcall.mono ?_
          rintro e w3 ⟨v, rfl, ⟨A3, n3, cp3, rfl, hn3, hc3, hl3⟩, hy⟩
          have hvx := hvx.below hy
          have hB := hB.trans (hy.mono hB.size)
          have hnu := (Below.refl w3.heap.size w3).alloc (Nat.le_refl _) (.cells #[.slice A3 n3 cp3, .int .i64 x.h] 24)
          have hu := Box2.new w3 (.slice A3 n3 cp3) (.int .i64 x.h) 24
          have hvx := hvx.below hnu
          have hB := hB.trans (hnu.mono hB.size)
          have hp3 := (hl3.below hnu (Nat.le_refl _)).p
          obtain ⟨gx, hgx⟩ : ∃ g, w3.heap.size = g := ⟨_, rfl⟩
          rw [hgx] at hu
          generalize hw4 : w3.alloc (.cells #[.slice A3 n3 cp3, .int .i64 x.h] 24) = w4 at hvx hB hu hp3
          have hM : RoomM w gc gx A1 n1 cp1 c A3 n3 cp3 x w4 := ⟨hvx, hu, hn3, hc3, hp3, hB⟩
          clear hcall hnu hl3 hy hvx hB hu hn3 hc3 hp3
          go_upto_region 15 with fail
          clear hw4 hgx
          go_cut [10] from 56 to 59 (fun v wx => v = .bool (findL x.l no).isSome ∧ RoomM w gc gx A1 n1 cp1 c A3 n3 cp3 x wx)
          case first =>
            have u0 := hM.u.c0
            have u1 := hM.u.c1
            have hF := find_any (w := w4) no hokx (by omega) hM.p hM.hn hM.hc hno0 hno1
            go_wp2_with fail
            refine hF.mono ?_
            rintro e w5 ⟨rfl, hv⟩
            have HM := Lib.hid (hM.below hv)
            clear hF hv hM u0 u1
            cases hf : findL x.l no with
            | none =>
              rw [show resI none = -1 from rfl]
              go_wp2
              go_meet
              case rel => exact ⟨by rw [hf]; rfl, HM.out⟩
            | some i =>
              rw [show resI (some i) = (i : Int) from rfl]
              have j0 : (0 : Int) ≤ (i : Int) := by omega
              go_wp2
              go_meet
              case rel => exact ⟨by rw [hf]; rfl, HM.out⟩
          case rest =>
            clear hM
            obtain ⟨rfl, hM⟩ := hcut
            go_upto_region 16 with fail
            go_cut [7, 10, 69] from 60 to 68 (fun h t v wx => v = .bool false ∧ RoomM w gc gx A1 n1 cp1 c A3 n3 cp3 x wx)
            case first =>
              have x0 := hM.v.b.c0
              have x1 := hM.v.b.c1
              have hr := HO.out.1
              by_cases hc : cntH c.l < 8
              · have ht : (findL x.l no).isSome = true := Option.isSome_iff_ne_none.2 (hr.2 (Or.inl hc))
                rw [ht]
                have j1 : ((cntH c.l : Nat) : Int) < 8 := by omega
                have HM := Lib.hid hM
                clear hM ht hr
                go_wp2
                go_meet
                case rel => exact ⟨rfl, HM.out⟩
              · have j1 : ¬ ((cntH c.l : Nat) : Int) < 8 := by omega
                have hF := find_any (w := wc) no hok (by omega) hM.v.hl.p hM.v.hn hM.v.hc hno0 hno1
                go_wp2_with fail
                refine hF.mono ?_
                rintro e w5 ⟨rfl, hv⟩
                have HM := Lib.hid (hM.below hv)
                clear hF hv hM x0 x1
                have ht : (findL x.l no).isSome = (findL c.l no).isSome := Bool.eq_iff_iff.2 (by rw [Option.isSome_iff_ne_none, Option.isSome_iff_ne_none, hr]; exact ⟨fun h => h.resolve_left hc, fun h => Or.inr h⟩)
                rw [ht]
                cases hf : findL c.l no with
                | none =>
                  rw [show resI none = -1 from rfl]
                  go_wp2
                  go_meet
                  case rel => exact ⟨rfl, HM.out⟩
                | some i =>
                  rw [show resI (some i) = (i : Int) from rfl]
                  have j0 : (0 : Int) ≤ (i : Int) := by omega
                  go_wp2
                  go_meet
                  case rel => exact ⟨rfl, HM.out⟩
            case rest =>
              clear hM
              obtain ⟨rfl, hM⟩ := hcut
              go_wp2
              go_loopw [11, 12, 13] (fun o t i wk => ∃ k : Nat, k ≤ n1 ∧ i = .int .i64 k ∧ o = .bool (oldL x (c.l.take k)) ∧ t = .bool (otherL (c.l.take k)) ∧ RoomM w gc gx A1 n1 cp1 c A3 n3 cp3 x wk) (fun _ _ i _ => n1 - (intOf i).toNat)
              case atStart => exact ⟨0, Nat.zero_le _, rfl, rfl, rfl, hM⟩
              case round =>
                clear hM
                obtain ⟨k, hk, rfl, rfl, rfl, hM⟩ := hrel
                have x0 := hM.v.b.c0
                have x1 := hM.v.b.c1
                by_cases hkl : k < n1
                · have hp := List.getElem?_eq_getElem (l := c.l) (i := k) (by rw [hn1]; exact hkl)
                  generalize (c.l[k]'(by rw [hn1]; exact hkl)) = p at hp
                  have hpf := hok.fine p (List.mem_of_getElem? hp)
                  have hos := old_snoc x (c.l.take k) p
                  have hts := other_snoc (c.l.take k) p
                  rw [← take_snoc hp] at hos hts
                  obtain ⟨b1, o1, hA1, hlb1, e0, e1, e2, e3⟩ := HasP.at hM.v.hl.p hp
                  obtain ⟨pno, pdata, pref, pp⟩ := p
                  have pn0 := hpf.n0
                  have pn1 := hpf.n1
                  simp only at e0 e1 e2 e3 pn0 pn1 hos hts
                  subst hA1
                  generalize oldL x (c.l.take k) = ob at hos ⊢
                  generalize otherL (c.l.take k) = tb at hts ⊢
                  have hnh := (Below.refl wr.heap.size wr).alloc (Nat.le_refl _) (.cells #[.int .i64 pno, .string pdata, .bool pref, .int .i64 pp] 36)
                  have hh := Box4.new wr (.int .i64 pno) (.string pdata) (.bool pref) (.int .i64 pp) 36
                  have hM := hM.below hnh
                  have j1 : (k : Int) < (n1 : Int) := by omega
                  have j0 : (0 : Int) ≤ (k : Int) := by omega
                  obtain ⟨gh, hgh⟩ : ∃ g, wr.heap.size = g := ⟨_, rfl⟩
                  rw [hgh] at hh
                  generalize hwh : wr.alloc (.cells #[.int .i64 pno, .string pdata, .bool pref, .int .i64 pp] 36) = wh at hh hM
                  have u0 := hM.u.c0
                  have u1 := hM.u.c1
                  have h0 := hh.c0
                  have hF := find_any (w := wh) pno hokx (by omega) hM.p hM.hn hM.hc pn0 pn1
                  have HS := Lib.hid (And.intro hos hts)
                  clear hos hts hpf hp hnh hlb1
                  go_wp2_with fail
                  clear hwh hgh x0 x1 e0 e1 e2 e3
                  refine hF.mono ?_
                  rintro e w5 ⟨rfl, hv⟩
                  have hh := hh.below hv hh.lt
                  have hM := hM.below hv
                  clear hF hv u0 u1 h0
                  go_upto_region 24 with fail
                  have HS := HS.out
                  generalize decide (resI (findL x.l pno) < 0) = gb at HS ⊢
                  have HS := Lib.hid HS
                  have h2 := hh.c2
                  have h3 := hh.c3
                  obtain ⟨wz, hwz⟩ : ∃ W, W = w5 := ⟨_, rfl⟩
                  go_cut [11] from 88 to 95 (fun o wx => o = .bool (ob || (gb && pref)) ∧ wx = wz)
                  case first =>
                    clear hM hh HS HO
                    cases ob
                    · cases gb
                      · go_wp2
                        go_meet
                        case rel => exact ⟨rfl, hwz.symm⟩
                      · cases pref
                        · go_wp2
                          go_meet
                          case rel => exact ⟨rfl, hwz.symm⟩
                        · go_wp2
                          go_meet
                          case rel => exact ⟨rfl, hwz.symm⟩
                    · go_wp2
                      go_meet
                      case rel => exact ⟨rfl, hwz.symm⟩
                  case rest =>
                    obtain ⟨rfl, hww⟩ := hcut
                    subst hwz
                    subst hww
                    have HM := Lib.hid (And.intro hM HS.out.1)
                    clear hM hh HO
                    generalize (ob || (gb && pref)) = ob2 at *
                    go_upto_region 25 with fail
                    cases tb
                    · by_cases hz : pp = 0
                      · cases pref
                        · go_wp2
                          go_roundw
                          case rel => exact ⟨k + 1, by omega, by go_num, by rw [HM.out.2], by rw [HS.out.2]; rw [decide_eq_true hz]; rfl, HM.out.1⟩
                          case measure => simp [intOf]; omega
                        · go_wp2
                          go_roundw
                          case rel => exact ⟨k + 1, by omega, by go_num, by rw [HM.out.2], by rw [HS.out.2]; rw [decide_eq_true hz]; rfl, HM.out.1⟩
                          case measure => simp [intOf]; omega
                      · go_wp2
                        go_roundw
                        case rel => exact ⟨k + 1, by omega, by go_num, by rw [HM.out.2], by rw [HS.out.2]; rw [decide_eq_false hz]; rfl, HM.out.1⟩
                        case measure => simp [intOf]; omega
                    · go_wp2
                      go_roundw
                      case rel => exact ⟨k + 1, by omega, by go_num, by rw [HM.out.2], by rw [HS.out.2]; rfl, HM.out.1⟩
                      case measure => simp [intOf]; omega
                · obtain rfl : n1 = k := by omega
                  rw [List.take_of_length_le (by rw [hn1]; exact Nat.le_refl _)]
                  have hoo := HO.out.2
                  generalize oldL x c.l = ob at hoo ⊢
                  generalize otherL c.l = tb at hoo ⊢
                  go_wp2_with fail
                  refine (awake_any _).mono ?_
                  rintro e w5 ⟨rfl, hv⟩
                  have HB := Lib.hid (hM.B.trans (hv.mono hM.B.size))
                  have HN := Lib.hid hoo
                  clear hv hM x0 x1 hoo
                  cases ob
                  · go_wp2
                    go_ret
                    exact ⟨rfl, HB.out⟩
                  · cases tb
                    · go_wp2
                      go_ret
                      exact ⟨rfl, HB.out⟩
                    · exact (HN.out rfl rfl).elim
end
end Go.Proofs.Ytjjedadhkdpceaa.Cl
