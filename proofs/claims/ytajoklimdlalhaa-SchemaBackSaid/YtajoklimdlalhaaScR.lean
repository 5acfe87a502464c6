/- SchemaBack: whatever schema, whatever bytes, whatever stands behind, walked. -/
import Derived.Test.YtajoklimdlalhaaScQ
import Derived.Test.YtajoklimdlalhaaXrg
namespace Go.Proofs.Ytajoklimdlalhaa.Lex
open Go
theorem want_undef {ops : Array Oper} {o : Oper} {a : Act} {g d : Nat} {b : Bool} {og : Oper} (h : o.guard = some (g, b)) (hg : ops[g]? = some og) (hd : og.dst = some d) (ha : a.tmps[d]? = some undef) : Region.wanted o (yielded ops a.tmps) = false := by
  unfold Region.wanted yielded
  rw [h]
  simp only [hg, Option.bind_some, hd, ha]
  rfl
end Go.Proofs.Ytajoklimdlalhaa.Lex
namespace Go.Proofs.Ytajoklimdlalhaa.Sc
open Go.RowKit Pac Lex

theorem ex_front (u t : ByteArray) : (u ++ t).extract 0 u.size = u := by
  apply bytesEq
  rw [← ByteArray.toList_eq, Lib.extract_toList, app_list, List.drop_zero, Nat.sub_zero]
  exact List.take_left' (by rw [Array.length_toList]; rfl)
/-- What is read of bytes, if there is something, may be, and is written just so. -/
theorem read_exact {s ny ty : ByteArray} {ly : List C} {dy : Bool} (h : readS s false = (ny, ly, ty, dy)) (hd : dy = false) : rightS ny ly = true ∧ s = printS ny ly ++ ty := by
  subst hd
  exact exact_form h
theorem readS_facts (s : ByteArray) (d : Bool) (hs : s.size ≤ 9223372036854775807) : (readS s d).1.size ≤ 9223372036854775807 ∧ (readS s d).2.1.length ≤ 8 ∧ ∀ (j : Nat) (c : C), (readS s d).2.1[j]? = some c → c.Ok := by
  rw [readS_seenP]
  split
  · exact ⟨Nat.zero_le _, Nat.zero_le _, fun j c h => by simp at h⟩
  · exact seenP_facts s d hs
theorem Tel.bar {w : World} {g lo : Nat} {nm : ByteArray} {A : Option Addr} {m cp : Nat} {l : List C} {W W' : World} {g' : Nat} (h : Tel w g lo nm A m cp l W) (ha : HasCols w lo A l) (hb : Bar g' W W') (hne : g ≠ g') (hg : w.heap.size ≤ g') : Tel w g lo nm A m cp l W' :=
  ⟨h.v.bar hb hne, ha.below (h.B.trans (hb.below hg h.B.size)) (Nat.le_refl _), h.B.trans (hb.below hg h.B.size)⟩

set_option maxRecDepth 20000 in
set_option maxHeartbeats 8000000 in
theorem back_any (A : Option Addr) (cp m : Nat) (nm : ByteArray) (l : List C) (tx mo : ByteArray) (lo : Nat) (w : World) (h : HasCols w lo A l) (hm : l.length = m) (hcp : m ≤ cp) (hn : nm.size ≤ 9223372036854775807) (h9 : m ≤ 9223372036854775807) (hok : ∀ (j : Nat) (c : C), l[j]? = some c → c.Ok) (htx : tx.size ≤ 9223372036854775807) (hmo : mo.size ≤ 9223372036854775807) :
    Calls Try.prog 5 #[.agg #[.string nm, .slice A m cp], .string tx, .string mo] w fun e w' => e = .returned (.bool true) ∧ Below w.heap.size w w' := by
  have hF : Tel w w.heap.size lo nm A m cp l (w.alloc (.cells #[.string nm, .slice A m cp] 24)) :=
    ⟨Box2.new w _ _ 24, h.below ((Below.refl w.heap.size w).alloc (Nat.le_refl _) _) (Nat.le_refl _), (Below.refl w.heap.size w).alloc (Nat.le_refl _) _⟩
  have hSm := fun (W : World) (hc : HasCols W lo A l) => small_of hm hn h9 hok A cp lo W hc (nm := nm)
  have hR := fun (r : Bool) (hr : rightS nm l = r) (W : World) (hc : HasCols W lo A l) => right_of hr hm hn h9 hok A cp lo W hcp hc
  have hP := fun (hr : rightS nm l = true) (W : World) (hc : HasCols W lo A l) => print_of hr rfl hm A cp lo W hc
  have hbk := fun (hr : rightS nm l = true) => back nm l mo hr
  have hzp := fun (hr : rightS nm l = true) => printS_size hr
  obtain ⟨r, hr⟩ : ∃ r, rightS nm l = r := ⟨_, rfl⟩
  have hR := hR r hr
  rw [hr] at hP hbk hzp
  generalize printS nm l = pu at hP hbk hzp
  have HF := Lib.hid hF
  have HA := Lib.hid h
  have HM := Lib.hid hm
  have HBK := Lib.hid hbk
  clear hF hr hok h hm hbk
  go_enter Try.func5, Try.ntmps5
  go_wp2_with fail
  have hF := HF.out
  clear HF
  generalize w.alloc (.cells #[.string nm, .slice A m cp] 24) = w1 at hF ⊢
  generalize hgw : w.heap.size = g at hF ⊢
  refine (hSm _ hF.c).mono ?_
  rintro e w2 ⟨sm, rfl, _, hy⟩
  have hF := hF.below hy
  clear hy hSm
  have c0 := hF.v.c0
  have c1 := hF.v.c1
  subst hgw
  cases sm
  · go_wp2_with fail
    refine (awake_any _).mono ?_
    rintro e w9 ⟨rfl, hz9⟩
    have hF := hF.below hz9
    go_wp2
    go_ret
    exact ⟨rfl, hF.B⟩
  · by_cases q1 : 300 < tx.size
    · go_wp2_with fail
      refine (awake_any _).mono ?_
      rintro e w9 ⟨rfl, hz9⟩
      have hF := hF.below hz9
      go_wp2
      go_ret
      exact ⟨rfl, hF.B⟩
    · by_cases q2 : 50 < mo.size
      · go_wp2_with fail
        refine (awake_any _).mono ?_
        rintro e w9 ⟨rfl, hz9⟩
        have hF := hF.below hz9
        go_wp2
        go_ret
        exact ⟨rfl, hF.B⟩
      · clear c0 c1
        obtain ⟨RX, hRX⟩ : ∃ RX, readS tx false = RX := ⟨_, rfl⟩
        have hrx := fun (g : Nat) (W : World) (h : IsBox W g tx false) => read_any g tx false W h (by omega)
        obtain ⟨hynz, hyl, hyok⟩ := readS_facts tx false (by omega)
        rw [hRX] at hrx hynz hyl hyok
        obtain ⟨ny, ly, ty, dy⟩ := RX
        simp only at hrx hynz hyl hyok
        obtain ⟨my, hmy⟩ : ∃ my, ly.length = my := ⟨_, rfl⟩
        have hrx : ∀ (g : Nat) (W : World), IsBox W g tx false → Calls Try.prog 14 #[.pointer (some ⟨g, 0, none⟩)] W (RdPost g ny ly my ty dy W) := fun g W h => rd_of hmy (hrx g W h)
        have HRX := Lib.hid hRX
        clear hRX
        have hx := Box2.new w2 (.string tx) (.bool false) 30
        have hz0 := (Below.refl w2.heap.size w2).alloc (Nat.le_refl _) (.cells #[.string tx, .bool false] 30)
        have HX := Lib.hid (And.intro hx (hF.below hz0))
        have lg := hF.B.size
        have lt2 := hF.v.lt
        clear hx hz0 hF
        go_wp2_with fail
        obtain ⟨hx, hF⟩ := HX.out
        clear HX
        refine (hrx _ _ hx).mono ?_
        rintro e w3 ⟨Ay, py, rfl, hpy, hCy, hx, hB3⟩
        have hF := hF.bar HA.out hB3 (Nat.ne_of_lt lt2) lg
        clear hB3
        have hy : Tel (w3.alloc (.cells #[.string ny, .slice Ay my py] 24)) w3.heap.size 0 ny Ay my py ly (w3.alloc (.cells #[.string ny, .slice Ay my py] 24)) :=
          ⟨Box2.new w3 _ _ 24, (hCy.below ((Below.refl w3.heap.size w3).alloc (Nat.le_refl _) _) (Nat.le_refl _)).lower (Nat.zero_le _), Below.refl _ _⟩
        have hF := hF.below ((Below.refl w3.heap.size w3).alloc (Nat.le_refl _) (.cells #[.string ny, .slice Ay my py] 24))
        have hx := hx.alloc (.cells #[.string ny, .slice Ay my py] 24)
        have HX := Lib.hid (And.intro hy (And.intro hF hx))
        clear hy hF hx hCy
        go_wp2_with fail
        obtain ⟨hy, hF, hx⟩ := HX.out
        clear HX
        generalize w3.alloc (.cells #[.string ny, .slice Ay my py] 24) = w4 at hy hF hx ⊢
        generalize w3.heap.size = gy at hy ⊢
        generalize w2.heap.size = gx at hx ⊢
        cases dy
        · obtain ⟨hry, htxe⟩ := read_exact HRX.out rfl
          have hRy := fun (W : World) (hc : HasCols W 0 Ay ly) => right_of hry hmy hynz (by omega) hyok Ay py 0 W hpy hc
          have hPy := fun (W : World) (hc : HasCols W 0 Ay ly) => print_of hry rfl hmy Ay py 0 W hc
          generalize printS ny ly = u at htxe hPy
          have hsz : tx.size = u.size + ty.size := by rw [htxe, ByteArray.size_append]
          have he : tx.extract 0 u.size = u := by rw [htxe]; exact ex_front u ty
          have e1 : (tx.size : Int) - (ty.size : Int) = (u.size : Int) := by omega
          have e2 : IntKind.i64.wrap (u.size : Int) = (u.size : Int) := by rw [IntKind.wrap_i64]; omega
          have e3 : (0 : Int) ≤ (u.size : Int) := by omega
          have e4 : (u.size : Int) ≤ (tx.size : Int) := by omega
          clear HRX htxe hrx hyok hsz
          have s0 := hF.v.c0
          have s1 := hF.v.c1
          clear s0 s1
          refine Lex.region_lex (ops := xbops) (calls := xbcalls) xbord (fun W => W.cell? ⟨gx, 0, none⟩ = some (.string ty) ∧ W.cell? ⟨gx, 1, none⟩ = some (.bool false) ∧ W.cell? ⟨gy, 0, none⟩ = some (.string ny) ∧ W.cell? ⟨gy, 1, none⟩ = some (.slice Ay my py)) (by kernel_rfl) (by kernel_rfl) xbsel (by kernel_rfl) (by kernel_rfl) xblex (⟨hx.drew.c0, hx.drew.c1, hy.v.drew.c0, hy.v.drew.c1⟩) ?_
          unfold xbord
          have hF := hF.below (Below.refl _ _).drew
          have hy := hy.below (Below.refl _ _).drew
          have hx := hx.drew
          refine Lex.step_take (.pointer (some ⟨gx, 0, none⟩)) xb0 rfl (Lex.want_none rfl) (by intro Wx hSw; (try dsimp only at hSw); go_simp; (try (first | (with_reducible rfl) | assumption | rfl))) ?_
          simp only [Act.put, List.setIfInBounds_toArray, List.set_cons_zero, List.set_cons_succ]
          refine Lex.step_take (.pointer (some ⟨gx, 0, none⟩)) xb1 rfl (Lex.want_none rfl) (by intro Wx hSw; (try dsimp only at hSw); go_simp; (try (first | (with_reducible rfl) | assumption | rfl))) ?_
          simp only [Act.put, List.setIfInBounds_toArray, List.set_cons_zero, List.set_cons_succ]
          refine Lex.step_take (.pointer (some ⟨gx, 1, none⟩)) xb2 rfl (Lex.want_none rfl) (by intro Wx hSw; (try dsimp only at hSw); go_simp; (try (first | (with_reducible rfl) | assumption | rfl))) ?_
          simp only [Act.put, List.setIfInBounds_toArray, List.set_cons_zero, List.set_cons_succ]
          refine Lex.step_take (.bool false) xb3 rfl (Lex.want_none rfl) (by intro Wx hSw; (try dsimp only at hSw); go_simp; (try (first | (with_reducible rfl) | assumption | rfl))) ?_
          simp only [Act.put, List.setIfInBounds_toArray, List.set_cons_zero, List.set_cons_succ]
          refine Lex.step_take (.bool true) xb4 rfl (Lex.want_none rfl) (by intro Wx hSw; (try dsimp only at hSw); go_simp; (try (first | (with_reducible rfl) | assumption | rfl))) ?_
          simp only [Act.put, List.setIfInBounds_toArray, List.set_cons_zero, List.set_cons_succ]
          refine Lex.step_take (.bool true) xb5 rfl (Lex.want_none rfl) (by intro Wx hSw; (try dsimp only at hSw); go_simp; (try (first | (with_reducible rfl) | assumption | rfl))) ?_
          simp only [Act.put, List.setIfInBounds_toArray, List.set_cons_zero, List.set_cons_succ]
          refine Lex.step_take (.agg #[.string ny, .slice Ay my py]) xb6 rfl (Lex.want_some rfl xb5 rfl (b' := true) rfl rfl) (by intro Wx hSw; (try dsimp only at hSw); go_simp; (try (first | (with_reducible rfl) | assumption | rfl))) ?_
          simp only [Act.put, List.setIfInBounds_toArray, List.set_cons_zero, List.set_cons_succ]
          refine Lex.step_call xb7 rfl (Lex.want_some rfl xb5 rfl (b' := true) rfl rfl) (fun K hK => ?_)
          go_simp
          refine (hRy _ hy.c).mono ?_
          rintro e _ ⟨rfl, hz⟩
          have hF := hF.below hz
          have hy := hy.below hz
          have hx := hx.below hz hx.lt
          clear hz
          refine hK.out _ _ _ (fun _ h => h) ⟨hx.c0, hx.c1, hy.v.c0, hy.v.c1⟩ ?_
          clear hK K
          try simp only [Act.put, List.setIfInBounds_toArray, List.set_cons_zero, List.set_cons_succ]
          refine Lex.step_take (.bool false) xb8 rfl (Lex.want_some rfl xb5 rfl (b' := true) rfl rfl) (by intro Wx hSw; (try dsimp only at hSw); go_simp; (try (first | (with_reducible rfl) | assumption | rfl))) ?_
          simp only [Act.put, List.setIfInBounds_toArray, List.set_cons_zero, List.set_cons_succ]
          refine Lex.step_take (.bool false) xb9 rfl (Lex.want_some rfl xb5 rfl (b' := true) rfl rfl) (by intro Wx hSw; (try dsimp only at hSw); go_simp; (try (first | (with_reducible rfl) | assumption | rfl))) ?_
          simp only [Act.put, List.setIfInBounds_toArray, List.set_cons_zero, List.set_cons_succ]
          refine Lex.step_take (.agg #[.string ny, .slice Ay my py]) xb10 rfl (Lex.want_some rfl xb9 rfl (b' := false) rfl rfl) (by intro Wx hSw; (try dsimp only at hSw); go_simp; (try (first | (with_reducible rfl) | assumption | rfl))) ?_
          simp only [Act.put, List.setIfInBounds_toArray, List.set_cons_zero, List.set_cons_succ]
          refine Lex.step_take (.string tx) xb12 rfl (Lex.want_some rfl xb9 rfl (b' := false) rfl rfl) (by intro Wx hSw; (try dsimp only at hSw); go_simp; (try (first | (with_reducible rfl) | assumption | rfl))) ?_
          simp only [Act.put, List.setIfInBounds_toArray, List.set_cons_zero, List.set_cons_succ]
          refine Lex.step_take (.string tx) xb13 rfl (Lex.want_some rfl xb9 rfl (b' := false) rfl rfl) (by intro Wx hSw; (try dsimp only at hSw); go_simp; (try (first | (with_reducible rfl) | assumption | rfl))) ?_
          simp only [Act.put, List.setIfInBounds_toArray, List.set_cons_zero, List.set_cons_succ]
          refine Lex.step_take (.int .i64 (tx.size : Int)) xb14 rfl (Lex.want_some rfl xb9 rfl (b' := false) rfl rfl) (by intro Wx hSw; (try dsimp only at hSw); go_simp; (try (first | (with_reducible rfl) | assumption | rfl))) ?_
          simp only [Act.put, List.setIfInBounds_toArray, List.set_cons_zero, List.set_cons_succ]
          refine Lex.step_take (.pointer (some ⟨gx, 0, none⟩)) xb15 rfl (Lex.want_some rfl xb9 rfl (b' := false) rfl rfl) (by intro Wx hSw; (try dsimp only at hSw); go_simp; (try (first | (with_reducible rfl) | assumption | rfl))) ?_
          simp only [Act.put, List.setIfInBounds_toArray, List.set_cons_zero, List.set_cons_succ]
          refine Lex.step_take (.pointer (some ⟨gx, 0, none⟩)) xb16 rfl (Lex.want_some rfl xb9 rfl (b' := false) rfl rfl) (by intro Wx hSw; (try dsimp only at hSw); go_simp; (try (first | (with_reducible rfl) | assumption | rfl))) ?_
          simp only [Act.put, List.setIfInBounds_toArray, List.set_cons_zero, List.set_cons_succ]
          refine Lex.step_take (.pointer (some ⟨gx, 0, none⟩)) xb17 rfl (Lex.want_some rfl xb9 rfl (b' := false) rfl rfl) (by intro Wx hSw; (try dsimp only at hSw); go_simp; (try (first | (with_reducible rfl) | assumption | rfl))) ?_
          simp only [Act.put, List.setIfInBounds_toArray, List.set_cons_zero, List.set_cons_succ]
          refine Lex.step_take (.string ty) xb18 rfl (Lex.want_some rfl xb9 rfl (b' := false) rfl rfl) (by intro Wx hSw; (try dsimp only at hSw); go_simp; (try (first | (with_reducible rfl) | assumption | rfl))) ?_
          simp only [Act.put, List.setIfInBounds_toArray, List.set_cons_zero, List.set_cons_succ]
          refine Lex.step_take (.int .i64 (ty.size : Int)) xb19 rfl (Lex.want_some rfl xb9 rfl (b' := false) rfl rfl) (by intro Wx hSw; (try dsimp only at hSw); go_simp; (try (first | (with_reducible rfl) | assumption | rfl))) ?_
          simp only [Act.put, List.setIfInBounds_toArray, List.set_cons_zero, List.set_cons_succ]
          refine Lex.step_take (.int .i64 (u.size : Int)) xb20 rfl (Lex.want_some rfl xb9 rfl (b' := false) rfl rfl) (by intro Wx hSw; (try dsimp only at hSw); go_simp; (try (first | (with_reducible rfl) | assumption | rfl))) ?_
          simp only [Act.put, List.setIfInBounds_toArray, List.set_cons_zero, List.set_cons_succ]
          refine Lex.step_take (.string u) xb21 rfl (Lex.want_some rfl xb9 rfl (b' := false) rfl rfl) (by intro Wx hSw; (try dsimp only at hSw); go_simp; (try (first | (with_reducible rfl) | assumption | rfl))) ?_
          simp only [Act.put, List.setIfInBounds_toArray, List.set_cons_zero, List.set_cons_succ]
          refine Lex.step_call xb11 rfl (Lex.want_some rfl xb9 rfl (b' := false) rfl rfl) (fun K hK => ?_)
          go_simp
          refine (hPy _ hy.c).mono ?_
          rintro e _ ⟨rfl, hz⟩
          have hF := hF.below hz
          have hy := hy.below hz
          have hx := hx.below hz hx.lt
          clear hz
          refine hK.out _ _ _ (fun _ h => h) ⟨hx.c0, hx.c1, hy.v.c0, hy.v.c1⟩ ?_
          clear hK K
          try simp only [Act.put, List.setIfInBounds_toArray, List.set_cons_zero, List.set_cons_succ]
          refine Lex.step_take (.bool false) xb22 rfl (Lex.want_some rfl xb9 rfl (b' := false) rfl rfl) (by intro Wx hSw; (try dsimp only at hSw); go_simp; (try (first | (with_reducible rfl) | assumption | rfl))) ?_
          simp only [Act.put, List.setIfInBounds_toArray, List.set_cons_zero, List.set_cons_succ]
          refine Lex.step_take (.bool false) xb23 rfl (Lex.want_some rfl xb5 rfl (b' := true) rfl rfl) (by intro Wx hSw; (try dsimp only at hSw); go_simp; (try (first | (with_reducible rfl) | assumption | rfl))) ?_
          simp only [Act.put, List.setIfInBounds_toArray, List.set_cons_zero, List.set_cons_succ]
          refine Lex.step_take (.bool false) xb24 rfl (Lex.want_none rfl) (by intro Wx hSw; (try dsimp only at hSw); go_simp; (try (first | (with_reducible rfl) | assumption | rfl))) ?_
          simp only [Act.put, List.setIfInBounds_toArray, List.set_cons_zero, List.set_cons_succ]
          refine NoPanic.normal ?_
          have s0 := hF.v.c0
          have s1 := hF.v.c1
          go_wp2_with fail
          refine (hR _ hF.c).mono ?_
          rintro e w5 ⟨rfl, hz⟩
          have hF := hF.below hz
          clear hz hR
          cases r
          · go_wp2_with fail
            refine (awake_any _).mono ?_
            rintro e w9 ⟨rfl, hz9⟩
            have hF := hF.below hz9
            go_wp2
            go_ret
            exact ⟨rfl, hF.B⟩
          · have hP2 := hP rfl
            have hzp2 := hzp rfl
            clear hP hzp
            have hrb : ∀ (g : Nat) (W : World), IsBox W g (pu ++ mo) false → Calls Try.prog 14 #[.pointer (some ⟨g, 0, none⟩)] W (RdPost g nm l m mo false W) := fun g W h => by
              have hq := read_any g _ false W h (by rw [ByteArray.size_append]; omega)
              rw [HBK.out rfl] at hq
              exact rd_of HM.out hq
            have HRB := Lib.hid hrb
            have s0 := hF.v.c0
            have s1 := hF.v.c1
            clear hrb
            go_wp2_with fail
            refine (hP2 _ hF.c).mono ?_
            rintro e w6 ⟨rfl, hz⟩
            have hF := hF.below hz
            clear hz hP2 s0 s1
            have hb := Box2.new w6 (.string (pu ++ mo)) (.bool false) 30
            have hz0 := (Below.refl w6.heap.size w6).alloc (Nat.le_refl _) (.cells #[.string (pu ++ mo), .bool false] 30)
            have HX := Lib.hid (And.intro hb (hF.below hz0))
            have lg := hF.B.size
            have ng := Nat.ne_of_lt hF.v.lt
            clear hb hz0 hF
            go_wp2_with fail
            obtain ⟨hb, hF⟩ := HX.out
            clear HX
            generalize pu ++ mo = pm at hb hF HRB ⊢
            refine (HRB.out _ _ hb).mono ?_
            rintro e w7 ⟨Az, pz, rfl, _, hCz, hb, hB7⟩
            have hF := hF.bar HA.out hB7 ng lg
            clear hB7 ng lg HRB
            generalize w6.heap.size = gb at hb ⊢
            have hZ : Tel (w7.alloc (.cells #[.string nm, .slice Az m pz] 24)) w7.heap.size 0 nm Az m pz l (w7.alloc (.cells #[.string nm, .slice Az m pz] 24)) :=
              ⟨Box2.new w7 _ _ 24, (hCz.below ((Below.refl w7.heap.size w7).alloc (Nat.le_refl _) _) (Nat.le_refl _)).lower (Nat.zero_le _), Below.refl _ _⟩
            have hF := hF.below ((Below.refl w7.heap.size w7).alloc (Nat.le_refl _) (.cells #[.string nm, .slice Az m pz] 24))
            have hb := hb.alloc (.cells #[.string nm, .slice Az m pz] 24)
            have HX := Lib.hid (And.intro hZ (And.intro hF hb))
            clear hZ hF hb hCz
            go_wp2_with fail
            obtain ⟨hZ, hF, hb⟩ := HX.out
            clear HX
            generalize w7.alloc (.cells #[.string nm, .slice Az m pz] 24) = w8 at hZ hF hb ⊢
            generalize w7.heap.size = gz at hZ ⊢
            refine (awake_any _).mono ?_
            rintro e w9 ⟨rfl, hz⟩
            have hF := hF.below hz
            have hZ := hZ.below hz
            have hb := hb.below hz hb.lt
            clear hz
            have s0 := hF.v.c0
            have s1 := hF.v.c1
            have z0 := hZ.v.c0
            have z1 := hZ.v.c1
            go_wp2_with fail
            refine (same_of HM.out h9 Az A pz cp _ _ _ hZ.c hF.c).mono ?_
            rintro e w10 ⟨rfl, hz⟩
            have hF := hF.below hz
            have hb := hb.below hz hb.lt
            clear hz s0 s1 z0 z1
            have b0 := hb.c0
            have b1 := hb.c1
            go_wp2
            go_ret
            exact ⟨rfl, hF.B⟩
        · clear HRX hrx hyok
          refine Lex.region_lex (ops := xbops) (calls := xbcalls) xbord (fun W => W.cell? ⟨gx, 0, none⟩ = some (.string ty) ∧ W.cell? ⟨gx, 1, none⟩ = some (.bool true) ∧ W.cell? ⟨gy, 0, none⟩ = some (.string ny) ∧ W.cell? ⟨gy, 1, none⟩ = some (.slice Ay my py)) (by kernel_rfl) (by kernel_rfl) xbsel (by kernel_rfl) (by kernel_rfl) xblex (⟨hx.drew.c0, hx.drew.c1, hy.v.drew.c0, hy.v.drew.c1⟩) ?_
          unfold xbord
          have hF := hF.below (Below.refl _ _).drew
          have hy := hy.below (Below.refl _ _).drew
          have hx := hx.drew
          refine Lex.step_take (.pointer (some ⟨gx, 0, none⟩)) xb0 rfl (Lex.want_none rfl) (by intro Wx hSw; (try dsimp only at hSw); go_simp; (try (first | (with_reducible rfl) | assumption | rfl))) ?_
          simp only [Act.put, List.setIfInBounds_toArray, List.set_cons_zero, List.set_cons_succ]
          refine Lex.step_take (.pointer (some ⟨gx, 0, none⟩)) xb1 rfl (Lex.want_none rfl) (by intro Wx hSw; (try dsimp only at hSw); go_simp; (try (first | (with_reducible rfl) | assumption | rfl))) ?_
          simp only [Act.put, List.setIfInBounds_toArray, List.set_cons_zero, List.set_cons_succ]
          refine Lex.step_take (.pointer (some ⟨gx, 1, none⟩)) xb2 rfl (Lex.want_none rfl) (by intro Wx hSw; (try dsimp only at hSw); go_simp; (try (first | (with_reducible rfl) | assumption | rfl))) ?_
          simp only [Act.put, List.setIfInBounds_toArray, List.set_cons_zero, List.set_cons_succ]
          refine Lex.step_take (.bool true) xb3 rfl (Lex.want_none rfl) (by intro Wx hSw; (try dsimp only at hSw); go_simp; (try (first | (with_reducible rfl) | assumption | rfl))) ?_
          simp only [Act.put, List.setIfInBounds_toArray, List.set_cons_zero, List.set_cons_succ]
          refine Lex.step_take (.bool false) xb4 rfl (Lex.want_none rfl) (by intro Wx hSw; (try dsimp only at hSw); go_simp; (try (first | (with_reducible rfl) | assumption | rfl))) ?_
          simp only [Act.put, List.setIfInBounds_toArray, List.set_cons_zero, List.set_cons_succ]
          refine Lex.step_take (.bool false) xb5 rfl (Lex.want_none rfl) (by intro Wx hSw; (try dsimp only at hSw); go_simp; (try (first | (with_reducible rfl) | assumption | rfl))) ?_
          simp only [Act.put, List.setIfInBounds_toArray, List.set_cons_zero, List.set_cons_succ]
          refine Lex.step_skip xb6 (Lex.want_some rfl xb5 rfl (b' := false) rfl rfl) ?_
          simp only [Act.put, List.setIfInBounds_toArray, List.set_cons_zero, List.set_cons_succ]
          refine Lex.step_skip xb7 (Lex.want_some rfl xb5 rfl (b' := false) rfl rfl) ?_
          simp only [Act.put, List.setIfInBounds_toArray, List.set_cons_zero, List.set_cons_succ]
          refine Lex.step_skip xb8 (Lex.want_some rfl xb5 rfl (b' := false) rfl rfl) ?_
          simp only [Act.put, List.setIfInBounds_toArray, List.set_cons_zero, List.set_cons_succ]
          refine Lex.step_skip xb9 (Lex.want_some rfl xb5 rfl (b' := false) rfl rfl) ?_
          simp only [Act.put, List.setIfInBounds_toArray, List.set_cons_zero, List.set_cons_succ]
          refine Lex.step_skip xb10 (Lex.want_undef rfl xb9 rfl rfl) ?_
          simp only [Act.put, List.setIfInBounds_toArray, List.set_cons_zero, List.set_cons_succ]
          refine Lex.step_skip xb12 (Lex.want_undef rfl xb9 rfl rfl) ?_
          simp only [Act.put, List.setIfInBounds_toArray, List.set_cons_zero, List.set_cons_succ]
          refine Lex.step_skip xb13 (Lex.want_undef rfl xb9 rfl rfl) ?_
          simp only [Act.put, List.setIfInBounds_toArray, List.set_cons_zero, List.set_cons_succ]
          refine Lex.step_skip xb14 (Lex.want_undef rfl xb9 rfl rfl) ?_
          simp only [Act.put, List.setIfInBounds_toArray, List.set_cons_zero, List.set_cons_succ]
          refine Lex.step_skip xb15 (Lex.want_undef rfl xb9 rfl rfl) ?_
          simp only [Act.put, List.setIfInBounds_toArray, List.set_cons_zero, List.set_cons_succ]
          refine Lex.step_skip xb16 (Lex.want_undef rfl xb9 rfl rfl) ?_
          simp only [Act.put, List.setIfInBounds_toArray, List.set_cons_zero, List.set_cons_succ]
          refine Lex.step_skip xb17 (Lex.want_undef rfl xb9 rfl rfl) ?_
          simp only [Act.put, List.setIfInBounds_toArray, List.set_cons_zero, List.set_cons_succ]
          refine Lex.step_skip xb18 (Lex.want_undef rfl xb9 rfl rfl) ?_
          simp only [Act.put, List.setIfInBounds_toArray, List.set_cons_zero, List.set_cons_succ]
          refine Lex.step_skip xb19 (Lex.want_undef rfl xb9 rfl rfl) ?_
          simp only [Act.put, List.setIfInBounds_toArray, List.set_cons_zero, List.set_cons_succ]
          refine Lex.step_skip xb20 (Lex.want_undef rfl xb9 rfl rfl) ?_
          simp only [Act.put, List.setIfInBounds_toArray, List.set_cons_zero, List.set_cons_succ]
          refine Lex.step_skip xb21 (Lex.want_undef rfl xb9 rfl rfl) ?_
          simp only [Act.put, List.setIfInBounds_toArray, List.set_cons_zero, List.set_cons_succ]
          refine Lex.step_skip xb11 (Lex.want_undef rfl xb9 rfl rfl) ?_
          simp only [Act.put, List.setIfInBounds_toArray, List.set_cons_zero, List.set_cons_succ]
          refine Lex.step_skip xb22 (Lex.want_undef rfl xb9 rfl rfl) ?_
          simp only [Act.put, List.setIfInBounds_toArray, List.set_cons_zero, List.set_cons_succ]
          refine Lex.step_skip xb23 (Lex.want_some rfl xb5 rfl (b' := false) rfl rfl) ?_
          simp only [Act.put, List.setIfInBounds_toArray, List.set_cons_zero, List.set_cons_succ]
          refine Lex.step_take (.bool false) xb24 rfl (Lex.want_none rfl) (by intro Wx hSw; (try dsimp only at hSw); go_simp; (try (first | (with_reducible rfl) | assumption | rfl))) ?_
          simp only [Act.put, List.setIfInBounds_toArray, List.set_cons_zero, List.set_cons_succ]
          refine NoPanic.normal ?_
          have s0 := hF.v.c0
          have s1 := hF.v.c1
          go_wp2_with fail
          refine (hR _ hF.c).mono ?_
          rintro e w5 ⟨rfl, hz⟩
          have hF := hF.below hz
          clear hz hR
          cases r
          · go_wp2_with fail
            refine (awake_any _).mono ?_
            rintro e w9 ⟨rfl, hz9⟩
            have hF := hF.below hz9
            go_wp2
            go_ret
            exact ⟨rfl, hF.B⟩
          · have hP2 := hP rfl
            have hzp2 := hzp rfl
            clear hP hzp
            have hrb : ∀ (g : Nat) (W : World), IsBox W g (pu ++ mo) false → Calls Try.prog 14 #[.pointer (some ⟨g, 0, none⟩)] W (RdPost g nm l m mo false W) := fun g W h => by
              have hq := read_any g _ false W h (by rw [ByteArray.size_append]; omega)
              rw [HBK.out rfl] at hq
              exact rd_of HM.out hq
            have HRB := Lib.hid hrb
            have s0 := hF.v.c0
            have s1 := hF.v.c1
            clear hrb
            go_wp2_with fail
            refine (hP2 _ hF.c).mono ?_
            rintro e w6 ⟨rfl, hz⟩
            have hF := hF.below hz
            clear hz hP2 s0 s1
            have hb := Box2.new w6 (.string (pu ++ mo)) (.bool false) 30
            have hz0 := (Below.refl w6.heap.size w6).alloc (Nat.le_refl _) (.cells #[.string (pu ++ mo), .bool false] 30)
            have HX := Lib.hid (And.intro hb (hF.below hz0))
            have lg := hF.B.size
            have ng := Nat.ne_of_lt hF.v.lt
            clear hb hz0 hF
            go_wp2_with fail
            obtain ⟨hb, hF⟩ := HX.out
            clear HX
            generalize pu ++ mo = pm at hb hF HRB ⊢
            refine (HRB.out _ _ hb).mono ?_
            rintro e w7 ⟨Az, pz, rfl, _, hCz, hb, hB7⟩
            have hF := hF.bar HA.out hB7 ng lg
            clear hB7 ng lg HRB
            generalize w6.heap.size = gb at hb ⊢
            have hZ : Tel (w7.alloc (.cells #[.string nm, .slice Az m pz] 24)) w7.heap.size 0 nm Az m pz l (w7.alloc (.cells #[.string nm, .slice Az m pz] 24)) :=
              ⟨Box2.new w7 _ _ 24, (hCz.below ((Below.refl w7.heap.size w7).alloc (Nat.le_refl _) _) (Nat.le_refl _)).lower (Nat.zero_le _), Below.refl _ _⟩
            have hF := hF.below ((Below.refl w7.heap.size w7).alloc (Nat.le_refl _) (.cells #[.string nm, .slice Az m pz] 24))
            have hb := hb.alloc (.cells #[.string nm, .slice Az m pz] 24)
            have HX := Lib.hid (And.intro hZ (And.intro hF hb))
            clear hZ hF hb hCz
            go_wp2_with fail
            obtain ⟨hZ, hF, hb⟩ := HX.out
            clear HX
            generalize w7.alloc (.cells #[.string nm, .slice Az m pz] 24) = w8 at hZ hF hb ⊢
            generalize w7.heap.size = gz at hZ ⊢
            refine (awake_any _).mono ?_
            rintro e w9 ⟨rfl, hz⟩
            have hF := hF.below hz
            have hZ := hZ.below hz
            have hb := hb.below hz hb.lt
            clear hz
            have s0 := hF.v.c0
            have s1 := hF.v.c1
            have z0 := hZ.v.c0
            have z1 := hZ.v.c1
            go_wp2_with fail
            refine (same_of HM.out h9 Az A pz cp _ _ _ hZ.c hF.c).mono ?_
            rintro e w10 ⟨rfl, hz⟩
            have hF := hF.below hz
            have hb := hb.below hz hb.lt
            clear hz s0 s1 z0 z1
            have b0 := hb.c0
            have b1 := hb.c1
            go_wp2
            go_ret
            exact ⟨rfl, hF.B⟩
end Go.Proofs.Ytajoklimdlalhaa.Sc
