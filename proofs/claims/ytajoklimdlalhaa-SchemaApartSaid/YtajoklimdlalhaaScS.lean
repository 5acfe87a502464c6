/- SchemaApart: whatever two schemas, cut off wherever, walked. -/
import Derived.Test.YtajoklimdlalhaaScR
import Derived.Test.YtajoklimdlalhaaXrh
namespace Go.Proofs.Ytajoklimdlalhaa.Sc
open Go.RowKit Pac Lex

theorem ex_split (x : ByteArray) (q : Nat) (hq : q ≤ x.size) : x = x.extract 0 q ++ x.extract q x.size := by
  apply bytesEq
  rw [app_list, ← ByteArray.toList_eq, ← ByteArray.toList_eq, ← ByteArray.toList_eq, Lib.extract_toList, Lib.extract_toList, List.drop_zero, Nat.sub_zero]
  have e : List.take (x.size - q) (List.drop q x.data.toList) = List.drop q x.data.toList := List.take_of_length_le (by rw [List.length_drop, Array.length_toList]; exact Nat.le_refl _)
  rw [e, List.take_append_drop, ByteArray.toList_eq]
/-- What is bad is nothing. -/
theorem bad_zero {s : ByteArray} (h : (readS s false).2.2.2 = true) : ∃ t, readS s false = (⟨#[]⟩, [], t, true) := by
  rw [readS_seenP] at h ⊢
  split at h
  · rename_i q
    rw [if_pos q]
    exact ⟨_, rfl⟩
  · rename_i q
    rw [h] at q
    exact absurd rfl q
/-- Cut off anywhere, there is none. -/
theorem cut_read {nm : ByteArray} {l : List C} (h : rightS nm l = true) (q : Nat) (hq : q < (printS nm l).size) : ∃ t, readS ((printS nm l).extract 0 q) false = (⟨#[]⟩, [], t, true) :=
  bad_zero (cut_none h (ex_split (printS nm l) q (Nat.le_of_lt hq)) (by rw [ByteArray.size_extract]; omega))
theorem printS_pos (nm : ByteArray) (l : List C) : 1 ≤ (printS nm l).size := by
  unfold printS txtB
  rw [ByteArray.size_append, ByteArray.size_append]
  have := (encB_size (zig nm.size)).1
  omega

set_option maxRecDepth 20000 in
set_option maxHeartbeats 8000000 in
theorem apart_any (A1 A2 : Option Addr) (p1 m1 p2 m2 : Nat) (n1 n2 : ByteArray) (l1 l2 : List C) (a : Nat) (lo1 lo2 : Nat) (w : World) (h1 : HasCols w lo1 A1 l1) (h2 : HasCols w lo2 A2 l2) (hm1 : l1.length = m1) (hm2 : l2.length = m2) (hp1 : m1 ≤ p1) (hp2 : m2 ≤ p2)
    (hn1 : n1.size ≤ 9223372036854775807) (hn2 : n2.size ≤ 9223372036854775807) (h91 : m1 ≤ 9223372036854775807) (h92 : m2 ≤ 9223372036854775807) (hok1 : ∀ (j : Nat) (c : C), l1[j]? = some c → c.Ok) (hok2 : ∀ (j : Nat) (c : C), l2[j]? = some c → c.Ok) (ha : a < 65536) :
    Calls Try.prog 6 #[.agg #[.string n1, .slice A1 m1 p1], .agg #[.string n2, .slice A2 m2 p2], .int .u16 a] w fun e w' => e = .returned (.bool true) ∧ Below w.heap.size w w' := by
  have hbl := ((Below.refl w.heap.size w).alloc (Nat.le_refl _) (.cells #[.string n1, .slice A1 m1 p1] 24)).alloc (by simp) (.cells #[.string n2, .slice A2 m2 p2] 24)
  have hF : Tel w w.heap.size lo1 n1 A1 m1 p1 l1 ((w.alloc (.cells #[.string n1, .slice A1 m1 p1] 24)).alloc (.cells #[.string n2, .slice A2 m2 p2] 24)) := ⟨(Box2.new w _ _ 24).alloc _, h1.below hbl (Nat.le_refl _), hbl⟩
  have hv2 := Box2.new (w.alloc (.cells #[.string n1, .slice A1 m1 p1] 24)) (.string n2) (.slice A2 m2 p2) 24
  rw [show (w.alloc (.cells #[.string n1, .slice A1 m1 p1] 24)).heap.size = w.heap.size + 1 by simp] at hv2
  have hG : Tel w (w.heap.size + 1) lo2 n2 A2 m2 p2 l2 ((w.alloc (.cells #[.string n1, .slice A1 m1 p1] 24)).alloc (.cells #[.string n2, .slice A2 m2 p2] 24)) := ⟨hv2, h2.below hbl (Nat.le_refl _), hbl⟩
  have hS1 := fun (W : World) (hc : HasCols W lo1 A1 l1) => small_of hm1 hn1 h91 hok1 A1 p1 lo1 W hc (nm := n1)
  have hS2 := fun (W : World) (hc : HasCols W lo2 A2 l2) => small_of hm2 hn2 h92 hok2 A2 p2 lo2 W hc (nm := n2)
  obtain ⟨r1, hr1⟩ : ∃ r, rightS n1 l1 = r := ⟨_, rfl⟩
  obtain ⟨r2, hr2⟩ : ∃ r, rightS n2 l2 = r := ⟨_, rfl⟩
  have hR1 := fun (W : World) (hc : HasCols W lo1 A1 l1) => right_of hr1 hm1 hn1 h91 hok1 A1 p1 lo1 W hp1 hc
  have hR2 := fun (W : World) (hc : HasCols W lo2 A2 l2) => right_of hr2 hm2 hn2 h92 hok2 A2 p2 lo2 W hp2 hc
  have HF := Lib.hid (And.intro hF (And.intro hG (And.intro hS1 (And.intro hS2 (And.intro hR1 hR2)))))
  have HM := Lib.hid (And.intro hm1 hm2)
  have HR := Lib.hid (And.intro hr1 hr2)
  have HA := Lib.hid (And.intro h1 h2)
  clear hF hG hS1 hS2 hR1 hR2 hm1 hm2 hr1 hr2 h1 h2 hv2 hbl hok1 hok2
  go_enter Try.func6, Try.ntmps6
  go_wp2_with fail
  obtain ⟨hF, hG, hS1, hS2, hR1, hR2⟩ := HF.out
  clear HF
  generalize ((w.alloc (.cells #[.string n1, .slice A1 m1 p1] 24)).alloc (.cells #[.string n2, .slice A2 m2 p2] 24)) = w1 at hF hG ⊢
  refine (hS1 _ hF.c).mono ?_
  rintro e w2 ⟨b1, rfl, _, hz⟩
  have hF := hF.below hz
  have hG := hG.below hz
  clear hz hS1
  have g0 := hG.v.c0
  have g1 := hG.v.c1
  have f0 := hF.v.c0
  have f1 := hF.v.c1
  cases b1
  · go_wp2_with fail
    refine (awake_any _).mono ?_
    rintro e w9 ⟨rfl, hz9⟩
    have hF := hF.below hz9
    go_wp2
    go_ret
    exact ⟨rfl, hF.B⟩
  · go_wp2_with fail
    refine (hS2 _ hG.c).mono ?_
    rintro e w3 ⟨b2, rfl, _, hz⟩
    have hF := hF.below hz
    have hG := hG.below hz
    clear hz hS2 g0 g1 f0 f1
    have g0 := hG.v.c0
    have g1 := hG.v.c1
    have f0 := hF.v.c0
    have f1 := hF.v.c1
    cases b2
    · go_wp2_with fail
      refine (awake_any _).mono ?_
      rintro e w9 ⟨rfl, hz9⟩
      have hF := hF.below hz9
      go_wp2
      go_ret
      exact ⟨rfl, hF.B⟩
    · go_wp2_with fail
      refine (hR1 _ hF.c).mono ?_
      rintro e w4 ⟨rfl, hz⟩
      have hF := hF.below hz
      have hG := hG.below hz
      clear hz hR1 g0 g1 f0 f1
      have g0 := hG.v.c0
      have g1 := hG.v.c1
      cases r1
      · go_wp2_with fail
        refine (awake_any _).mono ?_
        rintro e w9 ⟨rfl, hz9⟩
        have hF := hF.below hz9
        go_wp2
        go_ret
        exact ⟨rfl, hF.B⟩
      · go_wp2_with fail
        refine (hR2 _ hG.c).mono ?_
        rintro e w5 ⟨rfl, hz⟩
        have hF := hF.below hz
        have hG := hG.below hz
        clear hz hR2 g0 g1
        cases r2
        · go_wp2_with fail
          refine (awake_any _).mono ?_
          rintro e w9 ⟨rfl, hz9⟩
          have hF := hF.below hz9
          go_wp2
          go_ret
          exact ⟨rfl, hF.B⟩
        · obtain ⟨hr1, hr2⟩ := HR.out
          obtain ⟨hm1, hm2⟩ := HM.out
          have hPx := fun (W : World) (hc : HasCols W lo1 A1 l1) => print_of hr1 rfl hm1 A1 p1 lo1 W hc
          have hPy := fun (W : World) (hc : HasCols W lo2 A2 l2) => print_of hr2 rfl hm2 A2 p2 lo2 W hc
          have hinj : printS n1 l1 = printS n2 l2 → n1 = n2 ∧ l1 = l2 := fun e => print_inj hr1 hr2 e
          have heq : n1 = n2 ∧ l1 = l2 → printS n1 l1 = printS n2 l2 := fun e => by rw [e.1, e.2]
          have hpos := printS_pos n1 l1
          have hcut := fun (q : Nat) => cut_read hr1 q
          have hzx := printS_size hr1
          generalize printS n1 l1 = x at hPx hinj heq hpos hcut hzx
          generalize printS n2 l2 = y at hPy hinj heq
          obtain ⟨q, hq⟩ : ∃ q, a % x.size = q := ⟨_, rfl⟩
          have hqx : q < x.size := by rw [← hq]; exact Nat.mod_lt _ hpos
          obtain ⟨t, ht⟩ := hcut q hqx
          have hrd : ∀ (g : Nat) (W : World), IsBox W g (x.extract 0 q) false → Calls Try.prog 14 #[.pointer (some ⟨g, 0, none⟩)] W (RdPost g ⟨#[]⟩ [] 0 t true W) := fun g W h => by
            have hq := read_any g _ false W h (by rw [ByteArray.size_extract]; omega)
            rw [ht] at hq
            exact rd_of rfl hq
          have HI := Lib.hid (And.intro hinj heq)
          have HRD := Lib.hid hrd
          have eq1 : (a : Int) % (x.size : Int) = (q : Int) := by rw [← hq]; rfl
          have eq2 : (0 : Int) ≤ (q : Int) := by omega
          have eq3 : (q : Int) ≤ (x.size : Int) := by omega
          clear hinj heq hcut ht hrd hq HR hr1 hr2
          go_wp2_with fail
          refine Lex.region_lex (ops := xzops) (calls := xzcalls) xzord (fun W => W.cell? ⟨w.heap.size, 0, none⟩ = some (.string n1) ∧ W.cell? ⟨w.heap.size, 1, none⟩ = some (.slice A1 m1 p1) ∧ W.cell? ⟨w.heap.size + 1, 0, none⟩ = some (.string n2) ∧ W.cell? ⟨w.heap.size + 1, 1, none⟩ = some (.slice A2 m2 p2)) (by kernel_rfl) (by kernel_rfl) xzsel (by kernel_rfl) (by kernel_rfl) xzlex (⟨hF.v.drew.c0, hF.v.drew.c1, hG.v.drew.c0, hG.v.drew.c1⟩) ?_
          unfold xzord
          have hF := hF.below (Below.refl _ _).drew
          have hG := hG.below (Below.refl _ _).drew
          refine Lex.step_take (.agg #[.string n1, .slice A1 m1 p1]) xz0 rfl (Lex.want_none rfl) (by intro Wx hSw; (try dsimp only at hSw); go_simp; (try (first | (with_reducible rfl) | assumption | rfl))) ?_
          simp only [Act.put, List.setIfInBounds_toArray, List.set_cons_zero, List.set_cons_succ]
          refine Lex.step_take (.agg #[.string n2, .slice A2 m2 p2]) xz2 rfl (Lex.want_none rfl) (by intro Wx hSw; (try dsimp only at hSw); go_simp; (try (first | (with_reducible rfl) | assumption | rfl))) ?_
          simp only [Act.put, List.setIfInBounds_toArray, List.set_cons_zero, List.set_cons_succ]
          refine Lex.step_call xz1 rfl (Lex.want_none rfl) (fun K hK => ?_)
          go_simp
          refine (hPx _ hF.c).mono ?_
          rintro e _ ⟨rfl, hz⟩
          have hF := hF.below hz
          have hG := hG.below hz
          clear hz
          refine hK.out _ _ _ (fun _ h => h) ⟨hF.v.c0, hF.v.c1, hG.v.c0, hG.v.c1⟩ ?_
          clear hK K
          try simp only [Act.put, List.setIfInBounds_toArray, List.set_cons_zero, List.set_cons_succ]
          refine Lex.step_call xz3 rfl (Lex.want_none rfl) (fun K hK => ?_)
          go_simp
          refine (hPy _ hG.c).mono ?_
          rintro e w6 ⟨rfl, hz⟩
          have hF := hF.below hz
          have hG := hG.below hz
          clear hz
          refine hK.out _ _ _ (fun _ h => h) ⟨hF.v.c0, hF.v.c1, hG.v.c0, hG.v.c1⟩ ?_
          clear hK K
          try simp only [Act.put, List.setIfInBounds_toArray, List.set_cons_zero, List.set_cons_succ]
          refine Lex.step_take (.string x) xz4 rfl (Lex.want_none rfl) (by intro Wx hSw; (try dsimp only at hSw); go_simp; (try (first | (with_reducible rfl) | assumption | rfl))) ?_
          simp only [Act.put, List.setIfInBounds_toArray, List.set_cons_zero, List.set_cons_succ]
          refine Lex.step_take (.string y) xz5 rfl (Lex.want_none rfl) (by intro Wx hSw; (try dsimp only at hSw); go_simp; (try (first | (with_reducible rfl) | assumption | rfl))) ?_
          simp only [Act.put, List.setIfInBounds_toArray, List.set_cons_zero, List.set_cons_succ]
          refine NoPanic.normal ?_
          have lg := hF.B.size
          have ng := Nat.ne_of_lt hF.v.lt
          have ng2 := Nat.ne_of_lt hG.v.lt
          have e0 : ((x.size : Int) == 0) = false := beq_eq_false_iff_ne.2 (by omega)
          have HX := Lib.hid (And.intro hF hG)
          clear hF hG hPx hPy
          go_wp2_with fail
          obtain ⟨hF, hG⟩ := HX.out
          clear HX
          have hz := (Below.refl w6.heap.size w6).alloc (Nat.le_refl _) (.cells #[.string (x.extract 0 q), .bool false] 30)
          have hb := Box2.new w6 (.string (x.extract 0 q)) (.bool false) 30
          have hF := hF.below hz
          have hG := hG.below hz
          clear hz
          generalize x.extract 0 q = xq at hb hF hG HRD ⊢
          refine (HRD.out _ _ hb).mono ?_
          rintro e w7 ⟨Az, pz, rfl, _, _, hb, hB7⟩
          have hF := hF.bar HA.out.1 hB7 ng lg
          have hG := hG.bar HA.out.2 hB7 ng2 lg
          clear hB7 ng ng2 lg HRD
          generalize w6.heap.size = gb at hb ⊢
          have hv := Box2.new w7 (.string ⟨#[]⟩) (.slice Az 0 pz) 24
          have hz := (Below.refl w7.heap.size w7).alloc (Nat.le_refl _) (.cells #[.string ⟨#[]⟩, .slice Az 0 pz] 24)
          have HX := Lib.hid (And.intro hv (And.intro (hb.below hz hb.lt) (And.intro (hF.below hz) (hG.below hz))))
          clear hv hb hF hG hz
          go_wp2_with fail
          obtain ⟨hv, hb, hF, hG⟩ := HX.out
          clear HX
          generalize w7.alloc (.cells #[.string ⟨#[]⟩, .slice Az 0 pz] 24) = w8 at hv hb hF hG ⊢
          generalize w7.heap.size = gz at hv ⊢
          refine (awake_any _).mono ?_
          rintro e w9 ⟨rfl, hz⟩
          have hv := hv.below hz hv.lt
          have hb := hb.below hz hb.lt
          have hF := hF.below hz
          have hG := hG.below hz
          clear hz
          have f0 := hF.v.c0
          have f1 := hF.v.c1
          have g0 := hG.v.c0
          have g1 := hG.v.c1
          have hsame := same_any A1 A2 p1 p2 n1 n2 l1 l2 lo1 lo2 w9 hF.c hG.c (by rw [hm1]; exact h91) (by rw [hm2]; exact h92)
          rw [hm1, hm2] at hsame
          have HS := Lib.hid hsame
          clear hsame
          cases hxy : (x.toList == y.toList)
          all_goals
            go_wp2_with fail
            refine HS.out.mono ?_
            rintro e w10 ⟨r, rfl, hr, hz⟩
            have hv := hv.below hz hv.lt
            have hb := hb.below hz hb.lt
            have hF := hF.below hz
            clear hz f0 f1 g0 g1 HS
            have v0 := hv.c0
            have v1 := hv.c1
            have b1 := hb.c1
          · have hrf : r = false := by
              cases r
              · rfl
              · exfalso
                have := bytes_eq_iff.2 (HI.out.2 (hr.1 rfl))
                rw [hxy] at this
                cases this
            subst hrf
            clear hr
            go_wp2
            go_ret
            exact ⟨rfl, hF.B⟩
          · have hrt : r = true := hr.2 (HI.out.1 (bytes_eq_iff.1 hxy))
            subst hrt
            clear hr
            go_wp2
            go_ret
            exact ⟨rfl, hF.B⟩
end Go.Proofs.Ytajoklimdlalhaa.Sc
