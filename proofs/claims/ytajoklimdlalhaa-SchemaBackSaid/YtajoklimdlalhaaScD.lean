/- Whether a schema may be: the program's, walked. -/
import Derived.Test.YtajoklimdlalhaaScC
import Derived.Test.YtajoklimdlalhaaXra
namespace Go.Proofs.Ytajoklimdlalhaa.Sc
open Go.RowKit Pac Lex

theorem not_plain {l : List C} {j : Nat} {c : C} (h : plainB c = false) : ¬ oneB l j c := by
  rintro ⟨h1, _⟩
  cases j with
  | zero => rw [colB_zero, h] at h1; cases h1
  | succ j => rw [colB_succ c (Nat.succ_pos j), h] at h1; cases h1
theorem not_new {l : List C} {j : Nat} {c : C} (h : nameIn (l.take j) c.n = true) : ¬ oneB l j c := by
  rintro ⟨_, h2⟩
  rw [h] at h2
  cases h2
theorem fin_right {l : List C} {m : Nat} {c0 : C} (hm : l.length = m) (h : ∀ j, j < m → ∀ c, l[j]? = some c → plainB c = true ∧ nameIn (l.take j) c.n = false) (hg : l[0]? = some c0) :
    (keyB c0 = true → ∀ j c, l[j]? = some c → oneB l j c) ∧ (keyB c0 = false → ¬ oneB l 0 c0) := by
  refine ⟨fun hk j c hc => ?_, fun hk h1 => ?_⟩
  · have hj : j < m := by
      rw [← hm]
      exact (List.getElem?_eq_some_iff.1 hc).1
    obtain ⟨a, b⟩ := h j hj c hc
    refine ⟨?_, b⟩
    cases j with
    | zero =>
      rw [hg] at hc
      injection hc with hc
      subst hc
      rw [colB_zero, a, hk]
      rfl
    | succ j => rw [colB_succ c (Nat.succ_pos j), a]
  · have h1 := h1.1
    rw [colB_zero, hk] at h1
    cases hp : plainB c0 <;> rw [hp] at h1 <;> cases h1

set_option maxRecDepth 20000 in
set_option maxHeartbeats 2000000 in
theorem right_any (A : Option Addr) (cp : Nat) (nm : ByteArray) (l : List C) (lo : Nat) (w : World) (h : HasCols w lo A l) (hcp : l.length ≤ cp) (hn : nm.size ≤ 9223372036854775807) (hl : l.length ≤ 9223372036854775807) (hok : ∀ (j : Nat) (c : C), l[j]? = some c → c.Ok) :
    Calls Try.prog 9 #[.agg #[.string nm, .slice A l.length cp]] w fun e w' => e = .returned (.bool (rightS nm l)) ∧ Below w.heap.size w w' := by
  have hcall := fun W : World => isName_any nm W hn
  have hF0 : wordB nm = false → rightS nm l = false := rightS_word
  have hF1 := fun h => rightS_few (nm := nm) (l := l) h
  have hF2 := fun h => rightS_many (nm := nm) (l := l) h
  have hF3 := fun j c h1 h2 => rightS_one (nm := nm) (l := l) (j := j) (c := c) h1 h2
  have hT := fun h1 h2 h3 h4 => rightS_of (nm := nm) (l := l) h1 h2 h3 h4
  generalize rightS nm l = z at hF0 hF1 hF2 hF3 hT ⊢
  generalize wordB nm = x at hF0 hT hcall
  obtain ⟨m, hm⟩ : ∃ m, l.length = m := ⟨_, rfl⟩
  rw [hm] at hF1 hF2 hT hl hcp ⊢
  have HA := Lib.hid h
  have HM := Lib.hid hm
  have HF3 := Lib.hid hF3
  have HT := Lib.hid hT
  have HK := Lib.hid hok
  clear h hm hF3 hT hok
  have hB0 := (Below.refl w.heap.size w).alloc (Nat.le_refl _) (.cells #[.string nm, .slice A m cp] 24)
  have hx0 := Box2.new w (.string nm) (.slice A m cp) 24
  have HB0 := Lib.hid hB0
  clear hB0
  go_enter Try.func9, Try.ntmps9
  go_wp2_with fail
  refine (hcall _).mono ?_
  rintro e w1 ⟨rfl, rfl⟩
  clear hcall
  have c0 := hx0.c0
  have c1 := hx0.c1
  cases x
  · have HZ := Lib.hid (hF0 rfl)
    go_wp2
    go_ret
    exact ⟨by rw [HZ.out]; rfl, HB0.out⟩
  · by_cases h1 : 1 ≤ m
    · by_cases h2 : m ≤ 8
      · clear hF0 hF1 hF2
        go_wp2
        have h00 : Box2 (w.alloc (.cells #[.string nm, .slice A m cp] 24)) w.heap.size (.string nm) (.slice A m cp) := hx0
        go_loopw [24] (fun i wr => ∃ q : Nat, q ≤ m ∧ i = .int .i64 q ∧ Hid (∀ j, j < q → ∀ c, l[j]? = some c → plainB c = true ∧ nameIn (l.take j) c.n = false) ∧ Below w.heap.size w wr ∧ Box2 wr w.heap.size (.string nm) (.slice A m cp)) (fun i _ => m - (intOf i).toNat)
        case atStart => exact ⟨0, Nat.zero_le _, rfl, Lib.hid (fun j hj => absurd hj (Nat.not_lt_zero j)), HB0.out, h00⟩
        case round =>
          obtain ⟨q, hq, rfl, hH, hB, hx⟩ := hrel
          have c0 := hx.c0
          have c1 := hx.c1
          by_cases hlt : q < m
          · have hne : l ≠ [] := fun e => by have := HM.out; rw [e] at this; simp at this; omega
            have hg : l[q]? = some (l[q]'(by rw [HM.out]; exact hlt)) := List.getElem?_eq_getElem _
            obtain ⟨b, o, rfl, hlo, hlb, hc⟩ := (HA.out.below hB (Nat.le_refl _)) hne
            obtain ⟨d0, d1, d2⟩ := hc q _ hg
            generalize (l[q]'(by rw [HM.out]; exact hlt)) = c at hg d0 d1 d2
            obtain ⟨n, k, zz⟩ := c
            simp only at d0 d1 d2
            have hok := HK.out q _ hg
            have hx := hx.alloc (.cells #[.string n, .int .i64 k, .bool zz] 41)
            have hv := Box3.new wr (.string n) (.int .i64 k) (.bool zz) 41
            have hC := (HA.out.below hB (Nat.le_refl _)).below ((Below.refl wr.heap.size wr).alloc (Nat.le_refl _) (.cells #[.string n, .int .i64 k, .bool zz] 41)) (Nat.le_refl _)
            have hB := hB.alloc hB.size (.cells #[.string n, .int .i64 k, .bool zz] 41)
            have hc1 := fun W : World => rightCol_any ⟨n, k, zz⟩ W hok
            have hc1 : ∀ W : World, Calls Try.prog 19 #[.agg #[.string n, .int .i64 k, .bool zz]] W fun e w' => e = .returned (.bool (plainB ⟨n, k, zz⟩)) ∧ Below W.heap.size W w' := hc1
            have hql : (l.take q).length = q := by rw [List.length_take, HM.out]; omega
            have hc2 : ∀ W : World, HasCols W lo (some ⟨b, o, none⟩) (l.take q) → Calls Try.prog 20 #[.slice (some ⟨b, o, none⟩) q cp, .string n] W fun e w' => e = .returned (.bool (nameIn (l.take q) n)) ∧ Below W.heap.size W w' := fun W hW => by
              have := hasName_any (some ⟨b, o, none⟩) cp (l.take q) n lo W (by omega) hW
              rw [hql] at this
              exact this
            have hP0 : plainB ⟨n, k, zz⟩ = false → z = false := fun e => HF3.out q _ hg (not_plain e)
            have hN0 : nameIn (l.take q) n = true → z = false := fun e => HF3.out q _ hg (not_new e)
            have hS : plainB ⟨n, k, zz⟩ = true → nameIn (l.take q) n = false → ∀ j, j < q + 1 → ∀ c, l[j]? = some c → plainB c = true ∧ nameIn (l.take j) c.n = false := fun e1 e2 j hj c hc => by
              by_cases hjq : j < q
              · exact hH.out j hjq c hc
              · obtain rfl : j = q := by omega
                rw [hg] at hc
                injection hc with hc
                subst hc
                exact ⟨e1, e2⟩
            have HS := Lib.hid hS
            have i1 : (q : Int) ≤ (cp : Int) := by omega
            have i0 : (0 : Int) ≤ (q : Int) := by omega
            clear hS hql hg hok hne hc
            generalize plainB ⟨n, k, zz⟩ = pl at hc1 hP0 HS
            generalize nameIn (l.take q) n = du at hc2 hN0 HS
            go_wp2_with fail
            clear c0 c1 d0 d1 d2
            generalize wr.alloc (.cells #[.string n, .int .i64 k, .bool zz] 41) = w3 at hx hv hC hB ⊢
            generalize wr.heap.size = v at hv ⊢
            generalize hgw : w.heap.size = g at hx ⊢
            cases pl
            · have HZ := Lib.hid (hP0 rfl)
              clear hP0 hN0
              refine Lex.region_lex (ops := xrops) (calls := xrcalls) xrord (fun W => W.cell? ⟨g, 1, none⟩ = some (.slice (some ⟨b, o, none⟩) m cp) ∧ W.cell? ⟨v, 0, none⟩ = some (.string n) ∧ W.cell? ⟨v, 1, none⟩ = some (.int .i64 k) ∧ W.cell? ⟨v, 2, none⟩ = some (.bool zz)) (by kernel_rfl) (by kernel_rfl) xrsel (by kernel_rfl) (by kernel_rfl) xrlex (⟨hx.drew.c1, hv.drew.c0, hv.drew.c1, hv.drew.c2⟩) ?_
              unfold xrord
              have hx := hx.drew
              have hv := hv.drew
              have hC := hC.below (Below.refl _ _).drew (Nat.le_refl _)
              have hB := hB.drew
              refine Lex.step_take (.agg #[.string n, .int .i64 k, .bool zz]) xr0 rfl (Lex.want_none rfl) (by intro Wx hSw; (try dsimp only at hSw); go_simp; (try (first | (with_reducible rfl) | assumption | rfl))) ?_
              simp only [Act.put, List.setIfInBounds_toArray, List.set_cons_zero, List.set_cons_succ]
              refine Lex.step_call xr1 rfl (Lex.want_none rfl) (fun K hK => ?_)
              go_simp
              refine (hc1 _).mono ?_
              rintro e y1 ⟨rfl, hy1⟩
              have hx := hx.below hy1 hx.lt
              have hv := hv.below hy1 hv.lt
              have hC := hC.below hy1 (Nat.le_refl _)
              have hB := hB.trans (hy1.mono hB.size)
              clear hy1 hc1
              refine hK.out _ _ _ (fun _ h => h) ⟨hx.c1, hv.c0, hv.c1, hv.c2⟩ ?_
              clear hK K
              try simp only [Act.put, List.setIfInBounds_toArray, List.set_cons_zero, List.set_cons_succ]
              refine Lex.step_take (.bool true) xr2 rfl (Lex.want_none rfl) (by intro Wx hSw; (try dsimp only at hSw); go_simp; (try (first | (with_reducible rfl) | assumption | rfl))) ?_
              simp only [Act.put, List.setIfInBounds_toArray, List.set_cons_zero, List.set_cons_succ]
              refine Lex.step_take (.bool true) xr3 rfl (Lex.want_none rfl) (by intro Wx hSw; (try dsimp only at hSw); go_simp; (try (first | (with_reducible rfl) | assumption | rfl))) ?_
              simp only [Act.put, List.setIfInBounds_toArray, List.set_cons_zero, List.set_cons_succ]
              refine Lex.step_skip xr4 (Lex.want_some rfl xr3 rfl (b' := true) rfl rfl) ?_
              simp only [Act.put, List.setIfInBounds_toArray, List.set_cons_zero, List.set_cons_succ]
              refine Lex.step_skip xr5 (Lex.want_some rfl xr3 rfl (b' := true) rfl rfl) ?_
              simp only [Act.put, List.setIfInBounds_toArray, List.set_cons_zero, List.set_cons_succ]
              refine Lex.step_skip xr6 (Lex.want_some rfl xr3 rfl (b' := true) rfl rfl) ?_
              simp only [Act.put, List.setIfInBounds_toArray, List.set_cons_zero, List.set_cons_succ]
              refine Lex.step_skip xr7 (Lex.want_some rfl xr3 rfl (b' := true) rfl rfl) ?_
              simp only [Act.put, List.setIfInBounds_toArray, List.set_cons_zero, List.set_cons_succ]
              refine Lex.step_skip xr8 (Lex.want_some rfl xr3 rfl (b' := true) rfl rfl) ?_
              simp only [Act.put, List.setIfInBounds_toArray, List.set_cons_zero, List.set_cons_succ]
              refine Lex.step_skip xr9 (Lex.want_some rfl xr3 rfl (b' := true) rfl rfl) ?_
              simp only [Act.put, List.setIfInBounds_toArray, List.set_cons_zero, List.set_cons_succ]
              refine Lex.step_skip xr10 (Lex.want_some rfl xr3 rfl (b' := true) rfl rfl) ?_
              simp only [Act.put, List.setIfInBounds_toArray, List.set_cons_zero, List.set_cons_succ]
              refine Lex.step_take (.bool true) xr11 rfl (Lex.want_none rfl) (by intro Wx hSw; (try dsimp only at hSw); go_simp; (try (first | (with_reducible rfl) | assumption | rfl))) ?_
              simp only [Act.put, List.setIfInBounds_toArray, List.set_cons_zero, List.set_cons_succ]
              refine NoPanic.normal ?_
              subst hgw
              go_wp2
              go_ret
              exact ⟨by rw [HZ.out]; rfl, hB⟩
            · cases du
              · clear hP0 hN0
                refine Lex.region_lex (ops := xrops) (calls := xrcalls) xrord (fun W => W.cell? ⟨g, 1, none⟩ = some (.slice (some ⟨b, o, none⟩) m cp) ∧ W.cell? ⟨v, 0, none⟩ = some (.string n) ∧ W.cell? ⟨v, 1, none⟩ = some (.int .i64 k) ∧ W.cell? ⟨v, 2, none⟩ = some (.bool zz)) (by kernel_rfl) (by kernel_rfl) xrsel (by kernel_rfl) (by kernel_rfl) xrlex (⟨hx.drew.c1, hv.drew.c0, hv.drew.c1, hv.drew.c2⟩) ?_
                unfold xrord
                have hx := hx.drew
                have hv := hv.drew
                have hC := hC.below (Below.refl _ _).drew (Nat.le_refl _)
                have hB := hB.drew
                refine Lex.step_take (.agg #[.string n, .int .i64 k, .bool zz]) xr0 rfl (Lex.want_none rfl) (by intro Wx hSw; (try dsimp only at hSw); go_simp; (try (first | (with_reducible rfl) | assumption | rfl))) ?_
                simp only [Act.put, List.setIfInBounds_toArray, List.set_cons_zero, List.set_cons_succ]
                refine Lex.step_call xr1 rfl (Lex.want_none rfl) (fun K hK => ?_)
                go_simp
                refine (hc1 _).mono ?_
                rintro e y1 ⟨rfl, hy1⟩
                have hx := hx.below hy1 hx.lt
                have hv := hv.below hy1 hv.lt
                have hC := hC.below hy1 (Nat.le_refl _)
                have hB := hB.trans (hy1.mono hB.size)
                clear hy1 hc1
                refine hK.out _ _ _ (fun _ h => h) ⟨hx.c1, hv.c0, hv.c1, hv.c2⟩ ?_
                clear hK K
                try simp only [Act.put, List.setIfInBounds_toArray, List.set_cons_zero, List.set_cons_succ]
                refine Lex.step_take (.bool false) xr2 rfl (Lex.want_none rfl) (by intro Wx hSw; (try dsimp only at hSw); go_simp; (try (first | (with_reducible rfl) | assumption | rfl))) ?_
                simp only [Act.put, List.setIfInBounds_toArray, List.set_cons_zero, List.set_cons_succ]
                refine Lex.step_take (.bool false) xr3 rfl (Lex.want_none rfl) (by intro Wx hSw; (try dsimp only at hSw); go_simp; (try (first | (with_reducible rfl) | assumption | rfl))) ?_
                simp only [Act.put, List.setIfInBounds_toArray, List.set_cons_zero, List.set_cons_succ]
                refine Lex.step_take (.pointer (some ⟨g, 1, none⟩)) xr4 rfl (Lex.want_some rfl xr3 rfl (b' := false) rfl rfl) (by intro Wx hSw; (try dsimp only at hSw); go_simp; (try (first | (with_reducible rfl) | assumption | rfl))) ?_
                simp only [Act.put, List.setIfInBounds_toArray, List.set_cons_zero, List.set_cons_succ]
                refine Lex.step_take (.slice (some ⟨b, o, none⟩) m cp) xr5 rfl (Lex.want_some rfl xr3 rfl (b' := false) rfl rfl) (by intro Wx hSw; (try dsimp only at hSw); go_simp; (try (first | (with_reducible rfl) | assumption | rfl))) ?_
                simp only [Act.put, List.setIfInBounds_toArray, List.set_cons_zero, List.set_cons_succ]
                refine Lex.step_take (.int .i64 q) xr6 rfl (Lex.want_some rfl xr3 rfl (b' := false) rfl rfl) (by intro Wx hSw; (try dsimp only at hSw); go_simp; (try (first | (with_reducible rfl) | assumption | rfl))) ?_
                simp only [Act.put, List.setIfInBounds_toArray, List.set_cons_zero, List.set_cons_succ]
                refine Lex.step_take (.slice (some ⟨b, o, none⟩) q cp) xr7 rfl (Lex.want_some rfl xr3 rfl (b' := false) rfl rfl) (by intro Wx hSw; (try dsimp only at hSw); go_simp; (try (first | (with_reducible rfl) | assumption | rfl))) ?_
                simp only [Act.put, List.setIfInBounds_toArray, List.set_cons_zero, List.set_cons_succ]
                refine Lex.step_take (.pointer (some ⟨v, 0, none⟩)) xr8 rfl (Lex.want_some rfl xr3 rfl (b' := false) rfl rfl) (by intro Wx hSw; (try dsimp only at hSw); go_simp; (try (first | (with_reducible rfl) | assumption | rfl))) ?_
                simp only [Act.put, List.setIfInBounds_toArray, List.set_cons_zero, List.set_cons_succ]
                refine Lex.step_take (.string n) xr9 rfl (Lex.want_some rfl xr3 rfl (b' := false) rfl rfl) (by intro Wx hSw; (try dsimp only at hSw); go_simp; (try (first | (with_reducible rfl) | assumption | rfl))) ?_
                simp only [Act.put, List.setIfInBounds_toArray, List.set_cons_zero, List.set_cons_succ]
                refine Lex.step_call xr10 rfl (Lex.want_some rfl xr3 rfl (b' := false) rfl rfl) (fun K hK => ?_)
                go_simp
                refine (hc2 _ (hC.take q)).mono ?_
                rintro e y2 ⟨rfl, hy2⟩
                have hx := hx.below hy2 hx.lt
                have hB := hB.trans (hy2.mono hB.size)
                have hv := hv.below hy2 hv.lt
                clear hy2 hc2 hC
                refine hK.out _ _ _ (fun _ h => h) ⟨hx.c1, hv.c0, hv.c1, hv.c2⟩ ?_
                clear hK K
                try simp only [Act.put, List.setIfInBounds_toArray, List.set_cons_zero, List.set_cons_succ]
                refine Lex.step_take (.bool false) xr11 rfl (Lex.want_none rfl) (by intro Wx hSw; (try dsimp only at hSw); go_simp; (try (first | (with_reducible rfl) | assumption | rfl))) ?_
                simp only [Act.put, List.setIfInBounds_toArray, List.set_cons_zero, List.set_cons_succ]
                refine NoPanic.normal ?_
                subst hgw
                go_wp2
                go_roundw
                case rel => exact ⟨q + 1, by omega, by go_num, Lib.hid (HS.out rfl rfl), hB, hx⟩
                case measure => simp [intOf]; omega
              · have HZ := Lib.hid (hN0 rfl)
                clear hP0 hN0
                refine Lex.region_lex (ops := xrops) (calls := xrcalls) xrord (fun W => W.cell? ⟨g, 1, none⟩ = some (.slice (some ⟨b, o, none⟩) m cp) ∧ W.cell? ⟨v, 0, none⟩ = some (.string n) ∧ W.cell? ⟨v, 1, none⟩ = some (.int .i64 k) ∧ W.cell? ⟨v, 2, none⟩ = some (.bool zz)) (by kernel_rfl) (by kernel_rfl) xrsel (by kernel_rfl) (by kernel_rfl) xrlex (⟨hx.drew.c1, hv.drew.c0, hv.drew.c1, hv.drew.c2⟩) ?_
                unfold xrord
                have hx := hx.drew
                have hv := hv.drew
                have hC := hC.below (Below.refl _ _).drew (Nat.le_refl _)
                have hB := hB.drew
                refine Lex.step_take (.agg #[.string n, .int .i64 k, .bool zz]) xr0 rfl (Lex.want_none rfl) (by intro Wx hSw; (try dsimp only at hSw); go_simp; (try (first | (with_reducible rfl) | assumption | rfl))) ?_
                simp only [Act.put, List.setIfInBounds_toArray, List.set_cons_zero, List.set_cons_succ]
                refine Lex.step_call xr1 rfl (Lex.want_none rfl) (fun K hK => ?_)
                go_simp
                refine (hc1 _).mono ?_
                rintro e y1 ⟨rfl, hy1⟩
                have hx := hx.below hy1 hx.lt
                have hv := hv.below hy1 hv.lt
                have hC := hC.below hy1 (Nat.le_refl _)
                have hB := hB.trans (hy1.mono hB.size)
                clear hy1 hc1
                refine hK.out _ _ _ (fun _ h => h) ⟨hx.c1, hv.c0, hv.c1, hv.c2⟩ ?_
                clear hK K
                try simp only [Act.put, List.setIfInBounds_toArray, List.set_cons_zero, List.set_cons_succ]
                refine Lex.step_take (.bool false) xr2 rfl (Lex.want_none rfl) (by intro Wx hSw; (try dsimp only at hSw); go_simp; (try (first | (with_reducible rfl) | assumption | rfl))) ?_
                simp only [Act.put, List.setIfInBounds_toArray, List.set_cons_zero, List.set_cons_succ]
                refine Lex.step_take (.bool false) xr3 rfl (Lex.want_none rfl) (by intro Wx hSw; (try dsimp only at hSw); go_simp; (try (first | (with_reducible rfl) | assumption | rfl))) ?_
                simp only [Act.put, List.setIfInBounds_toArray, List.set_cons_zero, List.set_cons_succ]
                refine Lex.step_take (.pointer (some ⟨g, 1, none⟩)) xr4 rfl (Lex.want_some rfl xr3 rfl (b' := false) rfl rfl) (by intro Wx hSw; (try dsimp only at hSw); go_simp; (try (first | (with_reducible rfl) | assumption | rfl))) ?_
                simp only [Act.put, List.setIfInBounds_toArray, List.set_cons_zero, List.set_cons_succ]
                refine Lex.step_take (.slice (some ⟨b, o, none⟩) m cp) xr5 rfl (Lex.want_some rfl xr3 rfl (b' := false) rfl rfl) (by intro Wx hSw; (try dsimp only at hSw); go_simp; (try (first | (with_reducible rfl) | assumption | rfl))) ?_
                simp only [Act.put, List.setIfInBounds_toArray, List.set_cons_zero, List.set_cons_succ]
                refine Lex.step_take (.int .i64 q) xr6 rfl (Lex.want_some rfl xr3 rfl (b' := false) rfl rfl) (by intro Wx hSw; (try dsimp only at hSw); go_simp; (try (first | (with_reducible rfl) | assumption | rfl))) ?_
                simp only [Act.put, List.setIfInBounds_toArray, List.set_cons_zero, List.set_cons_succ]
                refine Lex.step_take (.slice (some ⟨b, o, none⟩) q cp) xr7 rfl (Lex.want_some rfl xr3 rfl (b' := false) rfl rfl) (by intro Wx hSw; (try dsimp only at hSw); go_simp; (try (first | (with_reducible rfl) | assumption | rfl))) ?_
                simp only [Act.put, List.setIfInBounds_toArray, List.set_cons_zero, List.set_cons_succ]
                refine Lex.step_take (.pointer (some ⟨v, 0, none⟩)) xr8 rfl (Lex.want_some rfl xr3 rfl (b' := false) rfl rfl) (by intro Wx hSw; (try dsimp only at hSw); go_simp; (try (first | (with_reducible rfl) | assumption | rfl))) ?_
                simp only [Act.put, List.setIfInBounds_toArray, List.set_cons_zero, List.set_cons_succ]
                refine Lex.step_take (.string n) xr9 rfl (Lex.want_some rfl xr3 rfl (b' := false) rfl rfl) (by intro Wx hSw; (try dsimp only at hSw); go_simp; (try (first | (with_reducible rfl) | assumption | rfl))) ?_
                simp only [Act.put, List.setIfInBounds_toArray, List.set_cons_zero, List.set_cons_succ]
                refine Lex.step_call xr10 rfl (Lex.want_some rfl xr3 rfl (b' := false) rfl rfl) (fun K hK => ?_)
                go_simp
                refine (hc2 _ (hC.take q)).mono ?_
                rintro e y2 ⟨rfl, hy2⟩
                have hx := hx.below hy2 hx.lt
                have hB := hB.trans (hy2.mono hB.size)
                have hv := hv.below hy2 hv.lt
                clear hy2 hc2 hC
                refine hK.out _ _ _ (fun _ h => h) ⟨hx.c1, hv.c0, hv.c1, hv.c2⟩ ?_
                clear hK K
                try simp only [Act.put, List.setIfInBounds_toArray, List.set_cons_zero, List.set_cons_succ]
                refine Lex.step_take (.bool true) xr11 rfl (Lex.want_none rfl) (by intro Wx hSw; (try dsimp only at hSw); go_simp; (try (first | (with_reducible rfl) | assumption | rfl))) ?_
                simp only [Act.put, List.setIfInBounds_toArray, List.set_cons_zero, List.set_cons_succ]
                refine NoPanic.normal ?_
                subst hgw
                go_wp2
                go_ret
                exact ⟨by rw [HZ.out]; rfl, hB⟩
          · obtain rfl : q = m := by omega
            have hne : l ≠ [] := fun e => by have := HM.out; rw [e] at this; simp at this; omega
            have hg : l[0]? = some (l[0]'(by rw [HM.out]; omega)) := List.getElem?_eq_getElem _
            obtain ⟨b, o, rfl, hlo, hlb, hc⟩ := (HA.out.below hB (Nat.le_refl _)) hne
            obtain ⟨d0, d1, d2⟩ := hc 0 _ hg
            have hok := HK.out 0 _ hg
            have hfin := fin_right HM.out hH.out hg
            have hcY : keyB (l[0]'(by rw [HM.out]; omega)) = true → z = true := fun e => HT.out trivial h1 h2 (hfin.1 e)
            have hcN : keyB (l[0]'(by rw [HM.out]; omega)) = false → z = false := fun e => HF3.out 0 _ hg (hfin.2 e)
            generalize (l[0]'(by rw [HM.out]; omega)) = c at hok d0 d1 d2 hcY hcN
            obtain ⟨n, k, zz⟩ := c
            simp only [Nat.zero_mul, Nat.add_zero] at d0 d1 d2
            have hc1 : ∀ W : World, Calls Try.prog 21 #[.agg #[.string n, .int .i64 k, .bool zz]] W fun e w' => e = .returned (.bool (keyB ⟨n, k, zz⟩)) ∧ Below W.heap.size W w' := fun W => rightKey_any ⟨n, k, zz⟩ W hok
            generalize keyB ⟨n, k, zz⟩ = r at hc1 hcY hcN
            have HZ : Hid (z = r) := Lib.hid (by cases r; exact hcN rfl; exact hcY rfl)
            clear hcY hcN hfin hok hc hg hne
            go_wp2_with fail
            refine (hc1 _).mono ?_
            rintro e y1 ⟨rfl, hy1⟩
            go_wp2
            go_ret
            exact ⟨by rw [HZ.out]; rfl, hB.trans (hy1.mono hB.size)⟩
      · have H2 := Lib.hid (hF2 h2)
        clear hF0 hF1 hF2
        go_wp2
        go_ret
        exact ⟨by rw [H2.out]; rfl, HB0.out⟩
    · have H1 := Lib.hid (hF1 h1)
      clear hF0 hF1 hF2
      go_wp2
      go_ret
      exact ⟨by rw [H1.out]; rfl, HB0.out⟩
end Go.Proofs.Ytajoklimdlalhaa.Sc
