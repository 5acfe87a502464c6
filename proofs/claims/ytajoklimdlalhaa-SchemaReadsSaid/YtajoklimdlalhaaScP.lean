/- SchemaTells: whatever schema, walked. -/
import Derived.Test.YtajoklimdlalhaaScO
import Derived.Test.YtajoklimdlalhaaXre
namespace Go.Proofs.Ytajoklimdlalhaa.Sc
open Go.RowKit Pac Lex

/-- A schema's variable, and all that was there as it was. -/
structure Tel (w : World) (g lo : Nat) (nm : ByteArray) (A : Option Addr) (m cp : Nat) (l : List C) (W : World) : Prop where
  v : Box2 W g (.string nm) (.slice A m cp)
  c : HasCols W lo A l
  B : Below w.heap.size w W
theorem Tel.below {w : World} {g lo : Nat} {nm : ByteArray} {A : Option Addr} {m cp : Nat} {l : List C} {W W' : World} (h : Tel w g lo nm A m cp l W) (hb : Below W.heap.size W W') : Tel w g lo nm A m cp l W' :=
  ⟨h.v.below hb h.v.lt, h.c.below hb (Nat.le_refl _), h.B.trans (hb.mono h.B.size)⟩
theorem rightR_of {nm : ByteArray} {l : List C} {r : Bool} {m : Nat} (hr : rightS nm l = r) (hm : l.length = m) (hn : nm.size ≤ 9223372036854775807) (h9 : m ≤ 9223372036854775807) (hok : ∀ (j : Nat) (c : C), l[j]? = some c → c.Ok) (A : Option Addr) (cp lo : Nat) (W : World) (hc : m ≤ cp) (h : HasCols W lo A l) :
    Calls Try.prog 10 #[.agg #[.string nm, .slice A m cp]] W fun e w' => e = .returned (.bool r) ∧ Below W.heap.size W w' := by
  subst hm hr
  exact refRight_any A cp nm l lo W h hc hn h9 hok
theorem printR_of {nm : ByteArray} {l : List C} {u : ByteArray} {m : Nat} (hr : rightS nm l = true) (hu : printS nm l = u) (hm : l.length = m) (A : Option Addr) (cp lo : Nat) (W : World) (h : HasCols W lo A l) :
    Calls Try.prog 12 #[.agg #[.string nm, .slice A m cp]] W fun e w' => e = .returned (.string u) ∧ Below W.heap.size W w' := by
  subst hm hu
  exact refPrint_any A cp nm l lo W h hr
def SmallP (nm : ByteArray) (l : List C) (W : World) (e : Ending) (w' : World) : Prop :=
  ∃ r : Bool, e = .returned (.bool r) ∧ (r = true → nm.size ≤ 100 ∧ l.length ≤ 20 ∧ ∀ (j : Nat) (c : C), l[j]? = some c → c.n.size ≤ 100) ∧ Below W.heap.size W w'
theorem small_of {nm : ByteArray} {l : List C} {m : Nat} (hm : l.length = m) (hn : nm.size ≤ 9223372036854775807) (h9 : m ≤ 9223372036854775807) (hok : ∀ (j : Nat) (c : C), l[j]? = some c → c.Ok) (A : Option Addr) (cp lo : Nat) (W : World) (h : HasCols W lo A l) :
    Calls Try.prog 7 #[.agg #[.string nm, .slice A m cp]] W (SmallP nm l W) := by
  subst hm
  exact small_any A cp nm l lo W h hn h9 hok

set_option maxRecDepth 20000 in
set_option maxHeartbeats 8000000 in
theorem tells_any (A : Option Addr) (cp m : Nat) (nm : ByteArray) (l : List C) (lo : Nat) (w : World) (h : HasCols w lo A l) (hm : l.length = m) (hcp : m ≤ cp) (hn : nm.size ≤ 9223372036854775807) (h9 : m ≤ 9223372036854775807) (hok : ∀ (j : Nat) (c : C), l[j]? = some c → c.Ok) :
    Calls Try.prog 3 #[.agg #[.string nm, .slice A m cp]] w fun e w' => e = .returned (.bool true) ∧ Below w.heap.size w w' := by
  have hF : Tel w w.heap.size lo nm A m cp l (w.alloc (.cells #[.string nm, .slice A m cp] 24)) :=
    ⟨Box2.new w _ _ 24, h.below ((Below.refl w.heap.size w).alloc (Nat.le_refl _) _) (Nat.le_refl _), (Below.refl w.heap.size w).alloc (Nat.le_refl _) _⟩
  have hSm := fun (W : World) (hc : HasCols W lo A l) => small_of hm hn h9 hok A cp lo W hc (nm := nm)
  have hR := fun (r : Bool) (hr : rightS nm l = r) (W : World) (hc : HasCols W lo A l) => right_of hr hm hn h9 hok A cp lo W hcp hc
  have hRR := fun (r : Bool) (hr : rightS nm l = r) (W : World) (hc : HasCols W lo A l) => rightR_of hr hm hn h9 hok A cp lo W hcp hc
  have hP1 := fun (hr : rightS nm l = true) (W : World) (hc : HasCols W lo A l) => print_of hr rfl hm A cp lo W hc
  have hP2 := fun (hr : rightS nm l = true) (W : World) (hc : HasCols W lo A l) => printR_of hr rfl hm A cp lo W hc
  obtain ⟨r, hr⟩ : ∃ r, rightS nm l = r := ⟨_, rfl⟩
  have hR := hR r hr
  have hRR := hRR r hr
  rw [hr] at hP1 hP2
  generalize printS nm l = u at hP1 hP2
  have HF := Lib.hid hF
  clear hF hr hok h hm
  go_enter Try.func3, Try.ntmps3
  go_wp2_with fail
  have hF := HF.out
  clear HF
  generalize w.alloc (.cells #[.string nm, .slice A m cp] 24) = w1 at hF ⊢
  generalize hgw : w.heap.size = g at hF ⊢
  refine (hSm _ hF.c).mono ?_
  rintro e w2 ⟨sm, rfl, _, hy⟩
  have hF := hF.below hy
  clear hy hSm
  have c0 := hF.v.c0
  have c1 := hF.v.c1
  cases sm
  · go_wp2_with fail
    refine (awake_any _).mono ?_
    rintro e w3 ⟨rfl, hy⟩
    have hF := hF.below hy
    clear hy c0 c1
    go_wp2
    go_ret
    subst hgw
    exact ⟨rfl, hF.B⟩
  · go_wp2_with fail
    refine (hR _ hF.c).mono ?_
    rintro e w3 ⟨rfl, hy⟩
    have hF := hF.below hy
    clear hy c0 c1 hR
    go_wp2_with fail
    cases r
    · clear hP1 hP2
      refine Lex.region_lex (ops := xtops) (calls := xtcalls) xtord (fun W => W.cell? ⟨g, 0, none⟩ = some (.string nm) ∧ W.cell? ⟨g, 1, none⟩ = some (.slice A m cp)) (by kernel_rfl) (by kernel_rfl) xtsel (by kernel_rfl) (by kernel_rfl) xtlex (⟨hF.v.drew.c0, hF.v.drew.c1⟩) ?_
      unfold xtord
      have hF := hF.below (Below.refl _ _).drew
      refine Lex.step_call xt0 rfl (Lex.want_none rfl) (fun K hK => ?_)
      go_simp
      refine (awake_any _).mono ?_
      rintro e _ ⟨rfl, hy1⟩
      have hF := hF.below hy1
      clear hy1
      refine hK.out _ _ _ (fun _ h => h) ⟨hF.v.c0, hF.v.c1⟩ ?_
      clear hK K
      try simp only [Act.put, List.setIfInBounds_toArray, List.set_cons_zero, List.set_cons_succ]
      refine Lex.step_take (.bool true) xt1 rfl (Lex.want_none rfl) (by intro Wx hSw; (try dsimp only at hSw); go_simp; (try (first | (with_reducible rfl) | assumption | rfl))) ?_
      simp only [Act.put, List.setIfInBounds_toArray, List.set_cons_zero, List.set_cons_succ]
      refine Lex.step_take (.bool false) xt2 rfl (Lex.want_some rfl xt1 rfl (b' := true) rfl rfl) (by intro Wx hSw; (try dsimp only at hSw); go_simp; (try (first | (with_reducible rfl) | assumption | rfl))) ?_
      simp only [Act.put, List.setIfInBounds_toArray, List.set_cons_zero, List.set_cons_succ]
      refine Lex.step_take (.agg #[.string nm, .slice A m cp]) xt3 rfl (Lex.want_some rfl xt1 rfl (b' := true) rfl rfl) (by intro Wx hSw; (try dsimp only at hSw); go_simp; (try (first | (with_reducible rfl) | assumption | rfl))) ?_
      simp only [Act.put, List.setIfInBounds_toArray, List.set_cons_zero, List.set_cons_succ]
      refine Lex.step_call xt4 rfl (Lex.want_some rfl xt1 rfl (b' := true) rfl rfl) (fun K hK => ?_)
      go_simp
      refine (hRR _ hF.c).mono ?_
      rintro e _ ⟨rfl, hy1⟩
      have hF := hF.below hy1
      clear hy1
      refine hK.out _ _ _ (fun _ h => h) ⟨hF.v.c0, hF.v.c1⟩ ?_
      clear hK K
      try simp only [Act.put, List.setIfInBounds_toArray, List.set_cons_zero, List.set_cons_succ]
      refine Lex.step_take (.bool true) xt5 rfl (Lex.want_some rfl xt1 rfl (b' := true) rfl rfl) (by intro Wx hSw; (try dsimp only at hSw); go_simp; (try (first | (with_reducible rfl) | assumption | rfl))) ?_
      simp only [Act.put, List.setIfInBounds_toArray, List.set_cons_zero, List.set_cons_succ]
      refine Lex.step_take (.bool true) xt6 rfl (Lex.want_none rfl) (by intro Wx hSw; (try dsimp only at hSw); go_simp; (try (first | (with_reducible rfl) | assumption | rfl))) ?_
      simp only [Act.put, List.setIfInBounds_toArray, List.set_cons_zero, List.set_cons_succ]
      refine Lex.step_take (.bool true) xt7 rfl (Lex.want_none rfl) (by intro Wx hSw; (try dsimp only at hSw); go_simp; (try (first | (with_reducible rfl) | assumption | rfl))) ?_
      simp only [Act.put, List.setIfInBounds_toArray, List.set_cons_zero, List.set_cons_succ]
      refine Lex.step_take (.bool false) xt8 rfl (Lex.want_some rfl xt7 rfl (b' := true) rfl rfl) (by intro Wx hSw; (try dsimp only at hSw); go_simp; (try (first | (with_reducible rfl) | assumption | rfl))) ?_
      simp only [Act.put, List.setIfInBounds_toArray, List.set_cons_zero, List.set_cons_succ]
      refine Lex.step_take (.bool true) xt9 rfl (Lex.want_some rfl xt7 rfl (b' := true) rfl rfl) (by intro Wx hSw; (try dsimp only at hSw); go_simp; (try (first | (with_reducible rfl) | assumption | rfl))) ?_
      simp only [Act.put, List.setIfInBounds_toArray, List.set_cons_zero, List.set_cons_succ]
      refine Lex.step_take (.bool true) xt10 rfl (Lex.want_some rfl xt7 rfl (b' := true) rfl rfl) (by intro Wx hSw; (try dsimp only at hSw); go_simp; (try (first | (with_reducible rfl) | assumption | rfl))) ?_
      simp only [Act.put, List.setIfInBounds_toArray, List.set_cons_zero, List.set_cons_succ]
      refine Lex.step_skip xt11 (Lex.want_some rfl xt10 rfl (b' := true) rfl rfl) ?_
      simp only [Act.put, List.setIfInBounds_toArray, List.set_cons_zero, List.set_cons_succ]
      refine Lex.step_skip xt13 (Lex.want_some rfl xt10 rfl (b' := true) rfl rfl) ?_
      simp only [Act.put, List.setIfInBounds_toArray, List.set_cons_zero, List.set_cons_succ]
      refine Lex.step_skip xt12 (Lex.want_some rfl xt10 rfl (b' := true) rfl rfl) ?_
      simp only [Act.put, List.setIfInBounds_toArray, List.set_cons_zero, List.set_cons_succ]
      refine Lex.step_skip xt14 (Lex.want_some rfl xt10 rfl (b' := true) rfl rfl) ?_
      simp only [Act.put, List.setIfInBounds_toArray, List.set_cons_zero, List.set_cons_succ]
      refine Lex.step_skip xt15 (Lex.want_some rfl xt10 rfl (b' := true) rfl rfl) ?_
      simp only [Act.put, List.setIfInBounds_toArray, List.set_cons_zero, List.set_cons_succ]
      refine Lex.step_take (.bool true) xt16 rfl (Lex.want_some rfl xt7 rfl (b' := true) rfl rfl) (by intro Wx hSw; (try dsimp only at hSw); go_simp; (try (first | (with_reducible rfl) | assumption | rfl))) ?_
      simp only [Act.put, List.setIfInBounds_toArray, List.set_cons_zero, List.set_cons_succ]
      refine Lex.step_take (.bool true) xt17 rfl (Lex.want_none rfl) (by intro Wx hSw; (try dsimp only at hSw); go_simp; (try (first | (with_reducible rfl) | assumption | rfl))) ?_
      simp only [Act.put, List.setIfInBounds_toArray, List.set_cons_zero, List.set_cons_succ]
      refine Lex.step_take (.bool true) xt18 rfl (Lex.want_none rfl) (by intro Wx hSw; (try dsimp only at hSw); go_simp; (try (first | (with_reducible rfl) | assumption | rfl))) ?_
      simp only [Act.put, List.setIfInBounds_toArray, List.set_cons_zero, List.set_cons_succ]
      refine NoPanic.normal ?_
      go_wp2
      go_ret
      subst hgw
      exact ⟨rfl, hF.B⟩
    · have hP1 := hP1 rfl
      have hP2 := hP2 rfl
      refine Lex.region_lex (ops := xtops) (calls := xtcalls) xtord (fun W => W.cell? ⟨g, 0, none⟩ = some (.string nm) ∧ W.cell? ⟨g, 1, none⟩ = some (.slice A m cp)) (by kernel_rfl) (by kernel_rfl) xtsel (by kernel_rfl) (by kernel_rfl) xtlex (⟨hF.v.drew.c0, hF.v.drew.c1⟩) ?_
      unfold xtord
      have hF := hF.below (Below.refl _ _).drew
      refine Lex.step_call xt0 rfl (Lex.want_none rfl) (fun K hK => ?_)
      go_simp
      refine (awake_any _).mono ?_
      rintro e _ ⟨rfl, hy1⟩
      have hF := hF.below hy1
      clear hy1
      refine hK.out _ _ _ (fun _ h => h) ⟨hF.v.c0, hF.v.c1⟩ ?_
      clear hK K
      try simp only [Act.put, List.setIfInBounds_toArray, List.set_cons_zero, List.set_cons_succ]
      refine Lex.step_take (.bool true) xt1 rfl (Lex.want_none rfl) (by intro Wx hSw; (try dsimp only at hSw); go_simp; (try (first | (with_reducible rfl) | assumption | rfl))) ?_
      simp only [Act.put, List.setIfInBounds_toArray, List.set_cons_zero, List.set_cons_succ]
      refine Lex.step_take (.bool true) xt2 rfl (Lex.want_some rfl xt1 rfl (b' := true) rfl rfl) (by intro Wx hSw; (try dsimp only at hSw); go_simp; (try (first | (with_reducible rfl) | assumption | rfl))) ?_
      simp only [Act.put, List.setIfInBounds_toArray, List.set_cons_zero, List.set_cons_succ]
      refine Lex.step_take (.agg #[.string nm, .slice A m cp]) xt3 rfl (Lex.want_some rfl xt1 rfl (b' := true) rfl rfl) (by intro Wx hSw; (try dsimp only at hSw); go_simp; (try (first | (with_reducible rfl) | assumption | rfl))) ?_
      simp only [Act.put, List.setIfInBounds_toArray, List.set_cons_zero, List.set_cons_succ]
      refine Lex.step_call xt4 rfl (Lex.want_some rfl xt1 rfl (b' := true) rfl rfl) (fun K hK => ?_)
      go_simp
      refine (hRR _ hF.c).mono ?_
      rintro e _ ⟨rfl, hy1⟩
      have hF := hF.below hy1
      clear hy1
      refine hK.out _ _ _ (fun _ h => h) ⟨hF.v.c0, hF.v.c1⟩ ?_
      clear hK K
      try simp only [Act.put, List.setIfInBounds_toArray, List.set_cons_zero, List.set_cons_succ]
      refine Lex.step_take (.bool true) xt5 rfl (Lex.want_some rfl xt1 rfl (b' := true) rfl rfl) (by intro Wx hSw; (try dsimp only at hSw); go_simp; (try (first | (with_reducible rfl) | assumption | rfl))) ?_
      simp only [Act.put, List.setIfInBounds_toArray, List.set_cons_zero, List.set_cons_succ]
      refine Lex.step_take (.bool true) xt6 rfl (Lex.want_none rfl) (by intro Wx hSw; (try dsimp only at hSw); go_simp; (try (first | (with_reducible rfl) | assumption | rfl))) ?_
      simp only [Act.put, List.setIfInBounds_toArray, List.set_cons_zero, List.set_cons_succ]
      refine Lex.step_take (.bool true) xt7 rfl (Lex.want_none rfl) (by intro Wx hSw; (try dsimp only at hSw); go_simp; (try (first | (with_reducible rfl) | assumption | rfl))) ?_
      simp only [Act.put, List.setIfInBounds_toArray, List.set_cons_zero, List.set_cons_succ]
      refine Lex.step_take (.bool true) xt8 rfl (Lex.want_some rfl xt7 rfl (b' := true) rfl rfl) (by intro Wx hSw; (try dsimp only at hSw); go_simp; (try (first | (with_reducible rfl) | assumption | rfl))) ?_
      simp only [Act.put, List.setIfInBounds_toArray, List.set_cons_zero, List.set_cons_succ]
      refine Lex.step_take (.bool false) xt9 rfl (Lex.want_some rfl xt7 rfl (b' := true) rfl rfl) (by intro Wx hSw; (try dsimp only at hSw); go_simp; (try (first | (with_reducible rfl) | assumption | rfl))) ?_
      simp only [Act.put, List.setIfInBounds_toArray, List.set_cons_zero, List.set_cons_succ]
      refine Lex.step_take (.bool false) xt10 rfl (Lex.want_some rfl xt7 rfl (b' := true) rfl rfl) (by intro Wx hSw; (try dsimp only at hSw); go_simp; (try (first | (with_reducible rfl) | assumption | rfl))) ?_
      simp only [Act.put, List.setIfInBounds_toArray, List.set_cons_zero, List.set_cons_succ]
      refine Lex.step_take (.agg #[.string nm, .slice A m cp]) xt11 rfl (Lex.want_some rfl xt10 rfl (b' := false) rfl rfl) (by intro Wx hSw; (try dsimp only at hSw); go_simp; (try (first | (with_reducible rfl) | assumption | rfl))) ?_
      simp only [Act.put, List.setIfInBounds_toArray, List.set_cons_zero, List.set_cons_succ]
      refine Lex.step_take (.agg #[.string nm, .slice A m cp]) xt13 rfl (Lex.want_some rfl xt10 rfl (b' := false) rfl rfl) (by intro Wx hSw; (try dsimp only at hSw); go_simp; (try (first | (with_reducible rfl) | assumption | rfl))) ?_
      simp only [Act.put, List.setIfInBounds_toArray, List.set_cons_zero, List.set_cons_succ]
      refine Lex.step_call xt12 rfl (Lex.want_some rfl xt10 rfl (b' := false) rfl rfl) (fun K hK => ?_)
      go_simp
      refine (hP1 _ hF.c).mono ?_
      rintro e _ ⟨rfl, hy1⟩
      have hF := hF.below hy1
      clear hy1
      refine hK.out _ _ _ (fun _ h => h) ⟨hF.v.c0, hF.v.c1⟩ ?_
      clear hK K
      try simp only [Act.put, List.setIfInBounds_toArray, List.set_cons_zero, List.set_cons_succ]
      refine Lex.step_call xt14 rfl (Lex.want_some rfl xt10 rfl (b' := false) rfl rfl) (fun K hK => ?_)
      go_simp
      refine (hP2 _ hF.c).mono ?_
      rintro e _ ⟨rfl, hy1⟩
      have hF := hF.below hy1
      clear hy1
      refine hK.out _ _ _ (fun _ h => h) ⟨hF.v.c0, hF.v.c1⟩ ?_
      clear hK K
      try simp only [Act.put, List.setIfInBounds_toArray, List.set_cons_zero, List.set_cons_succ]
      refine Lex.step_take (.bool true) xt15 rfl (Lex.want_some rfl xt10 rfl (b' := false) rfl rfl) (by intro Wx hSw; (try dsimp only at hSw); go_simp; (try (first | (with_reducible rfl) | assumption | rfl))) ?_
      simp only [Act.put, List.setIfInBounds_toArray, List.set_cons_zero, List.set_cons_succ]
      refine Lex.step_take (.bool true) xt16 rfl (Lex.want_some rfl xt7 rfl (b' := true) rfl rfl) (by intro Wx hSw; (try dsimp only at hSw); go_simp; (try (first | (with_reducible rfl) | assumption | rfl))) ?_
      simp only [Act.put, List.setIfInBounds_toArray, List.set_cons_zero, List.set_cons_succ]
      refine Lex.step_take (.bool true) xt17 rfl (Lex.want_none rfl) (by intro Wx hSw; (try dsimp only at hSw); go_simp; (try (first | (with_reducible rfl) | assumption | rfl))) ?_
      simp only [Act.put, List.setIfInBounds_toArray, List.set_cons_zero, List.set_cons_succ]
      refine Lex.step_take (.bool true) xt18 rfl (Lex.want_none rfl) (by intro Wx hSw; (try dsimp only at hSw); go_simp; (try (first | (with_reducible rfl) | assumption | rfl))) ?_
      simp only [Act.put, List.setIfInBounds_toArray, List.set_cons_zero, List.set_cons_succ]
      refine NoPanic.normal ?_
      go_wp2
      go_ret
      subst hgw
      exact ⟨rfl, hF.B⟩
end Go.Proofs.Ytajoklimdlalhaa.Sc
