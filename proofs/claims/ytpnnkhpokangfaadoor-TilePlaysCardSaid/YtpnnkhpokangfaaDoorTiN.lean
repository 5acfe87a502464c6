/- The document's examples of layer 10: a list of two groups, a schema, a variable, in whatever order they are made. -/
import Derived.Test.YtpnnkhpokangfaaDoorTiL
import Derived.Test.YtpnnkhpokangfaaDoorMgW
import Derived.Test.YtpnnkhpokangfaaDoorMgZ
namespace Go.Proofs.YtpnnkhpokangfaaDoor.Ti
open Go.RowKit Pac Va Sc Mi Sp Lex
set_option maxRecDepth 20000

/-- What each of them has made. -/
def tcT (t : TV) (z : Nat) : Nat → Value → World → Prop
 | 0, v, w => ∃ A, v = .agg #[.string nmT, .slice A 2 2] ∧ HasSch w A 2 2 nmT csT
 | 1, v, _ => v = .agg #[.slice t.A t.n t.c, .int .i64 t.m, .slice t.B t.n t.d]
 | 2, v, w => ∃ p, v = .slice (some ⟨p, 0, none⟩) 1 1 ∧ w.heap[p]? = some (.cells #[.int .i64 0] 3)
 | 3, v, w => ∃ p, v = .slice (some ⟨p, 0, none⟩) 1 1 ∧ w.heap[p]? = some (.cells #[.int .i64 1] 3)
 | 4, v, w => ∃ p q s, v = .slice (some ⟨s, 0, none⟩) 2 2 ∧ w.heap[p]? = some (.cells #[.int .i64 0] 3) ∧ w.heap[q]? = some (.cells #[.int .i64 1] 3) ∧ w.heap[s]? = some (.cells #[.slice (some ⟨p, 0, none⟩) 1 1, .slice (some ⟨q, 0, none⟩) 1 1] 67)
 | _, v, w => ∃ g, v = .pointer (some ⟨g, 0, none⟩) ∧ z ≤ g ∧ w.heap[g]? = some (.cells #[.slice none 0 0, .int .i64 0, .slice none 0 0] 32)
theorem obj_below {w1 w2 : World} {p : Nat} {o : Obj} (h : w1.heap[p]? = some o) (hb : Below w1.heap.size w1 w2) : w2.heap[p]? = some o := by
 rw [hb.block p (Array.getElem?_eq_some_iff.1 h).1]
 exact h
theorem tc_mono {t : TV} {z : Nat} : ∀ k ∈ [0, 1, 2, 3, 4, 9], ∀ v w1 w2, tcT t z k v w1 → Below w1.heap.size w1 w2 → tcT t z k v w2 := fun k hk v w1 w2 h hb => by
 simp only [List.mem_cons, List.not_mem_nil, or_false] at hk
 rcases hk with rfl | rfl | rfl | rfl | rfl | rfl
 ·obtain ⟨A, e, hs⟩ := h
  exact ⟨A, e, hs.below hb (Nat.le_refl _)⟩
 ·exact h
 ·obtain ⟨p, e, h⟩ := h
  exact ⟨p, e, obj_below h hb⟩
 ·obtain ⟨p, e, h⟩ := h
  exact ⟨p, e, obj_below h hb⟩
 ·obtain ⟨p, q, s, e, h1, h2, h3⟩ := h
  exact ⟨p, q, s, e, obj_below h1 hb, obj_below h2 hb, obj_below h3 hb⟩
 ·obtain ⟨g, e, hz, h⟩ := h
  exact ⟨g, e, hz, obj_below h hb⟩
theorem eval_tmp {a : Act} {i : Nat} {v : Value} (h : a.eval (.tmp i) = v) : a.tmps[i]?.getD undef = v := by
 rw [← h]
 simp [Act.eval]
theorem tc_step {Q : Exit → Act → World → Prop} {w0 : World} {a0 : Act} {t : TV} {g3 : Nat} (h3 : a0.eval (.tmp 3) = .pointer (some ⟨g3, 0, none⟩)) :
  ∀ k ∈ [0, 1, 2, 3, 4, 9], ∀ o, tcops[k]? = some o → ∀ (a : Act) (w : World), (w.cell? ⟨g3, 0, none⟩ = some (.slice t.A t.n t.c) ∧ w.cell? ⟨g3, 1, none⟩ = some (.int .i64 t.m) ∧ w.cell? ⟨g3, 2, none⟩ = some (.slice t.B t.n t.d)) → Below w0.heap.size w0 w →
   (∀ i, ([0, 1, 2, 3, 4, 9].all fun j => dstOf tcops j != some i) = true → a.eval (.tmp i) = a0.eval (.tmp i)) →
   (∀ j ∈ [0, 1, 2, 3, 4, 9], (o.after.any fun e => Region.binds .any e && e.on == j) = true → ∀ d, dstOf tcops j = some d → tcT t w0.heap.size j (a.eval (.tmp d)) w) →
   Oper.wp Tryd.prog o a w (fun a' w' => ∃ v, a' = a.put o.dst v ∧ tcT t w0.heap.size k v w' ∧ Below w.heap.size w w') Q := fun k hk o ho a w hS hb hev hdep => by
 simp only [List.mem_cons, List.not_mem_nil, or_false] at hk
 have e3 : a.eval (.tmp 3) = .pointer (some ⟨g3, 0, none⟩) := (hev 3 (by kernel_rfl)).trans h3
 rcases hk with rfl | rfl | rfl | rfl | rfl | rfl
 ·obtain rfl := Option.some.inj (tc0.symm.trans ho)
  clear hdep hev e3
  go_simp
  refine (some_any w).mono ?_
  rintro e w' ⟨A, rfl, hs, hy⟩
  exact ⟨_, rfl, ⟨A, rfl, hs⟩, hy⟩
 ·obtain rfl := Option.some.inj (tc1.symm.trans ho)
  clear hdep hev
  have e3 := eval_tmp e3
  obtain ⟨c0, c1, c2⟩ := hS
  go_simp
  exact ⟨_, rfl, rfl, Below.refl _ _⟩
 ·obtain rfl := Option.some.inj (tc2.symm.trans ho)
  clear hdep hev e3
  go_simp
  exact ⟨_, rfl, ⟨_, rfl, heap_alloc_new w _⟩, (Below.refl _ _).alloc (Nat.le_refl _) _⟩
 ·obtain rfl := Option.some.inj (tc3.symm.trans ho)
  clear hdep hev e3
  go_simp
  exact ⟨_, rfl, ⟨_, rfl, heap_alloc_new w _⟩, (Below.refl _ _).alloc (Nat.le_refl _) _⟩
 ·obtain rfl := Option.some.inj (tc4.symm.trans ho)
  obtain ⟨p, e2, h2⟩ := hdep 2 (by decide) (by kernel_rfl) 45 (by kernel_rfl)
  obtain ⟨q, e1, h1⟩ := hdep 3 (by decide) (by kernel_rfl) 46 (by kernel_rfl)
  have e2 := eval_tmp e2
  have e1 := eval_tmp e1
  clear hdep hev e3
  have hn := Lib.hid ((Below.refl w.heap.size w).alloc (Nat.le_refl _) (.cells #[.slice (some ⟨p, 0, none⟩) 1 1, .slice (some ⟨q, 0, none⟩) 1 1] 67))
  go_simp
  exact ⟨_, rfl, ⟨p, q, _, rfl, obj_below h2 hn.out, obj_below h1 hn.out, heap_alloc_new w _⟩, hn.out⟩
 ·obtain rfl := Option.some.inj (tc9.symm.trans ho)
  clear hdep hev e3
  go_simp
  exact ⟨_, rfl, ⟨_, rfl, hb.size, heap_alloc_new w _⟩, (Below.refl _ _).alloc (Nat.le_refl _) _⟩
theorem tc_smono {t : TV} {g3 : Nat} : ∀ w1 w2 : World, (w1.cell? ⟨g3, 0, none⟩ = some (.slice t.A t.n t.c) ∧ w1.cell? ⟨g3, 1, none⟩ = some (.int .i64 t.m) ∧ w1.cell? ⟨g3, 2, none⟩ = some (.slice t.B t.n t.d)) → Below w1.heap.size w1 w2 →
  (w2.cell? ⟨g3, 0, none⟩ = some (.slice t.A t.n t.c) ∧ w2.cell? ⟨g3, 1, none⟩ = some (.int .i64 t.m) ∧ w2.cell? ⟨g3, 2, none⟩ = some (.slice t.B t.n t.d)) := fun _ _ h hb =>
 ⟨Ro.cell_below hb h.1, Ro.cell_below hb h.2.1, Ro.cell_below hb h.2.2⟩
/-- The list of groups, apart from a variable of another kind. -/
theorem tc_list {w : World} {p q s : Nat} (h1 : w.heap[p]? = some (.cells #[.int .i64 0] 3)) (h2 : w.heap[q]? = some (.cells #[.int .i64 1] 3)) (h3 : w.heap[s]? = some (.cells #[.slice (some ⟨p, 0, none⟩) 1 1, .slice (some ⟨q, 0, none⟩) 1 1] 67)) :
  HasSp w (fun _ => True) (some ⟨s, 0, none⟩) l0x1 ∧ ∀ g, w.heap[g]? = some (.cells #[.slice none 0 0, .int .i64 0, .slice none 0 0] 32) → HasSp w (fun b => b ≠ g) (some ⟨s, 0, none⟩) l0x1 := by
 have i1 : HasI w 0 (some ⟨p, 0, none⟩) [0] := (Li.list_of_block Sp.cellsI_len h1 rfl).lower (Nat.zero_le _)
 have i2 : HasI w 0 (some ⟨q, 0, none⟩) [1] := (Li.list_of_block Sp.cellsI_len h2 rfl).lower (Nat.zero_le _)
 have hl := (Li.list_of_block (l := [(⟨some ⟨p, 0, none⟩, 1, [0]⟩ : G), ⟨some ⟨q, 0, none⟩, 1, [1]⟩]) Sp.cellsG_len h3 rfl).lower (Nat.zero_le s)
 have key : ∀ X : Nat → Prop, X p → X q → X s → HasSp w X (some ⟨s, 0, none⟩) l0x1 := fun X xp xq xs => by
  refine ⟨[⟨some ⟨p, 0, none⟩, 1, [0]⟩, ⟨some ⟨q, 0, none⟩, 1, [1]⟩], rfl, hl, fun _ c o u e => ?_, fun x hx => ?_⟩
  ·injection e with e
   injection e with e1
   subst e1
   exact xs
  ·rcases List.mem_cons.1 hx with rfl | hx
   ·refine ⟨i1, Nat.le_refl _, fun _ c o u e => ?_⟩
    injection e with e
    injection e with e1
    subst e1
    exact xp
   ·rw [List.mem_singleton] at hx
    subst hx
    refine ⟨i2, Nat.le_refl _, fun _ c o u e => ?_⟩
    injection e with e
    injection e with e1
    subst e1
    exact xq
 refine ⟨key _ trivial trivial trivial, fun g hg => key _ ?_ ?_ ?_⟩
 ·rintro rfl
  rw [h1] at hg
  injection hg with hg
  injection hg with _ h
  cases h
 ·rintro rfl
  rw [h2] at hg
  injection hg with hg
  injection hg with _ h
  cases h
 ·rintro rfl
  rw [h3] at hg
  injection hg with hg
  injection hg with _ h
  cases h
theorem box3_of {w : World} {g : Nat} {a b c : Value} {t : TypeId} (h : w.heap[g]? = some (.cells #[a, b, c] t)) : Sc.Box3 w g a b c := by
 have hc : ∀ i, w.cell? ⟨g, i, none⟩ = (#[a, b, c] : Array Value)[i]? := fun i => cell_of_row w g i _ t (0, 0) h
 exact ⟨hc 0, hc 1, hc 2, fun i => by simp [World.frozen?, h]⟩
section
variable {cs : List C} {w : World} {X : Nat → Prop} {t : TV} {r : R} {g : Nat}
theorem HasT.offLe (h : HasT cs w X t r) (hg : w.heap.size ≤ g) : HasT cs w (fun b => b ≠ g) t r := (h.old (Y := fun b => b ≠ g) (fun b hb => by omega)).mono (fun _ h => h.2)
theorem HasLx.offLe {α : Type} {R : α → List Value} {k : Nat} {A : Option Addr} {l : List α} (h : HasLx R k w X A l) (hg : w.heap.size ≤ g) : HasLx R k w (fun b => b ≠ g) A l := ⟨h.1, on_of h.1 fun b _ hb => by omega⟩
end
def tcconts : List (List Nat × Tr) := [([0, 1, 2, 3, 4], (.alt 5 (.op 6 (.op 7 (.op 8 (.alt 9 (.alt 10 (.op 11 .fin) .fin) .fin)))) (.alt 9 (.alt 5 (.op 6 (.op 7 (.op 8 (.alt 10 (.op 11 .fin) .fin)))) .fin) .fin))), ([0, 1, 2, 3, 4, 9], (.alt 5 (.op 6 (.op 7 (.op 8 (.alt 10 (.op 11 .fin) .fin)))) .fin))]
theorem tcscan : scanG tcops [0, 1, 2, 3, 4, 9] [0, 1, 2, 3, 4] tcconts tcops.size (Array.replicate tcops.size false) = true := by kernel_rfl
theorem tcput0 (vs : Nat → Value) (a : Act) : putAll tcops [0, 1, 2, 3, 4] vs a = ((((a.put (some 43) (vs 0)).put (some 44) (vs 1)).put (some 45) (vs 2)).put (some 46) (vs 3)).put (some 47) (vs 4) := by kernel_rfl
theorem tcput1 (vs : Nat → Value) (a : Act) : putAll tcops [0, 1, 2, 3, 4, 9] vs a = (((((a.put (some 43) (vs 0)).put (some 44) (vs 1)).put (some 45) (vs 2)).put (some 46) (vs 3)).put (some 47) (vs 4)).put (some 8) (vs 9) := by kernel_rfl
end Go.Proofs.YtpnnkhpokangfaaDoor.Ti
