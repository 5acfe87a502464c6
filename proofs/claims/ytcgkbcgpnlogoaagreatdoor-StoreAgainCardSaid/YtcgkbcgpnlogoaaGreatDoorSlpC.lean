/- slices.BinarySearchFunc over pages in order. -/
import Derived.Test.YtcgkbcgpnlogoaaGreatDoorSlpB
import Derived.Test.YtcgkbcgpnlogoaaGreatDoorMgAH
import Derived.Test.YtcgkbcgpnlogoaaGreatDoorMgAC
namespace Go.Proofs.YtcgkbcgpnlogoaaGreatDoor.SlP
open Go.RowKit Pac Fv Lex

def pos : List E → Nat → Nat
 | [], _ => 0
 | y :: l, no => if y.no < no then pos l no + 1 else 0
def fnd (l : List E) (no : Nat) : Bool := match l[pos l no]? with
 | some y => decide (y.no = no)
 | none => false
def Up (l : List E) : Prop := l.Pairwise (fun a b => a.no < b.no)
section
variable {l : List E} {no i : Nat} {x y : E}
theorem up_lt : ∀ {l : List E}, Up l → ∀ {a b : Nat} {x y : E}, l[a]? = some x → l[b]? = some y → a < b → x.no < y.no
 | [], _, a, b, x, y, hx, _, _ => by simp at hx
 | z :: l, h, a, b, x, y, hx, hy, hab => by
  have h := List.pairwise_cons.1 h
  match b, hab, hy with
  | b + 1, hab, hy =>
   have hy : l[b]? = some y := by simpa using hy
   match a, hab, hx with
   | 0, _, hx =>
    have hx : z = x := by simpa using hx
    subst hx
    exact h.1 y (List.mem_of_getElem? hy)
   | a + 1, hab, hx => exact up_lt h.2 (by simpa using hx) hy (by omega)
theorem pos_of : ∀ {l : List E} {i : Nat}, i ≤ l.length → (∀ t y, t < i → l[t]? = some y → y.no < no) → (∀ t y, i ≤ t → l[t]? = some y → no ≤ y.no) → pos l no = i
 | [], i, hi, _, _ => by
  have : i = 0 := by simpa using hi
  subst this
  rfl
 | z :: l, 0, _, _, h2 => by
  have := h2 0 z (Nat.le_refl _) rfl
  unfold pos
  rw [if_neg (by omega)]
 | z :: l, i + 1, hi, h1, h2 => by
  have := h1 0 z (Nat.succ_pos _) rfl
  unfold pos
  rw [if_pos this, pos_of (l := l) (i := i) (by simpa using hi) (fun t y ht hy => h1 (t + 1) y (by omega) (by simpa using hy)) (fun t y ht hy => h2 (t + 1) y (by omega) (by simpa using hy))]
theorem pos_le : ∀ (l : List E) (no : Nat), pos l no ≤ l.length
 | [], _ => Nat.le_refl _
 | z :: l, no => by
  unfold pos
  have := pos_le l no
  split <;> simp <;> omega
theorem ins_set : ∀ {l : List E}, l[pos l x.no]? = some y → y.no = x.no → l.set (pos l x.no) x = St.insP l x
 | [], h, _ => by simp [pos] at h
 | z :: l, h, e => by
  unfold pos at h ⊢
  unfold St.insP
  by_cases hz : z.no < x.no
  ·rw [if_pos hz] at h ⊢
   rw [if_pos hz, List.set_cons_succ, ins_set (by simpa using h) e]
  ·rw [if_neg hz] at h ⊢
   have h : z = y := by simpa using h
   subst h
   rw [if_neg hz, if_pos e]
   rfl
theorem ins_new : ∀ {l : List E}, (∀ y, l[pos l x.no]? = some y → y.no ≠ x.no) → l.take (pos l x.no) ++ x :: l.drop (pos l x.no) = St.insP l x
 | [], _ => rfl
 | z :: l, h => by
  unfold pos at h ⊢
  unfold St.insP
  by_cases hz : z.no < x.no
  ·rw [if_pos hz] at h ⊢
   rw [if_pos hz, List.take_succ_cons, List.drop_succ_cons, List.cons_append, ins_new (fun y hy => h y (by simpa using hy))]
  ·rw [if_neg hz] at h ⊢
   have := h z rfl
   rw [if_neg hz, if_neg this]
   rfl
theorem find_at : ∀ {l : List E}, l[pos l no]? = some y → y.no = no → St.findP l no = some y
 | [], h, _ => by simp [pos] at h
 | z :: l, h, e => by
  unfold pos at h
  unfold St.findP
  by_cases hz : z.no < no
  ·rw [if_pos hz] at h
   rw [if_neg (by omega), find_at (by simpa using h) e]
  ·rw [if_neg hz] at h
   have h : z = y := by simpa using h
   subst h
   rw [if_pos e]
theorem find_all : ∀ {l : List E}, (∀ y ∈ l, y.no ≠ no) → St.findP l no = none
 | [], _ => rfl
 | z :: l, h => by
  unfold St.findP
  rw [if_neg (h z List.mem_cons_self), find_all fun y hy => h y (List.mem_cons_of_mem _ hy)]
theorem find_no : ∀ {l : List E}, Up l → (∀ y, l[pos l no]? = some y → y.no ≠ no) → St.findP l no = none
 | [], _, _ => rfl
 | z :: l, hu, h => by
  have hu' := List.pairwise_cons.1 hu
  unfold pos at h
  unfold St.findP
  by_cases hz : z.no < no
  ·rw [if_pos hz] at h
   rw [if_neg (by omega), find_no hu'.2 (fun y hy => h y (by simpa using hy))]
  ·rw [if_neg hz] at h
   have h1 := h z rfl
   rw [if_neg h1, find_all fun y hy => by have := hu'.1 y hy; omega]
theorem fnd_at (h : fnd l no = true) : ∃ y, l[pos l no]? = some y ∧ y.no = no := by
 unfold fnd at h
 cases hp : l[pos l no]? with
 | none => rw [hp] at h; cases h
 | some y => rw [hp] at h; exact ⟨y, rfl, of_decide_eq_true h⟩
theorem fnd_no (h : fnd l no = false) : ∀ y, l[pos l no]? = some y → y.no ≠ no := by
 intro y hy
 unfold fnd at h
 rw [hy] at h
 exact of_decide_eq_false h
theorem HasE.at {w : World} {lo : Nat} {A : Option Addr} {l : List E} (h : HasE w lo A l) {q : Nat} {e : E} (hq : l[q]? = some e) :
  ∃ b o, A = some ⟨b, o, none⟩ ∧ lo ≤ b ∧ b < w.heap.size ∧ w.rangeAt b (o + q * 2) (cellsE e) := by
 obtain ⟨b, o, hA, hlo, hlt, hc⟩ := h (fun e => by rw [e] at hq; simp at hq)
 exact ⟨b, o, hA, hlo, hlt, fun j v hj => hc q e hq j v hj⟩
end
def cmpI (a b : Int) : Int := if a < b then -1 else if b < a then 1 else 0
set_option maxRecDepth 20000 in
theorem compare_any (a b : Int) (w : World) : Calls Tryz.prog 159 #[.int .i64 a, .int .i64 b] w fun e w' => e = .returned (.int .i64 (cmpI a b)) ∧ Below w.heap.size w w' := by
 unfold cmpI
 have hB := Below.refl w.heap.size w
 by_cases h1 : a < b
 ·rw [if_pos h1]
  go_enter Tryz.func159, Tryz.ntmps159
  go_wp2
  all_goals first | exact hB | (go_ret; first | exact ⟨rfl, hB⟩ | exact hB)
 ·rw [if_neg h1]
  by_cases h2 : b < a
  ·rw [if_pos h2]
   go_enter Tryz.func159, Tryz.ntmps159
   go_wp2
   all_goals first | exact hB | (go_ret; first | exact ⟨rfl, hB⟩ | exact hB)
  ·rw [if_neg h2]
   go_enter Tryz.func159, Tryz.ntmps159
   go_wp2
   all_goals first | exact hB | (go_ret; first | exact ⟨rfl, hB⟩ | exact hB)
set_option maxRecDepth 20000 in
theorem by_any (a b : Int) (x y : ByteArray) (w : World) : Calls Tryz.prog 86 #[.agg #[.int .i64 a, .string x], .agg #[.int .i64 b, .string y]] w fun e w' => e = .returned (.int .i64 (cmpI a b)) ∧ Below w.heap.size w w' := by
 have F := Fv.Fr.start w
 go_enter Tryz.func86, Tryz.ntmps86
 go_wp2_with (first
  | ((with_reducible (show wpList _ _ _ (Oper.mk _ (Op.load _ _) _ _ _ none :: _) _ _)); first | refine Fv.wpL_loadN F rfl rfl rfl (by first | exact Fv.rt_Slab | exact Fv.rt_Head | exact Fv.rt_Store | exact Fv.rt_Clock | exact Fv.rt_Frame | exact Fv.rt_Page | exact Fv.rt_Image) (by repeat (first | exact Fv.At.head | apply Fv.At.tail)) (by repeat (first | exact Fv.Sub.nil _ | apply Fv.Sub.take | apply Fv.Sub.drop)) ?_ | refine Fv.wpL_load1 F rfl rfl rfl (by first | exact Fv.ot_int | exact Fv.ot_string | exact Fv.ot_bool | exact Fv.ot_Errno | exact Fv.ot_Images | exact Fv.ot_Pages) (by repeat (first | exact Fv.At.head | apply Fv.At.tail)) (by repeat (first | exact Fv.Sub.nil _ | apply Fv.Sub.take | apply Fv.Sub.drop)) ?_)
  | ((with_reducible (show wpList _ _ _ (Oper.mk _ (Op.store _ _ _) _ _ _ none :: _) _ _)); first | (refine Fv.wpL_storeN F rfl rfl rfl rfl (by first | exact Fv.rt_Slab | exact Fv.rt_Head | exact Fv.rt_Store | exact Fv.rt_Clock | exact Fv.rt_Frame | exact Fv.rt_Page | exact Fv.rt_Image) rfl (by first | rfl | simp [Value.oneCell']) (by (repeat (first | apply Fv.Upd.head | apply Fv.Upd.tail)); repeat (first | exact Fv.Put.nil _ | apply Fv.Put.take | apply Fv.Put.drop)) ?_; clear F; intro W F) | (refine Fv.wpL_store1 F rfl rfl rfl rfl (by first | exact Fv.ot_int | exact Fv.ot_string | exact Fv.ot_bool | exact Fv.ot_Errno | exact Fv.ot_Images | exact Fv.ot_Pages) (by first | rfl | simp [Value.oneCell']) (by (repeat (first | apply Fv.Upd.head | apply Fv.Upd.tail)); repeat (first | exact Fv.Put.nil _ | apply Fv.Put.take | apply Fv.Put.drop)) ?_; clear F; intro W F))
  | ((with_reducible (show wpList _ _ _ (Oper.mk _ (Op.alloc _) _ _ _ none :: _) _ _)); refine Fv.wpL_alloc F rfl rfl (by first | exact Fv.zt_Slab | exact Fv.zt_Head | exact Fv.zt_Frame | exact Fv.zt_Clock | exact Fv.zt_Page | exact Fv.zt_Image | exact Fv.zt_Store) ?_; clear F; intro g W hs1 hs2 F; clear hs1 hs2)
  | ((with_reducible (show wpList _ _ _ (Oper.mk _ (Op.box _ _) _ _ _ none :: _) _ _)); refine Fv.wpL_box F rfl rfl rfl rfl ?_; clear F; intro g W hs1 hs2 F; clear hs1 hs2)
  | (go_at_call 159; refine (compare_any _ _ _).mono ?_; rintro e w1 ⟨rfl, hv⟩; replace F := F.call hv; clear hv))
 go_ret
 exact ⟨rfl, F.B⟩
set_option maxRecDepth 20000 in
set_option maxHeartbeats 3200000 in
theorem bsearch_any {A : Option Addr} {n cp lo : Nat} {l : List E} {w : World} (no : Nat) (x : ByteArray) (hl : HasE w lo A l) (hn : l.length = n) (h9 : n ≤ 100000) (hu : Up l) :
  Calls Tryz.prog 85 #[.slice A n cp, .agg #[.int .i64 (no : Nat), .string x], .func (.func 86) #[] #[]] w fun e w' => e = .returned (.tuple #[.int .i64 (pos l no : Nat), .bool (fnd l no)]) ∧ Below w.heap.size w w' := by
 obtain ⟨rp, hrp⟩ : ∃ r, pos l no = r := ⟨_, rfl⟩
 obtain ⟨rf, hrf⟩ : ∃ r, fnd l no = r := ⟨_, rfl⟩
 rw [hrp, hrf]
 have HR := Lib.hid (And.intro hrp hrf)
 have HL := Lib.hid (And.intro hl (And.intro hn hu))
 clear hl hrp hrf hu
 have F := Fv.Fr.start w
 go_enter Tryz.func85, Tryz.ntmps85
 go_upto_region 3 with (first
  | ((with_reducible (show wpList _ _ _ (Oper.mk _ (Op.load _ _) _ _ _ none :: _) _ _)); first | refine Fv.wpL_loadN F rfl rfl rfl (by first | exact Fv.rt_Slab | exact Fv.rt_Head | exact Fv.rt_Store | exact Fv.rt_Clock | exact Fv.rt_Frame | exact Fv.rt_Page | exact Fv.rt_Image) (by repeat (first | exact Fv.At.head | apply Fv.At.tail)) (by repeat (first | exact Fv.Sub.nil _ | apply Fv.Sub.take | apply Fv.Sub.drop)) ?_ | refine Fv.wpL_load1 F rfl rfl rfl (by first | exact Fv.ot_int | exact Fv.ot_string | exact Fv.ot_bool | exact Fv.ot_Errno | exact Fv.ot_Images | exact Fv.ot_Pages) (by repeat (first | exact Fv.At.head | apply Fv.At.tail)) (by repeat (first | exact Fv.Sub.nil _ | apply Fv.Sub.take | apply Fv.Sub.drop)) ?_)
  | ((with_reducible (show wpList _ _ _ (Oper.mk _ (Op.store _ _ _) _ _ _ none :: _) _ _)); first | (refine Fv.wpL_storeN F rfl rfl rfl rfl (by first | exact Fv.rt_Slab | exact Fv.rt_Head | exact Fv.rt_Store | exact Fv.rt_Clock | exact Fv.rt_Frame | exact Fv.rt_Page | exact Fv.rt_Image) rfl (by first | rfl | simp [Value.oneCell']) (by (repeat (first | apply Fv.Upd.head | apply Fv.Upd.tail)); repeat (first | exact Fv.Put.nil _ | apply Fv.Put.take | apply Fv.Put.drop)) ?_; clear F; intro W F) | (refine Fv.wpL_store1 F rfl rfl rfl rfl (by first | exact Fv.ot_int | exact Fv.ot_string | exact Fv.ot_bool | exact Fv.ot_Errno | exact Fv.ot_Images | exact Fv.ot_Pages) (by first | rfl | simp [Value.oneCell']) (by (repeat (first | apply Fv.Upd.head | apply Fv.Upd.tail)); repeat (first | exact Fv.Put.nil _ | apply Fv.Put.take | apply Fv.Put.drop)) ?_; clear F; intro W F))
  | ((with_reducible (show wpList _ _ _ (Oper.mk _ (Op.alloc _) _ _ _ none :: _) _ _)); refine Fv.wpL_alloc F rfl rfl (by first | exact Fv.zt_Slab | exact Fv.zt_Head | exact Fv.zt_Frame | exact Fv.zt_Clock | exact Fv.zt_Page | exact Fv.zt_Image | exact Fv.zt_Store) ?_; clear F; intro g W hs1 hs2 F; clear hs1 hs2)
  | ((with_reducible (show wpList _ _ _ (Oper.mk _ (Op.box _ _) _ _ _ none :: _) _ _)); refine Fv.wpL_box F rfl rfl rfl rfl ?_; clear F; intro g W hs1 hs2 F; clear hs1 hs2))
 go_loopw [9, 10] (fun s9 s10 wr => ∃ a b : Nat, s9 = .int .i64 (a : Nat) ∧ s10 = .int .i64 (b : Nat) ∧ a ≤ b ∧ b ≤ n ∧ Hid (∀ t y, t < a → l[t]? = some y → y.no < no) ∧ Hid (∀ t y, b ≤ t → l[t]? = some y → no ≤ y.no) ∧ Fr w wr [(g, 133, [.int .i64 (no : Nat), .string x])] (fun _ _ => True)) (fun s9 s10 _ => (intOf s10).toNat - (intOf s9).toNat)
 case atStart => exact ⟨0, n, rfl, rfl, Nat.zero_le _, Nat.le_refl _, fun t y ht => absurd ht (Nat.not_lt_zero _), fun t y ht hy => absurd (List.getElem?_eq_some_iff.1 hy).1 (by omega), F⟩
 case round =>
  clear F
  obtain ⟨a, b, rfl, rfl, hab, hbn, hI1, hI2, F⟩ := hrel
  by_cases hlt : a < b
  ·have i1 : (a : Int) < (b : Int) := by omega
   obtain ⟨m, hm⟩ : ∃ m : Nat, m = (a + b) / 2 := ⟨_, rfl⟩
   have hm1 : ((a : Int) + (b : Int)) / 2 = (m : Nat) := by omega
   have hmn : m < l.length := by omega
   clear hm
   obtain ⟨e, he⟩ : ∃ e, l[m]? = some e := ⟨_, List.getElem?_eq_getElem hmn⟩
   obtain ⟨b0, o0, rfl, _, hb0, hR⟩ := HasE.at HL.out.1 he
   have hR2 := Lib.hid (fun W (hb : Below w.heap.size w W) => (show W.rangeAt b0 (o0 + m * 2) (cellsE e) from fun j v hj => (hb.cell (p := ⟨b0, o0 + m * 2 + j, none⟩) hb0).trans (hR j v hj)))
   clear hR hb0
   have hE := Lib.hid he
   have j0 : (0 : Int) ≤ (m : Int) := by omega
   have j1 : (m : Int) < (n : Int) := by omega
   clear he
   go_upto_region 5 with (first
    | ((with_reducible (show wpList _ _ _ (Oper.mk _ (Op.load _ _) _ _ _ none :: _) _ _)); first | refine Fv.wpL_loadN F rfl rfl rfl (by first | exact Fv.rt_Slab | exact Fv.rt_Head | exact Fv.rt_Store | exact Fv.rt_Clock | exact Fv.rt_Frame | exact Fv.rt_Page | exact Fv.rt_Image) (by repeat (first | exact Fv.At.head | apply Fv.At.tail)) (by repeat (first | exact Fv.Sub.nil _ | apply Fv.Sub.take | apply Fv.Sub.drop)) ?_ | refine Fv.wpL_load1 F rfl rfl rfl (by first | exact Fv.ot_int | exact Fv.ot_string | exact Fv.ot_bool | exact Fv.ot_Errno | exact Fv.ot_Images | exact Fv.ot_Pages) (by repeat (first | exact Fv.At.head | apply Fv.At.tail)) (by repeat (first | exact Fv.Sub.nil _ | apply Fv.Sub.take | apply Fv.Sub.drop)) ?_)
    | ((with_reducible (show wpList _ _ _ (Oper.mk _ (Op.store _ _ _) _ _ _ none :: _) _ _)); first | (refine Fv.wpL_storeN F rfl rfl rfl rfl (by first | exact Fv.rt_Slab | exact Fv.rt_Head | exact Fv.rt_Store | exact Fv.rt_Clock | exact Fv.rt_Frame | exact Fv.rt_Page | exact Fv.rt_Image) rfl (by first | rfl | simp [Value.oneCell']) (by (repeat (first | apply Fv.Upd.head | apply Fv.Upd.tail)); repeat (first | exact Fv.Put.nil _ | apply Fv.Put.take | apply Fv.Put.drop)) ?_; clear F; intro W F) | (refine Fv.wpL_store1 F rfl rfl rfl rfl (by first | exact Fv.ot_int | exact Fv.ot_string | exact Fv.ot_bool | exact Fv.ot_Errno | exact Fv.ot_Images | exact Fv.ot_Pages) (by first | rfl | simp [Value.oneCell']) (by (repeat (first | apply Fv.Upd.head | apply Fv.Upd.tail)); repeat (first | exact Fv.Put.nil _ | apply Fv.Put.take | apply Fv.Put.drop)) ?_; clear F; intro W F))
    | ((with_reducible (show wpList _ _ _ (Oper.mk _ (Op.alloc _) _ _ _ none :: _) _ _)); refine Fv.wpL_alloc F rfl rfl (by first | exact Fv.zt_Slab | exact Fv.zt_Head | exact Fv.zt_Frame | exact Fv.zt_Clock | exact Fv.zt_Page | exact Fv.zt_Image | exact Fv.zt_Store) ?_; clear F; intro g W hs1 hs2 F; clear hs1 hs2)
    | ((with_reducible (show wpList _ _ _ (Oper.mk _ (Op.box _ _) _ _ _ none :: _) _ _)); refine Fv.wpL_box F rfl rfl rfl rfl ?_; clear F; intro g W hs1 hs2 F; clear hs1 hs2))
   try rw [hm1]
   refine Lex.region_lex (ops := bpops) (calls := bpcalls) bpord (Fv.FrS _ _ _) (by kernel_rfl) (by kernel_rfl) bpsel (by kernel_rfl) (by kernel_rfl) bplex F.drew ?_
   replace F := F.drew
   unfold bpord
   refine Lex.step_take _ bp0 rfl (Lex.want_none rfl) (by intro Wx hSw; clear hSw; go_simp; try (first | (with_reducible rfl) | rfl)) ?_
   simp only [Act.put, List.setIfInBounds_toArray, List.set_cons_zero, List.set_cons_succ]
   refine Lex.step_take _ bp1 rfl (Lex.want_none rfl) (by intro Wx hSw; clear hSw; go_simp; try (first | (with_reducible rfl) | rfl)) ?_
   simp only [Act.put, List.setIfInBounds_toArray, List.set_cons_zero, List.set_cons_succ]
   refine Lex.step_take _ bp2 rfl (Lex.want_none rfl) (by intro Wx hSw; clear hSw; go_simp; try (first | (with_reducible rfl) | rfl)) ?_
   simp only [Act.put, List.setIfInBounds_toArray, List.set_cons_zero, List.set_cons_succ]
   refine Lex.step_take _ bp3 rfl (Lex.want_none rfl) (by intro Wx hSw; clear hSw; go_simp; try (first | (with_reducible rfl) | rfl)) ?_
   simp only [Act.put, List.setIfInBounds_toArray, List.set_cons_zero, List.set_cons_succ]
   refine Lex.step_take _ bp4 rfl (Lex.want_none rfl) (by intro Wx hSw; exact Fv.run_loadR (hR2.out Wx hSw.B) rfl rfl Fv.rt_Page rfl) ?_
   simp only [Act.put, List.setIfInBounds_toArray, List.set_cons_zero, List.set_cons_succ]
   refine Lex.step_take _ bp5 rfl (Lex.want_none rfl) (by intro Wx hSw; exact Fv.run_loadN hSw rfl rfl Fv.rt_Page (by repeat (first | exact Fv.At.head | apply Fv.At.tail)) (by repeat (first | exact Fv.Sub.nil _ | apply Fv.Sub.take | apply Fv.Sub.drop))) ?_
   simp only [Act.put, List.setIfInBounds_toArray, List.set_cons_zero, List.set_cons_succ]
   refine Lex.step_call bp6 rfl (Lex.want_none rfl) (fun K hK => ?_)
   go_simp
   refine (by_any _ _ _ _ _).mono ?_
   rintro e1 w1 ⟨rfl, hv⟩
   replace F := F.call hv
   clear hv
   refine hK.out (Fv.FrS _ _ _) _ _ (fun _ h => Fv.Fr.weak h (by intro L w h; first | exact h | exact h.1 | exact h.1.1)) F ?_
   clear hK K
   try simp only [Act.put, List.setIfInBounds_toArray, List.set_cons_zero, List.set_cons_succ]
   refine Lex.step_take _ bp7 rfl (Lex.want_none rfl) (by intro Wx hSw; clear hSw; go_simp; try (first | (with_reducible rfl) | rfl)) ?_
   simp only [Act.put, List.setIfInBounds_toArray, List.set_cons_zero, List.set_cons_succ]
   refine NoPanic.normal ?_
   unfold cmpI
   by_cases hk : e.no < no
   ·have k1 : (e.no : Int) < (no : Int) := by omega
    go_wp2_with (first
     | ((with_reducible (show wpList _ _ _ (Oper.mk _ (Op.load _ _) _ _ _ none :: _) _ _)); first | refine Fv.wpL_loadN F rfl rfl rfl (by first | exact Fv.rt_Slab | exact Fv.rt_Head | exact Fv.rt_Store | exact Fv.rt_Clock | exact Fv.rt_Frame | exact Fv.rt_Page | exact Fv.rt_Image) (by repeat (first | exact Fv.At.head | apply Fv.At.tail)) (by repeat (first | exact Fv.Sub.nil _ | apply Fv.Sub.take | apply Fv.Sub.drop)) ?_ | refine Fv.wpL_load1 F rfl rfl rfl (by first | exact Fv.ot_int | exact Fv.ot_string | exact Fv.ot_bool | exact Fv.ot_Errno | exact Fv.ot_Images | exact Fv.ot_Pages) (by repeat (first | exact Fv.At.head | apply Fv.At.tail)) (by repeat (first | exact Fv.Sub.nil _ | apply Fv.Sub.take | apply Fv.Sub.drop)) ?_)
     | ((with_reducible (show wpList _ _ _ (Oper.mk _ (Op.store _ _ _) _ _ _ none :: _) _ _)); first | (refine Fv.wpL_storeN F rfl rfl rfl rfl (by first | exact Fv.rt_Slab | exact Fv.rt_Head | exact Fv.rt_Store | exact Fv.rt_Clock | exact Fv.rt_Frame | exact Fv.rt_Page | exact Fv.rt_Image) rfl (by first | rfl | simp [Value.oneCell']) (by (repeat (first | apply Fv.Upd.head | apply Fv.Upd.tail)); repeat (first | exact Fv.Put.nil _ | apply Fv.Put.take | apply Fv.Put.drop)) ?_; clear F; intro W F) | (refine Fv.wpL_store1 F rfl rfl rfl rfl (by first | exact Fv.ot_int | exact Fv.ot_string | exact Fv.ot_bool | exact Fv.ot_Errno | exact Fv.ot_Images | exact Fv.ot_Pages) (by first | rfl | simp [Value.oneCell']) (by (repeat (first | apply Fv.Upd.head | apply Fv.Upd.tail)); repeat (first | exact Fv.Put.nil _ | apply Fv.Put.take | apply Fv.Put.drop)) ?_; clear F; intro W F))
     | ((with_reducible (show wpList _ _ _ (Oper.mk _ (Op.alloc _) _ _ _ none :: _) _ _)); refine Fv.wpL_alloc F rfl rfl (by first | exact Fv.zt_Slab | exact Fv.zt_Head | exact Fv.zt_Frame | exact Fv.zt_Clock | exact Fv.zt_Page | exact Fv.zt_Image | exact Fv.zt_Store) ?_; clear F; intro g W hs1 hs2 F; clear hs1 hs2)
     | ((with_reducible (show wpList _ _ _ (Oper.mk _ (Op.box _ _) _ _ _ none :: _) _ _)); refine Fv.wpL_box F rfl rfl rfl rfl ?_; clear F; intro g W hs1 hs2 F; clear hs1 hs2))
    go_roundw
    case rel =>
     refine ⟨m + 1, b, by go_num, rfl, by omega, hbn, fun t y ht hy => ?_, hI2, F⟩
     by_cases ht2 : t = m
     ·subst ht2
      rw [hE.out] at hy
      injection hy with hy
      rw [← hy]
      exact hk
     ·have := up_lt HL.out.2.2 hy hE.out (by omega)
      omega
    case measure => simp [intOf]; omega
   ·have k1 : ¬ (e.no : Int) < (no : Int) := by omega
    go_wp2_with (first
     | ((with_reducible (show wpList _ _ _ (Oper.mk _ (Op.load _ _) _ _ _ none :: _) _ _)); first | refine Fv.wpL_loadN F rfl rfl rfl (by first | exact Fv.rt_Slab | exact Fv.rt_Head | exact Fv.rt_Store | exact Fv.rt_Clock | exact Fv.rt_Frame | exact Fv.rt_Page | exact Fv.rt_Image) (by repeat (first | exact Fv.At.head | apply Fv.At.tail)) (by repeat (first | exact Fv.Sub.nil _ | apply Fv.Sub.take | apply Fv.Sub.drop)) ?_ | refine Fv.wpL_load1 F rfl rfl rfl (by first | exact Fv.ot_int | exact Fv.ot_string | exact Fv.ot_bool | exact Fv.ot_Errno | exact Fv.ot_Images | exact Fv.ot_Pages) (by repeat (first | exact Fv.At.head | apply Fv.At.tail)) (by repeat (first | exact Fv.Sub.nil _ | apply Fv.Sub.take | apply Fv.Sub.drop)) ?_)
     | ((with_reducible (show wpList _ _ _ (Oper.mk _ (Op.store _ _ _) _ _ _ none :: _) _ _)); first | (refine Fv.wpL_storeN F rfl rfl rfl rfl (by first | exact Fv.rt_Slab | exact Fv.rt_Head | exact Fv.rt_Store | exact Fv.rt_Clock | exact Fv.rt_Frame | exact Fv.rt_Page | exact Fv.rt_Image) rfl (by first | rfl | simp [Value.oneCell']) (by (repeat (first | apply Fv.Upd.head | apply Fv.Upd.tail)); repeat (first | exact Fv.Put.nil _ | apply Fv.Put.take | apply Fv.Put.drop)) ?_; clear F; intro W F) | (refine Fv.wpL_store1 F rfl rfl rfl rfl (by first | exact Fv.ot_int | exact Fv.ot_string | exact Fv.ot_bool | exact Fv.ot_Errno | exact Fv.ot_Images | exact Fv.ot_Pages) (by first | rfl | simp [Value.oneCell']) (by (repeat (first | apply Fv.Upd.head | apply Fv.Upd.tail)); repeat (first | exact Fv.Put.nil _ | apply Fv.Put.take | apply Fv.Put.drop)) ?_; clear F; intro W F))
     | ((with_reducible (show wpList _ _ _ (Oper.mk _ (Op.alloc _) _ _ _ none :: _) _ _)); refine Fv.wpL_alloc F rfl rfl (by first | exact Fv.zt_Slab | exact Fv.zt_Head | exact Fv.zt_Frame | exact Fv.zt_Clock | exact Fv.zt_Page | exact Fv.zt_Image | exact Fv.zt_Store) ?_; clear F; intro g W hs1 hs2 F; clear hs1 hs2)
     | ((with_reducible (show wpList _ _ _ (Oper.mk _ (Op.box _ _) _ _ _ none :: _) _ _)); refine Fv.wpL_box F rfl rfl rfl rfl ?_; clear F; intro g W hs1 hs2 F; clear hs1 hs2))
    all_goals
     go_roundw
     case rel =>
      refine ⟨a, m, rfl, rfl, by omega, by omega, hI1, fun t y ht hy => ?_, F⟩
      by_cases ht2 : t = m
      ·subst ht2
       rw [hE.out] at hy
       injection hy with hy
       rw [← hy]
       omega
      ·have := up_lt HL.out.2.2 hE.out hy (by omega)
       omega
     case measure => simp [intOf]; omega
  ·obtain rfl : a = b := by omega
   have i1 : ¬ (a : Int) < (a : Int) := by omega
   have hp := pos_of (by omega) hI1 hI2
   obtain rfl : a = rp := by rw [← HR.out.1, hp]
   by_cases han : a < n
   ·have i2 : (a : Int) < (n : Int) := by omega
    have han2 : a < l.length := by omega
    obtain ⟨e, he⟩ : ∃ e, l[a]? = some e := ⟨_, List.getElem?_eq_getElem han2⟩
    obtain ⟨b0, o0, rfl, _, hb0, hR⟩ := HasE.at HL.out.1 he
    have hR2 := Lib.hid (fun W (hb : Below w.heap.size w W) => (show W.rangeAt b0 (o0 + a * 2) (cellsE e) from fun j v hj => (hb.cell (p := ⟨b0, o0 + a * 2 + j, none⟩) hb0).trans (hR j v hj)))
    clear hR hb0
    have hE := Lib.hid he
    have j0 : (0 : Int) ≤ (a : Int) := by omega
    have hf : rf = decide (e.no = no) := by
     rw [← HR.out.2]
     unfold fnd
     rw [hp, he]
    clear he
    by_cases hk : e.no = no
    ·have hf : rf = true := by rw [hf, hk]; exact decide_eq_true rfl
     have HbyNo := Lib.hid (fun W => by_any (e.no : Nat) (no : Nat) (e.data) x W)
     rw [show cmpI ((e.no : Nat) : Int) ((no : Nat) : Int) = 0 by unfold cmpI; rw [hk, if_neg (Int.lt_irrefl _), if_neg (Int.lt_irrefl _)]] at HbyNo
     go_upto_region 8 with (first
      | ((with_reducible (show wpList _ _ _ (Oper.mk _ (Op.load _ _) _ _ _ none :: _) _ _)); first | refine Fv.wpL_loadN F rfl rfl rfl (by first | exact Fv.rt_Slab | exact Fv.rt_Head | exact Fv.rt_Store | exact Fv.rt_Clock | exact Fv.rt_Frame | exact Fv.rt_Page | exact Fv.rt_Image) (by repeat (first | exact Fv.At.head | apply Fv.At.tail)) (by repeat (first | exact Fv.Sub.nil _ | apply Fv.Sub.take | apply Fv.Sub.drop)) ?_ | refine Fv.wpL_load1 F rfl rfl rfl (by first | exact Fv.ot_int | exact Fv.ot_string | exact Fv.ot_bool | exact Fv.ot_Errno | exact Fv.ot_Images | exact Fv.ot_Pages) (by repeat (first | exact Fv.At.head | apply Fv.At.tail)) (by repeat (first | exact Fv.Sub.nil _ | apply Fv.Sub.take | apply Fv.Sub.drop)) ?_)
      | ((with_reducible (show wpList _ _ _ (Oper.mk _ (Op.store _ _ _) _ _ _ none :: _) _ _)); first | (refine Fv.wpL_storeN F rfl rfl rfl rfl (by first | exact Fv.rt_Slab | exact Fv.rt_Head | exact Fv.rt_Store | exact Fv.rt_Clock | exact Fv.rt_Frame | exact Fv.rt_Page | exact Fv.rt_Image) rfl (by first | rfl | simp [Value.oneCell']) (by (repeat (first | apply Fv.Upd.head | apply Fv.Upd.tail)); repeat (first | exact Fv.Put.nil _ | apply Fv.Put.take | apply Fv.Put.drop)) ?_; clear F; intro W F) | (refine Fv.wpL_store1 F rfl rfl rfl rfl (by first | exact Fv.ot_int | exact Fv.ot_string | exact Fv.ot_bool | exact Fv.ot_Errno | exact Fv.ot_Images | exact Fv.ot_Pages) (by first | rfl | simp [Value.oneCell']) (by (repeat (first | apply Fv.Upd.head | apply Fv.Upd.tail)); repeat (first | exact Fv.Put.nil _ | apply Fv.Put.take | apply Fv.Put.drop)) ?_; clear F; intro W F))
      | ((with_reducible (show wpList _ _ _ (Oper.mk _ (Op.alloc _) _ _ _ none :: _) _ _)); refine Fv.wpL_alloc F rfl rfl (by first | exact Fv.zt_Slab | exact Fv.zt_Head | exact Fv.zt_Frame | exact Fv.zt_Clock | exact Fv.zt_Page | exact Fv.zt_Image | exact Fv.zt_Store) ?_; clear F; intro g W hs1 hs2 F; clear hs1 hs2)
      | ((with_reducible (show wpList _ _ _ (Oper.mk _ (Op.box _ _) _ _ _ none :: _) _ _)); refine Fv.wpL_box F rfl rfl rfl rfl ?_; clear F; intro g W hs1 hs2 F; clear hs1 hs2))
     refine Lex.region_lex (ops := bpeops) (calls := bpecalls) bpeord (Fv.FrS _ _ _) (by kernel_rfl) (by kernel_rfl) bpesel (by kernel_rfl) (by kernel_rfl) bpelex F.drew ?_
     replace F := F.drew
     unfold bpeord
     refine Lex.step_take _ bpe0 rfl (Lex.want_none rfl) (by intro Wx hSw; clear hSw; go_simp; try (first | (with_reducible rfl) | rfl)) ?_
     simp only [Act.put, List.setIfInBounds_toArray, List.set_cons_zero, List.set_cons_succ]
     refine Lex.step_take _ bpe1 rfl (Lex.want_none rfl) (by intro Wx hSw; clear hSw; go_simp; try (first | (with_reducible rfl) | rfl)) ?_
     simp only [Act.put, List.setIfInBounds_toArray, List.set_cons_zero, List.set_cons_succ]
     refine Lex.step_take _ bpe2 rfl (Lex.want_none rfl) (by intro Wx hSw; clear hSw; go_simp; try (first | (with_reducible rfl) | rfl)) ?_
     simp only [Act.put, List.setIfInBounds_toArray, List.set_cons_zero, List.set_cons_succ]
     refine Lex.step_take _ bpe3 rfl (Lex.want_none rfl) (by intro Wx hSw; clear hSw; go_simp; try (first | (with_reducible rfl) | rfl)) ?_
     simp only [Act.put, List.setIfInBounds_toArray, List.set_cons_zero, List.set_cons_succ]
     refine Lex.step_take _ bpe4 rfl (Lex.want_none rfl) (by intro Wx hSw; clear hSw; go_simp; try (first | (with_reducible rfl) | rfl)) ?_
     simp only [Act.put, List.setIfInBounds_toArray, List.set_cons_zero, List.set_cons_succ]
     refine Lex.step_take _ bpe5 rfl (Lex.want_some rfl bpe4 rfl (b' := true) rfl rfl) (by intro Wx hSw; clear hSw; go_simp; try (first | (with_reducible rfl) | rfl)) ?_
     simp only [Act.put, List.setIfInBounds_toArray, List.set_cons_zero, List.set_cons_succ]
     refine Lex.step_take _ bpe6 rfl (Lex.want_some rfl bpe4 rfl (b' := true) rfl rfl) (by intro Wx hSw; clear hSw; go_simp; try (first | (with_reducible rfl) | rfl)) ?_
     simp only [Act.put, List.setIfInBounds_toArray, List.set_cons_zero, List.set_cons_succ]
     refine Lex.step_take _ bpe7 rfl (Lex.want_some rfl bpe4 rfl (b' := true) rfl rfl) (by intro Wx hSw; clear hSw; go_simp; try (first | (with_reducible rfl) | rfl)) ?_
     simp only [Act.put, List.setIfInBounds_toArray, List.set_cons_zero, List.set_cons_succ]
     refine Lex.step_take _ bpe8 rfl (Lex.want_some rfl bpe4 rfl (b' := true) rfl rfl) (by intro Wx hSw; clear hSw; go_simp; try (first | (with_reducible rfl) | rfl)) ?_
     simp only [Act.put, List.setIfInBounds_toArray, List.set_cons_zero, List.set_cons_succ]
     refine Lex.step_take _ bpe9 rfl (Lex.want_some rfl bpe4 rfl (b' := true) rfl rfl) (by intro Wx hSw; exact Fv.run_loadR (hR2.out Wx hSw.B) rfl rfl Fv.rt_Page rfl) ?_
     simp only [Act.put, List.setIfInBounds_toArray, List.set_cons_zero, List.set_cons_succ]
     refine Lex.step_take _ bpe10 rfl (Lex.want_some rfl bpe4 rfl (b' := true) rfl rfl) (by intro Wx hSw; exact Fv.run_loadN hSw rfl rfl Fv.rt_Page (by repeat (first | exact Fv.At.head | apply Fv.At.tail)) (by repeat (first | exact Fv.Sub.nil _ | apply Fv.Sub.take | apply Fv.Sub.drop))) ?_
     simp only [Act.put, List.setIfInBounds_toArray, List.set_cons_zero, List.set_cons_succ]
     refine Lex.step_call bpe11 rfl (Lex.want_some rfl bpe4 rfl (b' := true) rfl rfl) (fun K hK => ?_)
     go_simp
     refine (HbyNo.out _).mono ?_
     rintro e1 w1 ⟨rfl, hv⟩
     replace F := F.call hv
     clear hv
     refine hK.out (Fv.FrS _ _ _) _ _ (fun _ h => Fv.Fr.weak h (by intro L w h; first | exact h | exact h.1 | exact h.1.1)) F ?_
     clear hK K
     try simp only [Act.put, List.setIfInBounds_toArray, List.set_cons_zero, List.set_cons_succ]
     refine Lex.step_take _ bpe12 rfl (Lex.want_some rfl bpe4 rfl (b' := true) rfl rfl) (by intro Wx hSw; clear hSw; go_simp; try (first | (with_reducible rfl) | rfl)) ?_
     simp only [Act.put, List.setIfInBounds_toArray, List.set_cons_zero, List.set_cons_succ]
     refine Lex.step_take _ bpe13 rfl (Lex.want_none rfl) (by intro Wx hSw; clear hSw; go_simp; try (first | (with_reducible rfl) | rfl)) ?_
     simp only [Act.put, List.setIfInBounds_toArray, List.set_cons_zero, List.set_cons_succ]
     refine Lex.step_take _ bpe14 rfl (Lex.want_none rfl) (by intro Wx hSw; clear hSw; go_simp; try (first | (with_reducible rfl) | rfl)) ?_
     simp only [Act.put, List.setIfInBounds_toArray, List.set_cons_zero, List.set_cons_succ]
     refine Lex.step_take _ bpe15 rfl (Lex.want_none rfl) (by intro Wx hSw; clear hSw; go_simp; try (first | (with_reducible rfl) | rfl)) ?_
     simp only [Act.put, List.setIfInBounds_toArray, List.set_cons_zero, List.set_cons_succ]
     refine NoPanic.normal ?_
     go_wp2_with (first
      | ((with_reducible (show wpList _ _ _ (Oper.mk _ (Op.load _ _) _ _ _ none :: _) _ _)); first | refine Fv.wpL_loadN F rfl rfl rfl (by first | exact Fv.rt_Slab | exact Fv.rt_Head | exact Fv.rt_Store | exact Fv.rt_Clock | exact Fv.rt_Frame | exact Fv.rt_Page | exact Fv.rt_Image) (by repeat (first | exact Fv.At.head | apply Fv.At.tail)) (by repeat (first | exact Fv.Sub.nil _ | apply Fv.Sub.take | apply Fv.Sub.drop)) ?_ | refine Fv.wpL_load1 F rfl rfl rfl (by first | exact Fv.ot_int | exact Fv.ot_string | exact Fv.ot_bool | exact Fv.ot_Errno | exact Fv.ot_Images | exact Fv.ot_Pages) (by repeat (first | exact Fv.At.head | apply Fv.At.tail)) (by repeat (first | exact Fv.Sub.nil _ | apply Fv.Sub.take | apply Fv.Sub.drop)) ?_)
      | ((with_reducible (show wpList _ _ _ (Oper.mk _ (Op.store _ _ _) _ _ _ none :: _) _ _)); first | (refine Fv.wpL_storeN F rfl rfl rfl rfl (by first | exact Fv.rt_Slab | exact Fv.rt_Head | exact Fv.rt_Store | exact Fv.rt_Clock | exact Fv.rt_Frame | exact Fv.rt_Page | exact Fv.rt_Image) rfl (by first | rfl | simp [Value.oneCell']) (by (repeat (first | apply Fv.Upd.head | apply Fv.Upd.tail)); repeat (first | exact Fv.Put.nil _ | apply Fv.Put.take | apply Fv.Put.drop)) ?_; clear F; intro W F) | (refine Fv.wpL_store1 F rfl rfl rfl rfl (by first | exact Fv.ot_int | exact Fv.ot_string | exact Fv.ot_bool | exact Fv.ot_Errno | exact Fv.ot_Images | exact Fv.ot_Pages) (by first | rfl | simp [Value.oneCell']) (by (repeat (first | apply Fv.Upd.head | apply Fv.Upd.tail)); repeat (first | exact Fv.Put.nil _ | apply Fv.Put.take | apply Fv.Put.drop)) ?_; clear F; intro W F))
      | ((with_reducible (show wpList _ _ _ (Oper.mk _ (Op.alloc _) _ _ _ none :: _) _ _)); refine Fv.wpL_alloc F rfl rfl (by first | exact Fv.zt_Slab | exact Fv.zt_Head | exact Fv.zt_Frame | exact Fv.zt_Clock | exact Fv.zt_Page | exact Fv.zt_Image | exact Fv.zt_Store) ?_; clear F; intro g W hs1 hs2 F; clear hs1 hs2)
      | ((with_reducible (show wpList _ _ _ (Oper.mk _ (Op.box _ _) _ _ _ none :: _) _ _)); refine Fv.wpL_box F rfl rfl rfl rfl ?_; clear F; intro g W hs1 hs2 F; clear hs1 hs2))
     go_ret2
     first | exact ⟨rfl, F.B⟩ | exact F.B
    ·have hf : rf = false := by rw [hf]; exact decide_eq_false hk
     have hk2 := hI2 a e (Nat.le_refl _) hE.out
     have HbyNo := Lib.hid (fun W => by_any (e.no : Nat) (no : Nat) (e.data) x W)
     rw [show cmpI ((e.no : Nat) : Int) ((no : Nat) : Int) = 1 by unfold cmpI; rw [if_neg (by omega), if_pos (by omega)]] at HbyNo
     go_upto_region 8 with (first
      | ((with_reducible (show wpList _ _ _ (Oper.mk _ (Op.load _ _) _ _ _ none :: _) _ _)); first | refine Fv.wpL_loadN F rfl rfl rfl (by first | exact Fv.rt_Slab | exact Fv.rt_Head | exact Fv.rt_Store | exact Fv.rt_Clock | exact Fv.rt_Frame | exact Fv.rt_Page | exact Fv.rt_Image) (by repeat (first | exact Fv.At.head | apply Fv.At.tail)) (by repeat (first | exact Fv.Sub.nil _ | apply Fv.Sub.take | apply Fv.Sub.drop)) ?_ | refine Fv.wpL_load1 F rfl rfl rfl (by first | exact Fv.ot_int | exact Fv.ot_string | exact Fv.ot_bool | exact Fv.ot_Errno | exact Fv.ot_Images | exact Fv.ot_Pages) (by repeat (first | exact Fv.At.head | apply Fv.At.tail)) (by repeat (first | exact Fv.Sub.nil _ | apply Fv.Sub.take | apply Fv.Sub.drop)) ?_)
      | ((with_reducible (show wpList _ _ _ (Oper.mk _ (Op.store _ _ _) _ _ _ none :: _) _ _)); first | (refine Fv.wpL_storeN F rfl rfl rfl rfl (by first | exact Fv.rt_Slab | exact Fv.rt_Head | exact Fv.rt_Store | exact Fv.rt_Clock | exact Fv.rt_Frame | exact Fv.rt_Page | exact Fv.rt_Image) rfl (by first | rfl | simp [Value.oneCell']) (by (repeat (first | apply Fv.Upd.head | apply Fv.Upd.tail)); repeat (first | exact Fv.Put.nil _ | apply Fv.Put.take | apply Fv.Put.drop)) ?_; clear F; intro W F) | (refine Fv.wpL_store1 F rfl rfl rfl rfl (by first | exact Fv.ot_int | exact Fv.ot_string | exact Fv.ot_bool | exact Fv.ot_Errno | exact Fv.ot_Images | exact Fv.ot_Pages) (by first | rfl | simp [Value.oneCell']) (by (repeat (first | apply Fv.Upd.head | apply Fv.Upd.tail)); repeat (first | exact Fv.Put.nil _ | apply Fv.Put.take | apply Fv.Put.drop)) ?_; clear F; intro W F))
      | ((with_reducible (show wpList _ _ _ (Oper.mk _ (Op.alloc _) _ _ _ none :: _) _ _)); refine Fv.wpL_alloc F rfl rfl (by first | exact Fv.zt_Slab | exact Fv.zt_Head | exact Fv.zt_Frame | exact Fv.zt_Clock | exact Fv.zt_Page | exact Fv.zt_Image | exact Fv.zt_Store) ?_; clear F; intro g W hs1 hs2 F; clear hs1 hs2)
      | ((with_reducible (show wpList _ _ _ (Oper.mk _ (Op.box _ _) _ _ _ none :: _) _ _)); refine Fv.wpL_box F rfl rfl rfl rfl ?_; clear F; intro g W hs1 hs2 F; clear hs1 hs2))
     refine Lex.region_lex (ops := bpeops) (calls := bpecalls) bpeord (Fv.FrS _ _ _) (by kernel_rfl) (by kernel_rfl) bpesel (by kernel_rfl) (by kernel_rfl) bpelex F.drew ?_
     replace F := F.drew
     unfold bpeord
     refine Lex.step_take _ bpe0 rfl (Lex.want_none rfl) (by intro Wx hSw; clear hSw; go_simp; try (first | (with_reducible rfl) | rfl)) ?_
     simp only [Act.put, List.setIfInBounds_toArray, List.set_cons_zero, List.set_cons_succ]
     refine Lex.step_take _ bpe1 rfl (Lex.want_none rfl) (by intro Wx hSw; clear hSw; go_simp; try (first | (with_reducible rfl) | rfl)) ?_
     simp only [Act.put, List.setIfInBounds_toArray, List.set_cons_zero, List.set_cons_succ]
     refine Lex.step_take _ bpe2 rfl (Lex.want_none rfl) (by intro Wx hSw; clear hSw; go_simp; try (first | (with_reducible rfl) | rfl)) ?_
     simp only [Act.put, List.setIfInBounds_toArray, List.set_cons_zero, List.set_cons_succ]
     refine Lex.step_take _ bpe3 rfl (Lex.want_none rfl) (by intro Wx hSw; clear hSw; go_simp; try (first | (with_reducible rfl) | rfl)) ?_
     simp only [Act.put, List.setIfInBounds_toArray, List.set_cons_zero, List.set_cons_succ]
     refine Lex.step_take _ bpe4 rfl (Lex.want_none rfl) (by intro Wx hSw; clear hSw; go_simp; try (first | (with_reducible rfl) | rfl)) ?_
     simp only [Act.put, List.setIfInBounds_toArray, List.set_cons_zero, List.set_cons_succ]
     refine Lex.step_take _ bpe5 rfl (Lex.want_some rfl bpe4 rfl (b' := true) rfl rfl) (by intro Wx hSw; clear hSw; go_simp; try (first | (with_reducible rfl) | rfl)) ?_
     simp only [Act.put, List.setIfInBounds_toArray, List.set_cons_zero, List.set_cons_succ]
     refine Lex.step_take _ bpe6 rfl (Lex.want_some rfl bpe4 rfl (b' := true) rfl rfl) (by intro Wx hSw; clear hSw; go_simp; try (first | (with_reducible rfl) | rfl)) ?_
     simp only [Act.put, List.setIfInBounds_toArray, List.set_cons_zero, List.set_cons_succ]
     refine Lex.step_take _ bpe7 rfl (Lex.want_some rfl bpe4 rfl (b' := true) rfl rfl) (by intro Wx hSw; clear hSw; go_simp; try (first | (with_reducible rfl) | rfl)) ?_
     simp only [Act.put, List.setIfInBounds_toArray, List.set_cons_zero, List.set_cons_succ]
     refine Lex.step_take _ bpe8 rfl (Lex.want_some rfl bpe4 rfl (b' := true) rfl rfl) (by intro Wx hSw; clear hSw; go_simp; try (first | (with_reducible rfl) | rfl)) ?_
     simp only [Act.put, List.setIfInBounds_toArray, List.set_cons_zero, List.set_cons_succ]
     refine Lex.step_take _ bpe9 rfl (Lex.want_some rfl bpe4 rfl (b' := true) rfl rfl) (by intro Wx hSw; exact Fv.run_loadR (hR2.out Wx hSw.B) rfl rfl Fv.rt_Page rfl) ?_
     simp only [Act.put, List.setIfInBounds_toArray, List.set_cons_zero, List.set_cons_succ]
     refine Lex.step_take _ bpe10 rfl (Lex.want_some rfl bpe4 rfl (b' := true) rfl rfl) (by intro Wx hSw; exact Fv.run_loadN hSw rfl rfl Fv.rt_Page (by repeat (first | exact Fv.At.head | apply Fv.At.tail)) (by repeat (first | exact Fv.Sub.nil _ | apply Fv.Sub.take | apply Fv.Sub.drop))) ?_
     simp only [Act.put, List.setIfInBounds_toArray, List.set_cons_zero, List.set_cons_succ]
     refine Lex.step_call bpe11 rfl (Lex.want_some rfl bpe4 rfl (b' := true) rfl rfl) (fun K hK => ?_)
     go_simp
     refine (HbyNo.out _).mono ?_
     rintro e1 w1 ⟨rfl, hv⟩
     replace F := F.call hv
     clear hv
     refine hK.out (Fv.FrS _ _ _) _ _ (fun _ h => Fv.Fr.weak h (by intro L w h; first | exact h | exact h.1 | exact h.1.1)) F ?_
     clear hK K
     try simp only [Act.put, List.setIfInBounds_toArray, List.set_cons_zero, List.set_cons_succ]
     refine Lex.step_take _ bpe12 rfl (Lex.want_some rfl bpe4 rfl (b' := true) rfl rfl) (by intro Wx hSw; clear hSw; go_simp; try (first | (with_reducible rfl) | rfl)) ?_
     simp only [Act.put, List.setIfInBounds_toArray, List.set_cons_zero, List.set_cons_succ]
     refine Lex.step_take _ bpe13 rfl (Lex.want_none rfl) (by intro Wx hSw; clear hSw; go_simp; try (first | (with_reducible rfl) | rfl)) ?_
     simp only [Act.put, List.setIfInBounds_toArray, List.set_cons_zero, List.set_cons_succ]
     refine Lex.step_take _ bpe14 rfl (Lex.want_none rfl) (by intro Wx hSw; clear hSw; go_simp; try (first | (with_reducible rfl) | rfl)) ?_
     simp only [Act.put, List.setIfInBounds_toArray, List.set_cons_zero, List.set_cons_succ]
     refine Lex.step_take _ bpe15 rfl (Lex.want_none rfl) (by intro Wx hSw; clear hSw; go_simp; try (first | (with_reducible rfl) | rfl)) ?_
     simp only [Act.put, List.setIfInBounds_toArray, List.set_cons_zero, List.set_cons_succ]
     refine NoPanic.normal ?_
     go_wp2_with (first
      | ((with_reducible (show wpList _ _ _ (Oper.mk _ (Op.load _ _) _ _ _ none :: _) _ _)); first | refine Fv.wpL_loadN F rfl rfl rfl (by first | exact Fv.rt_Slab | exact Fv.rt_Head | exact Fv.rt_Store | exact Fv.rt_Clock | exact Fv.rt_Frame | exact Fv.rt_Page | exact Fv.rt_Image) (by repeat (first | exact Fv.At.head | apply Fv.At.tail)) (by repeat (first | exact Fv.Sub.nil _ | apply Fv.Sub.take | apply Fv.Sub.drop)) ?_ | refine Fv.wpL_load1 F rfl rfl rfl (by first | exact Fv.ot_int | exact Fv.ot_string | exact Fv.ot_bool | exact Fv.ot_Errno | exact Fv.ot_Images | exact Fv.ot_Pages) (by repeat (first | exact Fv.At.head | apply Fv.At.tail)) (by repeat (first | exact Fv.Sub.nil _ | apply Fv.Sub.take | apply Fv.Sub.drop)) ?_)
      | ((with_reducible (show wpList _ _ _ (Oper.mk _ (Op.store _ _ _) _ _ _ none :: _) _ _)); first | (refine Fv.wpL_storeN F rfl rfl rfl rfl (by first | exact Fv.rt_Slab | exact Fv.rt_Head | exact Fv.rt_Store | exact Fv.rt_Clock | exact Fv.rt_Frame | exact Fv.rt_Page | exact Fv.rt_Image) rfl (by first | rfl | simp [Value.oneCell']) (by (repeat (first | apply Fv.Upd.head | apply Fv.Upd.tail)); repeat (first | exact Fv.Put.nil _ | apply Fv.Put.take | apply Fv.Put.drop)) ?_; clear F; intro W F) | (refine Fv.wpL_store1 F rfl rfl rfl rfl (by first | exact Fv.ot_int | exact Fv.ot_string | exact Fv.ot_bool | exact Fv.ot_Errno | exact Fv.ot_Images | exact Fv.ot_Pages) (by first | rfl | simp [Value.oneCell']) (by (repeat (first | apply Fv.Upd.head | apply Fv.Upd.tail)); repeat (first | exact Fv.Put.nil _ | apply Fv.Put.take | apply Fv.Put.drop)) ?_; clear F; intro W F))
      | ((with_reducible (show wpList _ _ _ (Oper.mk _ (Op.alloc _) _ _ _ none :: _) _ _)); refine Fv.wpL_alloc F rfl rfl (by first | exact Fv.zt_Slab | exact Fv.zt_Head | exact Fv.zt_Frame | exact Fv.zt_Clock | exact Fv.zt_Page | exact Fv.zt_Image | exact Fv.zt_Store) ?_; clear F; intro g W hs1 hs2 F; clear hs1 hs2)
      | ((with_reducible (show wpList _ _ _ (Oper.mk _ (Op.box _ _) _ _ _ none :: _) _ _)); refine Fv.wpL_box F rfl rfl rfl rfl ?_; clear F; intro g W hs1 hs2 F; clear hs1 hs2))
     go_ret2
     first | exact ⟨rfl, F.B⟩ | exact F.B
   ·have i2 : ¬ (a : Int) < (n : Int) := by omega
    have hf : rf = false := by
     rw [← HR.out.2]
     unfold fnd
     rw [hp, List.getElem?_eq_none (by omega)]
    go_upto_region 8 with (first
     | ((with_reducible (show wpList _ _ _ (Oper.mk _ (Op.load _ _) _ _ _ none :: _) _ _)); first | refine Fv.wpL_loadN F rfl rfl rfl (by first | exact Fv.rt_Slab | exact Fv.rt_Head | exact Fv.rt_Store | exact Fv.rt_Clock | exact Fv.rt_Frame | exact Fv.rt_Page | exact Fv.rt_Image) (by repeat (first | exact Fv.At.head | apply Fv.At.tail)) (by repeat (first | exact Fv.Sub.nil _ | apply Fv.Sub.take | apply Fv.Sub.drop)) ?_ | refine Fv.wpL_load1 F rfl rfl rfl (by first | exact Fv.ot_int | exact Fv.ot_string | exact Fv.ot_bool | exact Fv.ot_Errno | exact Fv.ot_Images | exact Fv.ot_Pages) (by repeat (first | exact Fv.At.head | apply Fv.At.tail)) (by repeat (first | exact Fv.Sub.nil _ | apply Fv.Sub.take | apply Fv.Sub.drop)) ?_)
     | ((with_reducible (show wpList _ _ _ (Oper.mk _ (Op.store _ _ _) _ _ _ none :: _) _ _)); first | (refine Fv.wpL_storeN F rfl rfl rfl rfl (by first | exact Fv.rt_Slab | exact Fv.rt_Head | exact Fv.rt_Store | exact Fv.rt_Clock | exact Fv.rt_Frame | exact Fv.rt_Page | exact Fv.rt_Image) rfl (by first | rfl | simp [Value.oneCell']) (by (repeat (first | apply Fv.Upd.head | apply Fv.Upd.tail)); repeat (first | exact Fv.Put.nil _ | apply Fv.Put.take | apply Fv.Put.drop)) ?_; clear F; intro W F) | (refine Fv.wpL_store1 F rfl rfl rfl rfl (by first | exact Fv.ot_int | exact Fv.ot_string | exact Fv.ot_bool | exact Fv.ot_Errno | exact Fv.ot_Images | exact Fv.ot_Pages) (by first | rfl | simp [Value.oneCell']) (by (repeat (first | apply Fv.Upd.head | apply Fv.Upd.tail)); repeat (first | exact Fv.Put.nil _ | apply Fv.Put.take | apply Fv.Put.drop)) ?_; clear F; intro W F))
     | ((with_reducible (show wpList _ _ _ (Oper.mk _ (Op.alloc _) _ _ _ none :: _) _ _)); refine Fv.wpL_alloc F rfl rfl (by first | exact Fv.zt_Slab | exact Fv.zt_Head | exact Fv.zt_Frame | exact Fv.zt_Clock | exact Fv.zt_Page | exact Fv.zt_Image | exact Fv.zt_Store) ?_; clear F; intro g W hs1 hs2 F; clear hs1 hs2)
     | ((with_reducible (show wpList _ _ _ (Oper.mk _ (Op.box _ _) _ _ _ none :: _) _ _)); refine Fv.wpL_box F rfl rfl rfl rfl ?_; clear F; intro g W hs1 hs2 F; clear hs1 hs2))
    refine Lex.region_lex (ops := bpeops) (calls := bpecalls) bpeord (Fv.FrS _ _ _) (by kernel_rfl) (by kernel_rfl) bpesel (by kernel_rfl) (by kernel_rfl) bpelex F.drew ?_
    replace F := F.drew
    unfold bpeord
    refine Lex.step_take _ bpe0 rfl (Lex.want_none rfl) (by intro Wx hSw; clear hSw; go_simp; try (first | (with_reducible rfl) | rfl)) ?_
    simp only [Act.put, List.setIfInBounds_toArray, List.set_cons_zero, List.set_cons_succ]
    refine Lex.step_take _ bpe1 rfl (Lex.want_none rfl) (by intro Wx hSw; clear hSw; go_simp; try (first | (with_reducible rfl) | rfl)) ?_
    simp only [Act.put, List.setIfInBounds_toArray, List.set_cons_zero, List.set_cons_succ]
    refine Lex.step_take _ bpe2 rfl (Lex.want_none rfl) (by intro Wx hSw; clear hSw; go_simp; try (first | (with_reducible rfl) | rfl)) ?_
    simp only [Act.put, List.setIfInBounds_toArray, List.set_cons_zero, List.set_cons_succ]
    refine Lex.step_take _ bpe3 rfl (Lex.want_none rfl) (by intro Wx hSw; clear hSw; go_simp; try (first | (with_reducible rfl) | rfl)) ?_
    simp only [Act.put, List.setIfInBounds_toArray, List.set_cons_zero, List.set_cons_succ]
    refine Lex.step_take _ bpe4 rfl (Lex.want_none rfl) (by intro Wx hSw; clear hSw; go_simp; try (first | (with_reducible rfl) | rfl)) ?_
    simp only [Act.put, List.setIfInBounds_toArray, List.set_cons_zero, List.set_cons_succ]
    refine Lex.step_skip bpe5 (Lex.want_some rfl bpe4 rfl (b' := false) rfl rfl) ?_
    simp only [Act.put, List.setIfInBounds_toArray, List.set_cons_zero, List.set_cons_succ]
    refine Lex.step_skip bpe6 (Lex.want_some rfl bpe4 rfl (b' := false) rfl rfl) ?_
    simp only [Act.put, List.setIfInBounds_toArray, List.set_cons_zero, List.set_cons_succ]
    refine Lex.step_skip bpe7 (Lex.want_some rfl bpe4 rfl (b' := false) rfl rfl) ?_
    simp only [Act.put, List.setIfInBounds_toArray, List.set_cons_zero, List.set_cons_succ]
    refine Lex.step_skip bpe8 (Lex.want_some rfl bpe4 rfl (b' := false) rfl rfl) ?_
    simp only [Act.put, List.setIfInBounds_toArray, List.set_cons_zero, List.set_cons_succ]
    refine Lex.step_skip bpe9 (Lex.want_some rfl bpe4 rfl (b' := false) rfl rfl) ?_
    simp only [Act.put, List.setIfInBounds_toArray, List.set_cons_zero, List.set_cons_succ]
    refine Lex.step_skip bpe10 (Lex.want_some rfl bpe4 rfl (b' := false) rfl rfl) ?_
    simp only [Act.put, List.setIfInBounds_toArray, List.set_cons_zero, List.set_cons_succ]
    refine Lex.step_skip bpe11 (Lex.want_some rfl bpe4 rfl (b' := false) rfl rfl) ?_
    simp only [Act.put, List.setIfInBounds_toArray, List.set_cons_zero, List.set_cons_succ]
    refine Lex.step_skip bpe12 (Lex.want_some rfl bpe4 rfl (b' := false) rfl rfl) ?_
    simp only [Act.put, List.setIfInBounds_toArray, List.set_cons_zero, List.set_cons_succ]
    refine Lex.step_take _ bpe13 rfl (Lex.want_none rfl) (by intro Wx hSw; clear hSw; go_simp; try (first | (with_reducible rfl) | rfl)) ?_
    simp only [Act.put, List.setIfInBounds_toArray, List.set_cons_zero, List.set_cons_succ]
    refine Lex.step_take _ bpe14 rfl (Lex.want_none rfl) (by intro Wx hSw; clear hSw; go_simp; try (first | (with_reducible rfl) | rfl)) ?_
    simp only [Act.put, List.setIfInBounds_toArray, List.set_cons_zero, List.set_cons_succ]
    refine Lex.step_take _ bpe15 rfl (Lex.want_none rfl) (by intro Wx hSw; clear hSw; go_simp; try (first | (with_reducible rfl) | rfl)) ?_
    simp only [Act.put, List.setIfInBounds_toArray, List.set_cons_zero, List.set_cons_succ]
    refine NoPanic.normal ?_
    go_wp2_with (first
     | ((with_reducible (show wpList _ _ _ (Oper.mk _ (Op.load _ _) _ _ _ none :: _) _ _)); first | refine Fv.wpL_loadN F rfl rfl rfl (by first | exact Fv.rt_Slab | exact Fv.rt_Head | exact Fv.rt_Store | exact Fv.rt_Clock | exact Fv.rt_Frame | exact Fv.rt_Page | exact Fv.rt_Image) (by repeat (first | exact Fv.At.head | apply Fv.At.tail)) (by repeat (first | exact Fv.Sub.nil _ | apply Fv.Sub.take | apply Fv.Sub.drop)) ?_ | refine Fv.wpL_load1 F rfl rfl rfl (by first | exact Fv.ot_int | exact Fv.ot_string | exact Fv.ot_bool | exact Fv.ot_Errno | exact Fv.ot_Images | exact Fv.ot_Pages) (by repeat (first | exact Fv.At.head | apply Fv.At.tail)) (by repeat (first | exact Fv.Sub.nil _ | apply Fv.Sub.take | apply Fv.Sub.drop)) ?_)
     | ((with_reducible (show wpList _ _ _ (Oper.mk _ (Op.store _ _ _) _ _ _ none :: _) _ _)); first | (refine Fv.wpL_storeN F rfl rfl rfl rfl (by first | exact Fv.rt_Slab | exact Fv.rt_Head | exact Fv.rt_Store | exact Fv.rt_Clock | exact Fv.rt_Frame | exact Fv.rt_Page | exact Fv.rt_Image) rfl (by first | rfl | simp [Value.oneCell']) (by (repeat (first | apply Fv.Upd.head | apply Fv.Upd.tail)); repeat (first | exact Fv.Put.nil _ | apply Fv.Put.take | apply Fv.Put.drop)) ?_; clear F; intro W F) | (refine Fv.wpL_store1 F rfl rfl rfl rfl (by first | exact Fv.ot_int | exact Fv.ot_string | exact Fv.ot_bool | exact Fv.ot_Errno | exact Fv.ot_Images | exact Fv.ot_Pages) (by first | rfl | simp [Value.oneCell']) (by (repeat (first | apply Fv.Upd.head | apply Fv.Upd.tail)); repeat (first | exact Fv.Put.nil _ | apply Fv.Put.take | apply Fv.Put.drop)) ?_; clear F; intro W F))
     | ((with_reducible (show wpList _ _ _ (Oper.mk _ (Op.alloc _) _ _ _ none :: _) _ _)); refine Fv.wpL_alloc F rfl rfl (by first | exact Fv.zt_Slab | exact Fv.zt_Head | exact Fv.zt_Frame | exact Fv.zt_Clock | exact Fv.zt_Page | exact Fv.zt_Image | exact Fv.zt_Store) ?_; clear F; intro g W hs1 hs2 F; clear hs1 hs2)
     | ((with_reducible (show wpList _ _ _ (Oper.mk _ (Op.box _ _) _ _ _ none :: _) _ _)); refine Fv.wpL_box F rfl rfl rfl rfl ?_; clear F; intro g W hs1 hs2 F; clear hs1 hs2))
    go_ret2
    first | exact ⟨rfl, F.B⟩ | exact F.B
end Go.Proofs.YtcgkbcgpnlogoaaGreatDoor.SlP
