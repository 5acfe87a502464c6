/- The document's examples of layer 9, walked. -/
import Derived.Test.YtabgbhilbnchnaaMiK
namespace Go.Proofs.Ytabgbhilbnchnaa.Mi
open Go.RowKit Pac Va Sc Ro Lex

def vAB : V := ⟨3, 0, ⟨#[97, 98]⟩⟩
def cAB : List (List V) := (emptyM 1).set 2 [vAB]
def uAB : ByteArray := ⟨#[4, 0, 0, 0, 0, 0, 0, 0, 0, 2, 0, 0, 0, 0, 0, 0, 0, 0, 0, 0, 0, 0, 0, 0, 0, 97, 98]⟩
theorem kinds_ab : kindsL [cId, cX] [1] = [3] := by decide +kernel
theorem vab_ok : CellOk (3, vAB) := ⟨Or.inr (Or.inr rfl), (show rightV vAB = true by decide +kernel), Or.inr rfl, (show vAB.Ok from ⟨by decide, by decide, by decide, by decide⟩)⟩
theorem right_ab : RightM [3] cAB := by
  refine ⟨rfl, fun r hr => ?_, fun p hp => ?_⟩
  · unfold cAB at hr
    rcases List.mem_or_eq_of_mem_set hr with hr | rfl
    · unfold emptyM at hr
      rw [List.eq_of_mem_replicate hr]
      rfl
    · rfl
  · have h : flat [3] cAB = [(3, vZ), (3, vZ), (3, vAB), (3, vZ), (3, vZ), (3, vZ), (3, vZ), (3, vZ)] := rfl
    rw [h] at hp
    simp only [List.mem_cons, List.not_mem_nil, or_false] at hp
    have hz := vZ_ok (k := 3) (Or.inr (Or.inr rfl))
    rcases hp with rfl | rfl | rfl | rfl | rfl | rfl | rfl | rfl
    · exact hz
    · exact hz
    · exact vab_ok
    · exact hz
    · exact hz
    · exact hz
    · exact hz
    · exact hz
theorem print_ab : printM [3] cAB = uAB := by decide +kernel
theorem grp_ab : Grp nmT [cId, cX] [1] := ⟨by decide +kernel, by decide, by decide, fun c hc => by rw [List.mem_singleton] at hc; subst hc; decide, by decide⟩
theorem ab_back : readM [3] uAB = some cAB := by rw [← print_ab]; exact read_print right_ab
theorem ab_more : readM [3] (uAB ++ ⟨#[120]⟩) = none := by rw [← print_ab]; exact read_more right_ab (by decide)
theorem ab_none : readM [3] ⟨#[]⟩ = none := read_less right_ab (b := uAB) (by decide) (by rw [print_ab]; exact bytesEq' (by rw [app_list]; rfl))
/-- One value is set in rows that lie apart. -/
theorem set_free {w W : World} {lo b o c : Nat} {A : Option Addr} {hs : List (Li.Gr V)} {v : V} (hF : Free w A 1 hs) (ht : Li.HasL Li.cellsG 1 w lo A hs) (hv : ∀ x ∈ hs, HasV w lo x.A x.l ∧ x.l.length ≤ x.cp) (hl : hs.map Li.Gr.l = emptyM 1)
    (h2 : hs[2]? = some ⟨some ⟨b, o, none⟩, c, [vZ]⟩) (hW : ((w.setCell ⟨b, o, none⟩ (.int .i64 v.k)).setCell ⟨b, o + 1, none⟩ (.int .i64 v.n)).setCell ⟨b, o + 2, none⟩ (.string v.s) = W) : HasVV W lo A ((emptyM 1).set 2 [v]) := by
  obtain ⟨bt, ot, rfl, hF⟩ := hF
  obtain ⟨b', o', e, hbt, _, hap⟩ := hF 2 _ h2
  injection e with e
  injection e with e1 e2
  subst e1 e2
  have hother : ∀ p : Addr, (p.block ≠ b ∨ p.off < o ∨ o + 3 ≤ p.off) → W.cell? p = w.cell? p := fun p hp => by
    have hne : ∀ i, i < 3 → (⟨b, o + i, none⟩ : Addr) ≠ p := fun i hi e => by
      rw [← e] at hp
      rcases hp with h | h | h
      · exact h rfl
      · have : o + i < o := h
        omega
      · have : o + 3 ≤ o + i := h
        omega
    rw [← hW, World.cell?_setCell_other _ _ _ _ (hne 2 (by decide)), World.cell?_setCell_other _ _ _ _ (hne 1 (by decide)), World.cell?_setCell_other _ _ _ _ (show (⟨b, o, none⟩ : Addr) ≠ p from hne 0 (by decide))]
  have hsz : w.heap.size = W.heap.size := by rw [← hW]; simp
  have hx2 := (hv _ (List.mem_of_getElem? h2)).1
  obtain ⟨b3, o3, e3, hlo, hlt, hc⟩ := hx2 (by simp)
  injection e3 with e3
  injection e3 with e4 e5
  subst e4 e5
  have c0 := hc 0 vZ rfl 0 _ rfl
  have c1 := hc 0 vZ rfl 1 _ rfl
  have c2 := hc 0 vZ rfl 2 _ rfl
  rw [Nat.zero_mul, Nat.add_zero] at c0 c1 c2
  have hd : ∀ i j : Nat, i ≠ j → (⟨b, o + i, none⟩ : Addr) ≠ ⟨b, o + j, none⟩ := fun i j h e => by
    injection e with _ e
    omega
  have n0 : W.cell? ⟨b, o, none⟩ = some (.int .i64 v.k) := by
    rw [← hW, World.cell?_setCell_other _ _ _ _ (show (⟨b, o + 2, none⟩ : Addr) ≠ ⟨b, o, none⟩ from hd 2 0 (by decide)), World.cell?_setCell_other _ _ _ _ (show (⟨b, o + 1, none⟩ : Addr) ≠ ⟨b, o, none⟩ from hd 1 0 (by decide))]
    exact World.cell?_setCell_same _ _ _ c0
  have n1 : W.cell? ⟨b, o + 1, none⟩ = some (.int .i64 v.n) := by
    rw [← hW, World.cell?_setCell_other _ _ _ _ (hd 2 1 (by decide))]
    exact World.cell?_setCell_same _ _ _ ((World.cell?_setCell_other _ _ _ _ (show (⟨b, o, none⟩ : Addr) ≠ ⟨b, o + 1, none⟩ from hd 0 1 (by decide))).trans c1)
  have n2 : W.cell? ⟨b, o + 2, none⟩ = some (.string v.s) := by
    rw [← hW]
    exact World.cell?_setCell_same _ _ _ ((World.cell?_setCell_other _ _ _ _ (hd 1 2 (by decide))).trans ((World.cell?_setCell_other _ _ _ _ (show (⟨b, o, none⟩ : Addr) ≠ ⟨b, o + 2, none⟩ from hd 0 2 (by decide))).trans c2))
  have hrow : HasV W lo (some ⟨b, o, none⟩) [v] := fun _ => ⟨b, o, rfl, hlo, by omega, fun j x hj i u hu => by
    have hj0 : j = 0 := by have := (List.getElem?_eq_some_iff.1 hj).1; simp at this; omega
    subst hj0
    simp only [List.getElem?_cons_zero, Option.some.injEq] at hj
    subst hj
    have hi : i < 3 := (List.getElem?_eq_some_iff.1 hu).1
    rw [Nat.zero_mul, Nat.add_zero]
    match i, hi, hu with
    | 0, _, hu => exact n0.trans hu
    | 1, _, hu => exact n1.trans hu
    | 2, _, hu => exact n2.trans hu⟩
  refine ⟨hs.set 2 ⟨some ⟨b, o, none⟩, c, [v]⟩, by rw [List.map_set, hl], fun hn => ?_, fun x hx => ?_⟩
  · obtain ⟨bt', ot', e6, hlo', hlt', hct⟩ := ht (fun e => by rw [e] at h2; simp at h2)
    injection e6 with e6
    injection e6 with e7 e8
    subst e7 e8
    refine ⟨bt, ot, rfl, hlo', by omega, fun j x hj i u hu => ?_⟩
    rw [hother ⟨bt, ot + j * 1 + i, none⟩ (Or.inl (fun e => hbt e.symm))]
    by_cases hj2 : j = 2
    · subst hj2
      rw [List.getElem?_set_self (List.getElem?_eq_some_iff.1 h2).1] at hj
      injection hj with hj
      subst hj
      exact hct 2 _ h2 i u hu
    · rw [List.getElem?_set_ne (Ne.symm hj2)] at hj
      exact hct j x hj i u hu
  · obtain ⟨j, hj⟩ := List.mem_iff_getElem?.1 hx
    by_cases hj2 : j = 2
    · subst hj2
      rw [List.getElem?_set_self (List.getElem?_eq_some_iff.1 h2).1] at hj
      injection hj with hj
      subst hj
      have := (hv _ (List.mem_of_getElem? h2)).2
      exact ⟨hrow, this⟩
    · rw [List.getElem?_set_ne (Ne.symm hj2)] at hj
      have hxv := hv x (List.mem_of_getElem? hj)
      have hxl : x.l.length = 1 := by
        have : x.l ∈ emptyM 1 := by rw [← hl]; exact List.mem_map_of_mem (List.mem_of_getElem? hj)
        unfold emptyM at this
        rw [List.eq_of_mem_replicate this]
        rfl
      refine ⟨fun hn => ?_, hxv.2⟩
      obtain ⟨bx, ox, ex, hlo', hlt', hcx⟩ := hxv.1 hn
      refine ⟨bx, ox, ex, hlo', by omega, fun i y hi k u hu => ?_⟩
      have hi1 : i < 1 := by have := (List.getElem?_eq_some_iff.1 hi).1; omega
      have hk3 : k < 3 := (List.getElem?_eq_some_iff.1 hu).1
      rw [hother ⟨bx, ox + i * 3 + k, none⟩ (by
        rcases hap j x hj (Ne.symm hj2) bx ox ex with h | h | h
        · exact Or.inl (fun e => h e.symm)
        · refine Or.inr (Or.inr ?_)
          show o + 3 ≤ ox + i * 3 + k
          omega
        · refine Or.inr (Or.inl ?_)
          show ox + i * 3 + k < o
          omega)]
      exact hcx i y hi k u hu
section
variable {W : World} {lo bI loE ce : Nat} {A AE : Option Addr}
theorem pr (hC : HasCols W lo A [cId, cX]) (hI : HasI W bI (some ⟨bI, 0, none⟩) [1]) (hE : HasVV W loE AE cAB) :
    Calls Try.prog 9 #[.agg #[.string ⟨#[116]⟩, .slice A 2 2], .slice (some ⟨bI, 0, none⟩) 1 1, .slice AE 8 ce] W fun e w' => e = .returned (.string uAB) ∧ Below W.heap.size W w' := by
  have h := print_any nmT A (some ⟨bI, 0, none⟩) AE 2 1 ce [cId, cX] [1] cAB lo bI loE W hC hI hE grp_ab (by rw [kinds_ab]; exact right_ab)
  rw [kinds_ab, print_ab] at h
  exact h
def RdP (b : Bool) (o : Option (List (List V))) (w : World) (e : Ending) (w' : World) : Prop :=
  ∃ (v : Value), e = .returned (.tuple #[v, .bool b]) ∧ (∀ cells, o = some cells → ∃ A cp, v = .slice A cells.length cp ∧ HasVV w' w.heap.size A cells) ∧ Below w.heap.size w w'
theorem rd {s : ByteArray} {o : Option (List (List V))} {b : Bool} (ho : readM [3] s = o) (hb : o.isSome = b) (hs : s.size ≤ 1000000) (hC : HasCols W lo A [cId, cX]) (hI : HasI W bI (some ⟨bI, 0, none⟩) [1]) :
    Calls Try.prog 14 #[.agg #[.string ⟨#[116]⟩, .slice A 2 2], .slice (some ⟨bI, 0, none⟩) 1 1, .string s] W (RdP b o W) := by
  have h := read_any nmT A (some ⟨bI, 0, none⟩) 2 1 [cId, cX] [1] s lo bI W hC hI grp_ab hs
  rw [kinds_ab, ho] at h
  refine h.mono ?_
  rintro e w' ⟨v, b', rfl, rfl, hv, hB⟩
  subst hb
  exact ⟨v, rfl, hv, hB⟩
theorem one_list {w : World} : HasI (w.alloc (.cells #[.int .i64 1] 3)) w.heap.size (some ⟨w.heap.size, 0, none⟩) [1] := Li.list_of_block (R := cellsI) (fun _ => rfl) (heap_alloc_new w (.cells #[.int .i64 1] 3)) rfl
end

set_option maxRecDepth 20000 in
set_option maxHeartbeats 8000000 in
theorem awake_any (w : World) : Calls Try.prog 8 #[] w fun e w' => e = .returned (.bool true) ∧ Below w.heap.size w w' := by
  have hB := (Below.refl w.heap.size w).alloc (Nat.le_refl _) (.cells #[.int .i64 1] 3)
  have hc : Calls Try.prog 12 #[.slice (some ⟨w.heap.size, 0, none⟩) 1 1] (w.alloc (.cells #[.int .i64 1] 3)) (EmptyPost 1 (w.alloc (.cells #[.int .i64 1] 3))) := empty_any (some ⟨w.heap.size, 0, none⟩) 1 [1] w.heap.size _ one_list (by decide)
  go_enter Try.func8, Try.ntmps8
  go_wp2_with fail
  refine hc.mono ?_
  rintro e w1 ⟨A, cp, hs, rfl, _, hl, hT, hV, hF, hy⟩
  have hF := hF (Nat.le_refl _)
  have hlo := hB.size
  have hB := hB.trans (hy.mono hB.size)
  clear hc hy
  have hT := hT.lower (lo' := w.heap.size) hlo
  have hV : ∀ x ∈ hs, HasV w1 w.heap.size x.A x.l ∧ x.l.length ≤ x.cp := fun x hx => ⟨(hV x hx).1.lower hlo, (hV x hx).2⟩
  have hn : hs.length = 8 := by
    have := congrArg List.length hl
    rw [List.length_map] at this
    exact this
  have h2 : hs[2]? = some (hs[2]'(by omega)) := List.getElem?_eq_getElem _
  generalize (hs[2]'(by omega)) = x at h2
  have hx2 : x.l = [vZ] := by
    have : (hs.map Li.Gr.l)[2]? = some x.l := by rw [List.getElem?_map, h2]; rfl
    rw [hl] at this
    have h3 : (emptyM 1)[2]? = some [vZ] := rfl
    rw [h3] at this
    injection this with this
    exact this.symm
  obtain ⟨xA, xc, xl⟩ := x
  simp only at hx2
  subst hx2
  obtain ⟨bt, ot, eA, hF2⟩ := hF
  subst eA
  obtain ⟨b, o, exA, hbt, hfr, hap⟩ := hF2 2 _ h2
  have exA : xA = some ⟨b, o, none⟩ := exA
  subst exA
  have hF : Free w1 (some ⟨bt, ot, none⟩) 1 hs := ⟨bt, ot, rfl, hF2⟩
  obtain ⟨_, _, eT, _, hlbt, hct⟩ := hT (fun e => by rw [e] at hn; cases hn)
  injection eT with eT
  injection eT with eT1 eT2
  subst eT1 eT2
  have d1 : w1.cell? ⟨bt, ot + 2, none⟩ = some (.slice (some ⟨b, o, none⟩) 1 xc) := hct 2 _ h2 0 _ rfl
  obtain ⟨_, _, eX, hlob, hlb, hcx⟩ := (hV _ (List.mem_of_getElem? h2)).1 (by simp)
  injection eX with eX
  injection eX with eX1 eX2
  subst eX1 eX2
  have x0 : w1.cell? ⟨b, o, none⟩ = some (.int .i64 0) := hcx 0 vZ rfl 0 _ rfl
  have x1 : w1.cell? ⟨b, o + 1, none⟩ = some (.int .i64 0) := hcx 0 vZ rfl 1 _ rfl
  have x2 : w1.cell? ⟨b, o + 2, none⟩ = some (.string ⟨#[]⟩) := hcx 0 vZ rfl 2 _ rfl
  have HX := Lib.hid (And.intro hF (And.intro hT (And.intro hV (And.intro hl (And.intro h2 (And.intro hB hlob))))))
  clear hF hT hV hl h2 hB hF2 hap hct hcx hlob hn
  go_wp2_with fail
  obtain ⟨hF, hT, hV, hl, h2, hB, hlob⟩ := HX.out
  generalize hW : ((w1.setCell ⟨b, o, none⟩ (.int .i64 3)).setCell ⟨b, o + 1, none⟩ (.int .i64 0)).setCell ⟨b, o + 2, none⟩ (.string ⟨#[97, 98]⟩) = w2
  have hE : HasVV w2 w.heap.size (some ⟨bt, ot, none⟩) cAB := set_free (v := vAB) hF hT hV hl h2 hW
  have hB : Below w.heap.size w w2 := hW ▸ (((hB.setCell (p := ⟨b, o, none⟩) hlob (.int .i64 3)).setCell (p := ⟨b, o + 1, none⟩) hlob (.int .i64 0)).setCell (p := ⟨b, o + 2, none⟩) hlob (.string ⟨#[97, 98]⟩))
  clear hF hT hV hl h2 hlob hW HX x0 x1 x2 d1 hfr hbt hlb hlbt
  go_wp2_with fail
  refine (some_any _).mono ?_
  rintro e z3 ⟨S3, rfl, hC, hy⟩
  have hE := hE.below hy (Nat.le_refl _)
  have hB := hB.trans (hy.mono hB.size)
  clear hy
  have hn := (Below.refl z3.heap.size z3).alloc (Nat.le_refl _) (.cells #[.int .i64 1] 3)
  have hC := hC.below hn (Nat.le_refl _)
  have hE := hE.below hn (Nat.le_refl _)
  have hI := one_list (w := z3)
  have hB := hB.trans (hn.mono hB.size)
  have hc := pr (ce := cp) hC hI hE
  clear hn
  go_wp2_with fail
  refine hc.mono ?_
  rintro e w3 ⟨rfl, hy⟩
  have hE := hE.below hy (Nat.le_refl _)
  have hB := hB.trans (hy.mono hB.size)
  clear hy hc hC hI
  go_wp2_with fail
  refine (some_any _).mono ?_
  rintro e z4 ⟨S4, rfl, hC, hy⟩
  have hE := hE.below hy (Nat.le_refl _)
  have hB := hB.trans (hy.mono hB.size)
  clear hy
  have hn := (Below.refl z4.heap.size z4).alloc (Nat.le_refl _) (.cells #[.int .i64 1] 3)
  have hC := hC.below hn (Nat.le_refl _)
  have hE := hE.below hn (Nat.le_refl _)
  have hI := one_list (w := z4)
  have hB := hB.trans (hn.mono hB.size)
  have hc := rd (s := uAB) ab_back rfl (by decide) hC hI
  clear hn
  go_wp2_with fail
  refine hc.mono ?_
  rintro e w4 ⟨v4, rfl, hD0, hy⟩
  obtain ⟨AD, cd, rfl, hD⟩ := hD0 _ rfl
  have hE := hE.below hy (Nat.le_refl _)
  have hB := hB.trans (hy.mono hB.size)
  clear hy hc hC hI hD0
  go_wp2_with fail
  refine (some_any _).mono ?_
  rintro e z5 ⟨S5, rfl, hC, hy⟩
  have hE := hE.below hy (Nat.le_refl _)
  have hD := hD.below hy (Nat.le_refl _)
  have hB := hB.trans (hy.mono hB.size)
  clear hy
  have hn := (Below.refl z5.heap.size z5).alloc (Nat.le_refl _) (.cells #[.int .i64 1] 3)
  have hC := hC.below hn (Nat.le_refl _)
  have hE := hE.below hn (Nat.le_refl _)
  have hD := hD.below hn (Nat.le_refl _)
  have hI := one_list (w := z5)
  have hB := hB.trans (hn.mono hB.size)
  have hc := rd (s := uAB ++ ⟨#[120]⟩) ab_more rfl (by decide) hC hI
  clear hn
  go_wp2_with fail
  refine hc.mono ?_
  rintro e w5 ⟨v5, rfl, _, hy⟩
  have hE := hE.below hy (Nat.le_refl _)
  have hD := hD.below hy (Nat.le_refl _)
  have hB := hB.trans (hy.mono hB.size)
  clear hy hc hC hI
  go_wp2_with fail
  refine (some_any _).mono ?_
  rintro e z6 ⟨S6, rfl, hC, hy⟩
  have hE := hE.below hy (Nat.le_refl _)
  have hD := hD.below hy (Nat.le_refl _)
  have hB := hB.trans (hy.mono hB.size)
  clear hy
  have hn := (Below.refl z6.heap.size z6).alloc (Nat.le_refl _) (.cells #[.int .i64 1] 3)
  have hC := hC.below hn (Nat.le_refl _)
  have hE := hE.below hn (Nat.le_refl _)
  have hD := hD.below hn (Nat.le_refl _)
  have hI := one_list (w := z6)
  have hB := hB.trans (hn.mono hB.size)
  have hc := rd (s := ⟨#[]⟩) ab_none rfl (by decide) hC hI
  clear hn
  go_wp2_with fail
  refine hc.mono ?_
  rintro e w6 ⟨v6, rfl, _, hy⟩
  have hE := hE.below hy (Nat.le_refl _)
  have hD := hD.below hy (Nat.le_refl _)
  have hB := hB.trans (hy.mono hB.size)
  clear hy hc hC hI
  have hlen : ∀ g ∈ cAB, g.length ≤ 9223372036854775807 := fun r hr => by have := right_ab.row r hr; have h1 : ([3] : List Int).length = 1 := rfl; omega
  have h25 : (uAB.extract 25 uAB.size).toList = [97, 98] := by decide +kernel
  have hc := refSame_any (some ⟨bt, ot, none⟩) AD cp cd cAB cAB _ _ w6 hE hD (by decide) (by decide) hlen hlen
  clear hE hD hlen
  go_wp2_with fail
  refine hc.mono ?_
  rintro e w7 ⟨r, rfl, hr, hy⟩
  obtain rfl := hr.2 rfl
  have hB := hB.trans (hy.mono hB.size)
  clear hy hc hr
  go_wp2
  go_ret
  exact ⟨rfl, hB⟩
end Go.Proofs.Ytabgbhilbnchnaa.Mi
