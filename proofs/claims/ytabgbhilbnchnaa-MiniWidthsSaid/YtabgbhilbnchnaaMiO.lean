/- MiniWidths: whatever cells, walked. -/
import Derived.Test.YtabgbhilbnchnaaMiM
namespace Go.Proofs.Ytabgbhilbnchnaa.Mi
open Go.RowKit Pac Va Sc Ro Lex

def sumR : List V → Nat
  | [] => 0
  | v :: r => v.s.size + sumR r
def sumC : List (List V) → Nat
  | [] => 0
  | r :: c => sumR r + sumC c
theorem sumR_app : ∀ a b : List V, sumR (a ++ b) = sumR a + sumR b
  | [], b => (Nat.zero_add _).symm
  | v :: a, b => by
    show v.s.size + sumR (a ++ b) = (v.s.size + sumR a) + sumR b
    rw [sumR_app]
    omega
theorem sumC_app : ∀ a b : List (List V), sumC (a ++ b) = sumC a + sumC b
  | [], b => (Nat.zero_add _).symm
  | v :: a, b => by
    show sumR v + sumC (a ++ b) = (sumR v + sumC a) + sumC b
    rw [sumC_app]
    omega
theorem sumR_next {r : List V} {t : Nat} {v : V} (h : r[t]? = some v) : sumR (r.take (t + 1)) = sumR (r.take t) + v.s.size := by
  rw [take_snoc h, sumR_app]
  show _ + (v.s.size + 0) = _
  omega
theorem sumC_next {c : List (List V)} {t : Nat} {r : List V} (h : c[t]? = some r) : sumC (c.take (t + 1)) = sumC (c.take t) + sumR r := by
  rw [take_snoc h, sumC_app]
  show _ + (sumR r + 0) = _
  omega
theorem sumR_le : ∀ {r : List V}, (∀ v ∈ r, v.s.size ≤ 60) → sumR r ≤ 60 * r.length
  | [], _ => Nat.le_refl _
  | v :: r, h => by
    have h1 := h v List.mem_cons_self
    have h2 := sumR_le (r := r) (fun x hx => h x (List.mem_cons_of_mem _ hx))
    show v.s.size + sumR r ≤ 60 * (r.length + 1)
    omega
theorem sumC_le : ∀ {c : List (List V)}, (∀ r ∈ c, r.length ≤ 8 ∧ ∀ v ∈ r, v.s.size ≤ 60) → sumC c ≤ 480 * c.length
  | [], _ => Nat.le_refl _
  | r :: c, h => by
    have h1 := h r List.mem_cons_self
    have h3 := sumR_le h1.2
    have h2 := sumC_le (c := c) (fun x hx => h x (List.mem_cons_of_mem _ hx))
    show sumR r + sumC c ≤ 480 * (c.length + 1)
    omega
theorem hp_zip : ∀ (ks : List Int) (r : List V), r.length = ks.length → (hp (ks.zip r)).length = sumR r
  | [], [], _ => rfl
  | [], _ :: _, h => by simp at h
  | _ :: _, [], h => by simp at h
  | k :: ks, v :: r, h => by
    show (v.s.data.toList ++ hp (ks.zip r)).length = v.s.size + sumR r
    rw [List.length_append, hp_zip ks r (by simpa using h)]
    have : v.s.data.toList.length = v.s.size := by simp
    omega
theorem hp_flat {ks : List Int} : ∀ {cells : List (List V)}, (∀ r ∈ cells, r.length = ks.length) → (hp (flat ks cells)).length = sumC cells
  | [], _ => rfl
  | r :: cells, h => by
    show (hp (ks.zip r ++ flat ks cells)).length = sumR r + sumC cells
    rw [hp_app, List.length_append, hp_zip ks r (h r List.mem_cons_self), hp_flat (fun x hx => h x (List.mem_cons_of_mem _ hx))]
theorem sum_empty (m : Nat) : ∀ n, sumC (List.replicate n (List.replicate m vZ)) = 0 := by
  have h1 : ∀ m, sumR (List.replicate m vZ) = 0 := fun m => by
    induction m with
    | zero => rfl
    | succ m ih => show vZ.s.size + sumR (List.replicate m vZ) = 0; rw [ih]; rfl
  intro n
  induction n with
  | zero => rfl
  | succ n ih => show sumR (List.replicate m vZ) + sumC (List.replicate n (List.replicate m vZ)) = 0; rw [ih, h1]
theorem width_eq {ks : List Int} {cells : List (List V)} (h : RightM ks cells) (hk : ∀ k ∈ ks, k = 1 ∨ k = 2 ∨ k = 3) : (printM ks cells).size = (printM ks (emptyM ks.length)).size + sumC cells := by
  have he := empty_right hk
  rw [printM_size h, printM_size he, hp_flat h.row, hp_flat he.row, flat_kinds (by rw [h.len, he.len]) h.row he.row]
  unfold emptyM
  rw [sum_empty]
  omega
theorem cell_sizes {ks : List Int} {cells : List (List V)} (h : RightM ks cells) : ∀ r ∈ cells, ∀ v ∈ r, v.s.size ≤ 60 := fun r hr v hv => by
  obtain ⟨i, hi⟩ := List.mem_iff_getElem?.1 hr
  obtain ⟨j, hj⟩ := List.mem_iff_getElem?.1 hv
  have hjl : j < ks.length := by rw [← h.row r hr]; exact (List.getElem?_eq_some_iff.1 hj).1
  have hk : ks[j]? = some (ks[j]'hjl) := List.getElem?_eq_getElem _
  exact right_sz (h.ok _ (List.mem_of_getElem? (flat_at h.row hi hj hk))).r

set_option maxRecDepth 20000 in
set_option maxHeartbeats 8000000 in
theorem widths_any (A1 A2 A3 : Option Addr) (cp cp2 cp3 mc m mr : Nat) (nm : ByteArray) (cs : List C) (g : List Int) (cells : List (List V)) (lo1 lo2 lo3 : Nat) (w : World) (h1 : HasCols w lo1 A1 cs) (h2 : HasI w lo2 A2 g) (h3 : HasVV w lo3 A3 cells) (hBD : Bnd nm mc cp cs g cells) (hm : g.length = m) (hmr : cells.length = mr) :
    Calls Try.prog 5 #[.agg #[.string nm, .slice A1 mc cp], .slice A2 m cp2, .slice A3 mr cp3] w fun e w' => e = .returned (.bool true) ∧ Below w.heap.size w w' := by
  have hI := Inp.new (nm := nm) (mc := mc) (cp := cp) h1 h2 h3
  clear h1 h2 h3
  obtain ⟨rr, hrr⟩ : ∃ rr, rightG nm cs g cells = rr := ⟨_, rfl⟩
  have HBD := Lib.hid (And.intro hBD (And.intro hm (And.intro hmr hrr)))
  clear hBD hm hmr hrr
  go_enter Try.func5, Try.ntmps5
  generalize hw1 : w.alloc (.cells #[.string nm, .slice A1 mc cp] 24) = w1 at hI
  have c0 := hI.x.c0
  have c1 := hI.x.c1
  go_wp2_with fail
  clear hw1 c0 c1
  refine (right_of HBD.out.1 HBD.out.2.2.2 HBD.out.2.1 HBD.out.2.2.1 cp2 cp3 hI).mono ?_
  rintro e w2 ⟨rfl, hy⟩
  have hI := hI.below hy
  clear hy
  cases rr
  · go_wp2_with fail
    refine (awake_any _).mono ?_
    rintro e y9 ⟨rfl, hy⟩
    have hI := hI.below hy
    have hB := hI.b
    clear hy hI
    go_wp2
    go_ret
    exact ⟨rfl, hB⟩
  · obtain ⟨hBD, hm, hmr, hrr⟩ := HBD.out
    have hg := rightG_out hrr
    have hG := hg.grp
    have hM := hg.m hBD.vok
    obtain rfl : mr = 8 := by rw [← hmr, hg.len]
    have hm8 : m ≤ 8 := by rw [← hm]; exact hG.g8
    have hkl : (kindsL cs g).length = m := by rw [kinds_len, hm]
    have hE := empty_right (kinds_ok hG)
    have hw := width_eq hM (kinds_ok hG)
    rw [hkl] at hE hw
    obtain ⟨eS, heS⟩ : ∃ u, printM (kindsL cs g) (emptyM m) = u := ⟨_, rfl⟩
    obtain ⟨u, hu⟩ : ∃ u, printM (kindsL cs g) cells = u := ⟨_, rfl⟩
    have hul := printM_le hM (by rw [hkl]; exact hm8)
    rw [hu] at hul hw
    rw [heS] at hw
    obtain ⟨eB, heB⟩ : ∃ z, eS.size = z := ⟨_, rfl⟩
    rw [heB] at hw
    have hrow := hg.row
    rw [hm] at hrow
    have HC : Hid ((∀ r ∈ cells, r.length = m) ∧ cells.length = 8 ∧ (∀ r ∈ cells, ∀ v ∈ r, v.s.size ≤ 60) ∧ u.size = eB + sumC cells) := Lib.hid ⟨hrow, hmr, cell_sizes hM, hw⟩
    have hcP := fun (W : World) (h : Inp w w.heap.size lo1 lo2 lo3 nm A1 A2 A3 mc cp cs g cells W) => print_of (cp := cp) hBD.lc hm hG hM hu cp2 cp3 h.c h.i h.v
    have hcQ := fun (W : World) (AE : Option Addr) (ce lo5 : Nat) (h : Inp w w.heap.size lo1 lo2 lo3 nm A1 A2 A3 mc cp cs g cells W) (h5 : HasVV W lo5 AE (emptyM m)) => print_of (cp := cp) hBD.lc hm hG hE heS cp2 ce h.c h.i h5
    have hcE := fun (W : World) (h : Inp w w.heap.size lo1 lo2 lo3 nm A1 A2 A3 mc cp cs g cells W) => emptyP_of hm hm8 cp2 h.i
    have heB9 : eB ≤ 5000 := by omega
    unfold EmPost at hcE
    clear hBD hm hmr hrr hg hG hM hu HBD hE hw hul hrow hkl heS
    generalize hgx : w.heap.size = gx at hI hcP hcQ hcE ⊢
    go_wp2_with fail
    have hI := hI.below ((Below.refl _ _).drew)
    refine Lex.region_lex (ops := meops) (calls := mecalls) meord (fun W => W.cell? ⟨gx, 0, none⟩ = some (.string nm) ∧ W.cell? ⟨gx, 1, none⟩ = some (.slice A1 mc cp)) (by kernel_rfl) (by kernel_rfl) mesel (by kernel_rfl) (by kernel_rfl) melex (⟨hI.x.c0, hI.x.c1⟩) ?_
    unfold meord
    refine Lex.step_take (.agg #[.string nm, .slice A1 mc cp]) me0 rfl (Lex.want_none rfl) (by intro Wx hSw; (try dsimp only at hSw); go_simp; (try (first | (with_reducible rfl) | assumption | rfl))) ?_
    simp only [Act.put, List.setIfInBounds_toArray, List.set_cons_zero, List.set_cons_succ]
    refine Lex.step_take (.slice A2 m cp2) me1 rfl (Lex.want_none rfl) (by intro Wx hSw; (try dsimp only at hSw); go_simp; (try (first | (with_reducible rfl) | assumption | rfl))) ?_
    simp only [Act.put, List.setIfInBounds_toArray, List.set_cons_zero, List.set_cons_succ]
    refine Lex.step_take (.slice A2 m cp2) me2 rfl (Lex.want_none rfl) (by intro Wx hSw; (try dsimp only at hSw); go_simp; (try (first | (with_reducible rfl) | assumption | rfl))) ?_
    simp only [Act.put, List.setIfInBounds_toArray, List.set_cons_zero, List.set_cons_succ]
    refine Lex.step_call me3 rfl (Lex.want_none rfl) (fun K hK => ?_)
    go_simp
    refine (hcE _ hI).mono ?_
    rintro e y3 ⟨AE, ce, rfl, hE, hy3⟩
    have hI := hI.below hy3
    clear hy3
    refine hK.out _ _ _ (fun _ h => h) ⟨hI.x.c0, hI.x.c1⟩ ?_
    clear hK K
    try simp only [Act.put, List.setIfInBounds_toArray, List.set_cons_zero, List.set_cons_succ]
    refine Lex.step_call me4 rfl (Lex.want_none rfl) (fun K hK => ?_)
    go_simp
    refine (hcQ _ AE ce _ hI hE).mono ?_
    rintro e y4 ⟨rfl, hy4⟩
    have hI := hI.below hy4
    clear hy4 hE
    refine hK.out _ _ _ (fun _ h => h) ⟨hI.x.c0, hI.x.c1⟩ ?_
    clear hK K
    try simp only [Act.put, List.setIfInBounds_toArray, List.set_cons_zero, List.set_cons_succ]
    refine Lex.step_take (.int .i64 (eB : Nat)) me5 rfl (Lex.want_none rfl) (by intro Wx hSw; (try dsimp only at hSw); go_simp; (try (first | (with_reducible rfl) | assumption | rfl))) ?_
    simp only [Act.put, List.setIfInBounds_toArray, List.set_cons_zero, List.set_cons_succ]
    refine Lex.step_take (.int .i64 (eB : Nat)) me6 rfl (Lex.want_none rfl) (by intro Wx hSw; (try dsimp only at hSw); go_simp; (try (first | (with_reducible rfl) | assumption | rfl))) ?_
    simp only [Act.put, List.setIfInBounds_toArray, List.set_cons_zero, List.set_cons_succ]
    refine NoPanic.normal ?_
    clear hcQ hcE heB
    have HCP := Lib.hid hcP
    clear hcP
    have HI := Lib.hid hI
    go_wp2
    generalize hw9 : y4 = w9 at HI ⊢
    clear hw9 hI
    go_loopw [7, 8] (fun x i wr => ∃ (q n : Nat), q ≤ 8 ∧ i = .int .i64 q ∧ x = .int .i64 n ∧ n ≤ 10000 ∧ Hid (n = eB + sumC (cells.take q)) ∧ Below w9.heap.size w9 wr) (fun _ i _ => 8 - (intOf i).toNat)
    case atStart => exact ⟨0, eB, Nat.zero_le _, rfl, rfl, by omega, Lib.hid rfl, Below.refl _ _⟩
    case round =>
      obtain ⟨q, n, hq, rfl, rfl, hn, hH, hBr⟩ := hrel
      by_cases hlt : q < 8
      · have hgr : cells[q]? = some (cells[q]'(by rw [HC.out.2.1]; exact hlt)) := List.getElem?_eq_getElem _
        generalize (cells[q]'(by rw [HC.out.2.1]; exact hlt)) = r at hgr
        have hrl := HC.out.1 r (List.mem_of_getElem? hgr)
        have hrz := HC.out.2.2.1 r (List.mem_of_getElem? hgr)
        obtain ⟨b1, o1, A5, c5, rfl, _, _, d1, hV, _⟩ := HI.out.v.at hgr
        rw [hrl] at d1
        have HD1 := Lib.hid d1
        have HV := Lib.hid hV
        have HGR := Lib.hid (And.intro hgr (And.intro hrl hrz))
        have hnb : Hid (∀ t, t ≤ m → eB + sumC (cells.take q) + sumR (r.take t) ≤ 9000) := Lib.hid (fun t ht => by
          have h1 := sumR_le (r := r.take t) (fun v hv => hrz v (List.mem_of_mem_take hv))
          have h2 := sumC_le (c := cells.take q) (fun r hr => ⟨by rw [HC.out.1 r (List.mem_of_mem_take hr)]; exact hm8, HC.out.2.2.1 r (List.mem_of_mem_take hr)⟩)
          rw [List.length_take] at h1 h2
          omega)
        clear hgr hrl hrz hV d1
        have i1 : (q : Int) < 8 := by omega
        have i0 : (0 : Int) ≤ (q : Int) := by omega
        go_wp2
        go_loopw [7, 9] (fun x i wr => ∃ (t n : Nat), t ≤ m ∧ i = .int .i64 t ∧ x = .int .i64 n ∧ n ≤ 9000 ∧ Hid (n = eB + sumC (cells.take q) + sumR (r.take t)) ∧ Below w9.heap.size w9 wr) (fun _ i _ => m - (intOf i).toNat)
        case atStart => exact ⟨0, n, Nat.zero_le _, rfl, rfl, by rw [hH.out]; exact hnb.out 0 (Nat.zero_le _), Lib.hid (by rw [hH.out]; rfl), hBr⟩
        case round =>
          clear hBr
          obtain ⟨t, n, ht, rfl, rfl, hn, hT, hBr⟩ := hrel
          have d1 := cell_below hBr HD1.out
          by_cases htl : t < m
          · have hgv : r[t]? = some (r[t]'(by rw [HGR.out.2.1]; exact htl)) := List.getElem?_eq_getElem _
            generalize (r[t]'(by rw [HGR.out.2.1]; exact htl)) = v at hgv
            obtain ⟨b2, o2, rfl, _, _, e0, e1, e2⟩ := HasV.at (HV.out.below hBr (Nat.le_refl _)) hgv
            have hvz := HGR.out.2.2 v (List.mem_of_getElem? hgv)
            have HT : Hid (n + v.s.size = eB + sumC (cells.take q) + sumR (r.take (t + 1))) := Lib.hid (by rw [hT.out, sumR_next hgv]; omega)
            have hn2 : n + v.s.size ≤ 9000 := by rw [HT.out]; exact hnb.out (t + 1) (by omega)
            obtain ⟨vk, vn, vs⟩ := v
            simp only at e0 e1 e2 HT hn2 hvz
            have j1 : (t : Int) < (m : Int) := by omega
            have j0 : (0 : Int) ≤ (t : Int) := by omega
            clear hgv
            go_wp2
            clear d1 e0 e1 e2
            go_roundw
            case rel => exact ⟨t + 1, n + vs.size, by omega, by go_num, by go_num, hn2, HT, hBr⟩
            case measure => simp [intOf]; omega
          · obtain rfl : t = m := by omega
            have HQ : Hid (n = eB + sumC (cells.take (q + 1))) := Lib.hid (by
              rw [hT.out, sumC_next HGR.out.1, show r.take t = r from List.take_of_length_le (by rw [HGR.out.2.1]; exact Nat.le_refl _)]
              omega)
            go_wp2
            clear d1
            go_roundw
            case rel => exact ⟨q + 1, n, by omega, by go_num, rfl, by omega, HQ, hBr⟩
            case measure => simp [intOf]; omega
      · obtain rfl : q = 8 := by omega
        have hI := HI.out.below hBr
        have hnu : ((u.size : Int) == (n : Int)) = true := beq_iff_eq.2 (by
          have h1 := hH.out
          rw [List.take_of_length_le (by rw [HC.out.2.1]; exact Nat.le_refl _)] at h1
          rw [HC.out.2.2.2, h1])
        go_wp2_with fail
        refine (awake_any _).mono ?_
        rintro e y9 ⟨rfl, hy⟩
        have hI := hI.below hy
        clear hy
        have c0 := hI.x.c0
        have c1 := hI.x.c1
        go_wp2_with fail
        clear c0 c1
        refine (HCP.out _ hI).mono ?_
        rintro e y8 ⟨rfl, hy⟩
        have hI := hI.below hy
        have hB := hI.b
        clear hI hy HI
        subst hgx
        go_wp2
        go_ret
        exact ⟨rfl, hB⟩
end Go.Proofs.Ytabgbhilbnchnaa.Mi
