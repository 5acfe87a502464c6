/- A schema's bytes: the program's, walked. -/
import Derived.Test.YtajoklimdlalhaaScD
import Derived.Test.YtajoklimdlalhaaXrb
import Derived.Test.YtajoklimdlalhaaShelf
import Derived.Lib.Join
namespace Go.Proofs.Ytajoklimdlalhaa.Sc
open Go.RowKit Pac Lex

/-- Texts, one behind the other. -/
def catL : List ByteArray → ByteArray
  | [] => ⟨#[]⟩
  | x :: l => x ++ catL l
theorem catL_list (l : List ByteArray) : (catL l).data.toList = (l.map (·.data.toList)).flatten := by
  induction l with
  | nil => rfl
  | cons x l ih => simp only [catL, List.map_cons, List.flatten_cons, app_list, ih]
theorem joinTail_nil (l : List (List UInt8)) : Lib.joinTail [] l = l.flatten := by
  unfold Lib.joinTail
  simp
theorem join_flat (l : List (List UInt8)) : Lib.join l [] = l.flatten := by
  cases l with
  | nil => rfl
  | cons x l => rw [Lib.join_cons, joinTail_nil]; rfl
theorem join_catL (l : List ByteArray) : (⟨(Lib.join (l.map (·.data.toList)) (⟨#[]⟩ : ByteArray).data.toList).toArray⟩ : ByteArray) = catL l := by
  apply bytesEq
  rw [catL_list]
  show (Lib.join (l.map (·.data.toList)) []).toArray.toList = _
  rw [join_flat]
theorem catC_map (cs : List C) : catL (cs.map printC) = catC cs := by
  induction cs with
  | nil => rfl
  | cons c l ih => simp only [List.map_cons, catL, catC, ih]
theorem catL_snoc (l : List ByteArray) (x : ByteArray) : catL (l ++ [x]) = catL l ++ x := by
  apply bytesEq
  rw [app_list, catL_list, catL_list]
  simp
theorem txtB_size (s : ByteArray) : (txtB s).size ≤ s.size + 10 := by
  unfold txtB
  rw [ByteArray.size_append]
  have := (encB_size (zig s.size)).2
  omega
theorem printC_size (c : C) : (printC c).size ≤ c.n.size + 20 := by
  unfold printC
  rw [ByteArray.size_append]
  have := (encB_size (zig (colNum c))).2
  have := txtB_size c.n
  omega
theorem catC_size : ∀ (l : List C), (∀ (j : Nat) (c : C), l[j]? = some c → c.n.size ≤ 20) → (catC l).size ≤ 40 * l.length
  | [], _ => by decide
  | c :: l, h => by
    have h0 := h 0 c rfl
    have ih := catC_size l (fun j d hd => h (j + 1) d (by simpa using hd))
    have := printC_size c
    simp only [catC, ByteArray.size_append, List.length_cons]
    omega
theorem right_parts {nm : ByteArray} {l : List C} (h : rightS nm l = true) : wordB nm = true ∧ 1 ≤ l.length ∧ l.length ≤ 8 ∧ ∀ (j : Nat) (c : C), l[j]? = some c → wordB c.n = true ∧ 1 ≤ c.k ∧ c.k ≤ 3 := by
  have h' := h
  unfold rightS at h'
  simp only [Bool.and_eq_true, decide_eq_true_eq] at h'
  exact ⟨h'.1, h'.2.1, h'.2.2.1, fun j c hc => col_parts ((colsB_all l).1 h'.2.2.2 j c hc).1⟩
theorem printS_size {nm : ByteArray} {l : List C} (h : rightS nm l = true) : (printS nm l).size ≤ 400 := by
  obtain ⟨h1, h2, h3, h4⟩ := right_parts h
  have := (word_size h1).2
  have := txtB_size nm
  have := (encB_size (zig (l.length : Int))).2
  have := catC_size l (fun j c hc => (word_size (h4 j c hc).1).2)
  unfold printS
  rw [ByteArray.size_append, ByteArray.size_append]
  omega

set_option maxHeartbeats 1000000 in
theorem joined_any (bk o c : Nat) (xs : List ByteArray) (w : World) (hcells : ∀ (j : Nat) x, xs[j]? = some x → w.cell? ⟨bk, o + j, none⟩ = some (.string x)) (hbk : bk < w.heap.size) (hN : xs.length ≤ 100000) (hcap : xs.length ≤ c) (hlen : (catL xs).size ≤ 100000) :
    Calls Try.prog 26 #[.slice (some ⟨bk, o, none⟩) xs.length c] w fun e w' => e = .returned (.string (catL xs)) ∧ Below w.heap.size w w' := by
  have hJ := join_catL xs
  have hz : (Lib.join (xs.map (·.data.toList)) (⟨#[]⟩ : ByteArray).data.toList).length ≤ 140737488355328 := by
    have : (Lib.join (xs.map (·.data.toList)) (⟨#[]⟩ : ByteArray).data.toList).length = (catL xs).size := by
      rw [← hJ]
      show _ = (Lib.join (xs.map (·.data.toList)) (⟨#[]⟩ : ByteArray).data.toList).toArray.size
      rw [List.size_toArray]
    omega
  have hc := Try.strings_Join bk o c xs ⟨#[]⟩ w hcells hbk (by omega) hcap hz
  rw [hJ] at hc
  generalize catL xs = r at hc ⊢
  generalize xs.length = m at hc ⊢
  clear hJ hz hcells
  go_enter Try.func26, Try.ntmps26
  go_wp2_with fail
  refine hc.mono ?_
  rintro e w1 ⟨rfl, hw1⟩
  go_wp2
  go_ret
  exact ⟨rfl, hw1⟩

set_option maxRecDepth 20000 in
set_option maxHeartbeats 2000000 in
theorem printCol_any (c : C) (w : World) (hw : wordB c.n = true) (h0 : 1 ≤ c.k) (h1 : c.k ≤ 3) : Calls Try.prog 25 #[c.v] w fun e w' => e = .returned (.string (printC c)) ∧ Below w.heap.size w w' := by
  have hs := word_size hw
  have hc1 := fun W : World => text_any c.n W (by omega)
  have hc2 := fun W : World => mark_any c W h0 h1
  have hb := (colNum_back c h0 h1).2.2
  have hc3 := fun W : World => num_any (colNum c) W (by omega) (by omega)
  have hz1 := txtB_size c.n
  have hz3 := (encB_size (zig (colNum c))).2
  have hP : printC c = catL [txtB c.n, encB (zig (colNum c))] := by
    apply bytesEq
    rw [catL_list]
    unfold printC
    rw [app_list]
    simp
  obtain ⟨n, k, zz⟩ := c
  have hc2 : ∀ W : World, Calls Try.prog 34 #[.agg #[.string n, .int .i64 k, .bool zz]] W fun e w' => e = .returned (.int .i64 (colNum ⟨n, k, zz⟩)) ∧ Below W.heap.size W w' := hc2
  show Calls Try.prog 25 #[.agg #[.string n, .int .i64 k, .bool zz]] w _
  simp only at hc1 hs h0 h1 hz1 hP
  generalize printC ⟨n, k, zz⟩ = u at hP ⊢
  generalize colNum ⟨n, k, zz⟩ = r at hc2 hc3 hz3 hP hb
  generalize txtB n = x at hc1 hz1 hP
  generalize encB (zig r) = y at hc3 hz3 hP
  have hzu : (catL [x, y]).size ≤ 100000 := by
    show (x ++ (y ++ (⟨#[]⟩ : ByteArray))).size ≤ 100000
    rw [ByteArray.size_append, ByteArray.size_append]
    have : (⟨#[]⟩ : ByteArray).size = 0 := rfl
    omega
  have hc4 : ∀ W : World, Calls Try.prog 26 #[.slice (some ⟨W.heap.size, 0, none⟩) 2 2] (W.alloc (.cells #[.string x, .string y] 9)) fun e w' => e = .returned (.string u) ∧ Below (W.alloc (.cells #[.string x, .string y] 9)).heap.size (W.alloc (.cells #[.string x, .string y] 9)) w' := fun W => by
    rw [hP]
    refine joined_any W.heap.size 0 2 [x, y] (W.alloc (.cells #[.string x, .string y] 9)) ?_ (by simp) (by simp) (by simp) hzu
    intro j z hj
    match j, hj with
    | 0, hj => simp at hj; subst hj; simp [go_sem]
    | 1, hj => simp at hj; subst hj; simp [go_sem]
  clear hP hs
  have hB := (Below.refl w.heap.size w).alloc (Nat.le_refl _) (.cells #[.string n, .int .i64 k, .bool zz] 41)
  have hv := Box3.new w (.string n) (.int .i64 k) (.bool zz) 41
  go_enter Try.func25, Try.ntmps25
  go_wp2_with fail
  generalize w.alloc (.cells #[.string n, .int .i64 k, .bool zz] 41) = w3 at hv hB ⊢
  generalize hvw : w.heap.size = v at hv ⊢
  refine Lex.region_lex (ops := xcops) (calls := xccalls) xcord (fun W => W.cell? ⟨v, 0, none⟩ = some (.string n) ∧ W.cell? ⟨v, 1, none⟩ = some (.int .i64 k) ∧ W.cell? ⟨v, 2, none⟩ = some (.bool zz)) (by kernel_rfl) (by kernel_rfl) xcsel (by kernel_rfl) (by kernel_rfl) xclex (⟨hv.drew.c0, hv.drew.c1, hv.drew.c2⟩) ?_
  unfold xcord
  have hv := hv.drew
  have hB := hB.drew
  refine Lex.step_take (.pointer (some ⟨v, 0, none⟩)) xc0 rfl (Lex.want_none rfl) (by intro Wx hSw; (try dsimp only at hSw); go_simp; (try (first | (with_reducible rfl) | assumption | rfl))) ?_
  simp only [Act.put, List.setIfInBounds_toArray, List.set_cons_zero, List.set_cons_succ]
  refine Lex.step_take (.string n) xc1 rfl (Lex.want_none rfl) (by intro Wx hSw; (try dsimp only at hSw); go_simp; (try (first | (with_reducible rfl) | assumption | rfl))) ?_
  simp only [Act.put, List.setIfInBounds_toArray, List.set_cons_zero, List.set_cons_succ]
  refine Lex.step_take (.agg #[.string n, .int .i64 k, .bool zz]) xc3 rfl (Lex.want_none rfl) (by intro Wx hSw; (try dsimp only at hSw); go_simp; (try (first | (with_reducible rfl) | assumption | rfl))) ?_
  simp only [Act.put, List.setIfInBounds_toArray, List.set_cons_zero, List.set_cons_succ]
  refine Lex.step_call xc2 rfl (Lex.want_none rfl) (fun K hK => ?_)
  go_simp
  refine (hc1 _).mono ?_
  rintro e y1 ⟨rfl, hy1⟩
  have hv := hv.below hy1 hv.lt
  have hB := hB.trans (hy1.mono hB.size)
  clear hy1
  refine hK.out _ _ _ (fun _ h => h) ⟨hv.c0, hv.c1, hv.c2⟩ ?_
  clear hK K
  try simp only [Act.put, List.setIfInBounds_toArray, List.set_cons_zero, List.set_cons_succ]
  refine Lex.step_call xc4 rfl (Lex.want_none rfl) (fun K hK => ?_)
  go_simp
  refine (hc2 _).mono ?_
  rintro e y2 ⟨rfl, hy2⟩
  have hv := hv.below hy2 hv.lt
  have hB := hB.trans (hy2.mono hB.size)
  clear hy2
  refine hK.out _ _ _ (fun _ h => h) ⟨hv.c0, hv.c1, hv.c2⟩ ?_
  clear hK K
  try simp only [Act.put, List.setIfInBounds_toArray, List.set_cons_zero, List.set_cons_succ]
  refine Lex.step_call xc5 rfl (Lex.want_none rfl) (fun K hK => ?_)
  go_simp
  refine (hc3 _).mono ?_
  rintro e y3 ⟨rfl, hy3⟩
  have hv := hv.below hy3 hv.lt
  have hB := hB.trans (hy3.mono hB.size)
  clear hy3
  refine hK.out _ _ _ (fun _ h => h) ⟨hv.c0, hv.c1, hv.c2⟩ ?_
  clear hK K
  try simp only [Act.put, List.setIfInBounds_toArray, List.set_cons_zero, List.set_cons_succ]
  refine Lex.step_call xc6 rfl (Lex.want_none rfl) (fun K hK => ?_)
  go_simp
  have hv := hv.alloc (.cells #[.string x, .string y] 9)
  have hB := hB.alloc hB.size (.cells #[.string x, .string y] 9)
  refine hK.out _ _ _ (fun _ h => h) ⟨hv.c0, hv.c1, hv.c2⟩ ?_
  clear hK K
  try simp only [Act.put, List.setIfInBounds_toArray, List.set_cons_zero, List.set_cons_succ]
  refine Lex.step_call xc7 rfl (Lex.want_none rfl) (fun K hK => ?_)
  go_simp
  refine (hc4 _).mono ?_
  rintro e y4 ⟨rfl, hy4⟩
  have hv := hv.below hy4 hv.lt
  have hB := hB.trans (hy4.mono hB.size)
  clear hy4
  refine hK.out _ _ _ (fun _ h => h) ⟨hv.c0, hv.c1, hv.c2⟩ ?_
  clear hK K
  try simp only [Act.put, List.setIfInBounds_toArray, List.set_cons_zero, List.set_cons_succ]
  refine Lex.step_take (.string u) xc8 rfl (Lex.want_none rfl) (by intro Wx hSw; (try dsimp only at hSw); go_simp; (try (first | (with_reducible rfl) | assumption | rfl))) ?_
  simp only [Act.put, List.setIfInBounds_toArray, List.set_cons_zero, List.set_cons_succ]
  refine NoPanic.normal ?_
  subst hvw
  go_wp2
  go_ret
  exact ⟨rfl, hB⟩

theorem own_below {w w' : World} {B base : Nat} {e : TypeId} {size : Nat} {v : Value} {n : Nat} {xs : List Value} (h : w.ownsRow base e size v n xs) (hb : Below B w w') (hB : w.heap.size ≤ B) : w'.ownsRow base e size v n xs := by
  refine ⟨h.1, ?_⟩
  rcases h.2 with h2 | ⟨g, cap, cur, e1, e2, e3, r⟩
  · exact Or.inl h2
  · refine Or.inr ⟨g, cap, cur, e1, e2, ?_, r⟩
    have hg : g < w.heap.size := (Array.getElem?_eq_some_iff.1 e3).1
    rw [hb.block g (Nat.lt_of_lt_of_le hg hB)]
    exact e3
theorem own_form {w : World} {base : Nat} {e : TypeId} {v : Value} {n : Nat} {xs : List ByteArray} (h : w.ownsRow base e 1 v n (xs.map Value.string)) (hn : 0 < n) :
    ∃ g cap, v = .slice (some ⟨g, 0, none⟩) n cap ∧ g < w.heap.size ∧ n ≤ cap ∧ ∀ (j : Nat) x, xs[j]? = some x → w.cell? ⟨g, 0 + j, none⟩ = some (.string x) := by
  have hl := h.1
  have h' := h
  rcases h.2 with ⟨_, h2⟩ | ⟨g, cap, cur, rfl, e2, e3, e4, e5, e6, e7⟩
  · omega
  · refine ⟨g, cap, rfl, (Array.getElem?_eq_some_iff.1 e3).1, e4, fun j x hx => ?_⟩
    have hj : j < n * 1 := by
      have := (List.getElem?_eq_some_iff.1 hx).1
      rw [List.length_map] at hl
      omega
    rw [Nat.zero_add, h'.cellAt j hj, List.getElem?_map, hx]
    rfl

theorem info9 : (Try.prog.info? 9).map (fun i => (i.zero, i.size, i.bytes)) = some (some (.string ⟨#[]⟩), 1, 16) := by kernel_rfl

set_option maxRecDepth 20000 in
set_option maxHeartbeats 2000000 in
theorem print_any (A : Option Addr) (cp : Nat) (nm : ByteArray) (l : List C) (lo : Nat) (w : World) (h : HasCols w lo A l) (hr : rightS nm l = true) :
    Calls Try.prog 11 #[.agg #[.string nm, .slice A l.length cp]] w fun e w' => e = .returned (.string (printS nm l)) ∧ Below w.heap.size w w' := by
  obtain ⟨i0, hi, hz0, hz1, hz2⟩ := info_parts info9
  obtain ⟨hw, h1, h8, hall⟩ := right_parts hr
  have hs := word_size hw
  have hzp := printS_size hr
  have hc1 := fun W : World => text_any nm W (by omega)
  have hc2 := fun W : World => num_any (l.length : Int) W (by omega) (by omega)
  have hP : printS nm l = catL (txtB nm :: encB (zig (l.length : Int)) :: l.map printC) := by
    simp only [catL, catC_map]
    rfl
  have hPL : (l.map printC).length = l.length := List.length_map ..
  obtain ⟨m, hm⟩ : ∃ m, l.length = m := ⟨_, rfl⟩
  rw [hm] at hc2 hP hPL h1 h8 ⊢
  generalize printS nm l = u at hP hzp ⊢
  generalize txtB nm = x at hc1 hP
  generalize encB (zig (m : Int)) = y at hc2 hP
  have HA := Lib.hid h
  have HM := Lib.hid hm
  have HP := Lib.hid hP
  have HL := Lib.hid hall
  have HPL := Lib.hid hPL
  have hB := (Below.refl w.heap.size w).alloc (Nat.le_refl _) (.cells #[.string nm, .slice A m cp] 24)
  have hx := Box2.new w (.string nm) (.slice A m cp) 24
  have hC := h.below hB (Nat.le_refl _)
  clear h hm hP hall hPL hs hw hr
  go_enter Try.func11, Try.ntmps11
  go_wp2_with fail
  generalize w.alloc (.cells #[.string nm, .slice A m cp] 24) = w3 at hx hB hC ⊢
  generalize hvw : w.heap.size = g at hx ⊢
  refine Lex.region_lex (ops := xpops) (calls := xpcalls) xpord (fun W => W.cell? ⟨g, 0, none⟩ = some (.string nm) ∧ W.cell? ⟨g, 1, none⟩ = some (.slice A m cp)) (by kernel_rfl) (by kernel_rfl) xpsel (by kernel_rfl) (by kernel_rfl) xplex (⟨hx.drew.c0, hx.drew.c1⟩) ?_
  unfold xpord
  have hx := hx.drew
  have hC := hC.below (Below.refl _ _).drew (Nat.le_refl _)
  have hB := hB.drew
  refine Lex.step_take (.pointer (some ⟨g, 0, none⟩)) xp0 rfl (Lex.want_none rfl) (by intro Wx hSw; (try dsimp only at hSw); go_simp; (try (first | (with_reducible rfl) | assumption | rfl))) ?_
  simp only [Act.put, List.setIfInBounds_toArray, List.set_cons_zero, List.set_cons_succ]
  refine Lex.step_take (.string nm) xp1 rfl (Lex.want_none rfl) (by intro Wx hSw; (try dsimp only at hSw); go_simp; (try (first | (with_reducible rfl) | assumption | rfl))) ?_
  simp only [Act.put, List.setIfInBounds_toArray, List.set_cons_zero, List.set_cons_succ]
  refine Lex.step_take (.pointer (some ⟨g, 1, none⟩)) xp3 rfl (Lex.want_none rfl) (by intro Wx hSw; (try dsimp only at hSw); go_simp; (try (first | (with_reducible rfl) | assumption | rfl))) ?_
  simp only [Act.put, List.setIfInBounds_toArray, List.set_cons_zero, List.set_cons_succ]
  refine Lex.step_take (.slice A m cp) xp4 rfl (Lex.want_none rfl) (by intro Wx hSw; (try dsimp only at hSw); go_simp; (try (first | (with_reducible rfl) | assumption | rfl))) ?_
  simp only [Act.put, List.setIfInBounds_toArray, List.set_cons_zero, List.set_cons_succ]
  refine Lex.step_take (.int .i64 m) xp5 rfl (Lex.want_none rfl) (by intro Wx hSw; (try dsimp only at hSw); go_simp; (try (first | (with_reducible rfl) | assumption | rfl))) ?_
  simp only [Act.put, List.setIfInBounds_toArray, List.set_cons_zero, List.set_cons_succ]
  refine Lex.step_call xp2 rfl (Lex.want_none rfl) (fun K hK => ?_)
  go_simp
  refine (hc1 _).mono ?_
  rintro e y1 ⟨rfl, hy1⟩
  have hx := hx.below hy1 hx.lt
  have hC := hC.below hy1 (Nat.le_refl _)
  have hB := hB.trans (hy1.mono hB.size)
  clear hy1
  refine hK.out _ _ _ (fun _ h => h) ⟨hx.c0, hx.c1⟩ ?_
  clear hK K
  try simp only [Act.put, List.setIfInBounds_toArray, List.set_cons_zero, List.set_cons_succ]
  refine Lex.step_call xp6 rfl (Lex.want_none rfl) (fun K hK => ?_)
  go_simp
  refine (hc2 _).mono ?_
  rintro e y2 ⟨rfl, hy2⟩
  have hx := hx.below hy2 hx.lt
  have hC := hC.below hy2 (Nat.le_refl _)
  have hB := hB.trans (hy2.mono hB.size)
  clear hy2
  refine hK.out _ _ _ (fun _ h => h) ⟨hx.c0, hx.c1⟩ ?_
  clear hK K
  try simp only [Act.put, List.setIfInBounds_toArray, List.set_cons_zero, List.set_cons_succ]
  refine Lex.step_call xp7 rfl (Lex.want_none rfl) (fun K hK => ?_)
  go_simp
  have hy3 := (Below.refl y2.heap.size y2).alloc (Nat.le_refl _) (.cells #[.string x, .string y] 9)
  have hO := World.ownsRow_lit (base := w.heap.size) (e := 9) (size := 1) y2 #[.string x, .string y] 2 hB.size (by decide) rfl
  have hx := hx.below hy3 hx.lt
  have hC := hC.below hy3 (Nat.le_refl _)
  have hB := hB.trans (hy3.mono hB.size)
  clear hy3
  refine hK.out _ _ _ (fun _ h => h) ⟨hx.c0, hx.c1⟩ ?_
  clear hK K
  try simp only [Act.put, List.setIfInBounds_toArray, List.set_cons_zero, List.set_cons_succ]
  refine Lex.step_take (.slice (some ⟨y2.heap.size, 0, none⟩) 2 2) xp8 rfl (Lex.want_none rfl) (by intro Wx hSw; (try dsimp only at hSw); go_simp; (try (first | (with_reducible rfl) | assumption | rfl))) ?_
  simp only [Act.put, List.setIfInBounds_toArray, List.set_cons_zero, List.set_cons_succ]
  refine NoPanic.normal ?_
  subst hvw
  have g1 := hx.c1
  generalize y2.alloc (.cells #[.string x, .string y] 9) = y3 at hx hC hB hO g1 ⊢
  generalize y2.heap.size = r0 at hO ⊢
  go_wp2
  clear hC
  go_loopw [3, 17] (fun pv i wr => ∃ q : Nat, q ≤ m ∧ i = .int .i64 q ∧ wr.ownsRow w.heap.size 9 1 pv (2 + q) ((x :: y :: (l.take q).map printC).map Value.string) ∧ Below w.heap.size w wr) (fun _ i _ => m - (intOf i).toNat)
  case atStart => exact ⟨0, Nat.zero_le _, rfl, hO, hB⟩
  case round =>
    obtain ⟨q, hq, rfl, hown, hBr⟩ := hrel
    by_cases hlt : q < m
    · have hg : l[q]? = some (l[q]'(by rw [HM.out]; exact hlt)) := List.getElem?_eq_getElem _
      obtain ⟨b, o, rfl, hlo, hlb, hc⟩ := (HA.out.below hBr (Nat.le_refl _)) (fun e => by have := HM.out; rw [e] at this; simp at this; omega)
      obtain ⟨d0, d1, d2⟩ := hc q _ hg
      obtain ⟨a1, a2, a3⟩ := HL.out q _ hg
      have HG := Lib.hid hg
      generalize (l[q]'(by rw [HM.out]; exact hlt)) = c at HG d0 d1 d2 a1 a2 a3
      have hcall := fun W : World => printCol_any c W a1 a2 a3
      have HT : Hid ((x :: y :: (l.take (q + 1)).map printC).map Value.string = (x :: y :: (l.take q).map printC).map Value.string ++ [.string (printC c)]) := Lib.hid (by
        rw [List.take_add_one, HG.out]
        simp)
      obtain ⟨n, k, zz⟩ := c
      have hcall : ∀ W : World, Calls Try.prog 25 #[.agg #[.string n, .int .i64 k, .bool zz]] W fun e w' => e = .returned (.string (printC ⟨n, k, zz⟩)) ∧ Below W.heap.size W w' := hcall
      simp only at d0 d1 d2
      generalize printC ⟨n, k, zz⟩ = pc at hcall HT
      generalize (x :: y :: (l.take q).map printC).map Value.string = row at hown HT
      have hBr2 := hBr.alloc hBr.size (.cells #[.string n, .int .i64 k, .bool zz] 41)
      have hown2 := hown.alloc (.cells #[.string n, .int .i64 k, .bool zz] 41)
      have HO2 := Lib.hid hown2
      clear hc hg a1 a2 a3 HG hown hown2
      go_wp2_with fail
      refine (hcall _).mono ?_
      rintro e y5 ⟨rfl, hy5⟩
      have hown3 := own_below HO2.out hy5 (Nat.le_refl _)
      have hBr3 := hBr2.trans (hy5.mono hBr2.size)
      have hbs := hBr3.size
      clear HO2 hBr hBr2 hy5 hcall d0 d1 d2
      go_wp2_with (at_builtin; refine wpList_append_own _ rfl _ _ 47 rfl w.heap.size 9 i0 (.string ⟨#[]⟩) 1 16 Try.underlying47 hi hz0 hz1 hz2 rfl (by decide) _ _ _ rfl (hown3.alloc _) ⟨y5.heap.size, 0, none⟩ 1 1 [.string pc] rfl rfl ?c1 ?c2 ?c3 ?c4 ?c5 ?_)
      case c1 =>
        intro j x hj
        match j, hj with
        | 0, hj => simp at hj; subst hj; simp [Addr.add]
      case c2 => intro x hx; simp at hx; subst hx; rfl
      case c3 => unfold maxLen; omega
      case c4 => omega
      case c5 => simp; omega
      intro v' w1 hown' hgrow _
      have R : w1.ownsRow w.heap.size 9 1 v' (2 + (q + 1)) ((x :: y :: (l.take (q + 1)).map printC).map Value.string) ∧ Below w.heap.size w w1 :=
        ⟨by rw [HT.out]; exact hown', (hBr3.alloc hBr3.size _).grown hgrow (by simpa using Nat.le_succ_of_le hBr3.size) (fun j hj => (hown3.lt j hj).1)⟩
      clear hown' hgrow hown3 hBr3
      go_wp2
      go_roundw
      case rel => exact ⟨q + 1, by omega, by go_num, R.1, R.2⟩
      case measure => simp [intOf]; omega
    · obtain rfl : q = m := by omega
      have hxs : (x :: y :: (l.take q).map printC) = x :: y :: l.map printC := by rw [← HM.out, List.take_length]
      rw [hxs] at hown
      have hlen : (x :: y :: l.map printC).length = 2 + q := by rw [List.length_cons, List.length_cons, HPL.out]; omega
      obtain ⟨g, cap, hv, hgl, hcap, hcl⟩ := own_form hown (by omega)
      subst hv
      have hcall := joined_any g 0 cap (x :: y :: l.map printC) wr hcl hgl (by omega) (by omega) (by rw [← HP.out]; omega)
      rw [hlen, ← HP.out] at hcall
      clear hown hxs hlen hcl
      go_wp2_with fail
      refine hcall.mono ?_
      rintro e y7 ⟨rfl, hy7⟩
      go_wp2
      go_ret
      exact ⟨rfl, hBr.trans (hy7.mono hBr.size)⟩
end Go.Proofs.Ytajoklimdlalhaa.Sc
