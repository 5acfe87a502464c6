/- An index with another bucket: the document's, walked. -/
import Derived.Test.YtocmkjccaajnnaaHaD
import Derived.OneCell
namespace Go.Proofs.Ytocmkjccaajnnaa.Ha
open Go.RowKit Pac Bu Ls Lex Go.Proofs.Ytocmkjccaajnnaa.Or

theorem results_hash {fn : Func} {p : Tmp} (h : fn.results = #[.cell p 27]) (tmps : Array Value) (w : World) (g : Nat) (v0 v1 v2 : Value)
    (hp : tmps.getD p undef = .pointer (some ⟨g, 0, none⟩)) (c0 : w.cell? ⟨g, 0, none⟩ = some v0) (c1 : w.cell? ⟨g, 1, none⟩ = some v1) (c2 : w.cell? ⟨g, 2, none⟩ = some v2) :
    (results fn tmps).run Try.prog w = .ok (.agg #[v0, v1, v2]) w := by
  have hp' : tmps[p]?.getD undef = .pointer (some ⟨g, 0, none⟩) := by simpa using hp
  clear hp
  simp only [results, h]
  go_simp
/-- Where an address may point. -/
def Adr (X : Nat → Prop) (A : Option Addr) : Prop := ∀ b o s, A = some ⟨b, o, s⟩ → X b
def HasEX (w : World) (X : Nat → Prop) (A : Option Addr) (l : List E) : Prop := HasE w 0 A l ∧ (l ≠ [] → Adr X A)
/-- Buckets, in blocks of X. -/
def HasBsX (w : World) (X : Nat → Prop) (A : Option Addr) (bs : List (List E)) : Prop :=
  ∃ hs : List (Li.Gr E), hs.map Li.Gr.l = bs ∧ Li.HasL Li.cellsG 1 w 0 A hs ∧ (∀ x ∈ hs, HasE w 0 x.A x.l ∧ x.l.length ≤ x.cp) ∧ (hs ≠ [] → Adr X A) ∧ ∀ x ∈ hs, x.l ≠ [] → Adr X x.A
theorem HasBsX.bs {w : World} {X : Nat → Prop} {A : Option Addr} {bs : List (List E)} (h : HasBsX w X A bs) : HasBs w 0 A bs := by
  obtain ⟨hs, h1, h2, h3, _, _⟩ := h
  exact ⟨hs, h1, h2, h3⟩
theorem adr_lt {α : Type} {R : α → List Value} {k lo : Nat} {w : World} {A : Option Addr} {l : List α} (h : Li.HasL R k w lo A l) (hn : l ≠ []) : Adr (fun b => lo ≤ b ∧ b < w.heap.size) A := fun b o s e => by
  obtain ⟨b', o', hA, hlo, hlt, _⟩ := h hn
  rw [e] at hA
  injection hA with hA
  injection hA with e1 _ _
  subst e1
  exact ⟨hlo, hlt⟩
theorem HasBs.x {w : World} {A : Option Addr} {bs : List (List E)} (h : HasBs w 0 A bs) : HasBsX w (fun b => b < w.heap.size) A bs := by
  obtain ⟨hs, h1, h2, h3⟩ := h
  exact ⟨hs, h1, h2, h3, fun hn b o s e => (adr_lt h2 hn b o s e).2, fun x hx hn b o s e => (adr_lt (h3 x hx).1 hn b o s e).2⟩
theorem HasBsX.lt {w : World} {X : Nat → Prop} {A : Option Addr} {bs : List (List E)} (h : HasBsX w X A bs) : HasBsX w (fun b => X b ∧ b < w.heap.size) A bs := by
  obtain ⟨hs, h1, h2, h3, h4, h5⟩ := h
  exact ⟨hs, h1, h2, h3, fun hn b o s e => ⟨h4 hn b o s e, (adr_lt h2 hn b o s e).2⟩, fun x hx hn b o s e => ⟨h5 x hx hn b o s e, (adr_lt (h3 x hx).1 hn b o s e).2⟩⟩
theorem HasBsX.mono {w : World} {X Y : Nat → Prop} {A : Option Addr} {bs : List (List E)} (h : HasBsX w X A bs) (hXY : ∀ b, X b → Y b) : HasBsX w Y A bs := by
  obtain ⟨hs, h1, h2, h3, h4, h5⟩ := h
  exact ⟨hs, h1, h2, h3, fun hn b o s e => hXY _ (h4 hn b o s e), fun x hx hn b o s e => hXY _ (h5 x hx hn b o s e)⟩
theorem HasBsX.below {w w' : World} {X : Nat → Prop} {B : Nat} {A : Option Addr} {bs : List (List E)} (h : HasBsX w X A bs) (hb : Below B w w') (hB : w.heap.size ≤ B) : HasBsX w' X A bs := by
  obtain ⟨hs, h1, h2, h3, h4, h5⟩ := h
  exact ⟨hs, h1, h2.below hb hB, fun x hx => ⟨(h3 x hx).1.below hb hB, (h3 x hx).2⟩, h4, h5⟩
theorem hasL_bar {α : Type} {R : α → List Value} {k g : Nat} {w w' : World} {X : Nat → Prop} {A : Option Addr} {l : List α} (h : Li.HasL R k w 0 A l) (ha : l ≠ [] → Adr X A) (hx : ¬ X g) (hb : Bar g w w') : Li.HasL R k w' 0 A l := fun hn => by
  obtain ⟨b, o, hA, hlo, hlt, hc⟩ := h hn
  have hne : b ≠ g := fun e => by
    subst e
    exact hx (ha hn b o none hA)
  exact ⟨b, o, hA, hlo, Nat.lt_of_lt_of_le hlt hb.size, fun j x hj i v hv => (hb.cell (p := ⟨b, _, none⟩) hlt hne).trans (hc j x hj i v hv)⟩
theorem HasBsX.bar {w w' : World} {X : Nat → Prop} {g : Nat} {A : Option Addr} {bs : List (List E)} (h : HasBsX w X A bs) (hx : ¬ X g) (hb : Bar g w w') : HasBsX w' X A bs := by
  obtain ⟨hs, h1, h2, h3, h4, h5⟩ := h
  exact ⟨hs, h1, hasL_bar h2 h4 hx hb, fun x hx' => ⟨hasL_bar (h3 x hx').1 (h5 x hx') hx hb, (h3 x hx').2⟩, h4, h5⟩
/-- An index that a call returns: its buckets lie where the arguments' did, or in blocks of the call's own. -/
def HashPost (X : Nat → Prop) (h : H) (w : World) (e : Ending) (w' : World) : Prop :=
  ∃ A n cp, e = .returned (.agg #[.int .i64 h.lv, .int .i64 h.nx, .slice A n cp]) ∧ h.bs.length = n ∧ n ≤ cp ∧ HasBsX w' (fun b => X b ∨ w.heap.size ≤ b) A h.bs ∧ Below w.heap.size w w'
theorem infoB : (Try.prog.info? 42).map (fun i => (i.zero, i.size, i.bytes)) = some (some (.slice none 0 0), 1, 24) := by kernel_rfl
theorem cellsG_setE (hs : List (Li.Gr E)) (q : Nat) (x : Li.Gr E) : (Li.cellsL Li.cellsG hs).set q (.slice x.A x.l.length x.cp) = Li.cellsL Li.cellsG (hs.set q x) := by
  rw [Li.cellsG_map, Li.cellsG_map, List.map_set]
theorem news_of {α : Type} {R : α → List Value} {k : Nat} (hk : 0 < k) (hR : ∀ x, (R x).length = k) {W : World} {lo b o : Nat} {l : List α} (h : Li.HasL R k W lo (some ⟨b, o, none⟩) l) : ∀ (t : Nat) (u : Value), (Li.cellsL R l)[t]? = some u → W.cell? ((⟨b, o, none⟩ : Addr).add t) = some u := fun t u hu => by
  have ht := (List.getElem?_eq_some_iff.1 hu).1
  rw [Li.cellsL_len hR] at ht
  have htk : t / k < l.length := Nat.div_lt_of_lt_mul (by rw [Nat.mul_comm]; exact ht)
  have hx : l[t / k]? = some (l[t / k]'htk) := List.getElem?_eq_getElem _
  generalize (l[t / k]'htk) = x at hx
  have hmk : t % k < (R x).length := by rw [hR]; exact Nat.mod_lt _ hk
  have hi : (R x)[t % k]? = some ((R x)[t % k]'hmk) := List.getElem?_eq_getElem _
  generalize ((R x)[t % k]'hmk) = y at hi
  have e : t / k * k + t % k = t := by rw [Nat.mul_comm]; exact Nat.div_add_mod t k
  have h1 := Li.cellsL_at hR l _ x hx _ y hi
  rw [e, hu] at h1
  injection h1 with h1
  subst h1
  obtain ⟨b', o', hA, _, _, hc⟩ := h (fun e => by rw [e] at hx; simp at hx)
  injection hA with hA
  injection hA with e1 e2
  subst e1 e2
  have h2 := hc _ x hx _ u hi
  rw [Nat.add_assoc, e] at h2
  have hadd : (⟨b, o, none⟩ : Addr).add t = ⟨b, o + t, none⟩ := by unfold Addr.add; split <;> simp_all
  rw [hadd]
  exact h2
theorem with_post {X : Nat → Prop} {w W : World} {lv nx n i g5 c5 base c2 : Nat} {bs : List (List E)} {hs : List (Li.Gr E)} {b : List E} {A2 : Option Addr} (hhs : hs.map Li.Gr.l = bs) (hall : ∀ x ∈ hs, HasE w 0 x.A x.l ∧ x.l.length ≤ x.cp) (hX : ∀ x ∈ hs, x.l ≠ [] → Adr X x.A) (hlen : hs.length = n) (hb : HasEX w X A2 b) (hbs : w.heap.size ≤ base) (hc : b.length ≤ c2)
    (hown : W.ownsRow base 42 1 (.slice (some ⟨g5, 0, none⟩) n c5) n (Li.cellsL Li.cellsG (hs.set i ⟨A2, c2, b⟩))) (hB : Below w.heap.size w W) :
    HashPost X (withB ⟨lv, nx, bs⟩ i b) w (.returned (.agg #[.int .i64 lv, .int .i64 nx, .slice (some ⟨g5, 0, none⟩) n c5])) W := by
  have hl2 : (hs.set i ⟨A2, c2, b⟩).length = n := by rw [List.length_set, hlen]
  obtain ⟨A', c', e, hcc, hl⟩ := Li.list_of_own Li.cellsG_len hown hl2
  injection e with e1 e2 e3
  subst e1 e3
  refine ⟨_, n, _, rfl, ?_, hcc, ⟨hs.set i ⟨A2, c2, b⟩, ?_, hl.lower (Nat.zero_le _), fun x hx => ?_, fun hn b o s e => Or.inr (Nat.le_trans hbs (adr_lt hl hn b o s e).1), fun x hx => ?_⟩, hB⟩
  · show (bs.set i b).length = n
    rw [List.length_set, ← hhs, List.length_map, hlen]
  · rw [List.map_set, hhs]
    rfl
  · rcases List.mem_or_eq_of_mem_set hx with h | rfl
    · exact ⟨(hall x h).1.below hB (Nat.le_refl _), (hall x h).2⟩
    · exact ⟨hb.1.below hB (Nat.le_refl _), hc⟩
  · rcases List.mem_or_eq_of_mem_set hx with h | rfl
    · exact fun hn b o s e => Or.inl (hX x h hn b o s e)
    · exact fun hn b o s e => Or.inl (hb.2 hn b o s e)
section
variable {A A2 : Option Addr} {n cp m c2 : Nat} {w : World}
set_option maxRecDepth 20000 in
set_option maxHeartbeats 6400000 in
theorem refWith_any (X : Nat → Prop) (h : H) (i : Nat) (b : List E) (hb : HasBsX w X A h.bs) (hn : h.bs.length = n) (h9 : n ≤ 100000) (hi : i < n) (hB2 : HasEX w X A2 b) (hm : b.length = m) (hc : m ≤ c2) :
    Calls Try.prog 31 #[.agg #[.int .i64 h.lv, .int .i64 h.nx, .slice A n cp], .int .i64 i, .slice A2 m c2] w (HashPost X (withB h i b) w) := by
  subst hm
  obtain ⟨iS, hiS, hs0, hs1, hs2⟩ := info_parts infoB
  obtain ⟨lv, nx, bs⟩ := h
  simp only at hb hn
  obtain ⟨post, hpe⟩ : ∃ post, HashPost X (withB ⟨lv, nx, bs⟩ i b) w = post := ⟨_, rfl⟩
  have HPE := Lib.hid hpe
  simp only
  rw [hpe]
  clear hpe
  have hB := (Below.refl w.heap.size w).alloc (Nat.le_refl _) (.cells #[.int .i64 lv, .int .i64 nx, .slice A n cp] 27)
  have hx := Box3.new w (.int .i64 lv) (.int .i64 nx) (.slice A n cp) 27
  obtain ⟨g, hg⟩ : ∃ g, w.heap.size = g := ⟨_, rfl⟩
  have hz : (w.alloc (.cells #[.int .i64 lv, .int .i64 nx, .slice A n cp] 27)).heap.size = g + 1 := by simp [hg]
  rw [hg] at hx
  generalize hw0 : w.alloc (.cells #[.int .i64 lv, .int .i64 nx, .slice A n cp] 27) = wa at hB hx hz
  have hBb := (Below.refl wa.heap.size wa).alloc (Nat.le_refl _) (.cells #[.int .i64 0, .int .i64 0, .slice none 0 0] 27)
  have hy := Box3.new wa (.int .i64 0) (.int .i64 0) (.slice none 0 0) 27
  have hz2 : (wa.alloc (.cells #[.int .i64 0, .int .i64 0, .slice none 0 0] 27)).heap.size = g + 1 + 1 := by simp [hz]
  rw [hz] at hy
  have hx := hx.below hBb hx.lt
  have hB := hB.trans (hBb.mono hB.size)
  generalize hw1 : wa.alloc (.cells #[.int .i64 0, .int .i64 0, .slice none 0 0] 27) = wb at hB hx hy hz2
  obtain ⟨hs, hhs, hHL, hall, _, hXA⟩ := hb
  have hlen : hs.length = n := by rw [← hn, ← hhs, List.length_map]
  have hsrc : ∃ bm om, A = some ⟨bm, om, none⟩ := by
    have h0 : hs[0]? = some (hs[0]'(by omega)) := List.getElem?_eq_getElem _
    obtain ⟨bm, om, hA, _⟩ := hHL (fun e => by rw [e] at hlen; simp at hlen; omega)
    exact ⟨bm, om, hA⟩
  obtain ⟨bm, om, rfl⟩ := hsrc
  have hownW := World.ownsRow_lit (e := 42) (size := 1) (base := wb.heap.size) wb #[] 0 (Nat.le_refl _) (by unfold maxLen; omega) rfl
  have hy6 := (Below.refl wb.heap.size wb).alloc (Nat.le_refl _) (.cells #[] 42)
  have hsW : wb.heap.size ≤ (wb.alloc (.cells #[] 42)).heap.size := by simp
  have hnw := news_of (by decide) Li.cellsG_len ((hHL.below hB (Nat.le_refl _)).below hy6 (Nat.le_refl _))
  have HLN : Hid ((Li.cellsL Li.cellsG hs).length = n * 1) := Lib.hid (by rw [Li.cellsL_len Li.cellsG_len, hlen])
  have HON : Hid (∀ v ∈ Li.cellsL Li.cellsG hs, v.oneCell' = true) := Lib.hid (fun v hv => by
    rw [Li.cellsG_map] at hv
    obtain ⟨x, _, rfl⟩ := List.mem_map.1 hv
    simp [Value.oneCell'])
  have x2 := (hx.below hy6 hx.lt).c2
  have HW := Lib.hid (And.intro hownW (And.intro hnw (And.intro hsW hy6)))
  have HX := Lib.hid (And.intro hx (And.intro hy (And.intro hB (And.intro hz2 (And.intro hhs (And.intro hall (And.intro hXA hlen)))))))
  clear hownW hnw hsW hy6 hx hy hB hhs hall hlen hBb hHL hz2 hXA
  go_enter Try.func31, Try.ntmps31
  go_wp2_with (at_builtin; go_must (refine wpList_append_own _ rfl _ _ 25 rfl wb.heap.size 42 iS (.slice none 0 0) 1 24 Try.underlying25 hiS hs0 hs1 hs2 rfl (by decide) (.slice (some ⟨wb.heap.size, 0, none⟩) 0 0) 0 [] rfl HW.out.1 ⟨bm, om, none⟩ n cp (Li.cellsL Li.cellsG hs) rfl HLN.out HW.out.2.1 HON.out (by unfold maxLen; omega) (by omega) HW.out.2.2.1 ?_))
  intro v6 y6 hown hgrow6 _
  obtain ⟨hownW, _, hsW, hy6⟩ := HW.out
  obtain ⟨hx, hy, hB, hz2, hhs, hall, hXA, hlen⟩ := HX.out
  have hb6 := hy6.grown hgrow6 hsW (fun k hk => (hownW.lt k hk).1)
  (try simp only [Nat.zero_add, List.nil_append] at hown)
  obtain ⟨g5, c5, rfl, hg5, hgl⟩ := hown.form (by omega)
  have hB := hB.trans (hb6.mono hB.size)
  have hx := hx.below hb6 hx.lt
  have hy := hy.below hb6 hy.lt
  have x2 := hx.c2
  have xf := hx.f 2
  have hx := hx.set2 (.slice (some ⟨g5, 0, none⟩) n c5)
  have hy := hy.setOther (p := ⟨g, 2, none⟩) (by show g ≠ g + 1; omega) (.slice (some ⟨g5, 0, none⟩) n c5)
  have hB := hB.setCell (p := ⟨g, 2, none⟩) (by show w.heap.size ≤ g; omega) (.slice (some ⟨g5, 0, none⟩) n c5)
  have hown := ownsRow_setCell_below hown (a := ⟨g, 2, none⟩) (by show g < wb.heap.size; omega) (.slice (some ⟨g5, 0, none⟩) n c5)
  have s1 := hown.cellAt i (by omega)
  have hxi : hs[i]? = some (hs[i]'(by omega)) := List.getElem?_eq_getElem _
  generalize (hs[i]'(by omega)) = xi at hxi
  rw [Li.cellsG_map, List.getElem?_map, hxi] at s1
  have s1 : (y6.setCell ⟨g, 2, none⟩ (.slice (some ⟨g5, 0, none⟩) n c5)).cell? ⟨g5, i, none⟩ = some (.slice xi.A xi.l.length xi.cp) := s1
  clear hxi
  have s2 := hown.frozenAt i
  have hx8 := hx.setOther (p := ⟨g5, i, none⟩) (by show g5 ≠ g; omega) (.slice A2 b.length c2)
  have hy8 := hy.setOther (p := ⟨g5, i, none⟩) (by show g5 ≠ g + 1; omega) (.slice A2 b.length c2)
  have hB8 := hB.setCell (p := ⟨g5, i, none⟩) (by show w.heap.size ≤ g5; omega) (.slice A2 b.length c2)
  have hown8 := (hown.stored i (.slice A2 b.length c2)).1
  rw [show (Li.cellsL Li.cellsG hs).set i (.slice A2 b.length c2) = Li.cellsL Li.cellsG (hs.set i ⟨A2, c2, b⟩) from cellsG_setE hs i ⟨A2, c2, b⟩] at hown8
  have q0 := hx8.c0
  have q1 := hx8.c1
  have q2 := hx8.c2
  have r0 := hy8.c0
  have r1 := hy8.c1
  have r2 := hy8.c2
  have rf0 := hy8.f 0
  have rf1 := hy8.f 1
  have rf2 := hy8.f 2
  have i1 : (i : Int) < (n : Int) := by omega
  have i0 : (0 : Int) ≤ (i : Int) := by omega
  have hy9 := ((hy8.set0 (.int .i64 lv)).set1 (.int .i64 nx)).set2 (.slice (some ⟨g5, 0, none⟩) n c5)
  have hB9 := ((hB8.setCell (p := ⟨g + 1, 0, none⟩) (by show w.heap.size ≤ g + 1; omega) (.int .i64 lv)).setCell (p := ⟨g + 1, 1, none⟩) (by show w.heap.size ≤ g + 1; omega) (.int .i64 nx)).setCell (p := ⟨g + 1, 2, none⟩) (by show w.heap.size ≤ g + 1; omega) (.slice (some ⟨g5, 0, none⟩) n c5)
  have hown9 := ownsRow_setCell_below (ownsRow_setCell_below (ownsRow_setCell_below hown8 (a := ⟨g + 1, 0, none⟩) (by show g + 1 < wb.heap.size; omega) (.int .i64 lv)) (a := ⟨g + 1, 1, none⟩) (by show g + 1 < wb.heap.size; omega) (.int .i64 nx)) (a := ⟨g + 1, 2, none⟩) (by show g + 1 < wb.heap.size; omega) (.slice (some ⟨g5, 0, none⟩) n c5)
  have HE := Lib.hid (with_post (lv := lv) (nx := nx) hhs hall hXA hlen hB2 (by omega) hc hown9 hB9)
  rw [HPE.out] at HE
  have H9 := Lib.hid hy9
  clear hownW hsW hy6 hx hy hB hown hgrow6 hb6 HW HLN HON hz2 hx8 hy8 hB8 hown8 hy9 hB9 hown9 hhs hall hlen hXA HX
  go_wp2
  refine bodyPost_ret (results_hash rfl _ _ (g + 1) _ _ _ rfl H9.out.c0 H9.out.c1 H9.out.c2) rfl ?_
  exact HE.out
end
end Go.Proofs.Ytocmkjccaajnnaa.Ha
