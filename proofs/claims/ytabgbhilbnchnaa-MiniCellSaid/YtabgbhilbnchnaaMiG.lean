/- What right cells are; the law's own schema, walked. -/
import Derived.Test.YtabgbhilbnchnaaMiF
namespace Go.Proofs.Ytabgbhilbnchnaa.Mi
open Go.RowKit Pac Va Sc Ro Lex

theorem col_kind {nm : ByteArray} {cs : List C} (h : rightS nm cs = true) {j : Nat} {x : C} (hx : cs[j]? = some x) : x.k = 1 ∨ x.k = 2 ∨ x.k = 3 := by
  by_cases ho : colB j x = true
  · unfold colB at ho
    simp only [Bool.and_eq_true, decide_eq_true_eq] at ho
    omega
  · have := rightS_one (nm := nm) hx (not_col (by simpa using ho))
    rw [h] at this
    cases this
theorem bad_not {x : C} {v : V} (hk : x.k ≠ 0) (h : badC x v = false) : rightV v = true ∧ (v.k = 0 ∨ v.k = x.k) := by
  unfold badC at h
  split at h
  · rename_i h0
    exact ⟨by simpa using h, Or.inl h0⟩
  · have hf : fitsE x v = 0 := by simpa using h
    have := (fits_good x v hk).1 hf
    refine ⟨this.1, ?_⟩
    rcases this.2 with h1 | h1
    · exact Or.inr h1
    · exact Or.inl h1.1
theorem RightG.m {nm : ByteArray} {cs : List C} {g : List Int} {cells : List (List V)} (h : RightG nm cs g cells) (hok : ∀ r ∈ cells, ∀ v ∈ r, v.Ok) : RightM (kindsL cs g) cells := by
  refine ⟨h.len, fun r hr => by rw [h.row r hr, kinds_len], fun p hp => ?_⟩
  unfold flat at hp
  obtain ⟨r, hr, hp⟩ := List.mem_flatMap.1 hp
  obtain ⟨j, hj⟩ := List.mem_iff_getElem?.1 hp
  obtain ⟨k, v⟩ := p
  rw [List.getElem?_zip_eq_some] at hj
  have hjl : j < g.length := by rw [← kinds_len cs g]; exact (List.getElem?_eq_some_iff.1 hj.1).1
  have hgc : g[j]? = some (g[j]'hjl) := List.getElem?_eq_getElem _
  have hc := h.at' _ (List.mem_of_getElem? hgc)
  generalize (g[j]'hjl) = c at hgc hc
  have hcl : c.toNat < cs.length := by omega
  have hx : cs[c.toNat]? = some (cs[c.toNat]'hcl) := List.getElem?_eq_getElem _
  generalize (cs[c.toNat]'hcl) = x at hx
  have hk := kinds_at hgc hx
  rw [hj.1] at hk
  injection hk with hk
  have hxk := col_kind h.s hx
  have hb := bad_not (by omega) ((h.ok r hr).ok j c x v hjl hgc hx hj.2)
  subst hk
  exact ⟨hxk, hb.1, hb.2, hok r hr v (List.mem_of_getElem? hj.2)⟩
/-- All that a call of a group's wants. -/
structure Grp (nm : ByteArray) (cs : List C) (g : List Int) : Prop where
  s : rightS nm cs = true
  g1 : 1 ≤ g.length
  g8 : g.length ≤ 8
  at' : ∀ c ∈ g, 0 ≤ c ∧ c < cs.length
  len : cs.length ≤ 8
theorem RightG.grp {nm : ByteArray} {cs : List C} {g : List Int} {cells : List (List V)} (h : RightG nm cs g cells) : Grp nm cs g := by
  refine ⟨h.s, h.g1, h.g8, h.at', ?_⟩
  by_cases h8 : cs.length ≤ 8
  · exact h8
  · have := rightS_many (nm := nm) (l := cs) h8
    rw [h.s] at this
    cases this
theorem kinds_ok {nm : ByteArray} {cs : List C} {g : List Int} (h : Grp nm cs g) : ∀ k ∈ kindsL cs g, k = 1 ∨ k = 2 ∨ k = 3 := fun k hk => by
  obtain ⟨j, hj⟩ := List.mem_iff_getElem?.1 hk
  have hjl : j < g.length := by rw [← kinds_len cs g]; exact (List.getElem?_eq_some_iff.1 hj).1
  have hgc : g[j]? = some (g[j]'hjl) := List.getElem?_eq_getElem _
  have hc := h.at' _ (List.mem_of_getElem? hgc)
  generalize (g[j]'hjl) = c at hgc hc
  have hcl : c.toNat < cs.length := by omega
  have hx : cs[c.toNat]? = some (cs[c.toNat]'hcl) := List.getElem?_eq_getElem _
  generalize (cs[c.toNat]'hcl) = x at hx
  have := kinds_at hgc hx
  rw [hj] at this
  injection this with this
  rw [this]
  exact col_kind h.s hx
theorem vZ_ok {k : Int} (hk : k = 1 ∨ k = 2 ∨ k = 3) : CellOk (k, vZ) := ⟨hk, (show rightV vZ = true by decide +kernel), Or.inl rfl, (show vZ.Ok from ⟨by decide, by decide, by decide, by decide⟩)⟩
theorem mem_flat {ks : List Int} {cells : List (List V)} {p : Int × V} (hp : p ∈ flat ks cells) : ∃ r ∈ cells, ∃ j : Nat, ks[j]? = some p.1 ∧ r[j]? = some p.2 := by
  unfold flat at hp
  obtain ⟨r, hr, hp⟩ := List.mem_flatMap.1 hp
  obtain ⟨j, hj⟩ := List.mem_iff_getElem?.1 hp
  obtain ⟨k, v⟩ := p
  rw [List.getElem?_zip_eq_some] at hj
  exact ⟨r, hr, j, hj⟩
theorem empty_right {ks : List Int} (h : ∀ k ∈ ks, k = 1 ∨ k = 2 ∨ k = 3) : RightM ks (emptyM ks.length) := by
  refine ⟨by unfold emptyM; simp, fun r hr => ?_, fun p hp => ?_⟩
  · unfold emptyM at hr
    rw [List.eq_of_mem_replicate hr, List.length_replicate]
  · obtain ⟨r, hr, j, h1, h2⟩ := mem_flat hp
    unfold emptyM at hr
    rw [List.eq_of_mem_replicate hr] at h2
    have := List.eq_of_mem_replicate (List.mem_of_getElem? h2)
    obtain ⟨k, v⟩ := p
    simp only at this h1
    rw [this]
    exact vZ_ok (h k (List.mem_of_getElem? h1))
/-- Bytes of a group. -/
theorem printM_size {ks : List Int} {cells : List (List V)} (h : RightM ks cells) : (printM ks cells).size = ks.length + wide ((flat ks cells).map (·.1)) + (hp (flat ks cells)).length := by
  have : (printM ks cells).size = (printM ks cells).data.toList.length := by simp
  rw [this, printM_list, print_len]
theorem printM_le {ks : List Int} {cells : List (List V)} (h : RightM ks cells) (h8 : ks.length ≤ 8) : 1 ≤ (printM ks cells).size + (if ks.length = 0 then 1 else 0) ∧ (printM ks cells).size ≤ 5000 := by
  have hf := h.few
  have h1 := HB_le h.ok
  rw [HB_size] at h1
  have h2 : wide ((flat ks cells).map (·.1)) ≤ 8 * (flat ks cells).length := by
    have : ∀ (c : List (Int × V)), wide (c.map (·.1)) ≤ 8 * c.length := fun c => by
      induction c with
      | nil => exact Nat.le_refl _
      | cons p c ih =>
        show oneW p.1 + wide (c.map (·.1)) ≤ 8 * (c.length + 1)
        have : oneW p.1 ≤ 8 := by unfold oneW; split <;> (try split) <;> omega
        omega
    exact this _
  rw [printM_size h]
  constructor
  · split <;> omega
  · omega
def nmT : ByteArray := ⟨#[116]⟩
def cId : C := ⟨⟨#[105, 100]⟩, 1, false⟩
def cX : C := ⟨⟨#[120]⟩, 3, true⟩
theorem cols_two {w : World} {b : Nat} (a c : C) (t : TypeId) (h : w.heap[b]? = some (.cells #[.string a.n, .int .i64 a.k, .bool a.z, .string c.n, .int .i64 c.k, .bool c.z] t (0, 0))) : HasCols w b (some ⟨b, 0, none⟩) [a, c] := by
  intro _
  refine ⟨b, 0, rfl, Nat.le_refl _, (Array.getElem?_eq_some_iff.1 h).1, fun j d hd => ?_⟩
  have hc : ∀ i, w.cell? ⟨b, i, none⟩ = (#[.string a.n, .int .i64 a.k, .bool a.z, .string c.n, .int .i64 c.k, .bool c.z] : Array Value)[i]? := fun i => cell_of_row w b i _ t (0, 0) h
  match j, hd with
  | 0, hd =>
    have hd : a = d := by simpa using hd
    subst hd
    exact ⟨hc 0, hc 1, hc 2⟩
  | 1, hd =>
    have hd : c = d := by simpa using hd
    subst hd
    exact ⟨hc 3, hc 4, hc 5⟩
  | j + 2, hd => simp at hd
def SomePost (w : World) (e : Ending) (w' : World) : Prop :=
  ∃ A, e = .returned (.agg #[.string nmT, .slice A 2 2]) ∧ HasCols w' w.heap.size A [cId, cX] ∧ Below w.heap.size w w'
set_option maxRecDepth 20000 in
set_option maxHeartbeats 2000000 in
theorem some_any (w : World) : Calls Try.prog 18 #[] w (SomePost w) := by
  have hr := (Box2.new w (.string ⟨#[116]⟩) (.slice (some ⟨w.heap.size + 1, 0, none⟩) 2 2) 24).alloc (.cells #[.string ⟨#[105, 100]⟩, .int .i64 1, .bool false, .string ⟨#[120]⟩, .int .i64 3, .bool true] 41)
  have hn := heap_alloc_new (w.alloc (.cells #[.string ⟨#[116]⟩, .slice (some ⟨w.heap.size + 1, 0, none⟩) 2 2] 24)) (.cells #[.string ⟨#[105, 100]⟩, .int .i64 1, .bool false, .string ⟨#[120]⟩, .int .i64 3, .bool true] 41)
  rw [show (w.alloc (.cells #[.string ⟨#[116]⟩, .slice (some ⟨w.heap.size + 1, 0, none⟩) 2 2] 24)).heap.size = w.heap.size + 1 by simp] at hn
  have hB := ((Below.refl w.heap.size w).alloc (Nat.le_refl _) (.cells #[.string ⟨#[116]⟩, .slice (some ⟨w.heap.size + 1, 0, none⟩) 2 2] 24)).alloc (by simp) (.cells #[.string ⟨#[105, 100]⟩, .int .i64 1, .bool false, .string ⟨#[120]⟩, .int .i64 3, .bool true] 41)
  have HN := Lib.hid (And.intro hr (And.intro hn hB))
  clear hr hn hB
  go_enter Try.func18, Try.ntmps18
  go_wp2
  obtain ⟨hr, hn, hB⟩ := HN.out
  have hC := cols_two cId cX 41 hn
  refine bodyPost_ret (results_sch rfl _ _ w.heap.size _ _ rfl hr.c0 hr.c1) rfl ?_
  exact ⟨_, rfl, hC.lower (Nat.le_succ _), hB⟩
end Go.Proofs.Ytabgbhilbnchnaa.Mi
