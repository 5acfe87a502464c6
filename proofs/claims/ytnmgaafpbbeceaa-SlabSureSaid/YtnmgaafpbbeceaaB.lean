/- The writes that are not sure, as a list in memory; slab.with. -/
import Derived.Test.YtnmgaafpbbeceaaA
import Derived.Deep.AppendLies
namespace Go.Proofs.Ytnmgaafpbbeceaa
open Go.RowKit Go.Shelf

theorem info41 : (Try.prog.info? 41).map (fun i => (i.zero, i.size, i.bytes)) = some (some (.agg #[.int .i64 0, .string ⟨#[]⟩]), 2, 24) := by kernel_rfl

def lateCells (LA : Nat → Int) (LD : Nat → ByteArray) : Nat → List Value
  | 0 => []
  | m + 1 => lateCells LA LD m ++ [.int .i64 (LA m), .string (LD m)]
theorem lateCells_length (LA : Nat → Int) (LD : Nat → ByteArray) (m : Nat) : (lateCells LA LD m).length = m * 2 := by
  induction m with
  | zero => rfl
  | succ m ih => simp [lateCells, ih]; omega
theorem lateCells_at (LA : Nat → Int) (LD : Nat → ByteArray) (m j : Nat) (h : j < m) :
    (lateCells LA LD m)[j * 2]? = some (.int .i64 (LA j)) ∧ (lateCells LA LD m)[j * 2 + 1]? = some (.string (LD j)) := by
  induction m with
  | zero => omega
  | succ m ih =>
    have hl := lateCells_length LA LD m
    by_cases hj : j < m
    · obtain ⟨h1, h2⟩ := ih hj
      simp only [lateCells]
      rw [List.getElem?_append_left (by omega), List.getElem?_append_left (by omega)]
      exact ⟨h1, h2⟩
    · obtain rfl : j = m := by omega
      simp only [lateCells]
      rw [List.getElem?_append_right (by omega), List.getElem?_append_right (by omega)]
      have e1 : j * 2 - (lateCells LA LD j).length = 0 := by omega
      have e2 : j * 2 + 1 - (lateCells LA LD j).length = 1 := by omega
      rw [e1, e2]
      exact ⟨rfl, rfl⟩
theorem lateCells_one (LA : Nat → Int) (LD : Nat → ByteArray) (m : Nat) : ∀ u ∈ lateCells LA LD m, u.oneCell' = true := by
  induction m with
  | zero => intro u hu; cases hu
  | succ m ih =>
    intro u hu
    simp only [lateCells, List.mem_append, List.mem_cons, List.not_mem_nil, or_false] at hu
    rcases hu with hu | rfl | rfl
    · exact ih u hu
    · rfl
    · rfl
theorem lateCells_congr (LA LA' : Nat → Int) (LD LD' : Nat → ByteArray) (m : Nat) (h : ∀ j, j < m → LA j = LA' j ∧ LD j = LD' j) : lateCells LA LD m = lateCells LA' LD' m := by
  induction m with
  | zero => rfl
  | succ m ih => simp only [lateCells]; rw [ih (fun j hj => h j (by omega)), (h m (by omega)).1, (h m (by omega)).2]

/-- The list at this address holds these writes. -/
def HasLate (w : World) (A : Option Addr) (m : Nat) (LA : Nat → Int) (LD : Nat → ByteArray) : Prop :=
  0 < m → ∃ b, A = some ⟨b, 0, none⟩ ∧ b < w.heap.size ∧ ∀ j, j < m → w.cell? ⟨b, j * 2, none⟩ = some (.int .i64 (LA j)) ∧ w.cell? ⟨b, j * 2 + 1, none⟩ = some (.string (LD j))
theorem HasLate.below {w w' : World} {A : Option Addr} {m : Nat} {LA : Nat → Int} {LD : Nat → ByteArray} {B : Nat} (h : HasLate w A m LA LD) (hb : Below B w w') (hB : w.heap.size ≤ B) : HasLate w' A m LA LD := by
  intro hm
  obtain ⟨b, hA, hlt, hc⟩ := h hm
  refine ⟨b, hA, Nat.lt_of_lt_of_le hlt hb.size, fun j hj => ?_⟩
  rw [hb.cell (p := ⟨b, j * 2, none⟩) (Nat.lt_of_lt_of_le hlt hB), hb.cell (p := ⟨b, j * 2 + 1, none⟩) (Nat.lt_of_lt_of_le hlt hB)]
  exact hc j hj

theorem add_zero_off (b j : Nat) : (⟨b, 0, none⟩ : Addr).add j = ⟨b, j, none⟩ := by unfold Addr.add; split <;> simp_all

theorem news_of_late {w : World} {b m : Nat} {LA : Nat → Int} {LD : Nat → ByteArray} (hc : ∀ j, j < m → w.cell? ⟨b, j * 2, none⟩ = some (.int .i64 (LA j)) ∧ w.cell? ⟨b, j * 2 + 1, none⟩ = some (.string (LD j))) :
    ∀ j u, (lateCells LA LD m)[j]? = some u → w.cell? ((⟨b, 0, none⟩ : Addr).add j) = some u := by
  intro j u hu
  rw [add_zero_off]
  have hlt : j < m * 2 := by
    have := (List.getElem?_eq_some_iff.1 hu).1
    rw [lateCells_length] at this
    exact this
  have hj : j / 2 < m := by omega
  obtain ⟨h1, h2⟩ := lateCells_at LA LD m (j / 2) hj
  obtain ⟨c1, c2⟩ := hc (j / 2) hj
  rcases Nat.mod_two_eq_zero_or_one j with h | h
  · have e : j / 2 * 2 = j := by omega
    rw [e] at h1 c1
    rw [h1] at hu
    rw [c1, hu]
  · have e : j / 2 * 2 + 1 = j := by omega
    rw [e] at h2 c2
    rw [h2] at hu
    rw [c2, hu]

def snocI (L : Nat → Int) (m : Nat) (x : Int) : Nat → Int := fun j => if j = m then x else L j
def snocD (L : Nat → ByteArray) (m : Nat) (x : ByteArray) : Nat → ByteArray := fun j => if j = m then x else L j

theorem late_of_own {w : World} {base g cap m : Nat} {LA : Nat → Int} {LD : Nat → ByteArray} {xs : List Value} (h : w.ownsRow base 41 2 (.slice (some ⟨g, 0, none⟩) m cap) m xs) (hx : xs = lateCells LA LD m) (hlt : g < w.heap.size) :
    HasLate w (some ⟨g, 0, none⟩) m LA LD := by
  subst hx
  intro _
  refine ⟨g, rfl, hlt, fun j hj => ?_⟩
  obtain ⟨h1, h2⟩ := lateCells_at LA LD m j hj
  exact ⟨(h.cellAt (j * 2) (by omega)).trans h1, (h.cellAt (j * 2 + 1) (by omega)).trans h2⟩

theorem snoc_cells (LA : Nat → Int) (LD : Nat → ByteArray) (m : Nat) (x : Int) (d : ByteArray) : lateCells LA LD m ++ [.int .i64 x, .string d] = lateCells (snocI LA m x) (snocD LD m d) (m + 1) := by
  simp only [lateCells, snocI, snocD, if_true]
  rw [lateCells_congr LA (snocI LA m x) LD (snocD LD m d) m (fun j hj => by simp only [snocI, snocD]; rw [if_neg (by omega), if_neg (by omega)]; exact ⟨rfl, rfl⟩)]

def WithPost (m : Nat) (LA : Nat → Int) (LD : Nat → ByteArray) (w : World) (e : Ending) (w' : World) : Prop :=
  ∃ g cap, e = .returned (.slice (some ⟨g, 0, none⟩) (m + 1) cap) ∧ HasLate w' (some ⟨g, 0, none⟩) (m + 1) LA LD ∧ w.heap.size ≤ g ∧ Below w.heap.size w w'

set_option maxHeartbeats 1000000 in
theorem with_pos (b m c : Nat) (LA : Nat → Int) (LD : Nat → ByteArray) (x : Int) (d : ByteArray) (w : World) (hm : m ≤ 100000) (h0 : 0 < m) (hb : b < w.heap.size)
    (hc : ∀ j, j < m → w.cell? ⟨b, j * 2, none⟩ = some (.int .i64 (LA j)) ∧ w.cell? ⟨b, j * 2 + 1, none⟩ = some (.string (LD j))) :
    Calls Try.prog 24 #[.slice (some ⟨b, 0, none⟩) m c, .agg #[.int .i64 x, .string d]] w (WithPost m (snocI LA m x) (snocD LD m d) w) := by
  obtain ⟨i0, hi, hz0, hz1, hz2⟩ := info_parts info41
  have HN := Lib.hid (news_of_late hc)
  have HL := Lib.hid (lateCells_length LA LD m)
  have HO := Lib.hid (lateCells_one LA LD m)
  have HS := Lib.hid (snoc_cells LA LD m x d)
  generalize hxs : lateCells LA LD m = xs at HN HL HO HS
  clear hxs hc
  go_enter Try.func24, Try.ntmps24
  go_wp2_with (at_make; go_must (refine wpList_make_own _ rfl _ _ 29 rfl (w.heap.size + 1) 41 i0 _ 2 Try.underlying29 hi hz0 hz1 _ _ _ (m + 1) rfl rfl (by omega) (by rw [hz2]; omega) (by unfold maxLen; omega) (by simp) ?_); intro w1 hown hgrow)
  have hb0 : Below (w.heap.size + 1) (w.alloc (Obj.cells #[Value.int IntKind.i64 x, Value.string d] 41)) w1 := (Below.refl _ _).grown hgrow (by simp) (fun k hk => by cases hk)
  have hb1 : Below w.heap.size w w1 := ((Below.refl _ _).alloc (Nat.le_refl _) _).trans (hb0.mono (by omega))
  have hs1 : w.heap.size + 1 < w1.heap.size := (hown.lt (w.heap.size + 1) (by simp [Value.ownBlock])).2
  have hc0 : w1.cell? ⟨w.heap.size, 0, none⟩ = some (.int .i64 x) := (hb0.cell (p := ⟨w.heap.size, 0, none⟩) (by simp)).trans (by simp)
  have hc1 : w1.cell? ⟨w.heap.size, 1, none⟩ = some (.string d) := (hb0.cell (p := ⟨w.heap.size, 1, none⟩) (by simp)).trans (by simp)
  have HN1 : Hid (∀ (W : World), Below w.heap.size w W → ∀ (j : Nat) (u : Value), xs[j]? = some u → W.cell? ((⟨b, 0, none⟩ : Addr).add j) = some u) := fun W hW j u hu =>
    (hW.cell (p := (⟨b, 0, none⟩ : Addr).add j) (by rw [add_zero_off]; exact hb)).trans (HN.out j u hu)
  clear HN hgrow
  simp only [World.size_alloc] at hown
  go_region_held3 (fun w' => w'.cell? ⟨w.heap.size, 0, none⟩ = some (.int .i64 x) ∧ w'.cell? ⟨w.heap.size, 1, none⟩ = some (.string d))
    (first
      | go_keep
      | (go_split_ands
         refine ⟨?_, ?_⟩
         · (rw [hgrow3.cell_far _ (by simp; omega) (by simp [Value.ownBlock]; omega)]; simp [*])
         · (rw [hgrow3.cell_far _ (by simp; omega) (by simp [Value.ownBlock]; omega)]; simp [*]))
      | (go_split_ands
         refine ⟨?_, ?_⟩
         · (rw [hgrow2.cell_far _ (by simp; omega) (by simp [Value.ownBlock])]; simp [*])
         · (rw [hgrow2.cell_far _ (by simp; omega) (by simp [Value.ownBlock])]; simp [*])))
    (first
      | (refine step_append_lies _ (by rfl) (.tmp 10) (.tmp 11) 29 (by rfl) (w.heap.size + 1) 41 i0 _ 2 24 Try.underlying29 hi hz0 hz1 hz2 rfl (by omega) (.slice (some ⟨w.heap.size + 1, 0, none⟩) 0 (m + 1)) 0 [] (by rfl) (by first | exact hown | exact hown.alloc _)
          ⟨b, 0, none⟩ m c xs (by rfl) HL.out (HN1.out _ (by first | exact hb1.drew | exact hb1.drew.alloc (by simp; omega) _)) HO.out h0 (by unfold maxLen; omega) (by omega) (by simp; omega) _ rfl ?_
         intro g cap w2 hown2 hgrow2 hat2 hlt2
         simp only [Nat.zero_add, List.nil_append] at hown2
         have hg2 := (hown2.lt g (by simp [Value.ownBlock])).1)
      | (refine step_append_lies _ (by rfl) (.tmp 12) (.tmp 14) 29 (by rfl) (w.heap.size + 1) 41 i0 _ 2 24 Try.underlying29 hi hz0 hz1 hz2 rfl (by omega) (.slice (some ⟨g, 0, none⟩) m cap) m xs (by first | rfl | (simp only [Nat.zero_add]; rfl)) (hown2.alloc _)
          ⟨w2.heap.size, 0, none⟩ 1 1 [.int .i64 x, .string d] (by rfl) (by rfl) (World.news_of_block (cs := #[.int .i64 x, .string d]) (t := 41) (fr := (0, 0)) (heap_alloc_new w2 _)) (by simp [Value.oneCell']) (by omega) (by unfold maxLen; omega) (by omega) (by simp; omega) _ rfl ?_
         intro g3 cap3 w3 hown3 hgrow3 hat3 hlt3)
      | (refine step_append_lies _ (by rfl) (.tmp 12) (.tmp 14) 29 (by rfl) (w.heap.size + 1) 41 i0 _ 2 24 Try.underlying29 hi hz0 hz1 hz2 rfl (by omega) (.slice (some ⟨g, 0, none⟩) m cap) m xs (by first | rfl | (simp only [Nat.zero_add]; rfl)) hown2
          ⟨w1.heap.size, 0, none⟩ 1 1 [.int .i64 x, .string d] (by rfl) (by rfl) (World.news_of_block (cs := #[.int .i64 x, .string d]) (t := 41) (fr := (0, 0)) ((hgrow2.block _ (by simp) (by simp [Value.ownBlock]; omega)).trans (heap_alloc_new _ _))) (by simp [Value.oneCell']) (by omega) (by unfold maxLen; omega) (by omega) (by omega) _ rfl ?_
         intro g3 cap3 w3 hown3 hgrow3 hat3 hlt3))
  · go_wp2
    go_ret
    exact ⟨g3, cap3, rfl, late_of_own hown3 HS.out hlt3, by have := (hown3.lt g3 (by simp [Value.ownBlock])).1; omega, ((hb1.drew.grown hgrow2 (by simp; omega) (fun k hk => by simp [Value.ownBlock] at hk; omega)).alloc (by omega) _).grown hgrow3 (by simp; omega) (fun k hk => by simp [Value.ownBlock] at hk; omega)⟩
  · go_wp2
    go_ret
    exact ⟨g3, cap3, rfl, late_of_own hown3 HS.out hlt3, by have := (hown3.lt g3 (by simp [Value.ownBlock])).1; omega, ((hb1.alloc (by omega) _).drew.grown hgrow2 (by simp; omega) (fun k hk => by simp [Value.ownBlock] at hk; omega)).grown hgrow3 (by omega) (fun k hk => by simp [Value.ownBlock] at hk; omega)⟩

set_option maxHeartbeats 1000000 in
theorem with_zero (LA : Nat → Int) (LD : Nat → ByteArray) (x : Int) (d : ByteArray) (w : World) :
    Calls Try.prog 24 #[.slice none 0 0, .agg #[.int .i64 x, .string d]] w (WithPost 0 (snocI LA 0 x) (snocD LD 0 d) w) := by
  obtain ⟨i0, hi, hz0, hz1, hz2⟩ := info_parts info41
  have hmk : ∀ w, (Instr.makeSlice 29 (.int .i64 0) (.int .i64 1)).run Try.prog w = .ok (.slice (some ⟨w.heap.size, 0, none⟩) 0 1) (w.alloc (.cells #[.int .i64 0, .string ⟨#[]⟩] 41)) := fun _ => by kernel_rfl
  go_enter Try.func24, Try.ntmps24
  go_wp2
  go_region
  go_wp2
  go_ret
  refine ⟨w.heap.size + 1, 1, rfl, ?_, by omega, ?_⟩
  · intro _
    refine ⟨w.heap.size + 1, rfl, by simp, fun j hj => ?_⟩
    obtain rfl : j = 0 := by omega
    constructor <;> simp [snocI, snocD, World.cell?_alloc_old, go_sem]
  · repeat (first | exact Below.refl _ _ | refine Below.alloc ?_ (by simp; try omega) _ | refine Below.setCell ?_ (by simp; try omega) _ | refine Below.drew ?_)

theorem with_any (B : Option Addr) (m k : Nat) (LA : Nat → Int) (LD : Nat → ByteArray) (x : Int) (d : ByteArray) (w : World) (hm : m ≤ 100000) (hl : HasLate w B m LA LD) (h0 : m = 0 → B = none ∧ k = 0) :
    Calls Try.prog 24 #[.slice B m k, .agg #[.int .i64 x, .string d]] w (WithPost m (snocI LA m x) (snocD LD m d) w) := by
  rcases Nat.eq_zero_or_pos m with h | h
  · obtain ⟨rfl, rfl⟩ := h0 h
    subst h
    exact with_zero LA LD x d w
  · obtain ⟨b, rfl, hb, hc⟩ := hl h
    exact with_pos b m k LA LD x d w hm h hb hc
end Go.Proofs.Ytnmgaafpbbeceaa
