/- Texts SlaA, SlaB, SlaC, SlaS, SlaD, SlaE, one behind the other. -/
import Derived.Test.YtdbemkdfndjakaaDoorShelf
import Derived.WalkKit
import Derived.WalkSpells
import Derived.WalkLawsBesides
import Derived.Lib.Hide
import Derived.Laws.ResultCell
import Derived.Deep.DeepCutAuto
import Derived.Deep.DeepFit
import Derived.Deep.CutBlock
import Derived.Deep.QuietTactic
import Derived.BigQuiet
import Derived.StillTailTactics
import Derived.Deep.RegionHeld3
import Derived.Deep.RegionLaw
import Derived.Deep.RegionWith
import Derived.Deep.OwnRows
import Derived.Deep.LoopGhost
import Derived.Outline
import Derived.WalkSmall
import Derived.Deep.AppendLies
import Derived.Laws.CopyOwn
import Derived.Laws.BytesArg
import Derived.Deep.MidRow
/- The leaf functions of package slab: what each call gives, and that memory below stays. -/
namespace Go.Proofs.YtdbemkdfndjakaaDoor.Sla
open Go.RowKit Go.Shelf

set_option maxHeartbeats 400000 in
theorem deed_no (A B : Option Addr) (n c m k : Nat) (dead : Bool) (left deeds : Int) (w : World) (h : dead = true ∨ left = 0) :
    Calls Tryd.prog 49 #[.agg #[.slice A n c, .slice B m k, .bool dead, .int .i64 left, .int .i64 deeds]] w fun e w' =>
      e = .returned (.tuple #[.agg #[.slice A n c, .slice B m k, .bool true, .int .i64 left, .int .i64 deeds], .bool false]) ∧ Below w.heap.size w w' := by
  cases dead with
  | true =>
    clear h
    go_enter Tryd.func49, Tryd.ntmps49
    go_wp2
    exact bodyPost_ret (v := .tuple #[.agg #[.slice A n c, .slice B m k, .bool true, .int .i64 left, .int .i64 deeds], .bool false]) (by simp [results, Tryd.results49, go_sem]) rfl ⟨rfl, ((Below.refl _ _).alloc (by simp) _).alloc (by simp) _⟩
  | false =>
    obtain rfl : left = 0 := by simpa using h
    clear h
    go_enter Tryd.func49, Tryd.ntmps49
    go_wp2
    exact bodyPost_ret (v := .tuple #[.agg #[.slice A n c, .slice B m k, .bool true, .int .i64 0, .int .i64 deeds], .bool false]) (by simp [results, Tryd.results49, go_sem]) rfl ⟨rfl, ((Below.refl _ _).alloc (by simp) _).alloc (by simp) _⟩

def lessLeft (left : Int) : Int := if 0 < left then left - 1 else left

set_option maxHeartbeats 400000 in
theorem deed_yes (A B : Option Addr) (n c m k : Nat) (left deeds : Int) (w : World) (h0 : left ≠ 0) (h1 : -9223372036854775808 ≤ left) (h2 : left ≤ 9223372036854775807) (h3 : 0 ≤ deeds) (h4 : deeds ≤ 1000000) :
    Calls Tryd.prog 49 #[.agg #[.slice A n c, .slice B m k, .bool false, .int .i64 left, .int .i64 deeds]] w fun e w' =>
      e = .returned (.tuple #[.agg #[.slice A n c, .slice B m k, .bool false, .int .i64 (lessLeft left), .int .i64 (deeds + 1)], .bool true]) ∧ Below w.heap.size w w' := by
  by_cases hl : 0 < left
  · have hf : lessLeft left = left - 1 := by unfold lessLeft; rw [if_pos hl]
    rw [hf]
    clear hf
    have hb : (left == 0) = false := by simpa using h0
    clear h0 h1
    go_enter Tryd.func49, Tryd.ntmps49
    go_wp2
    exact bodyPost_ret (v := .tuple #[.agg #[.slice A n c, .slice B m k, .bool false, .int .i64 (left - 1), .int .i64 (deeds + 1)], .bool true]) (by simp [results, Tryd.results49, go_sem]) rfl ⟨rfl, ((Below.refl _ _).alloc (by simp) _).alloc (by simp) _⟩
  · have hf : lessLeft left = left := by unfold lessLeft; rw [if_neg hl]
    rw [hf]
    clear hf
    have hb : (left == 0) = false := by simpa using h0
    have hl2 : left < 0 := by omega
    clear h0 h2 hl
    go_enter Tryd.func49, Tryd.ntmps49
    go_wp2
    exact bodyPost_ret (v := .tuple #[.agg #[.slice A n c, .slice B m k, .bool false, .int .i64 left, .int .i64 (deeds + 1)], .bool true]) (by simp [results, Tryd.results49, go_sem]) rfl ⟨rfl, ((Below.refl _ _).alloc (by simp) _).alloc (by simp) _⟩

set_option maxHeartbeats 400000 in
theorem has_any (A B : Option Addr) (n c m k : Nat) (dead : Bool) (left deeds at_ : Int) (w : World) (b : Bool) (hb : b = decide (0 ≤ at_ ∧ at_ < n)) :
    Calls Tryd.prog 48 #[.agg #[.slice A n c, .slice B m k, .bool dead, .int .i64 left, .int .i64 deeds], .int .i64 at_] w fun e w' =>
      e = .returned (.bool b) ∧ Below w.heap.size w w' := by
  have HB := Lib.hid hb
  clear hb
  by_cases h0 : 0 ≤ at_
  · by_cases h1 : at_ < n
    · go_enter Tryd.func48, Tryd.ntmps48
      go_wp2
      go_ret
      exact ⟨by rw [HB.out]; simp [h0, h1], ((Below.refl _ _).alloc (by simp) _)⟩
    · have h1' : (n : Int) ≤ at_ := by omega
      clear h1
      go_enter Tryd.func48, Tryd.ntmps48
      go_wp2
      go_ret
      exact ⟨by rw [HB.out]; simp; omega, ((Below.refl _ _).alloc (by simp) _)⟩
  · have h0' : at_ < 0 := by omega
    clear h0
    go_enter Tryd.func48, Tryd.ntmps48
    go_wp2
    go_ret
    exact ⟨by rw [HB.out]; simp; omega, ((Below.refl _ _).alloc (by simp) _)⟩

def laidB (o d : ByteArray) : ByteArray := if o.size ≤ d.size then d else d ++ o.extract d.size o.size

def keptI (stay torn bytes : Int) (i : Nat) (size : Nat) : Int :=
  if (i : Int) = torn then min (min (max bytes 0) 256) size
  else if (stay / 2 ^ (i % 64)) % 2 = 1 then size else 0

end Go.Proofs.YtdbemkdfndjakaaDoor.Sla

/- The writes that are not sure, as a list in memory; slab.with. -/
namespace Go.Proofs.YtdbemkdfndjakaaDoor.Sla
open Go.RowKit Go.Shelf

theorem info41 : (Tryd.prog.info? 69).map (fun i => (i.zero, i.size, i.bytes)) = some (some (.agg #[.int .i64 0, .string ⟨#[]⟩]), 2, 24) := by kernel_rfl

def lateCells (LA : Nat → Int) (LD : Nat → ByteArray) : Nat → List Value
  | 0 => []
  | m + 1 => lateCells LA LD m ++ [.int .i64 (LA m), .string (LD m)]
theorem lateCells_length (LA : Nat → Int) (LD : Nat → ByteArray) (m : Nat) : (lateCells LA LD m).length = m * 2 := by
  induction m with
  | zero => rfl
  | succ m ih => simp [lateCells, ih]; omega
theorem lateCells_at (LA : Nat → Int) (LD : Nat → ByteArray) (m j : Nat) (h : j < m) :
    (lateCells LA LD m)[j * 2]? = some (.int .i64 (LA j)) ∧ (lateCells LA LD m)[j * 2 + 1]? = some (.string (LD j)) := by
  induction m with
  | zero => omega
  | succ m ih =>
    have hl := lateCells_length LA LD m
    by_cases hj : j < m
    · obtain ⟨h1, h2⟩ := ih hj
      simp only [lateCells]
      rw [List.getElem?_append_left (by omega), List.getElem?_append_left (by omega)]
      exact ⟨h1, h2⟩
    · obtain rfl : j = m := by omega
      simp only [lateCells]
      rw [List.getElem?_append_right (by omega), List.getElem?_append_right (by omega)]
      have e1 : j * 2 - (lateCells LA LD j).length = 0 := by omega
      have e2 : j * 2 + 1 - (lateCells LA LD j).length = 1 := by omega
      rw [e1, e2]
      exact ⟨rfl, rfl⟩
theorem lateCells_one (LA : Nat → Int) (LD : Nat → ByteArray) (m : Nat) : ∀ u ∈ lateCells LA LD m, u.oneCell' = true := by
  induction m with
  | zero => intro u hu; cases hu
  | succ m ih =>
    intro u hu
    simp only [lateCells, List.mem_append, List.mem_cons, List.not_mem_nil, or_false] at hu
    rcases hu with hu | rfl | rfl
    · exact ih u hu
    · rfl
    · rfl
theorem lateCells_congr (LA LA' : Nat → Int) (LD LD' : Nat → ByteArray) (m : Nat) (h : ∀ j, j < m → LA j = LA' j ∧ LD j = LD' j) : lateCells LA LD m = lateCells LA' LD' m := by
  induction m with
  | zero => rfl
  | succ m ih => simp only [lateCells]; rw [ih (fun j hj => h j (by omega)), (h m (by omega)).1, (h m (by omega)).2]

/-- The list at this address holds these writes. -/
def HasLate (w : World) (A : Option Addr) (m : Nat) (LA : Nat → Int) (LD : Nat → ByteArray) : Prop :=
  0 < m → ∃ b, A = some ⟨b, 0, none⟩ ∧ b < w.heap.size ∧ ∀ j, j < m → w.cell? ⟨b, j * 2, none⟩ = some (.int .i64 (LA j)) ∧ w.cell? ⟨b, j * 2 + 1, none⟩ = some (.string (LD j))
theorem HasLate.below {w w' : World} {A : Option Addr} {m : Nat} {LA : Nat → Int} {LD : Nat → ByteArray} {B : Nat} (h : HasLate w A m LA LD) (hb : Below B w w') (hB : w.heap.size ≤ B) : HasLate w' A m LA LD := by
  intro hm
  obtain ⟨b, hA, hlt, hc⟩ := h hm
  refine ⟨b, hA, Nat.lt_of_lt_of_le hlt hb.size, fun j hj => ?_⟩
  rw [hb.cell (p := ⟨b, j * 2, none⟩) (Nat.lt_of_lt_of_le hlt hB), hb.cell (p := ⟨b, j * 2 + 1, none⟩) (Nat.lt_of_lt_of_le hlt hB)]
  exact hc j hj

theorem add_zero_off (b j : Nat) : (⟨b, 0, none⟩ : Addr).add j = ⟨b, j, none⟩ := by unfold Addr.add; split <;> simp_all

theorem news_of_late {w : World} {b m : Nat} {LA : Nat → Int} {LD : Nat → ByteArray} (hc : ∀ j, j < m → w.cell? ⟨b, j * 2, none⟩ = some (.int .i64 (LA j)) ∧ w.cell? ⟨b, j * 2 + 1, none⟩ = some (.string (LD j))) :
    ∀ j u, (lateCells LA LD m)[j]? = some u → w.cell? ((⟨b, 0, none⟩ : Addr).add j) = some u := by
  intro j u hu
  rw [add_zero_off]
  have hlt : j < m * 2 := by
    have := (List.getElem?_eq_some_iff.1 hu).1
    rw [lateCells_length] at this
    exact this
  have hj : j / 2 < m := by omega
  obtain ⟨h1, h2⟩ := lateCells_at LA LD m (j / 2) hj
  obtain ⟨c1, c2⟩ := hc (j / 2) hj
  rcases Nat.mod_two_eq_zero_or_one j with h | h
  · have e : j / 2 * 2 = j := by omega
    rw [e] at h1 c1
    rw [h1] at hu
    rw [c1, hu]
  · have e : j / 2 * 2 + 1 = j := by omega
    rw [e] at h2 c2
    rw [h2] at hu
    rw [c2, hu]

def snocI (L : Nat → Int) (m : Nat) (x : Int) : Nat → Int := fun j => if j = m then x else L j
def snocD (L : Nat → ByteArray) (m : Nat) (x : ByteArray) : Nat → ByteArray := fun j => if j = m then x else L j

theorem late_of_own {w : World} {base g cap m : Nat} {LA : Nat → Int} {LD : Nat → ByteArray} {xs : List Value} (h : w.ownsRow base 69 2 (.slice (some ⟨g, 0, none⟩) m cap) m xs) (hx : xs = lateCells LA LD m) (hlt : g < w.heap.size) :
    HasLate w (some ⟨g, 0, none⟩) m LA LD := by
  subst hx
  intro _
  refine ⟨g, rfl, hlt, fun j hj => ?_⟩
  obtain ⟨h1, h2⟩ := lateCells_at LA LD m j hj
  exact ⟨(h.cellAt (j * 2) (by omega)).trans h1, (h.cellAt (j * 2 + 1) (by omega)).trans h2⟩

theorem snoc_cells (LA : Nat → Int) (LD : Nat → ByteArray) (m : Nat) (x : Int) (d : ByteArray) : lateCells LA LD m ++ [.int .i64 x, .string d] = lateCells (snocI LA m x) (snocD LD m d) (m + 1) := by
  simp only [lateCells, snocI, snocD, if_true]
  rw [lateCells_congr LA (snocI LA m x) LD (snocD LD m d) m (fun j hj => by simp only [snocI, snocD]; rw [if_neg (by omega), if_neg (by omega)]; exact ⟨rfl, rfl⟩)]

def WithPost (m : Nat) (LA : Nat → Int) (LD : Nat → ByteArray) (w : World) (e : Ending) (w' : World) : Prop :=
  ∃ g cap, e = .returned (.slice (some ⟨g, 0, none⟩) (m + 1) cap) ∧ HasLate w' (some ⟨g, 0, none⟩) (m + 1) LA LD ∧ w.heap.size ≤ g ∧ Below w.heap.size w w'

set_option maxHeartbeats 1000000 in
theorem with_pos (b m c : Nat) (LA : Nat → Int) (LD : Nat → ByteArray) (x : Int) (d : ByteArray) (w : World) (hm : m ≤ 100000) (h0 : 0 < m) (hb : b < w.heap.size)
    (hc : ∀ j, j < m → w.cell? ⟨b, j * 2, none⟩ = some (.int .i64 (LA j)) ∧ w.cell? ⟨b, j * 2 + 1, none⟩ = some (.string (LD j))) :
    Calls Tryd.prog 52 #[.slice (some ⟨b, 0, none⟩) m c, .agg #[.int .i64 x, .string d]] w (WithPost m (snocI LA m x) (snocD LD m d) w) := by
  obtain ⟨i0, hi, hz0, hz1, hz2⟩ := info_parts info41
  have HN := Lib.hid (news_of_late hc)
  have HL := Lib.hid (lateCells_length LA LD m)
  have HO := Lib.hid (lateCells_one LA LD m)
  have HS := Lib.hid (snoc_cells LA LD m x d)
  generalize hxs : lateCells LA LD m = xs at HN HL HO HS
  clear hxs hc
  go_enter Tryd.func52, Tryd.ntmps52
  go_wp2_with (at_make; go_must (refine wpList_make_own _ rfl _ _ 37 rfl (w.heap.size + 1) 69 i0 _ 2 Tryd.underlying37 hi hz0 hz1 _ _ _ (m + 1) rfl rfl (by omega) (by rw [hz2]; omega) (by unfold maxLen; omega) (by simp) ?_); intro w1 hown hgrow)
  have hb0 : Below (w.heap.size + 1) (w.alloc (Obj.cells #[Value.int IntKind.i64 x, Value.string d] 69)) w1 := (Below.refl _ _).grown hgrow (by simp) (fun k hk => by cases hk)
  have hb1 : Below w.heap.size w w1 := ((Below.refl _ _).alloc (Nat.le_refl _) _).trans (hb0.mono (by omega))
  have hs1 : w.heap.size + 1 < w1.heap.size := (hown.lt (w.heap.size + 1) (by simp [Value.ownBlock])).2
  have hc0 : w1.cell? ⟨w.heap.size, 0, none⟩ = some (.int .i64 x) := (hb0.cell (p := ⟨w.heap.size, 0, none⟩) (by simp)).trans (by simp)
  have hc1 : w1.cell? ⟨w.heap.size, 1, none⟩ = some (.string d) := (hb0.cell (p := ⟨w.heap.size, 1, none⟩) (by simp)).trans (by simp)
  have HN1 : Hid (∀ (W : World), Below w.heap.size w W → ∀ (j : Nat) (u : Value), xs[j]? = some u → W.cell? ((⟨b, 0, none⟩ : Addr).add j) = some u) := fun W hW j u hu =>
    (hW.cell (p := (⟨b, 0, none⟩ : Addr).add j) (by rw [add_zero_off]; exact hb)).trans (HN.out j u hu)
  clear HN hgrow
  simp only [World.size_alloc] at hown
  go_region_held3 (fun w' => w'.cell? ⟨w.heap.size, 0, none⟩ = some (.int .i64 x) ∧ w'.cell? ⟨w.heap.size, 1, none⟩ = some (.string d))
    (first
      | go_keep
      | (go_split_ands
         refine ⟨?_, ?_⟩
         · (rw [hgrow3.cell_far _ (by simp; omega) (by simp [Value.ownBlock]; omega)]; simp [*])
         · (rw [hgrow3.cell_far _ (by simp; omega) (by simp [Value.ownBlock]; omega)]; simp [*]))
      | (go_split_ands
         refine ⟨?_, ?_⟩
         · (rw [hgrow2.cell_far _ (by simp; omega) (by simp [Value.ownBlock])]; simp [*])
         · (rw [hgrow2.cell_far _ (by simp; omega) (by simp [Value.ownBlock])]; simp [*])))
    (first
      | (refine step_append_lies _ (by rfl) (.tmp 10) (.tmp 11) 37 (by rfl) (w.heap.size + 1) 69 i0 _ 2 24 Tryd.underlying37 hi hz0 hz1 hz2 rfl (by omega) (.slice (some ⟨w.heap.size + 1, 0, none⟩) 0 (m + 1)) 0 [] (by rfl) (by first | exact hown | exact hown.alloc _)
          ⟨b, 0, none⟩ m c xs (by rfl) HL.out (HN1.out _ (by first | exact hb1.drew | exact hb1.drew.alloc (by simp; omega) _)) HO.out h0 (by unfold maxLen; omega) (by omega) (by simp; omega) _ rfl ?_
         intro g cap w2 hown2 hgrow2 hat2 hlt2
         simp only [Nat.zero_add, List.nil_append] at hown2
         have hg2 := (hown2.lt g (by simp [Value.ownBlock])).1)
      | (refine step_append_lies _ (by rfl) (.tmp 12) (.tmp 14) 37 (by rfl) (w.heap.size + 1) 69 i0 _ 2 24 Tryd.underlying37 hi hz0 hz1 hz2 rfl (by omega) (.slice (some ⟨g, 0, none⟩) m cap) m xs (by first | rfl | (simp only [Nat.zero_add]; rfl)) (hown2.alloc _)
          ⟨w2.heap.size, 0, none⟩ 1 1 [.int .i64 x, .string d] (by rfl) (by rfl) (World.news_of_block (cs := #[.int .i64 x, .string d]) (t := 69) (fr := (0, 0)) (heap_alloc_new w2 _)) (by simp [Value.oneCell']) (by omega) (by unfold maxLen; omega) (by omega) (by simp; omega) _ rfl ?_
         intro g3 cap3 w3 hown3 hgrow3 hat3 hlt3)
      | (refine step_append_lies _ (by rfl) (.tmp 12) (.tmp 14) 37 (by rfl) (w.heap.size + 1) 69 i0 _ 2 24 Tryd.underlying37 hi hz0 hz1 hz2 rfl (by omega) (.slice (some ⟨g, 0, none⟩) m cap) m xs (by first | rfl | (simp only [Nat.zero_add]; rfl)) hown2
          ⟨w1.heap.size, 0, none⟩ 1 1 [.int .i64 x, .string d] (by rfl) (by rfl) (World.news_of_block (cs := #[.int .i64 x, .string d]) (t := 69) (fr := (0, 0)) ((hgrow2.block _ (by simp) (by simp [Value.ownBlock]; omega)).trans (heap_alloc_new _ _))) (by simp [Value.oneCell']) (by omega) (by unfold maxLen; omega) (by omega) (by omega) _ rfl ?_
         intro g3 cap3 w3 hown3 hgrow3 hat3 hlt3))
  · go_wp2
    go_ret
    exact ⟨g3, cap3, rfl, late_of_own hown3 HS.out hlt3, by have := (hown3.lt g3 (by simp [Value.ownBlock])).1; omega, ((hb1.drew.grown hgrow2 (by simp; omega) (fun k hk => by simp [Value.ownBlock] at hk; omega)).alloc (by omega) _).grown hgrow3 (by simp; omega) (fun k hk => by simp [Value.ownBlock] at hk; omega)⟩
  · go_wp2
    go_ret
    exact ⟨g3, cap3, rfl, late_of_own hown3 HS.out hlt3, by have := (hown3.lt g3 (by simp [Value.ownBlock])).1; omega, ((hb1.alloc (by omega) _).drew.grown hgrow2 (by simp; omega) (fun k hk => by simp [Value.ownBlock] at hk; omega)).grown hgrow3 (by omega) (fun k hk => by simp [Value.ownBlock] at hk; omega)⟩

set_option maxHeartbeats 1000000 in
theorem with_zero (LA : Nat → Int) (LD : Nat → ByteArray) (x : Int) (d : ByteArray) (w : World) :
    Calls Tryd.prog 52 #[.slice none 0 0, .agg #[.int .i64 x, .string d]] w (WithPost 0 (snocI LA 0 x) (snocD LD 0 d) w) := by
  obtain ⟨i0, hi, hz0, hz1, hz2⟩ := info_parts info41
  have hmk : ∀ w, (Instr.makeSlice 37 (.int .i64 0) (.int .i64 1)).run Tryd.prog w = .ok (.slice (some ⟨w.heap.size, 0, none⟩) 0 1) (w.alloc (.cells #[.int .i64 0, .string ⟨#[]⟩] 69)) := fun _ => by kernel_rfl
  go_enter Tryd.func52, Tryd.ntmps52
  go_wp2
  go_region
  go_wp2
  go_ret
  refine ⟨w.heap.size + 1, 1, rfl, ?_, by omega, ?_⟩
  · intro _
    refine ⟨w.heap.size + 1, rfl, by simp, fun j hj => ?_⟩
    obtain rfl : j = 0 := by omega
    constructor <;> simp [snocI, snocD, World.cell?_alloc_old, go_sem]
  · repeat (first | exact Below.refl _ _ | refine Below.alloc ?_ (by simp; try omega) _ | refine Below.setCell ?_ (by simp; try omega) _ | refine Below.drew ?_)

theorem with_any (B : Option Addr) (m k : Nat) (LA : Nat → Int) (LD : Nat → ByteArray) (x : Int) (d : ByteArray) (w : World) (hm : m ≤ 100000) (hl : HasLate w B m LA LD) (h0 : m = 0 → B = none ∧ k = 0) :
    Calls Tryd.prog 52 #[.slice B m k, .agg #[.int .i64 x, .string d]] w (WithPost m (snocI LA m x) (snocD LD m d) w) := by
  rcases Nat.eq_zero_or_pos m with h | h
  · obtain ⟨rfl, rfl⟩ := h0 h
    subst h
    exact with_zero LA LD x d w
  · obtain ⟨b, rfl, hb, hc⟩ := hl h
    exact with_pos b m k LA LD x d w hm h hb hc
end Go.Proofs.YtdbemkdfndjakaaDoor.Sla

/- Padding with noughts, repeating one string, and making a device. -/
namespace Go.Proofs.YtdbemkdfndjakaaDoor.Sla
open Go.RowKit Go.Shelf

/-- These bytes, and noughts up to 256. -/
def padB (d : ByteArray) : ByteArray := d ++ ⟨(List.replicate (256 - d.size) 0).toArray⟩
theorem padB_size (d : ByteArray) (h : d.size ≤ 256) : (padB d).size = 256 := by
  unfold padB
  rw [ByteArray.size_append]
  have : (ByteArray.mk (List.replicate (256 - d.size) (0 : UInt8)).toArray).size = 256 - d.size := by
    show (List.replicate (256 - d.size) (0 : UInt8)).toArray.size = _
    rw [List.size_toArray, List.length_replicate]
  rw [this]
  omega

theorem repeatL_one (c : Nat) : Lib.repeatL [0] c = List.replicate c 0 := by
  induction c with
  | zero => rfl
  | succ c ih => simp [Lib.repeatL, ih, List.replicate_succ]

theorem noughts_any (k : Int) (w : World) (h0 : 0 ≤ k) (h1 : k ≤ 1000000) :
    Calls Tryd.prog 44 #[.string ⟨#[0]⟩, .int .i64 k] w fun e w' => e = .returned (.string ⟨(List.replicate k.toNat 0).toArray⟩) ∧ Below w.heap.size w w' := by
  obtain ⟨n, rfl⟩ := Int.eq_ofNat_of_zero_le h0
  refine (Tryd.strings_Repeat ⟨#[0]⟩ n w (by omega) (by show 1 * n ≤ _; omega)).mono ?_
  rintro e w' ⟨rfl, hb⟩
  refine ⟨?_, hb⟩
  have e0 : (ByteArray.mk #[0]).data.toList = [0] := rfl
  rw [e0, repeatL_one, Int.toNat_natCast]

set_option maxHeartbeats 400000 in
theorem padded_any (d : ByteArray) (w : World) (h : d.size ≤ 256) :
    Calls Tryd.prog 53 #[.string d] w fun e w' => e = .returned (.string (padB d)) ∧ Below w.heap.size w w' := by
  have HF := Lib.hid (show padB d = d ++ ⟨(List.replicate ((256 : Int) - d.size).toNat 0).toArray⟩ by
    unfold padB
    have : ((256 : Int) - d.size).toNat = 256 - d.size := by omega
    rw [this])
  go_enter Tryd.func53, Tryd.ntmps53
  go_wp2_with (go_at_call 44; refine (noughts_any _ _ (by omega) (by omega)).mono ?_; rintro e w1 ⟨rfl, hb⟩; have hrs : (List.replicate ((256 : Int) - d.size).toNat (0 : UInt8)).toArray.size ≤ 256 := (by rw [List.size_toArray, List.length_replicate]; omega); generalize hr : (List.replicate ((256 : Int) - d.size).toNat (0 : UInt8)).toArray = r at HF hrs ⊢; clear hr)
  go_ret
  exact ⟨by rw [HF.out]; rfl, hb⟩

theorem info9 : (Tryd.prog.info? 9).map (fun i => (i.zero, i.size, i.bytes)) = some (some (.string ⟨#[]⟩), 1, 16) := by kernel_rfl

theorem row_of_own {w : World} {base g n : Nat} {e : TypeId} {xs : List Value} (h : w.ownsRow base e 1 (.slice (some ⟨g, 0, none⟩) n n) n xs) :
    ∃ cur : List Value, w.heap[g]? = some (.cells cur.toArray e (0, 0)) ∧ cur.length = n := by
  rcases h.2 with ⟨h0, _⟩ | ⟨g', cap, cur, hv, _, hg, _, _, hs, _⟩
  · cases h0
  · injection hv with h1 h2 h3
    injection h1 with h1
    injection h1 with h1
    subst h1
    subst h3
    exact ⟨cur.toList, by simpa using hg, by simpa using hs⟩

end Go.Proofs.YtdbemkdfndjakaaDoor.Sla

/- Storing a struct of five cells, in a world that is not written out. -/
namespace Go.Proofs.YtdbemkdfndjakaaDoor.Sla
open Go.RowKit Go.Shelf

/-- A variable of five cells. -/
structure Box5 (w : World) (g : Nat) (v0 v1 v2 v3 v4 : Value) : Prop where
  c0 : w.cell? ⟨g, 0, none⟩ = some v0
  c1 : w.cell? ⟨g, 1, none⟩ = some v1
  c2 : w.cell? ⟨g, 2, none⟩ = some v2
  c3 : w.cell? ⟨g, 3, none⟩ = some v3
  c4 : w.cell? ⟨g, 4, none⟩ = some v4
  f : ∀ i, w.frozen? ⟨g, i, none⟩ = false

/-- All blocks but one are as they were. -/
structure But (g : Nat) (w w' : World) : Prop where
  os : w'.os = w.os
  tape : w'.tape = w.tape
  output : w'.output = w.output
  size : w'.heap.size = w.heap.size
  block : ∀ k, k ≠ g → w'.heap[k]? = w.heap[k]?

theorem But.refl (g : Nat) (w : World) : But g w w := ⟨rfl, rfl, rfl, rfl, fun _ _ => rfl⟩
theorem But.setCell {g : Nat} {a w : World} (h : But g a w) (i : Nat) (u : Value) : But g a (w.setCell ⟨g, i, none⟩ u) :=
  ⟨h.os, h.tape, h.output, by simpa using h.size, fun k hk => (Below.heap_setCell w ⟨g, i, none⟩ u k hk).trans (h.block k hk)⟩
theorem But.below {g B : Nat} {w w' : World} (h : But g w w') (hB : B ≤ g) : Below B w w' :=
  ⟨h.os, h.tape, h.output, by rw [h.size]; exact Nat.le_refl _, fun k hk => h.block k (by omega)⟩
theorem But.cell {g : Nat} {w w' : World} (h : But g w w') {p : Addr} (hp : p.block ≠ g) : w'.cell? p = w.cell? p := World.cell?_of_block (w := w) (h.block p.block hp)
theorem But.frozen {g : Nat} {w w' : World} (h : But g w w') {p : Addr} (hp : p.block ≠ g) : w'.frozen? p = w.frozen? p := World.frozen?_of_block (w := w) (h.block p.block hp)
theorem Box5.but {g g' : Nat} {w w' : World} {v0 v1 v2 v3 v4 : Value} (h : Box5 w g v0 v1 v2 v3 v4) (hb : But g' w w') (hne : g ≠ g') : Box5 w' g v0 v1 v2 v3 v4 :=
  ⟨(hb.cell hne).trans h.c0, (hb.cell hne).trans h.c1, (hb.cell hne).trans h.c2, (hb.cell hne).trans h.c3, (hb.cell hne).trans h.c4, fun i => (hb.frozen hne).trans (h.f i)⟩
theorem Box5.below {g B : Nat} {w w' : World} {v0 v1 v2 v3 v4 : Value} (h : Box5 w g v0 v1 v2 v3 v4) (hb : Below B w w') (hB : g < B) : Box5 w' g v0 v1 v2 v3 v4 :=
  ⟨(hb.cell (p := ⟨g, 0, none⟩) hB).trans h.c0, (hb.cell (p := ⟨g, 1, none⟩) hB).trans h.c1, (hb.cell (p := ⟨g, 2, none⟩) hB).trans h.c2, (hb.cell (p := ⟨g, 3, none⟩) hB).trans h.c3, (hb.cell (p := ⟨g, 4, none⟩) hB).trans h.c4, fun i => (hb.frozen (p := ⟨g, i, none⟩) hB).trans (h.f i)⟩
theorem Box5.new (w : World) (v0 v1 v2 v3 v4 : Value) (t : TypeId) : Box5 (w.alloc (.cells #[v0, v1, v2, v3, v4] t)) w.heap.size v0 v1 v2 v3 v4 := by
  constructor <;> simp [go_sem]
theorem Box5.alloc {g : Nat} {w : World} {v0 v1 v2 v3 v4 : Value} (h : Box5 w g v0 v1 v2 v3 v4) (o : Obj) : Box5 (w.alloc o) g v0 v1 v2 v3 v4 := by
  have hlt : g < w.heap.size := World.block_lt_of_cell? w _ h.c0
  exact h.below ((Below.refl (g + 1) w).alloc hlt o) (by omega)
theorem Box5.set {g : Nat} {w : World} {v0 v1 v2 v3 v4 : Value} (h : Box5 w g v0 v1 v2 v3 v4) (u0 u1 u2 u3 u4 : Value) :
    Box5 (((((w.setCell ⟨g, 0, none⟩ u0).setCell ⟨g, 1, none⟩ u1).setCell ⟨g, 2, none⟩ u2).setCell ⟨g, 3, none⟩ u3).setCell ⟨g, 4, none⟩ u4) g u0 u1 u2 u3 u4 := by
  obtain ⟨h0, h1, h2, h3, h4, hf⟩ := h
  have o : ∀ (W : World) (i j : Nat) (u : Value), i ≠ j → (W.setCell ⟨g, i, none⟩ u).cell? ⟨g, j, none⟩ = W.cell? ⟨g, j, none⟩ := fun W i j u hij => World.cell?_setCell_other W _ _ u (fun e => hij (by injection e))
  refine ⟨?_, ?_, ?_, ?_, ?_, fun i => by simp [hf]⟩
  · rw [o _ _ _ _ (by decide), o _ _ _ _ (by decide), o _ _ _ _ (by decide), o _ _ _ _ (by decide)]
    exact World.cell?_setCell_same _ _ _ h0
  · rw [o _ _ _ _ (by decide), o _ _ _ _ (by decide), o _ _ _ _ (by decide)]
    exact World.cell?_setCell_same _ _ _ ((o _ _ _ _ (by decide)).trans h1)
  · rw [o _ _ _ _ (by decide), o _ _ _ _ (by decide)]
    exact World.cell?_setCell_same _ _ _ (((o _ _ _ _ (by decide)).trans (o _ _ _ _ (by decide))).trans h2)
  · rw [o _ _ _ _ (by decide)]
    exact World.cell?_setCell_same _ _ _ ((((o _ _ _ _ (by decide)).trans (o _ _ _ _ (by decide))).trans (o _ _ _ _ (by decide))).trans h3)
  · exact World.cell?_setCell_same _ _ _ (((((o _ _ _ _ (by decide)).trans (o _ _ _ _ (by decide))).trans (o _ _ _ _ (by decide))).trans (o _ _ _ _ (by decide))).trans h4)

/-- A struct of five cells is stored into its variable. -/
theorem wpList_store5 {P : Program} {ops : Array Oper} {rest : List Oper} {op : Oper} {a : Act} {w : World} {Q : Exit → Act → World → Prop} (hgd : op.guard = none) (ty : TypeId) (x y : Operand) (ho : op.op = .store ty x y)
    (g : Nat) (v0 v1 v2 v3 v4 u0 u1 u2 u3 u4 : Value) (hx : a.eval x = .pointer (some ⟨g, 0, none⟩)) (hy : a.eval y = .agg #[u0, u1, u2, u3, u4])
    (hb : Box5 w g v0 v1 v2 v3 v4) (hi : (P.info? ty).map (·.size) = some 5) (h1 : (#[u0, u1, u2, u3, u4] : Array Value).all (·.oneCell') = true)
    (h : ∀ w', Box5 w' g u0 u1 u2 u3 u4 → But g w w' → wpList P ops Q rest (a.put op.dst undef) w') : wpList P ops Q (op :: rest) a w := by
  refine wpList_store_mid hgd ty x y ho g 0 #[u0, u1, u2, u3, u4] hx hy ?_ hi h1 (h _ (hb.set u0 u1 u2 u3 u4) ((((((But.refl g w).setCell 0 u0).setCell 1 u1).setCell 2 u2).setCell 3 u3).setCell 4 u4))
  intro j hj
  have hj' : j < 5 := hj
  refine ⟨?_, hb.f _⟩
  rw [Nat.zero_add]
  have e : j = 0 ∨ j = 1 ∨ j = 2 ∨ j = 3 ∨ j = 4 := by omega
  rcases e with rfl | rfl | rfl | rfl | rfl
  · rw [hb.c0]; rfl
  · rw [hb.c1]; rfl
  · rw [hb.c2]; rfl
  · rw [hb.c3]; rfl
  · rw [hb.c4]; rfl

theorem size31 : (Tryd.prog.info? 39).map (·.size) = some 5 := by kernel_rfl
end Go.Proofs.YtdbemkdfndjakaaDoor.Sla

/- Devices: what a value in memory says of one; New, Arm, Put. -/
namespace Go.Proofs.YtdbemkdfndjakaaDoor.Sla
open Go.RowKit Go.Shelf

/-- A device, told plainly: n sectors that are sure, m writes that are not. -/
structure Dev where
  n : Nat
  S : Nat → ByteArray
  m : Nat
  LA : Nat → Int
  LD : Nat → ByteArray
  dead : Bool
  left : Int
  deeds : Int

/-- The value v tells the device D; its sectors lie in block b, its writes at B. -/
def DevAt (w : World) (b : Nat) (B : Option Addr) (v : Value) (D : Dev) : Prop :=
  ∃ (c k : Nat), v = .agg #[.slice (some ⟨b, 0, none⟩) D.n c, .slice B D.m k, .bool D.dead, .int .i64 D.left, .int .i64 D.deeds] ∧
    b < w.heap.size ∧ D.n ≤ c ∧ (∀ j, j < D.n → w.cell? ⟨b, j, none⟩ = some (.string (D.S j))) ∧ HasLate w B D.m D.LA D.LD ∧ (D.m = 0 → B = none ∧ k = 0)
def IsDev (w : World) (v : Value) (D : Dev) : Prop := ∃ b B, DevAt w b B v D

theorem HasLate.block_lt {w : World} {A : Option Addr} {m : Nat} {LA : Nat → Int} {LD : Nat → ByteArray} (h : HasLate w A m LA LD) (h0 : m = 0 → A = none) : ∀ a, A = some a → a.block < w.heap.size := by
  intro a ha
  rcases Nat.eq_zero_or_pos m with hm | hm
  · rw [h0 hm] at ha; cases ha
  · obtain ⟨b, hA, hlt, _⟩ := h hm
    rw [hA] at ha
    injection ha with ha
    subst ha
    exact hlt
theorem HasLate.setCell {w : World} {A : Option Addr} {m : Nat} {LA : Nat → Int} {LD : Nat → ByteArray} (h : HasLate w A m LA LD) {p : Addr} (hne : ∀ a, A = some a → p.block ≠ a.block) (u : Value) : HasLate (w.setCell p u) A m LA LD := by
  intro hm
  obtain ⟨b, hA, hlt, hc⟩ := h hm
  have hn := hne _ hA
  refine ⟨b, hA, by simpa using hlt, fun j hj => ?_⟩
  rw [World.cell?_setCell_other _ _ _ _ (fun e => hn (by rw [e])), World.cell?_setCell_other _ _ _ _ (fun e => hn (by rw [e]))]
  exact hc j hj
theorem DevAt.setCell {w : World} {b : Nat} {B : Option Addr} {v : Value} {D : Dev} (h : DevAt w b B v D) {p : Addr} (h1 : p.block ≠ b) (h2 : ∀ a, B = some a → p.block ≠ a.block) (u : Value) : DevAt (w.setCell p u) b B v D := by
  obtain ⟨c, k, hv, hlt, hnc, hc, hl, h0⟩ := h
  refine ⟨c, k, hv, by simpa using hlt, hnc, fun j hj => ?_, hl.setCell h2 u, h0⟩
  rw [World.cell?_setCell_other _ _ _ _ (fun e => h1 (by rw [e]))]
  exact hc j hj
theorem DevAt.lt {w : World} {b : Nat} {B : Option Addr} {v : Value} {D : Dev} (h : DevAt w b B v D) : b < w.heap.size ∧ ∀ a, B = some a → a.block < w.heap.size := by
  obtain ⟨c, k, hv, hlt, hnc, hc, hl, h0⟩ := h
  exact ⟨hlt, hl.block_lt fun hm => (h0 hm).1⟩
theorem DevAt.below {w w' : World} {b : Nat} {A : Option Addr} {v : Value} {D : Dev} {B : Nat} (h : DevAt w b A v D) (hb : Below B w w') (hB : w.heap.size ≤ B) : DevAt w' b A v D := by
  obtain ⟨c, k, hv, hlt, hnc, hc, hl, h0⟩ := h
  refine ⟨c, k, hv, Nat.lt_of_lt_of_le hlt hb.size, hnc, fun j hj => ?_, hl.below hb hB, h0⟩
  rw [hb.cell (p := ⟨b, j, none⟩) (Nat.lt_of_lt_of_le hlt hB)]
  exact hc j hj
theorem IsDev.below {w w' : World} {v : Value} {D : Dev} {B : Nat} (h : IsDev w v D) (hb : Below B w w') (hB : w.heap.size ≤ B) : IsDev w' v D := by
  obtain ⟨b, A, h⟩ := h
  exact ⟨b, A, h.below hb hB⟩

/-- A device as the calls make them: K bounds its writes and its deeds. -/
structure Dev.Ok (D : Dev) (K : Nat) : Prop where
  n1 : 1 ≤ D.n
  n2 : D.n ≤ 2000
  m2 : D.m ≤ K
  d1 : 0 ≤ D.deeds
  d2 : D.deeds ≤ K
  l1 : -9223372036854775808 ≤ D.left
  l2 : D.left ≤ 9223372036854775807
  sz : ∀ j, j < D.n → (D.S j).size = 256
  lz : ∀ j, j < D.m → (D.LD j).size = 256
  la : ∀ j, j < D.m → 0 ≤ D.LA j ∧ D.LA j < D.n

theorem bcell {W w1 : World} {B : Nat} (hb : Below B W w1) : (∀ b o, b < B → w1.cell? ⟨b, o, none⟩ = W.cell? ⟨b, o, none⟩) ∧ (∀ b o, b < B → w1.frozen? ⟨b, o, none⟩ = W.frozen? ⟨b, o, none⟩) :=
  ⟨fun b o h => hb.cell (p := ⟨b, o, none⟩) h, fun b o h => hb.frozen (p := ⟨b, o, none⟩) h⟩

def DevErr (D : Dev) (err : Int) (w : World) (e : Ending) (w' : World) : Prop :=
  ∃ v, e = .returned (.tuple #[v, .int .i64 err]) ∧ IsDev w' v D ∧ Below w.heap.size w w'

def fresh (n : Nat) : Dev := { n := n, S := fun _ => padB ⟨#[]⟩, m := 0, LA := fun _ => 0, LD := fun _ => ⟨#[]⟩, dead := false, left := -1, deeds := 0 }

theorem fresh_ok (n : Nat) (h1 : 1 ≤ n) (h2 : n ≤ 2000) : (fresh n).Ok 0 :=
  ⟨h1, h2, Nat.le_refl _, by simp [fresh], by simp [fresh], by simp [fresh], by simp [fresh], fun j _ => padB_size _ (by simp [ByteArray.size]), fun j hj => absurd hj (by simp [fresh]), fun j hj => absurd hj (by simp [fresh])⟩

def armed (D : Dev) (x : Int) : Dev := { D with left := max x (-1) }

/-- Is there that sector? -/
def Dev.has (D : Dev) (x : Int) : Bool := decide (0 ≤ x ∧ x < D.n)
/-- Has it power? -/
def Dev.pow (D : Dev) : Bool := !D.dead && !(D.left == 0)
def Dev.down (D : Dev) : Dev := { D with dead := true }
def Dev.up (D : Dev) : Dev := { D with left := lessLeft D.left, deeds := D.deeds + 1 }
def Dev.putAt (D : Dev) (x : Int) (d : ByteArray) : Dev := { D.up with m := D.m + 1, LA := snocI D.LA D.m x, LD := snocD D.LD D.m (padB d) }

theorem pow_no {D : Dev} (hp : D.pow = false) : D.dead = true ∨ D.left = 0 := by
  unfold Dev.pow at hp
  cases hd : D.dead
  · rw [hd] at hp
    right
    simpa using hp
  · left; rfl
theorem pow_yes {D : Dev} (hp : D.pow = true) : D.dead = false ∧ D.left ≠ 0 := by
  unfold Dev.pow at hp
  have h1 : D.dead = false := by cases hd : D.dead <;> simp_all
  exact ⟨h1, by intro e; rw [h1, e] at hp; simp at hp⟩

theorem devErr_of {w W : World} {b : Nat} {B : Option Addr} {v : Value} {D : Dev} {err : Int} (h : DevAt w b B v D) (hb : Below w.heap.size w W) : DevErr D err w (.returned (.tuple #[v, .int .i64 err])) W :=
  ⟨v, rfl, ⟨b, B, h.below hb (Nat.le_refl _)⟩, hb⟩

theorem DevAt.down {w : World} {b c k : Nat} {B : Option Addr} {D : Dev} (h : DevAt w b B (.agg #[.slice (some ⟨b, 0, none⟩) D.n c, .slice B D.m k, .bool D.dead, .int .i64 D.left, .int .i64 D.deeds]) D) :
    DevAt w b B (.agg #[.slice (some ⟨b, 0, none⟩) D.n c, .slice B D.m k, .bool true, .int .i64 D.left, .int .i64 D.deeds]) D.down := by
  obtain ⟨c', k', hv, hlt, hnc, hc, hl, h0⟩ := h
  simp only [Value.agg.injEq, Array.mk.injEq, List.cons.injEq, Value.slice.injEq, true_and, and_true] at hv
  obtain ⟨rfl, rfl⟩ := hv
  exact ⟨c, k, rfl, hlt, hnc, hc, hl, h0⟩

set_option maxHeartbeats 1000000 in
theorem put_down (v : Value) (D : Dev) (x : Int) (d : ByteArray) (w : World) (h : IsDev w v D) (hs : d.size ≤ 256) (ha : D.has x = true) (hp : D.pow = false) :
    Calls Tryd.prog 39 #[v, .int .i64 x, .string d] w (DevErr D.down 10 w) := by
  obtain ⟨b, B, c, k, rfl, hlt, hnc, hc, hl, h0⟩ := h
  have hd : DevAt w b B _ D := ⟨c, k, rfl, hlt, hnc, hc, hl, h0⟩
  have HD := Lib.hid hd.down
  have HH := Lib.hid ha
  have HQ := Lib.hid (pow_no hp)
  clear hd hc hl h0 ha hp
  obtain ⟨n, S, m, LA, LD, dead, left, deeds⟩ := D
  have HQ2 : Hid (dead = true ∨ left = 0) := HQ
  clear HQ
  go_enter Tryd.func39, Tryd.ntmps39
  go_wp2_with (first
    | (go_at_call 48
       refine (has_any _ _ _ _ _ _ _ _ _ _ _ true HH.out.symm).mono ?_
       rintro e w1 ⟨rfl, hb1⟩
       simp only [World.size_alloc] at hb1
       obtain ⟨hcc, hff⟩ := bcell hb1
       have hs1 := hb1.size
       simp only [World.size_alloc] at hs1)
    | (go_at_call 49
       refine (deed_no _ _ _ _ _ _ _ _ _ _ HQ2.out).mono ?_
       rintro e w2 ⟨rfl, hb2⟩
       have hb3 := hb1.trans (hb2.mono (by simpa using hs1))
       clear hcc hff
       have HX := Lib.hid (((Box5.new w _ _ _ _ _ 39).alloc _).below hb3 (by omega))
       have HY := Lib.hid ((Box5.new _ _ _ _ _ _ 39).below hb3 (by simp)))
    | (refine wpList_store5 rfl 39 (.tmp 3) (.tmp 22) rfl w.heap.size _ _ _ _ _ _ _ _ _ _ rfl rfl HX.out size31 (by simp [Value.oneCell']) ?_
       intro w3 hx3 hbut3
       have hy3 := HY.out.but hbut3 (by simp)
       simp only [World.size_alloc] at hy3
       have hcx0 := hx3.c0
       have hcx1 := hx3.c1
       have hcx2 := hx3.c2
       have hcx3 := hx3.c3
       have hcx4 := hx3.c4
       have hcy0 := hy3.c0
       have hcy1 := hy3.c1
       have hcy2 := hy3.c2
       have hcy3 := hy3.c3
       have hcy4 := hy3.c4
       have hfy := hy3.f))
  refine bodyPost_ret (v := .tuple #[.agg #[.slice (some ⟨b, 0, none⟩) n c, .slice B m k, .bool true, .int .i64 left, .int .i64 deeds], .int .i64 10]) (by simp [results, Tryd.results39, go_sem, hcy0, hcy1, hcy2, hcy3, hcy4]) rfl (devErr_of HD.out ?_)
  have hb4 : Below w.heap.size w w3 := ((((Below.refl w.heap.size w).alloc (by simp) _).alloc (by simp) _).trans (hb3.mono (by omega))).trans (hbut3.below (Nat.le_refl _))
  repeat (first | (with_reducible exact hb4) | refine Below.setCell ?_ (by simp) _)
end Go.Proofs.YtdbemkdfndjakaaDoor.Sla

/- slab.Put where the write is taken. -/
namespace Go.Proofs.YtdbemkdfndjakaaDoor.Sla
open Go.RowKit Go.Shelf

set_option maxHeartbeats 2000000 in
theorem put_ok {K : Nat} (v : Value) (D : Dev) (x : Int) (d : ByteArray) (w : World) (h : IsDev w v D) (hok : D.Ok K) (hK : K ≤ 100000) (hs : d.size ≤ 256) (ha : D.has x = true) (hp : D.pow = true) :
    Calls Tryd.prog 39 #[v, .int .i64 x, .string d] w (DevErr (D.putAt x d) 0 w) := by
  obtain ⟨b, B, c, k, rfl, hlt, hnc, hc, hl, h0⟩ := h
  have HH := Lib.hid ha
  have HQ := Lib.hid (pow_yes hp)
  have hm := hok.m2
  have hd2 := hok.d2
  have hl1 := hok.l1
  have hl2 := hok.l2
  have hd1 := hok.d1
  have HC := Lib.hid hc
  have HL := Lib.hid hl
  have H0 := Lib.hid h0
  clear hc hl h0 ha hp hok
  obtain ⟨n, S, m, LA, LD, dead, left, deeds⟩ := D
  have HQ2 : Hid (dead = false ∧ left ≠ 0) := HQ
  simp only at hm hd2 hl1 hl2 hd1 hnc
  clear HQ
  obtain rfl : dead = false := HQ2.out.1
  have HQ3 := Lib.hid HQ2.out.2
  clear HQ2
  have HLE : Hid (lessLeft left = lessLeft left) := rfl
  go_enter Tryd.func39, Tryd.ntmps39
  go_wp2_with (first
    | (go_at_call 48
       refine (has_any _ _ _ _ _ _ _ _ _ _ _ true HH.out.symm).mono ?_
       rintro e w1 ⟨rfl, hb1⟩
       simp only [World.size_alloc] at hb1
       obtain ⟨hcc, hff⟩ := bcell hb1
       have hs1 := hb1.size
       simp only [World.size_alloc] at hs1)
    | (go_at_call 49
       refine (deed_yes _ _ _ _ _ _ _ _ _ HQ3.out (by omega) (by omega) (by omega) (by omega)).mono ?_
       rintro e w2 ⟨rfl, hb2⟩
       generalize hle : lessLeft left = left2
       have hb3 := hb1.trans (hb2.mono (by simpa using hs1))
       clear hcc hff
       have HX := Lib.hid (((Box5.new w _ _ _ _ _ 39).alloc _).below hb3 (by omega))
       have HY := Lib.hid ((Box5.new _ _ _ _ _ _ 39).below hb3 (by simp)))
    | (refine wpList_store5 rfl 39 (.tmp 3) (.tmp 22) rfl w.heap.size _ _ _ _ _ _ _ _ _ _ rfl rfl HX.out size31 (by simp [Value.oneCell']) ?_
       intro w3 hx3 hbut3
       have hy3 := HY.out.but hbut3 (by simp)
       simp only [World.size_alloc] at hy3
       have hb4 : Below w.heap.size w w3 := ((((Below.refl w.heap.size w).alloc (by simp) _).alloc (by simp) _).trans (hb3.mono (by omega))).trans (hbut3.below (Nat.le_refl _))
       have hs3 : w.heap.size + 1 < w3.heap.size := (World.block_lt_of_cell? w3 _ hy3.c0)
       have hcx1 := hx3.c1))
  have HLE2 := Lib.hid hle
  have hl3 : HasLate w3.drew B m LA LD := HL.out.below hb4.drew (Nat.le_refl _)
  have HL3 := Lib.hid hl3
  clear hl3 HL hle hb1 hb3 HX HY hbut3
  go_region_with (first
      | (go_at_call 53
         refine (padded_any _ _ hs).mono ?_
         rintro e w5 ⟨rfl, hb5⟩
         have hs5 : w3.heap.size ≤ w5.heap.size := hb5.size
         have hq5 : w5.cell? ⟨w.heap.size, 1, none⟩ = some (.slice B m k) := (hb5.cell (p := ⟨w.heap.size, 1, none⟩) (by simp; omega)).trans (by simp [*]))
      | (go_at_call 52
         refine (with_any _ _ _ LA LD _ _ _ (by omega) (HL3.out.below hb5 (Nat.le_refl _)) H0.out).mono ?_
         rintro e w6 ⟨g, cap, rfl, hl6, hg6, hb6⟩
         have hq6 : w6.cell? ⟨w.heap.size, 1, none⟩ = some (.slice B m k) := (hb6.cell (p := ⟨w.heap.size, 1, none⟩) (by simp; omega)).trans hq5
         have hf6 : w6.frozen? ⟨w.heap.size, 1, none⟩ = false := (hb6.frozen (p := ⟨w.heap.size, 1, none⟩) (by simp; omega)).trans ((hb5.frozen (p := ⟨w.heap.size, 1, none⟩) (by simp; omega)).trans (hx3.f 1))))
  all_goals
    have hb36 : Below w3.heap.size w3 w6 := ((Below.refl _ w3).drew.trans hb5).trans (hb6.mono hs5)
    have hb46 : Below w.heap.size w w6 := hb4.trans (hb36.mono (by omega))
    have hx6 := hx3.below hb36 (by omega)
    have hy6 := hy3.below hb36 (by omega)
    have hd6 : DevAt w6 b (some ⟨g, 0, none⟩) (.agg #[.slice (some ⟨b, 0, none⟩) n c, .slice (some ⟨g, 0, none⟩) (m + 1) cap, .bool false, .int .i64 left2, .int .i64 (deeds + 1)]) (Dev.putAt { n := n, S := S, m := m, LA := LA, LD := LD, dead := false, left := left, deeds := deeds } x d) :=
      ⟨c, cap, (by rw [← HLE2.out]; rfl), Nat.lt_of_lt_of_le hlt hb46.size, hnc, fun j hj => (hb46.cell (p := ⟨b, j, none⟩) hlt).trans (HC.out j hj), hl6, fun h => absurd h (by simp [Dev.putAt])⟩
    have n1 : w.heap.size ≠ b := by omega
    have n2 : w.heap.size + 1 ≠ b := by omega
    have n3 : w.heap.size ≠ g := by omega
    have n4 : w.heap.size + 1 ≠ g := by omega
    have hfx := hx6.f
    have hfy := hy6.f
    have kx0 := hx6.c0
    have kx2 := hx6.c2
    have kx3 := hx6.c3
    have kx4 := hx6.c4
    have ky0 := hy6.c0
    have ky1 := hy6.c1
    have ky2 := hy6.c2
    have ky3 := hy6.c3
    have ky4 := hy6.c4
    clear hb5 hb6 hb4 HL3 hcx1 hl6 hq5
    go_wp2
    refine bodyPost_ret (v := .tuple #[.agg #[.slice (some ⟨b, 0, none⟩) n c, .slice (some ⟨g, 0, none⟩) (m + 1) cap, .bool false, .int .i64 left2, .int .i64 (deeds + 1)], .int .i64 0]) (by simp [results, Tryd.results39, go_sem, ky0, ky1, ky2, ky3, ky4]) rfl ⟨_, rfl, ⟨b, some ⟨g, 0, none⟩, ?_⟩, ?_⟩
    · repeat (first | (with_reducible exact hd6) | refine DevAt.setCell ?_ (by simp; omega) (fun a h => by injection h with h; subst h; simp; omega) _)
    · repeat (first | (with_reducible exact hb46) | refine Below.setCell ?_ (by simp) _)
end Go.Proofs.YtdbemkdfndjakaaDoor.Sla
