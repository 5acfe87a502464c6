/- Groups in blocks of their own, and copies of groups: the program's, walked. -/
import Derived.Test.YtifcepjflkgbmaaSpV
import Derived.Test.YtifcepjflkgbmaaSpJ
import Derived.Test.YtifcepjflkgbmaaShelf
import Derived.Sort.OwnSortedInts
import Derived.Deep.AppendLies
namespace Go.Proofs.Ytifcepjflkgbmaa.Sp
open Go.RowKit Pac Lex

/-- A group in a block of its own. -/
structure OG where
  b : Nat
  cp : Nat
  g : List Int
def OG.v (k : OG) : Value := .slice (some ⟨k.b, 0, none⟩) k.g.length k.cp
def OG.G (k : OG) : G := ⟨some ⟨k.b, 0, none⟩, k.cp, k.g⟩
theorem cells_og (ks : List OG) : Li.cellsL cellsG (ks.map OG.G) = ks.map OG.v := by
  rw [cellsG_map, List.map_map]
  rfl
/-- Each group owns its block, and no other one's. -/
structure Free (w : World) (B : Nat) (ks : List OG) : Prop where
  own : ∀ k ∈ ks, w.ownsRow B 3 1 k.v k.g.length (Li.cellsL cellsI k.g)
  nd : (ks.map OG.b).Nodup
theorem own_base {w : World} {B B' : Nat} {e : TypeId} {size : Nat} {v : Value} {n : Nat} {xs : List Value} (h : w.ownsRow B e size v n xs) (hB : B' ≤ B) : w.ownsRow B' e size v n xs := by
  refine ⟨h.1, ?_⟩
  rcases h.2 with h2 | ⟨g, cap, cur, e1, e2, r⟩
  · exact Or.inl h2
  · exact Or.inr ⟨g, cap, cur, e1, Nat.le_trans hB e2, r⟩
theorem own_tag {w : World} {B : Nat} {e : TypeId} {size : Nat} {v : Value} {n : Nat} {xs : List Value} (h : w.ownsRow B e size v n xs) : ∀ g, v.ownBlock = some g → ∃ c fz, w.heap[g]? = some (.cells c e fz) := by
  intro g hg
  rcases h.2 with ⟨rfl, _⟩ | ⟨g', cap, cur, rfl, _, hgg, _⟩
  · simp [Value.ownBlock] at hg
  · simp [Value.ownBlock] at hg
    subst hg
    exact ⟨cur, (0, 0), hgg⟩
theorem own_kind {w : World} {B B' : Nat} {e e' : TypeId} {s s' : Nat} {v v' : Value} {n n' : Nat} {xs xs' : List Value} (h : w.ownsRow B e s v n xs) (h' : w.ownsRow B' e' s' v' n' xs') (he : e ≠ e') {b : Nat} (hb : v.ownBlock = some b) : v'.ownBlock ≠ some b := by
  intro hb'
  obtain ⟨c, fz, h1⟩ := own_tag h b hb
  obtain ⟨c', fz', h2⟩ := own_tag h' b hb'
  rw [h1] at h2
  injection h2 with h2
  injection h2 with _ e2
  exact he e2
theorem own_other {w w' : World} {B : Nat} {e : TypeId} {size : Nat} {v : Value} {n : Nat} {xs : List Value} {row : Option Nat} (h : w.ownsRow B e size v n xs) (hg : w.grownBy w' row) (hne : v.ownBlock = none ∨ v.ownBlock ≠ row) : w'.ownsRow B e size v n xs := by
  refine ⟨h.1, ?_⟩
  rcases h.2 with h2 | ⟨g, cap, cur, rfl, e2, e3, r⟩
  · exact Or.inl h2
  · refine Or.inr ⟨g, cap, cur, rfl, e2, ?_, r⟩
    rw [hg.block g (Array.getElem?_eq_some_iff.1 e3).1 (by simpa [Value.ownBlock] using hne)]
    exact e3
theorem Free.below {w w' : World} {B B' : Nat} {ks : List OG} (h : Free w B ks) (hb : Below B' w w') (hB : w.heap.size ≤ B') : Free w' B ks := ⟨fun k hk => Li.own_below (h.own k hk) hb hB, h.nd⟩
theorem Free.lt {w : World} {B : Nat} {ks : List OG} (h : Free w B ks) {k : OG} (hk : k ∈ ks) : B ≤ k.b ∧ k.b < w.heap.size := by
  rcases (h.own k hk).2 with ⟨h2, _⟩ | ⟨g, cap, cur, e1, e2, e3, r⟩
  · cases h2
  · unfold OG.v at e1
    injection e1 with e1
    injection e1 with e1
    injection e1 with e1
    subst e1
    exact ⟨e2, (Array.getElem?_eq_some_iff.1 e3).1⟩
/-- A row of such groups is a list of groups. -/
theorem Free.has {w : World} {B : Nat} {A : Option Addr} {ks : List OG} (h : Free w B ks) (hA : Li.HasL cellsG 1 w B A (ks.map OG.G)) {l : List (List Int)} (e : ks.map OG.g = l) : HasLL w B A l := by
  refine ⟨ks.map OG.G, by rw [List.map_map]; exact e, hA, fun x hx => ?_⟩
  obtain ⟨k, hk, rfl⟩ := List.mem_map.1 hx
  obtain ⟨A', c', e', hc, hl⟩ := Li.list_of_own cellsI_len (h.own k hk) rfl
  unfold OG.v at e'
  injection e' with e1 e2 e3
  subst e1 e3
  exact ⟨hl, hc⟩
theorem set_pad (ks : List OG) (k : OG) (r : Nat) : (ks.map OG.v ++ List.replicate (r + 1) (Value.slice none 0 0)).set ks.length k.v = (ks ++ [k]).map OG.v ++ List.replicate r (Value.slice none 0 0) := by
  rw [List.set_append_right _ _ (by rw [List.length_map]; exact Nat.le_refl _), List.length_map, Nat.sub_self, List.replicate_succ, List.set_cons_zero, List.map_append, List.append_assoc]
  rfl
theorem Free.snoc {w w' : World} {B : Nat} {ks : List OG} {k : OG} (h : Free w B ks) (hb : Below w.heap.size w w') (hk : w'.ownsRow w.heap.size 3 1 k.v k.g.length (Li.cellsL cellsI k.g)) (hB : B ≤ w.heap.size) : Free w' B (ks ++ [k]) := by
  refine ⟨fun z hz => ?_, ?_⟩
  · rcases List.mem_append.1 hz with hz | hz
    · exact Li.own_below (h.own z hz) hb (Nat.le_refl _)
    · rw [List.mem_singleton] at hz
      subst hz
      exact own_base hk hB
  · rw [List.map_append]
    refine List.nodup_append.2 ⟨h.nd, by simp, fun a ha b hb' => ?_⟩
    obtain ⟨z, hz, rfl⟩ := List.mem_map.1 ha
    rw [List.map_singleton, List.mem_singleton] at hb'
    subst hb'
    have h1 := (h.lt hz).2
    rcases hk.2 with ⟨h2, _⟩ | ⟨g, cap, cur, e1, e2, _⟩
    · cases h2
    · unfold OG.v at e1
      injection e1 with e1
      injection e1 with e1
      injection e1 with e1
      subst e1
      omega
/-- A store into the row of groups leaves the groups. -/
theorem Free.store {w : World} {B m cp R q n : Nat} {ks : List OG} {xs : List Value} (h : Free w B ks) (hrow : w.ownsRow B 44 1 (.slice (some ⟨R, 0, none⟩) m cp) n xs) (u : Value) : Free (w.setCell ⟨R, q, none⟩ u) B ks :=
  ⟨fun k hk => ownsRow_setCell_other (h.own k hk) (a := ⟨R, q, none⟩) (own_kind hrow (h.own k hk) (by decide) rfl) u, h.nd⟩

set_option maxRecDepth 20000 in
set_option maxHeartbeats 3200000 in
theorem cloned_any (A1 : Option Addr) (cp1 : Nat) (l1 : List (List Int)) (lo1 : Nat) (w : World) (h1 : HasLL w lo1 A1 l1) (hl1 : l1.length ≤ 1000000) (hg1 : ∀ g ∈ l1, g ≠ [] ∧ g.length ≤ 1000000) :
    Calls Try.prog 31 #[.slice A1 l1.length cp1] w fun e w' => ∃ ks : List OG, e = .returned (.slice (some ⟨w.heap.size, 0, none⟩) l1.length l1.length) ∧ ks.map OG.g = l1 ∧ w'.ownsRow w.heap.size 44 1 (.slice (some ⟨w.heap.size, 0, none⟩) l1.length l1.length) l1.length (ks.map OG.v) ∧ Free w' w.heap.size ks ∧ Below w.heap.size w w' := by
  obtain ⟨i0, hi, hz0, hz1, hz2⟩ := info_parts infoG
  obtain ⟨m, hm⟩ : ∃ m, l1.length = m := ⟨_, rfl⟩
  rw [hm] at hl1 ⊢
  have HA := Lib.hid h1
  have HM := Lib.hid hm
  have HG := Lib.hid hg1
  clear h1 hm hg1
  go_enter Try.func31, Try.ntmps31
  go_wp2_with (at_make; go_must (refine wpList_make_full _ rfl _ _ 22 rfl w.heap.size 44 i0 (.slice none 0 0) 1 Try.underlying22 hi hz0 hz1 _ _ _ _ m rfl rfl rfl rfl (by rw [hz2]; omega) (by unfold maxLen; omega) (Nat.le_refl _) ?_); intro w1 hown1 hgrow1)
  have hb1 : Below w.heap.size w w1 := (Below.refl _ _).grown hgrow1 (by simp) (fun k hk => by cases hk)
  rw [show (madeCells (Value.slice none 0 0).cells (m * 1)).toList = List.replicate (m - 0) (.slice none 0 0) by rw [Nat.mul_one, Nat.sub_zero]; exact toList_madeCells_one _ _] at hown1
  clear hgrow1
  go_wp2
  go_loopw [11] (fun i wr => ∃ (q : Nat) (ks : List OG), q ≤ m ∧ i = .int .i64 q ∧ wr.ownsRow w.heap.size 44 1 (.slice (some ⟨w.heap.size, 0, none⟩) m m) m (ks.map OG.v ++ List.replicate (m - q) (.slice none 0 0)) ∧ Hid (ks.length = q ∧ ks.map OG.g = l1.take q ∧ Free wr w.heap.size ks) ∧ Below w.heap.size w wr) (fun i _ => m - (intOf i).toNat)
  case atStart => exact ⟨0, [], Nat.zero_le _, rfl, hown1, Lib.hid ⟨rfl, rfl, ⟨fun k hk => by simp at hk, List.nodup_nil⟩⟩, hb1⟩
  case round =>
    clear hown1 hb1
    obtain ⟨q, ks, hq, rfl, hown, hH, hB⟩ := hrel
    by_cases hlt : q < m
    · have hg1 : l1[q]? = some (l1[q]'(by rw [HM.out]; exact hlt)) := List.getElem?_eq_getElem _
      generalize (l1[q]'(by rw [HM.out]; exact hlt)) = g at hg1
      obtain ⟨sn, sg⟩ := HG.out g (List.mem_of_getElem? hg1)
      obtain ⟨b1, o1, A3, cp3, rfl, hlo1, hlb1, d1, hI1, _⟩ := (HA.out.below hB (Nat.le_refl _)).at hg1
      obtain ⟨b3, o3, rfl, _, _, hc3⟩ := hI1 sn
      have hc := Try.slices_Clone_int b3 o3 g.length cp3 g wr (Nat.le_refl _) (by omega) (fun j hj => by
        have := hc3 j _ (List.getElem?_eq_getElem hj) 0 _ rfl
        rw [Nat.mul_one, Nat.add_zero] at this
        rw [List.getD_eq_getElem?_getD, List.getElem?_eq_getElem hj]
        exact this)
      rw [List.take_length] at hc
      have hp0 : 0 < g.length := List.length_pos_iff.2 sn
      have HG1 := Lib.hid hg1
      obtain ⟨p, hp⟩ : ∃ p, g.length = p := ⟨_, rfl⟩
      rw [hp] at d1 hc sg hp0
      have HP := Lib.hid hp
      clear hp hg1 hI1 hc3 sn
      have i1 : (q : Int) < (m : Int) := by omega
      have i0' : (0 : Int) ≤ (q : Int) := by omega
      go_wp2_with fail
      refine hc.mono ?_
      rintro e w2 ⟨v', rfl, hown2, _, hw2⟩
      obtain ⟨gb, cap, rfl, hgb, hgl⟩ := hown2.form hp0
      have hown := Li.own_below hown hw2 (Nat.le_refl _)
      have hB2 := hB.trans (hw2.mono hB.size)
      have s1 := hown.cellAt q (by omega)
      have s2 := hown.frozenAt q
      have hcell : (ks.map OG.v ++ List.replicate (m - q) (Value.slice none 0 0))[q]? = some (.slice none 0 0) := by
        rw [List.getElem?_append_right (by rw [List.length_map, hH.out.1]; exact Nat.le_refl _), List.length_map, hH.out.1, Nat.sub_self, show m - q = (m - q - 1) + 1 by omega, List.replicate_succ]
        rfl
      rw [hcell] at s1
      have hst := hown.stored q (.slice (some ⟨gb, 0, none⟩) p cap)
      have hF : Free w2 w.heap.size (ks ++ [⟨gb, cap, g⟩]) := hH.out.2.2.snoc hw2 (by
        have e : (OG.v ⟨gb, cap, g⟩) = .slice (some ⟨gb, 0, none⟩) p cap := by unfold OG.v; rw [HP.out]
        rw [e, HP.out]
        have e2 : Li.cellsL cellsI g = g.map (Value.int .i64) := by unfold Li.cellsL cellsI; rw [List.map_eq_flatMap]
        rw [e2]
        exact hown2) hB.size
      have hF2 := hF.store hown (q := q) (.slice (some ⟨gb, 0, none⟩) p cap)
      have e : (ks.map OG.v ++ List.replicate (m - q) (Value.slice none 0 0)).set q (.slice (some ⟨gb, 0, none⟩) p cap) = (ks ++ [(⟨gb, cap, g⟩ : OG)]).map OG.v ++ List.replicate (m - (q + 1)) (.slice none 0 0) := by
        have := set_pad ks ⟨gb, cap, g⟩ (m - (q + 1))
        rw [hH.out.1] at this
        rw [← this, show m - (q + 1) + 1 = m - q by omega]
        unfold OG.v
        rw [HP.out]
      rw [e] at hst
      have HS := Lib.hid (And.intro hst.1 (And.intro hF2 (And.intro (hB2.grown hst.2 hB2.size (fun k hk => (hown.lt k hk).1)) (show (ks ++ [(⟨gb, cap, g⟩ : OG)]).map OG.g = l1.take (q + 1) by
        rw [List.map_append, hH.out.2.1, List.take_add_one, HG1.out]
        rfl))))
      clear hown hB hB2 hst hF hF2 e hcell hc hw2 hown2 d1 hgb hgl
      go_wp2
      clear s1 s2
      go_roundw
      case rel => exact ⟨q + 1, _, by omega, by go_num, HS.out.1, Lib.hid ⟨by rw [List.length_append, hH.out.1]; rfl, HS.out.2.2.2, HS.out.2.1⟩, HS.out.2.2.1⟩
      case measure => simp [intOf]; omega
    · obtain rfl : q = m := by omega
      rw [Nat.sub_self, List.replicate_zero, List.append_nil] at hown
      have HQ := Lib.hid (And.intro (show ks.map OG.g = l1 by rw [hH.out.2.1, ← HM.out, List.take_length]) (And.intro hown hH.out.2.2))
      clear hown
      go_wp2
      go_ret
      exact ⟨ks, rfl, HQ.out.1, HQ.out.2.1, HQ.out.2.2, hB⟩
end Go.Proofs.Ytifcepjflkgbmaa.Sp
