/- slab.latest: what was written last. -/
import Derived.Test.YtnmgaafpbbeceaaF
namespace Go.Proofs.Ytnmgaafpbbeceaa
open Go.RowKit Go.Shelf

attribute [local go_sem] Oper.semAt_some

theorem look_none (LA : Nat → Int) (LD : Nat → ByteArray) (x : Int) (d : ByteArray) (m : Nat) (h : ∀ j, j < m → LA j ≠ x) : look LA LD x d m = d := by
  induction m with
  | zero => rfl
  | succ m ih => simp only [look]; rw [if_neg (h m (by omega))]; exact ih fun j hj => h j (by omega)
theorem look_at (LA : Nat → Int) (LD : Nat → ByteArray) (x : Int) (d : ByteArray) (i m : Nat) (hi : i < m) (hx : LA i = x) (h : ∀ j, i < j → j < m → LA j ≠ x) : look LA LD x d m = LD i := by
  induction m with
  | zero => omega
  | succ m ih =>
    simp only [look]
    by_cases e : i = m
    · subst e
      rw [if_pos hx]
    · rw [if_neg (h m (by omega) (by omega))]
      exact ih (by omega) fun j h1 h2 => h j h1 (by omega)
theorem mem_upto_rev {m k i : Nat} (h : i ∈ upto (rev m) k) (hk : k ≤ m) : m - k ≤ i ∧ i < m := by
  simp only [upto, List.mem_map, List.mem_range, rev] at h
  obtain ⟨j, hj, rfl⟩ := h
  omega
theorem upto_rev_mem {m k i : Nat} (h1 : m - k ≤ i) (h2 : i < m) (hk : k ≤ m) : i ∈ upto (rev m) k := by
  simp only [upto, List.mem_map, List.mem_range, rev]
  exact ⟨m - 1 - i, by omega, by omega⟩

def BlkC (W : World) (B : Nat) (t : TypeId) (cs : Array Value) : Prop := W.heap[B]? = some (.cells cs t (0, 0))
theorem BlkC.lt {W : World} {B : Nat} {t : TypeId} {cs : Array Value} (h : BlkC W B t cs) : B < W.heap.size := (Array.getElem?_eq_some_iff.1 h).1
theorem BlkC.cell {W : World} {B : Nat} {t : TypeId} {cs : Array Value} (h : BlkC W B t cs) (i : Nat) : W.cell? ⟨B, i, none⟩ = cs[i]? := cell_of_row W B i cs t (0, 0) h
theorem BlkC.frozen {W : World} {B : Nat} {t : TypeId} {cs : Array Value} (h : BlkC W B t cs) (i : Nat) : W.frozen? ⟨B, i, none⟩ = false := frozen_of_row W B i cs t h
theorem BlkC.new (W : World) (t : TypeId) (cs : Array Value) : BlkC (W.alloc (.cells cs t)) W.heap.size t cs := heap_alloc_new W _
theorem BlkC.alloc {W : World} {B : Nat} {t : TypeId} {cs : Array Value} (h : BlkC W B t cs) (o : Obj) : BlkC (W.alloc o) B t cs := (Below.heap_alloc W o B h.lt).trans h
theorem BlkC.set1 {W : World} {B : Nat} {t : TypeId} {u : Value} (h : BlkC W B t #[u]) (v : Value) : BlkC (W.setCell ⟨B, 0, none⟩ v) B t #[v] := heap_setCell_same W B 0 #[u] t v h
theorem blk_own {β : Type} (B : Nat) (t : TypeId) (cs : β → Array Value) : Own (fun s W => BlkC W B t (cs s)) := fun s X Y row hs hg hrow =>
  (hg.block B hs.lt (fun e' => by obtain ⟨o, ho, hc⟩ := hrow B e'.symm; rw [show X.heap[B]? = _ from hs] at ho; cases ho; cases hc)).trans hs

set_option maxRecDepth 100000 in
set_option maxHeartbeats 4000000 in
theorem latest_in (F : Fence) (n : Nat) (h27 : F.fn 27) (h30 : F.fn 30) (h38 : F.fn 38) (hro : F.round = none) (hn : 3 ≤ n) (b c ns : Nat) (B : Option Addr) (m k : Nat) (dead : Bool) (left deeds : Int) (x : Nat) (S : ByteArray) (LA : Nat → Int) (LD : Nat → ByteArray) (w : World)
    (hm : m ≤ 1000000) (hx : x < ns) (hS : w.cell? ⟨b, x, none⟩ = some (.string S)) (hl : HasLate w B m LA LD) (h0 : m = 0 → B = none ∧ k = 0) :
    CallsIn F n Try.prog 27 #[.agg #[.slice (some ⟨b, 0, none⟩) ns c, .slice B m k, .bool dead, .int .i64 left, .int .i64 deeds], .int .i64 x] w fun e w' =>
      e = .returned (.string (look LA LD x S m)) ∧ Below w.heap.size w w' := by
  have h1 : 1 ≤ n := by omega
  have hblt : b < w.heap.size := World.block_lt_of_cell? w _ hS
  have hlb := hl.block_lt fun e => (h0 e).1
  have HLB := Lib.hid hlb
  have HS := Lib.hid hS
  have HL := Lib.hid hl
  have H0 := Lib.hid h0
  clear hS hl h0 hlb
  refine callsIn_of_wp_marks Try.func27 rfl h27 ?_ hro
  simp only [Try.ntmps27, List.size_toArray, List.length_cons, List.length_nil, Nat.reduceAdd, Nat.reduceSub, Array.replicate_succ, Array.replicate_zero, List.push_toArray, List.append_toArray, List.nil_append, List.cons_append]
  gi_wp2_with (gi_at_call 30; refine (back_in F (n - 1) h30 hro _ _ _ _).mono ?_; rintro e w' ⟨rfl, rfl⟩)
  have b0 := (((BlkC.new w 31 #[.slice (some ⟨b, 0, none⟩) ns c, .slice B m k, .bool dead, .int .i64 left, .int .i64 deeds]).alloc (.cells #[.int .i64 x] 3)).alloc (.cells #[.string ⟨#[]⟩] 9)).alloc (.cells #[.slice B m k] 29)
  have b1 := ((BlkC.new (w.alloc (.cells #[.slice (some ⟨b, 0, none⟩) ns c, .slice B m k, .bool dead, .int .i64 left, .int .i64 deeds] 31)) 3 #[.int .i64 x]).alloc (.cells #[.string ⟨#[]⟩] 9)).alloc (.cells #[.slice B m k] 29)
  have b2 := (BlkC.new ((w.alloc (.cells #[.slice (some ⟨b, 0, none⟩) ns c, .slice B m k, .bool dead, .int .i64 left, .int .i64 deeds] 31)).alloc (.cells #[.int .i64 x] 3)) 9 #[.string ⟨#[]⟩]).alloc (.cells #[.slice B m k] 29)
  have b3 := BlkC.new (((w.alloc (.cells #[.slice (some ⟨b, 0, none⟩) ns c, .slice B m k, .bool dead, .int .i64 left, .int .i64 deeds] 31)).alloc (.cells #[.int .i64 x] 3)).alloc (.cells #[.string ⟨#[]⟩] 9)) 29 #[.slice B m k]
  have hB0 : Below w.heap.size w ((((w.alloc (.cells #[.slice (some ⟨b, 0, none⟩) ns c, .slice B m k, .bool dead, .int .i64 left, .int .i64 deeds] 31)).alloc (.cells #[.int .i64 x] 3)).alloc (.cells #[.string ⟨#[]⟩] 9)).alloc (.cells #[.slice B m k] 29)) :=
    ((((Below.refl _ w).alloc (Nat.le_refl _) _).alloc (by simp) _).alloc (by simp; omega) _).alloc (by simp; omega) _
  have hsz : ((((w.alloc (.cells #[.slice (some ⟨b, 0, none⟩) ns c, .slice B m k, .bool dead, .int .i64 left, .int .i64 deeds] 31)).alloc (.cells #[.int .i64 x] 3)).alloc (.cells #[.string ⟨#[]⟩] 9)).alloc (.cells #[.slice B m k] 29)).heap.size = w.heap.size + 4 := by simp
  simp only [World.size_alloc] at b1 b2 b3
  obtain ⟨W0, hW0⟩ : ∃ W0, ((((w.alloc (.cells #[.slice (some ⟨b, 0, none⟩) ns c, .slice B m k, .bool dead, .int .i64 left, .int .i64 deeds] 31)).alloc (.cells #[.int .i64 x] 3)).alloc (.cells #[.string ⟨#[]⟩] 9)).alloc (.cells #[.slice B m k] 29)) = W0 := ⟨_, rfl⟩
  rw [hW0] at b0 b1 b2 b3 hB0 hsz ⊢
  clear hW0
  refine wpIn_rangeFunc_ownH hro h1 (gf := 38) (lb := #[.pointer (some ⟨w.heap.size + 1 + 1 + 1, 0, none⟩)]) rfl h38 (enters_of Try.func38 (by kernel_rfl) rfl)
    (back_stops F (n - 1) h38 hro (by omega) (w.heap.size + 1 + 1 + 1) (w.heap.size + 4) B m k LA LD hm W0 (by omega) (by omega) (b3.cell 0) (HL.out.below hB0 (Nat.le_refl _)) (fun a ha => by have := HLB.out a ha; omega) H0.out) belowK_t (belowK_b (by omega)) (Below.refl _ _) (fun _ => rfl)
    (fun pre W => (((((∀ i ∈ pre, LA i ≠ x)) ∧ BlkC W w.heap.size 31 #[.slice (some ⟨b, 0, none⟩) ns c, .slice B m k, .bool dead, .int .i64 left, .int .i64 deeds]) ∧ BlkC W (w.heap.size + 1) 3 #[.int .i64 x]) ∧ BlkC W (w.heap.size + 1 + 1) 9 #[.string ⟨#[]⟩]) ∧ Below w.heap.size W0 W)
    (fun cd pre W => (cd = .ret ∧ ∃ ini last, pre = ini ++ [last] ∧ (∀ i ∈ ini, LA i ≠ x) ∧ LA last = x ∧ BlkC W (w.heap.size + 1 + 1) 9 #[.string (LD last)]) ∧ Below w.heap.size W0 W)
    (OwnFrom.and (OwnFrom.and (OwnFrom.and (OwnFrom.and (ownFrom_pure _ _) (Own.from (blk_own _ _ _) _)) (Own.from (blk_own _ _ _) _)) (Own.from (blk_own _ _ _) _)) (ownFrom_below (by omega) (by omega)))
    (fun cd => OwnFrom.and (Own.from (fun s X Y row hs hg hr => by obtain ⟨e0, ini, last, e1, e2, e3, e4⟩ := hs; exact ⟨e0, ini, last, e1, e2, e3, blk_own (w.heap.size + 1 + 1) 9 (fun (_ : Unit) => #[.string (LD last)]) () X Y row e4 hg hr⟩) _) (ownFrom_below (by omega) (by omega)))
    ⟨⟨⟨⟨by simp, b0⟩, b1⟩, b2⟩, Below.refl _ _⟩
    (fun i a' W => ∃ Bx, w.heap.size + 1 + 1 < Bx ∧ BlkC W Bx 41 #[.int .i64 (LA i), .string (LD i)] ∧ a' = { tmps := #[.agg #[.slice (some ⟨b, 0, none⟩) ns c, .slice B m k, .bool dead, .int .i64 left, .int .i64 deeds], .int .i64 x, .pointer (some ⟨w.heap.size, 0, none⟩), .pointer (some ⟨w.heap.size + 1, 0, none⟩), .pointer (some ⟨w.heap.size + 1 + 1, 0, none⟩), undef, .pointer (some ⟨Bx, 0, none⟩), .pointer (some ⟨w.heap.size, 1, none⟩), .slice B m k, .func (.func 38) #[] #[.pointer (some ⟨w.heap.size + 1 + 1 + 1, 0, none⟩)], .int .i64 (i : Int), .agg #[.int .i64 (LA i), .string (LD i)], undef, undef, undef, undef, undef, undef, undef, undef, undef, undef, undef], defers := [] })
    (fun i a' _ X Y row hs hg hr => by obtain ⟨Bx, e1, e2, e3⟩ := hs; exact ⟨Bx, e1, blk_own Bx 41 (fun (_ : Unit) => #[.int .i64 (LA i), .string (LD i)]) () X Y row e2 hg (fun r e => (hr r e).2), e3⟩)
    ?assign ?body ?done ?stop
  case assign =>
    rintro l pre i W K ⟨⟨⟨⟨hp, c0⟩, c1⟩, c2⟩, hB1⟩ hK
    have hs := hB1.size
    rw [hsz] at hs
    have l2 := c2.lt
    dsimp only [lateArgs]
    gi_wp2
    exact hK _ _ ((KeepsOthers.alloc _ _).from _) ((Below.refl _ W).alloc hs _) ⟨⟨⟨⟨hp, c0.alloc _⟩, c1.alloc _⟩, c2.alloc _⟩, hB1.alloc (by omega) _⟩ ⟨W.heap.size, l2, BlkC.new W 41 _, rfl⟩
  case body =>
    rintro l pre i a' W hl ⟨r, hr⟩ ⟨⟨⟨⟨hp, c0⟩, c1⟩, c2⟩, hB1⟩ ⟨Bx, hBx, bX, rfl⟩ hlt
    have k1 := c1.cell 0
    have k2 := c2.cell 0
    have kf := c2.frozen 0
    have kx0 := bX.cell 0
    have kx1 := bX.cell 1
    simp only [List.getElem?_toArray, List.getElem?_cons_zero, List.getElem?_cons_succ] at k1 k2 kx0 kx1
    gi_wp2
    · have hxy : (LA i == (x : Int)) = true := by assumption
      exact ⟨(KeepsOthers.setCell _ _ _).from _, ⟨rfl, pre, i, rfl, hp, eq_of_beq hxy, c2.set1 _⟩, hB1.setCell (p := ⟨w.heap.size + 1 + 1, 0, none⟩) (by simp; omega) _⟩
    · have hxy : (LA i == (x : Int)) = false := by assumption
      exact ⟨KeepsFrom.refl _ _, Below.refl _ _, ⟨⟨⟨fun j hj => (List.mem_append.1 hj).elim (hp j) (fun e => by simp at e; subst e; simpa using hxy), c0⟩, c1⟩, c2⟩, hB1⟩
  case done =>
    rintro D ys W hD rfl ⟨⟨⟨⟨hp, c0⟩, c1⟩, c2⟩, hB1⟩ hK
    have k0 := c0.cell 0
    have k1 := c1.cell 0
    have k2 := c2.cell 0
    have kf := c2.frozen 0
    simp only [List.getElem?_toArray, List.getElem?_cons_zero] at k0 k1 k2
    have kS := ((hB0.trans hB1).cell (p := ⟨b, x, none⟩) hblt).trans HS.out
    gi_wp2
    have hK' := (KeepsOthers.setCell W ⟨w.heap.size + 1 + 1, 0, none⟩ (.string S)).same D _ hK rfl
    refine ⟨by simp, .inl ⟨_, _, rfl, run_takeDeferred hK', ?_⟩⟩
    have hc5 := cell_kept (World.cell?_setCell_same' W ⟨w.heap.size + 1 + 1, 0, none⟩ (.string S) (by rw [k2]; rfl)) (grownBy_putObj' _ D (.deferred none)) (fun r e => by cases e; exact ⟨_, hK', rfl⟩)
    refine ⟨.string S, ?_, by rw [look_none LA LD x S m (fun j hj => hp j (upto_rev_mem (by omega) hj (Nat.le_refl _)))], ((hB0.trans hB1).setCell (p := ⟨w.heap.size + 1 + 1, 0, none⟩) (by simp; omega) _).trans (belowK_b (w := w) (Nat.le_refl _) _ D _ _ (by omega) hK' rfl rfl)⟩
    simp [results, Try.f27, go_sem, hc5]
  case stop =>
    rintro D cd pre W hD ⟨k', hk', rfl⟩ ⟨⟨rfl, ini, last, e1, e2, e3, c2⟩, hB1⟩ hK
    gi_wp2
    refine ⟨by simp, .inl ⟨_, _, rfl, run_takeDeferred hK, ?_⟩⟩
    have hc5 := cell_kept (c2.cell 0) (grownBy_putObj' _ D (.deferred none)) (fun r e => by cases e; exact ⟨_, hK, rfl⟩)
    obtain ⟨q, rfl⟩ : ∃ q, k' = q + 1 := by
      cases k' with
      | zero => simp [upto] at e1
      | succ q => exact ⟨q, rfl⟩
    rw [upto_succ] at e1
    obtain ⟨rfl, e5⟩ := List.append_inj' e1 rfl
    obtain rfl : rev m q = last := by simpa using e5
    have hlast : rev m q = m - 1 - q := rfl
    refine ⟨.string (LD (rev m q)), ?_, by rw [look_at LA LD x S (rev m q) m (by omega) e3 (fun j j1 j2 => e2 j (upto_rev_mem (by omega) j2 (by omega)))], (hB0.trans hB1).trans (belowK_b (w := w) (Nat.le_refl _) W D _ _ (by omega) hK rfl rfl)⟩
    simp [results, Try.f27, go_sem, hc5]

theorem latest_any (b c ns : Nat) (B : Option Addr) (m k : Nat) (dead : Bool) (left deeds : Int) (x : Nat) (S : ByteArray) (LA : Nat → Int) (LD : Nat → ByteArray) (w : World)
    (hm : m ≤ 1000000) (hx : x < ns) (hS : w.cell? ⟨b, x, none⟩ = some (.string S)) (hl : HasLate w B m LA LD) (h0 : m = 0 → B = none ∧ k = 0) :
    Calls Try.prog 27 #[.agg #[.slice (some ⟨b, 0, none⟩) ns c, .slice B m k, .bool dead, .int .i64 left, .int .i64 deeds], .int .i64 x] w fun e w' =>
      e = .returned (.string (look LA LD x S m)) ∧ Below w.heap.size w w' :=
  (callsIn_wide (n := 3)).1 (latest_in Fence.wide 3 trivial trivial trivial rfl (Nat.le_refl _) b c ns B m k dead left deeds x S LA LD w hm hx hS hl h0)
end Go.Proofs.Ytnmgaafpbbeceaa
