/- Texts SlaF, SlaG, SlaH, SlaI, one behind the other. -/
import Derived.Test.YtdbemkdfndjakaaDoorMgS
import Derived.RangeFuncNested
import Derived.RangeFuncBound
import Derived.RangeFuncCalls
import Derived.RangeFuncLeaves
import Derived.Shelf.Abstract
import Derived.Shelf.RegionOpen
import Derived.OwnWalkIn
import Derived.TacticsInMore
import Derived.LoopNIn
import Derived.LoopIn
/- slices.Backward over the writes that are not sure. -/
namespace Go.Proofs.YtdbemkdfndjakaaDoor.Sla
open Go.RowKit Go.Shelf

attribute [local go_sem] Oper.semAt_some

/-- What has come when k rounds are over. -/
def upto (f : Nat → Nat) (k : Nat) : List Nat := (List.range k).map f
theorem upto_succ (f : Nat → Nat) (k : Nat) : upto f (k + 1) = upto f k ++ [f k] := by simp [upto, List.range_succ]
theorem upto_length (f : Nat → Nat) (k : Nat) : (upto f k).length = k := by simp [upto]

/-- The writes from the last to the first. -/
def rev (m : Nat) : Nat → Nat := fun j => m - 1 - j
def lateArgs (LA : Nat → Int) (LD : Nat → ByteArray) (i : Nat) : Array Value := #[.int .i64 (i : Int), .agg #[.int .i64 (LA i), .string (LD i)]]

set_option maxRecDepth 100000 in
set_option maxHeartbeats 2000000 in
theorem back1_in (F : Fence) (n : Nat) (h38 : F.fn 67) (hro : F.round = none) (hn : 1 ≤ n) (l Bs n₀ b m cap : Nat) (LA : Nat → Int) (LD : Nat → ByteArray) (hm : m ≤ 1000000) (hb : b < n₀) (J Jx : List Nat → World → Prop)
    (hY : ∀ pre x W, J pre W → pre.length < m → YieldAt F (n - 1) Tryd.prog l (lateArgs LA LD x) W fun e W' =>
      (e = .returned (.bool true) ∧ J (pre ++ [x]) W' ∧ Below n₀ W W') ∨ (e = .returned (.bool false) ∧ Jx (pre ++ [x]) W'))
    (W : World) (hBs : W.cell? ⟨Bs, 0, none⟩ = some (.slice (some ⟨b, 0, none⟩) m cap)) (hBn : Bs < n₀)
    (hc : ∀ j, j < m → W.cell? ⟨b, j * 2, none⟩ = some (.int .i64 (LA j)) ∧ W.cell? ⟨b, j * 2 + 1, none⟩ = some (.string (LD j))) (h0 : J [] W) :
    CallsIn F n Tryd.prog 67 #[.func (.yield l) #[] #[], .pointer (some ⟨Bs, 0, none⟩)] W fun e W' => (∃ v, e = .returned v) ∧
      ((∃ ys, ys = upto (rev m) m ∧ J ys W') ∨ (∃ pre, (∃ k, k ≤ m ∧ pre = upto (rev m) k) ∧ Jx pre W')) := by
  refine callsIn_of_wp Tryd.func67 rfl h38 ?_ hro
  simp only [Tryd.ntmps67, List.size_toArray, List.length_cons, List.length_nil, Nat.reduceAdd, Nat.reduceSub, Array.replicate_succ, Array.replicate_zero, List.push_toArray, List.append_toArray, List.nil_append, List.cons_append]
  gi_wp2
  gi_loopw [3] (fun i wr => ∃ r : Nat, r ≤ m ∧ i = .int .i64 ((r : Int) - 1) ∧ J (upto (rev m) (m - r)) wr ∧ Below n₀ W wr)
    (fun i _ => (intOf i + 1).toNat)
  case atStart => exact ⟨m, Nat.le_refl _, rfl, by rw [Nat.sub_self]; exact h0, Below.refl _ _⟩
  case round =>
    obtain ⟨r, hr, rfl, hJs, hnx⟩ := hrel
    have hbs := (hnx.cell (p := ⟨Bs, 0, none⟩) hBn).trans hBs
    cases r with
    | zero =>
      have e0 : ((0 : Nat) : Int) - 1 = -1 := rfl
      rw [e0]
      gi_wp2
      go_end0
      exact ⟨⟨_, rfl⟩, .inl ⟨_, rfl, by simpa using hJs⟩⟩
    | succ q =>
      have e0 : ((q + 1 : Nat) : Int) - 1 = (q : Int) := by omega
      rw [e0]
      have hq : q < m := hr
      obtain ⟨fn, tmps, assign, body, hy, hR⟩ := hY _ q wr hJs (by rw [upto_length]; omega)
      dsimp only [lateArgs] at hy
      obtain ⟨k1, k2⟩ := hc q hq
      have hA := (hnx.cell (p := ⟨b, q * 2, none⟩) hb).trans k1
      have hD := (hnx.cell (p := ⟨b, q * 2 + 1, none⟩) hb).trans k2
      have hup : upto (rev m) (m - (q + 1)) ++ [q] = upto (rev m) (m - q) := by
        have e1 : m - q = m - (q + 1) + 1 := by omega
        have e2 : rev m (m - (q + 1)) = q := by unfold rev; omega
        rw [e1, upto_succ, e2]
      have HUP := Lib.hid hup
      clear hup k1 k2 e0
      gi_wp2
      refine hR.mono ?_
      rintro e W3 (⟨rfl, hJ3, hk3⟩ | ⟨rfl, hJx3⟩)
      · gi_wp2
        go_roundw
        case rel => exact ⟨q, by omega, by simp, by rw [← HUP.out]; exact hJ3, hnx.trans hk3⟩
        case measure => simp [intOf]
      · gi_wp2
        refine bodyPost_ret (results_none rfl _ _ _) rfl ?_
        exact ⟨⟨_, rfl⟩, .inr ⟨_, ⟨m - q, by omega, HUP.out⟩, hJx3⟩⟩

set_option maxRecDepth 100000 in
set_option maxHeartbeats 1000000 in
theorem back1_nil_in (F : Fence) (n : Nat) (h38 : F.fn 67) (hro : F.round = none) (l Bs : Nat) (J : List Nat → World → Prop) (W : World) (hBs : W.cell? ⟨Bs, 0, none⟩ = some (.slice none 0 0)) (h0 : J [] W) :
    CallsIn F n Tryd.prog 67 #[.func (.yield l) #[] #[], .pointer (some ⟨Bs, 0, none⟩)] W fun e W' => (∃ v, e = .returned v) ∧ J [] W' := by
  refine callsIn_of_wp Tryd.func67 rfl h38 ?_ hro
  simp only [Tryd.ntmps67, List.size_toArray, List.length_cons, List.length_nil, Nat.reduceAdd, Nat.reduceSub, Array.replicate_succ, Array.replicate_zero, List.push_toArray, List.append_toArray, List.nil_append, List.cons_append]
  gi_wp2
  gi_loopw [3] (fun i wr => i = .int .i64 (-1) ∧ J [] wr) (fun _ _ => 0)
  case atStart => exact ⟨rfl, h0⟩
  case round =>
    obtain ⟨rfl, hJs⟩ := hrel
    gi_wp2
    go_end0
    exact ⟨⟨_, rfl⟩, hJs⟩

set_option maxHeartbeats 1000000 in
theorem back_in (F : Fence) (n : Nat) (h30 : F.fn 61) (hro : F.round = none) (a : Option Addr) (len cap : Nat) (w : World) :
    CallsIn F n Tryd.prog 61 #[.slice a len cap] w fun e w' => e = .returned (.func (.func 67) #[] #[.pointer (some ⟨w.heap.size, 0, none⟩)]) ∧ w' = w.alloc (.cells #[.slice a len cap] 37) := by
  refine callsIn_of_wp Tryd.func61 rfl h30 ?_ hro
  simp only [Tryd.ntmps61, List.size_toArray, List.length_cons, List.length_nil, Nat.reduceAdd, Nat.reduceSub, Array.replicate_succ, Array.replicate_zero, List.push_toArray, List.append_toArray, List.nil_append, List.cons_append]
  gi_wp2
  go_ret
  exact ⟨rfl, rfl⟩

theorem back_stops (F : Fence) (n : Nat) (h38 : F.fn 67) (hro : F.round = none) (hn : 1 ≤ n) (Bs n₀ : Nat) (A : Option Addr) (m cap : Nat) (LA : Nat → Int) (LD : Nat → ByteArray) (hm : m ≤ 1000000) (w : World) (hBs : Bs < n₀) (hn₀ : n₀ ≤ w.heap.size)
    (hc : w.cell? ⟨Bs, 0, none⟩ = some (.slice A m cap)) (hl : HasLate w A m LA LD) (hlb : ∀ a, A = some a → a.block < n₀) (h0 : m = 0 → A = none ∧ cap = 0) :
    SeqStopsK F n Tryd.prog 67 #[.pointer (some ⟨Bs, 0, none⟩)] (lateArgs LA LD) (Below n₀) (fun ys => ys = upto (rev m) m) (fun pre => ∃ k, k ≤ m ∧ pre = upto (rev m) k) m w := fun l J Jx W hW _ _ hY hJ0 => by
  have hc' := (hW.cell (p := ⟨Bs, 0, none⟩) (Nat.lt_of_lt_of_le hBs hn₀)).trans hc
  rcases Nat.eq_zero_or_pos m with hm0 | hm0
  · obtain ⟨rfl, rfl⟩ := h0 hm0
    subst hm0
    exact (back1_nil_in F n h38 hro l Bs J W hc' hJ0).mono fun e W' ⟨he, hj⟩ => ⟨he, .inl ⟨_, rfl, hj⟩⟩
  · obtain ⟨b, rfl, hb, hcs⟩ := hl hm0
    refine back1_in F n h38 hro hn l Bs n₀ b m cap LA LD hm (hlb _ rfl) J Jx hY W hc' hBs (fun j hj => ?_) hJ0
    obtain ⟨k1, k2⟩ := hcs j hj
    exact ⟨(hW.cell (p := ⟨b, j * 2, none⟩) hb).trans k1, (hW.cell (p := ⟨b, j * 2 + 1, none⟩) hb).trans k2⟩

/-- What was written last there: the writes from the last on, else what is sure. -/
def look (LA : Nat → Int) (LD : Nat → ByteArray) (x : Int) (d : ByteArray) : Nat → ByteArray
  | 0 => d
  | k + 1 => if LA k = x then LD k else look LA LD x d k
end Go.Proofs.YtdbemkdfndjakaaDoor.Sla

/- slab.latest: what was written last. -/
namespace Go.Proofs.YtdbemkdfndjakaaDoor.Sla
open Go.RowKit Go.Shelf

attribute [local go_sem] Oper.semAt_some

theorem look_none (LA : Nat → Int) (LD : Nat → ByteArray) (x : Int) (d : ByteArray) (m : Nat) (h : ∀ j, j < m → LA j ≠ x) : look LA LD x d m = d := by
  induction m with
  | zero => rfl
  | succ m ih => simp only [look]; rw [if_neg (h m (by omega))]; exact ih fun j hj => h j (by omega)
theorem look_at (LA : Nat → Int) (LD : Nat → ByteArray) (x : Int) (d : ByteArray) (i m : Nat) (hi : i < m) (hx : LA i = x) (h : ∀ j, i < j → j < m → LA j ≠ x) : look LA LD x d m = LD i := by
  induction m with
  | zero => omega
  | succ m ih =>
    simp only [look]
    by_cases e : i = m
    · subst e
      rw [if_pos hx]
    · rw [if_neg (h m (by omega) (by omega))]
      exact ih (by omega) fun j h1 h2 => h j h1 (by omega)
theorem upto_rev_mem {m k i : Nat} (h1 : m - k ≤ i) (h2 : i < m) (hk : k ≤ m) : i ∈ upto (rev m) k := by
  simp only [upto, List.mem_map, List.mem_range, rev]
  exact ⟨m - 1 - i, by omega, by omega⟩

def BlkC (W : World) (B : Nat) (t : TypeId) (cs : Array Value) : Prop := W.heap[B]? = some (.cells cs t (0, 0))
theorem BlkC.lt {W : World} {B : Nat} {t : TypeId} {cs : Array Value} (h : BlkC W B t cs) : B < W.heap.size := (Array.getElem?_eq_some_iff.1 h).1
theorem BlkC.cell {W : World} {B : Nat} {t : TypeId} {cs : Array Value} (h : BlkC W B t cs) (i : Nat) : W.cell? ⟨B, i, none⟩ = cs[i]? := cell_of_row W B i cs t (0, 0) h
theorem BlkC.frozen {W : World} {B : Nat} {t : TypeId} {cs : Array Value} (h : BlkC W B t cs) (i : Nat) : W.frozen? ⟨B, i, none⟩ = false := frozen_of_row W B i cs t h
theorem BlkC.new (W : World) (t : TypeId) (cs : Array Value) : BlkC (W.alloc (.cells cs t)) W.heap.size t cs := heap_alloc_new W _
theorem BlkC.alloc {W : World} {B : Nat} {t : TypeId} {cs : Array Value} (h : BlkC W B t cs) (o : Obj) : BlkC (W.alloc o) B t cs := (Below.heap_alloc W o B h.lt).trans h
theorem BlkC.set1 {W : World} {B : Nat} {t : TypeId} {u : Value} (h : BlkC W B t #[u]) (v : Value) : BlkC (W.setCell ⟨B, 0, none⟩ v) B t #[v] := heap_setCell_same W B 0 #[u] t v h
theorem blk_own {β : Type} (B : Nat) (t : TypeId) (cs : β → Array Value) : Own (fun s W => BlkC W B t (cs s)) := fun s X Y row hs hg hrow =>
  (hg.block B hs.lt (fun e' => by obtain ⟨o, ho, hc⟩ := hrow B e'.symm; rw [show X.heap[B]? = _ from hs] at ho; cases ho; cases hc)).trans hs

set_option maxRecDepth 100000 in
set_option maxHeartbeats 4000000 in
theorem latest_in (F : Fence) (n : Nat) (h27 : F.fn 50) (h30 : F.fn 61) (h38 : F.fn 67) (hro : F.round = none) (hn : 3 ≤ n) (b c ns : Nat) (B : Option Addr) (m k : Nat) (dead : Bool) (left deeds : Int) (x : Nat) (S : ByteArray) (LA : Nat → Int) (LD : Nat → ByteArray) (w : World)
    (hm : m ≤ 1000000) (hx : x < ns) (hS : w.cell? ⟨b, x, none⟩ = some (.string S)) (hl : HasLate w B m LA LD) (h0 : m = 0 → B = none ∧ k = 0) :
    CallsIn F n Tryd.prog 50 #[.agg #[.slice (some ⟨b, 0, none⟩) ns c, .slice B m k, .bool dead, .int .i64 left, .int .i64 deeds], .int .i64 x] w fun e w' =>
      e = .returned (.string (look LA LD x S m)) ∧ Below w.heap.size w w' := by
  have h1 : 1 ≤ n := by omega
  have hblt : b < w.heap.size := World.block_lt_of_cell? w _ hS
  have hlb := hl.block_lt fun e => (h0 e).1
  have HLB := Lib.hid hlb
  have HS := Lib.hid hS
  have HL := Lib.hid hl
  have H0 := Lib.hid h0
  clear hS hl h0 hlb
  refine callsIn_of_wp_marks Tryd.func50 rfl h27 ?_ hro
  simp only [Tryd.ntmps50, List.size_toArray, List.length_cons, List.length_nil, Nat.reduceAdd, Nat.reduceSub, Array.replicate_succ, Array.replicate_zero, List.push_toArray, List.append_toArray, List.nil_append, List.cons_append]
  gi_wp2_with (gi_at_call 61; refine (back_in F (n - 1) h30 hro _ _ _ _).mono ?_; rintro e w' ⟨rfl, rfl⟩)
  have b0 := (((BlkC.new w 39 #[.slice (some ⟨b, 0, none⟩) ns c, .slice B m k, .bool dead, .int .i64 left, .int .i64 deeds]).alloc (.cells #[.int .i64 x] 3)).alloc (.cells #[.string ⟨#[]⟩] 9)).alloc (.cells #[.slice B m k] 37)
  have b1 := ((BlkC.new (w.alloc (.cells #[.slice (some ⟨b, 0, none⟩) ns c, .slice B m k, .bool dead, .int .i64 left, .int .i64 deeds] 39)) 3 #[.int .i64 x]).alloc (.cells #[.string ⟨#[]⟩] 9)).alloc (.cells #[.slice B m k] 37)
  have b2 := (BlkC.new ((w.alloc (.cells #[.slice (some ⟨b, 0, none⟩) ns c, .slice B m k, .bool dead, .int .i64 left, .int .i64 deeds] 39)).alloc (.cells #[.int .i64 x] 3)) 9 #[.string ⟨#[]⟩]).alloc (.cells #[.slice B m k] 37)
  have b3 := BlkC.new (((w.alloc (.cells #[.slice (some ⟨b, 0, none⟩) ns c, .slice B m k, .bool dead, .int .i64 left, .int .i64 deeds] 39)).alloc (.cells #[.int .i64 x] 3)).alloc (.cells #[.string ⟨#[]⟩] 9)) 37 #[.slice B m k]
  have hB0 : Below w.heap.size w ((((w.alloc (.cells #[.slice (some ⟨b, 0, none⟩) ns c, .slice B m k, .bool dead, .int .i64 left, .int .i64 deeds] 39)).alloc (.cells #[.int .i64 x] 3)).alloc (.cells #[.string ⟨#[]⟩] 9)).alloc (.cells #[.slice B m k] 37)) :=
    ((((Below.refl _ w).alloc (Nat.le_refl _) _).alloc (by simp) _).alloc (by simp; omega) _).alloc (by simp; omega) _
  have hsz : ((((w.alloc (.cells #[.slice (some ⟨b, 0, none⟩) ns c, .slice B m k, .bool dead, .int .i64 left, .int .i64 deeds] 39)).alloc (.cells #[.int .i64 x] 3)).alloc (.cells #[.string ⟨#[]⟩] 9)).alloc (.cells #[.slice B m k] 37)).heap.size = w.heap.size + 4 := by simp
  simp only [World.size_alloc] at b1 b2 b3
  obtain ⟨W0, hW0⟩ : ∃ W0, ((((w.alloc (.cells #[.slice (some ⟨b, 0, none⟩) ns c, .slice B m k, .bool dead, .int .i64 left, .int .i64 deeds] 39)).alloc (.cells #[.int .i64 x] 3)).alloc (.cells #[.string ⟨#[]⟩] 9)).alloc (.cells #[.slice B m k] 37)) = W0 := ⟨_, rfl⟩
  rw [hW0] at b0 b1 b2 b3 hB0 hsz ⊢
  clear hW0
  refine wpIn_rangeFunc_ownH hro h1 (gf := 67) (lb := #[.pointer (some ⟨w.heap.size + 1 + 1 + 1, 0, none⟩)]) rfl h38 (enters_of Tryd.func67 (by kernel_rfl) rfl)
    (back_stops F (n - 1) h38 hro (by omega) (w.heap.size + 1 + 1 + 1) (w.heap.size + 4) B m k LA LD hm W0 (by omega) (by omega) (b3.cell 0) (HL.out.below hB0 (Nat.le_refl _)) (fun a ha => by have := HLB.out a ha; omega) H0.out) belowK_t (belowK_b (by omega)) (Below.refl _ _) (fun _ => rfl)
    (fun pre W => (((((∀ i ∈ pre, LA i ≠ x)) ∧ BlkC W w.heap.size 39 #[.slice (some ⟨b, 0, none⟩) ns c, .slice B m k, .bool dead, .int .i64 left, .int .i64 deeds]) ∧ BlkC W (w.heap.size + 1) 3 #[.int .i64 x]) ∧ BlkC W (w.heap.size + 1 + 1) 9 #[.string ⟨#[]⟩]) ∧ Below w.heap.size W0 W)
    (fun cd pre W => (cd = .ret ∧ ∃ ini last, pre = ini ++ [last] ∧ (∀ i ∈ ini, LA i ≠ x) ∧ LA last = x ∧ BlkC W (w.heap.size + 1 + 1) 9 #[.string (LD last)]) ∧ Below w.heap.size W0 W)
    (OwnFrom.and (OwnFrom.and (OwnFrom.and (OwnFrom.and (ownFrom_pure _ _) (Own.from (blk_own _ _ _) _)) (Own.from (blk_own _ _ _) _)) (Own.from (blk_own _ _ _) _)) (ownFrom_below (by omega) (by omega)))
    (fun cd => OwnFrom.and (Own.from (fun s X Y row hs hg hr => by obtain ⟨e0, ini, last, e1, e2, e3, e4⟩ := hs; exact ⟨e0, ini, last, e1, e2, e3, blk_own (w.heap.size + 1 + 1) 9 (fun (_ : Unit) => #[.string (LD last)]) () X Y row e4 hg hr⟩) _) (ownFrom_below (by omega) (by omega)))
    ⟨⟨⟨⟨by simp, b0⟩, b1⟩, b2⟩, Below.refl _ _⟩
    (fun i a' W => ∃ Bx, w.heap.size + 1 + 1 < Bx ∧ BlkC W Bx 69 #[.int .i64 (LA i), .string (LD i)] ∧ a' = { tmps := #[.agg #[.slice (some ⟨b, 0, none⟩) ns c, .slice B m k, .bool dead, .int .i64 left, .int .i64 deeds], .int .i64 x, .pointer (some ⟨w.heap.size, 0, none⟩), .pointer (some ⟨w.heap.size + 1, 0, none⟩), .pointer (some ⟨w.heap.size + 1 + 1, 0, none⟩), undef, .pointer (some ⟨Bx, 0, none⟩), .pointer (some ⟨w.heap.size, 1, none⟩), .slice B m k, .func (.func 67) #[] #[.pointer (some ⟨w.heap.size + 1 + 1 + 1, 0, none⟩)], .int .i64 (i : Int), .agg #[.int .i64 (LA i), .string (LD i)], undef, undef, undef, undef, undef, undef, undef, undef, undef, undef, undef], defers := [] })
    (fun i a' _ X Y row hs hg hr => by obtain ⟨Bx, e1, e2, e3⟩ := hs; exact ⟨Bx, e1, blk_own Bx 69 (fun (_ : Unit) => #[.int .i64 (LA i), .string (LD i)]) () X Y row e2 hg (fun r e => (hr r e).2), e3⟩)
    ?assign ?body ?done ?stop
  case assign =>
    rintro l pre i W K ⟨⟨⟨⟨hp, c0⟩, c1⟩, c2⟩, hB1⟩ hK
    have hs := hB1.size
    rw [hsz] at hs
    have l2 := c2.lt
    dsimp only [lateArgs]
    gi_wp2
    exact hK _ _ ((KeepsOthers.alloc _ _).from _) ((Below.refl _ W).alloc hs _) ⟨⟨⟨⟨hp, c0.alloc _⟩, c1.alloc _⟩, c2.alloc _⟩, hB1.alloc (by omega) _⟩ ⟨W.heap.size, l2, BlkC.new W 69 _, rfl⟩
  case body =>
    rintro l pre i a' W hl ⟨r, hr⟩ ⟨⟨⟨⟨hp, c0⟩, c1⟩, c2⟩, hB1⟩ ⟨Bx, hBx, bX, rfl⟩ hlt
    have k1 := c1.cell 0
    have k2 := c2.cell 0
    have kf := c2.frozen 0
    have kx0 := bX.cell 0
    have kx1 := bX.cell 1
    simp only [List.getElem?_toArray, List.getElem?_cons_zero, List.getElem?_cons_succ] at k1 k2 kx0 kx1
    gi_wp2
    · have hxy : (LA i == (x : Int)) = true := by assumption
      exact ⟨(KeepsOthers.setCell _ _ _).from _, ⟨rfl, pre, i, rfl, hp, eq_of_beq hxy, c2.set1 _⟩, hB1.setCell (p := ⟨w.heap.size + 1 + 1, 0, none⟩) (by simp; omega) _⟩
    · have hxy : (LA i == (x : Int)) = false := by assumption
      exact ⟨KeepsFrom.refl _ _, Below.refl _ _, ⟨⟨⟨fun j hj => (List.mem_append.1 hj).elim (hp j) (fun e => by simp at e; subst e; simpa using hxy), c0⟩, c1⟩, c2⟩, hB1⟩
  case done =>
    rintro D ys W hD rfl ⟨⟨⟨⟨hp, c0⟩, c1⟩, c2⟩, hB1⟩ hK
    have k0 := c0.cell 0
    have k1 := c1.cell 0
    have k2 := c2.cell 0
    have kf := c2.frozen 0
    simp only [List.getElem?_toArray, List.getElem?_cons_zero] at k0 k1 k2
    have kS := ((hB0.trans hB1).cell (p := ⟨b, x, none⟩) hblt).trans HS.out
    gi_wp2
    have hK' := (KeepsOthers.setCell W ⟨w.heap.size + 1 + 1, 0, none⟩ (.string S)).same D _ hK rfl
    refine ⟨by simp, .inl ⟨_, _, rfl, run_takeDeferred hK', ?_⟩⟩
    have hc5 := cell_kept (World.cell?_setCell_same' W ⟨w.heap.size + 1 + 1, 0, none⟩ (.string S) (by rw [k2]; rfl)) (grownBy_putObj' _ D (.deferred none)) (fun r e => by cases e; exact ⟨_, hK', rfl⟩)
    refine ⟨.string S, ?_, by rw [look_none LA LD x S m (fun j hj => hp j (upto_rev_mem (by omega) hj (Nat.le_refl _)))], ((hB0.trans hB1).setCell (p := ⟨w.heap.size + 1 + 1, 0, none⟩) (by simp; omega) _).trans (belowK_b (w := w) (Nat.le_refl _) _ D _ _ (by omega) hK' rfl rfl)⟩
    simp [results, Tryd.f50, go_sem, hc5]
  case stop =>
    rintro D cd pre W hD ⟨k', hk', rfl⟩ ⟨⟨rfl, ini, last, e1, e2, e3, c2⟩, hB1⟩ hK
    gi_wp2
    refine ⟨by simp, .inl ⟨_, _, rfl, run_takeDeferred hK, ?_⟩⟩
    have hc5 := cell_kept (c2.cell 0) (grownBy_putObj' _ D (.deferred none)) (fun r e => by cases e; exact ⟨_, hK, rfl⟩)
    obtain ⟨q, rfl⟩ : ∃ q, k' = q + 1 := by
      cases k' with
      | zero => simp [upto] at e1
      | succ q => exact ⟨q, rfl⟩
    rw [upto_succ] at e1
    obtain ⟨rfl, e5⟩ := List.append_inj' e1 rfl
    obtain rfl : rev m q = last := by simpa using e5
    have hlast : rev m q = m - 1 - q := rfl
    refine ⟨.string (LD (rev m q)), ?_, by rw [look_at LA LD x S (rev m q) m (by omega) e3 (fun j j1 j2 => e2 j (upto_rev_mem (by omega) j2 (by omega)))], (hB0.trans hB1).trans (belowK_b (w := w) (Nat.le_refl _) W D _ _ (by omega) hK rfl rfl)⟩
    simp [results, Tryd.f50, go_sem, hc5]

theorem latest_any (b c ns : Nat) (B : Option Addr) (m k : Nat) (dead : Bool) (left deeds : Int) (x : Nat) (S : ByteArray) (LA : Nat → Int) (LD : Nat → ByteArray) (w : World)
    (hm : m ≤ 1000000) (hx : x < ns) (hS : w.cell? ⟨b, x, none⟩ = some (.string S)) (hl : HasLate w B m LA LD) (h0 : m = 0 → B = none ∧ k = 0) :
    Calls Tryd.prog 50 #[.agg #[.slice (some ⟨b, 0, none⟩) ns c, .slice B m k, .bool dead, .int .i64 left, .int .i64 deeds], .int .i64 x] w fun e w' =>
      e = .returned (.string (look LA LD x S m)) ∧ Below w.heap.size w w' :=
  (callsIn_wide (n := 3)).1 (latest_in Fence.wide 3 trivial trivial trivial rfl (Nat.le_refl _) b c ns B m k dead left deeds x S LA LD w hm hx hS hl h0)
end Go.Proofs.YtdbemkdfndjakaaDoor.Sla

/- slab.Get. -/
namespace Go.Proofs.YtdbemkdfndjakaaDoor.Sla
open Go.RowKit Go.Shelf

def GetErr (D : Dev) (s : ByteArray) (err : Int) (w : World) (e : Ending) (w' : World) : Prop :=
  ∃ v, e = .returned (.tuple #[v, .string s, .int .i64 err]) ∧ IsDev w' v D ∧ Below w.heap.size w w'
theorem getErr_of {w W : World} {b : Nat} {B : Option Addr} {v : Value} {D : Dev} {s : ByteArray} {err : Int} (h : DevAt w b B v D) (hb : Below w.heap.size w W) : GetErr D s err w (.returned (.tuple #[v, .string s, .int .i64 err])) W :=
  ⟨v, rfl, ⟨b, B, h.below hb (Nat.le_refl _)⟩, hb⟩

set_option maxHeartbeats 1000000 in
theorem get_down (v : Value) (D : Dev) (x : Int) (w : World) (h : IsDev w v D) (ha : D.has x = true) (hp : D.pow = false) :
    Calls Tryd.prog 37 #[v, .int .i64 x] w (GetErr D.down ⟨#[]⟩ 10 w) := by
  obtain ⟨b, B, c, k, rfl, hlt, hnc, hc, hl, h0⟩ := h
  have hd : DevAt w b B _ D := ⟨c, k, rfl, hlt, hnc, hc, hl, h0⟩
  have HD := Lib.hid hd.down
  have HH := Lib.hid ha
  have HQ := Lib.hid (pow_no hp)
  clear hd hc hl h0 ha hp
  obtain ⟨n, S, m, LA, LD, dead, left, deeds⟩ := D
  have HQ2 : Hid (dead = true ∨ left = 0) := HQ
  clear HQ
  go_enter Tryd.func37, Tryd.ntmps37
  go_wp2_with (first
    | (go_at_call 48
       refine (has_any _ _ _ _ _ _ _ _ _ _ _ true HH.out.symm).mono ?_
       rintro e w1 ⟨rfl, hb1⟩
       simp only [World.size_alloc] at hb1
       obtain ⟨hcc, hff⟩ := bcell hb1
       have hs1 := hb1.size
       simp only [World.size_alloc] at hs1)
    | (go_at_call 49
       refine (deed_no _ _ _ _ _ _ _ _ _ _ HQ2.out).mono ?_
       rintro e w2 ⟨rfl, hb2⟩
       have hb3 := hb1.trans (hb2.mono (by simpa using hs1))
       clear hcc hff
       have HX := Lib.hid (((Box5.new w _ _ _ _ _ 39).alloc _).below hb3 (by omega))
       have HY := Lib.hid ((Box5.new _ _ _ _ _ _ 39).below hb3 (by simp)))
    | (refine wpList_store5 rfl 39 (.tmp 2) (.tmp 16) rfl w.heap.size _ _ _ _ _ _ _ _ _ _ rfl rfl HX.out size31 (by simp [Value.oneCell']) ?_
       intro w3 hx3 hbut3
       have hy3 := HY.out.but hbut3 (by simp)
       simp only [World.size_alloc] at hy3
       have hcx0 := hx3.c0
       have hcx1 := hx3.c1
       have hcx2 := hx3.c2
       have hcx3 := hx3.c3
       have hcx4 := hx3.c4
       have hcy0 := hy3.c0
       have hcy1 := hy3.c1
       have hcy2 := hy3.c2
       have hcy3 := hy3.c3
       have hcy4 := hy3.c4
       have hfy := hy3.f))
  refine bodyPost_ret (v := .tuple #[.agg #[.slice (some ⟨b, 0, none⟩) n c, .slice B m k, .bool true, .int .i64 left, .int .i64 deeds], .string ⟨#[]⟩, .int .i64 10]) (by simp [results, Tryd.results37, go_sem, hcy0, hcy1, hcy2, hcy3, hcy4]) rfl (getErr_of HD.out ?_)
  have hb4 : Below w.heap.size w w3 := ((((Below.refl w.heap.size w).alloc (by simp) _).alloc (by simp) _).trans (hb3.mono (by omega))).trans (hbut3.below (Nat.le_refl _))
  repeat (first | (with_reducible exact hb4) | refine Below.setCell ?_ (by simp) _)

end Go.Proofs.YtdbemkdfndjakaaDoor.Sla

/- slab.Get where a sector is told. -/
namespace Go.Proofs.YtdbemkdfndjakaaDoor.Sla
open Go.RowKit Go.Shelf

theorem keep5 {w : World} {g g' : Nat} {v0 v1 v2 v3 v4 : Value} (h : Box5 w g v0 v1 v2 v3 v4) (hne : g ≠ g') (u0 u1 u2 u3 u4 : Value) :
    (((((w.setCell ⟨g', 0, none⟩ u0).setCell ⟨g', 1, none⟩ u1).setCell ⟨g', 2, none⟩ u2).setCell ⟨g', 3, none⟩ u3).setCell ⟨g', 4, none⟩ u4).cell? ⟨g, 0, none⟩ = some v0 ∧
    (((((w.setCell ⟨g', 0, none⟩ u0).setCell ⟨g', 1, none⟩ u1).setCell ⟨g', 2, none⟩ u2).setCell ⟨g', 3, none⟩ u3).setCell ⟨g', 4, none⟩ u4).cell? ⟨g, 1, none⟩ = some v1 ∧
    (((((w.setCell ⟨g', 0, none⟩ u0).setCell ⟨g', 1, none⟩ u1).setCell ⟨g', 2, none⟩ u2).setCell ⟨g', 3, none⟩ u3).setCell ⟨g', 4, none⟩ u4).cell? ⟨g, 2, none⟩ = some v2 ∧
    (((((w.setCell ⟨g', 0, none⟩ u0).setCell ⟨g', 1, none⟩ u1).setCell ⟨g', 2, none⟩ u2).setCell ⟨g', 3, none⟩ u3).setCell ⟨g', 4, none⟩ u4).cell? ⟨g, 3, none⟩ = some v3 ∧
    (((((w.setCell ⟨g', 0, none⟩ u0).setCell ⟨g', 1, none⟩ u1).setCell ⟨g', 2, none⟩ u2).setCell ⟨g', 3, none⟩ u3).setCell ⟨g', 4, none⟩ u4).cell? ⟨g, 4, none⟩ = some v4 :=
  have hb := h.but ((((((But.refl g' w).setCell 0 u0).setCell 1 u1).setCell 2 u2).setCell 3 u3).setCell 4 u4) hne
  ⟨hb.c0, hb.c1, hb.c2, hb.c3, hb.c4⟩

set_option maxHeartbeats 2000000 in
theorem get_ok {K : Nat} (v : Value) (D : Dev) (x : Nat) (w : World) (h : IsDev w v D) (hok : D.Ok K) (hK : K ≤ 100000) (ha : D.has x = true) (hp : D.pow = true) :
    Calls Tryd.prog 37 #[v, .int .i64 x] w (GetErr D.up (look D.LA D.LD x (D.S x) D.m) 0 w) := by
  obtain ⟨b, B, c, k, rfl, hlt, hnc, hc, hl, h0⟩ := h
  have hd : DevAt w b B (.agg #[.slice (some ⟨b, 0, none⟩) D.n c, .slice B D.m k, .bool D.dead, .int .i64 (lessLeft D.left), .int .i64 (D.deeds + 1)]) D.up := ⟨c, k, rfl, hlt, hnc, hc, hl, h0⟩
  have HD := Lib.hid hd
  have hxn : x < D.n := by
    unfold Dev.has at ha
    simp at ha
    exact ha
  have HH := Lib.hid ha
  have HQ := Lib.hid (pow_yes hp)
  have hm := hok.m2
  have hd2 := hok.d2
  have hl1 := hok.l1
  have hl2 := hok.l2
  have hd1 := hok.d1
  have hS := hc x hxn
  have HS := Lib.hid hS
  have HL := Lib.hid hl
  have H0 := Lib.hid h0
  clear hc hl h0 ha hp hok hS hd
  obtain ⟨n, S, m, LA, LD, dead, left, deeds⟩ := D
  have HQ2 : Hid (dead = false ∧ left ≠ 0) := HQ
  simp only at hm hd2 hl1 hl2 hd1 hnc hxn
  clear HQ
  obtain rfl : dead = false := HQ2.out.1
  have HQ3 := Lib.hid HQ2.out.2
  clear HQ2
  have HS2 : Hid (w.cell? ⟨b, x, none⟩ = some (.string (S x))) := HS
  clear HS
  have HD2 : Hid (DevAt w b B (.agg #[.slice (some ⟨b, 0, none⟩) n c, .slice B m k, .bool false, .int .i64 (lessLeft left), .int .i64 (deeds + 1)]) (Dev.up { n := n, S := S, m := m, LA := LA, LD := LD, dead := false, left := left, deeds := deeds })) := HD
  clear HD
  show Calls Tryd.prog 37 _ w (GetErr _ (look LA LD x (S x) m) 0 w)
  go_enter Tryd.func37, Tryd.ntmps37
  go_wp2_with (first
    | (go_at_call 48
       refine (has_any _ _ _ _ _ _ _ _ _ _ _ true HH.out.symm).mono ?_
       rintro e w1 ⟨rfl, hb1⟩
       simp only [World.size_alloc] at hb1
       obtain ⟨hcc, hff⟩ := bcell hb1
       have hs1 := hb1.size
       simp only [World.size_alloc] at hs1)
    | (go_at_call 49
       refine (deed_yes _ _ _ _ _ _ _ _ _ HQ3.out (by omega) (by omega) (by omega) (by omega)).mono ?_
       rintro e w2 ⟨rfl, hb2⟩
       generalize hle : lessLeft left = left2 at HD2
       have hb3 := hb1.trans (hb2.mono (by simpa using hs1))
       clear hcc hff
       have HX := Lib.hid (((Box5.new w _ _ _ _ _ 39).alloc _).below hb3 (by omega))
       have HY := Lib.hid ((Box5.new _ _ _ _ _ _ 39).below hb3 (by simp)))
    | (refine wpList_store5 rfl 39 (.tmp 2) (.tmp 16) rfl w.heap.size _ _ _ _ _ _ _ _ _ _ rfl rfl HX.out size31 (by simp [Value.oneCell']) ?_
       intro w3 hx3 hbut3
       have hy3 := HY.out.but hbut3 (by simp)
       simp only [World.size_alloc] at hy3
       have hb4 : Below w.heap.size w w3 := ((((Below.refl w.heap.size w).alloc (by simp) _).alloc (by simp) _).trans (hb3.mono (by omega))).trans (hbut3.below (Nat.le_refl _))
       have hs3 : w.heap.size + 1 < w3.heap.size := (World.block_lt_of_cell? w3 _ hy3.c0)
       have hcx0 := hx3.c0
       have hcx1 := hx3.c1
       have hcx2 := hx3.c2
       have hcx3 := hx3.c3
       have hcx4 := hx3.c4))
  have hl3 : HasLate w3.drew B m LA LD := HL.out.below hb4.drew (Nat.le_refl _)
  have HL3 := Lib.hid hl3
  have HS3 : Hid (w3.drew.cell? ⟨b, x, none⟩ = some (.string (S x))) := (hb4.drew.cell (p := ⟨b, x, none⟩) hlt).trans HS2.out
  clear hl3 HL hle hb1 hb3 HX HY hbut3 HS2
  have hne : w.heap.size ≠ w.heap.size + 1 := by omega
  have hS0 : Hid (w3.drew.cell? ⟨w.heap.size, 0, none⟩ = some (.slice (some ⟨b, 0, none⟩) n c) ∧ w3.drew.cell? ⟨w.heap.size, 1, none⟩ = some (.slice B m k) ∧ w3.drew.cell? ⟨w.heap.size, 2, none⟩ = some (.bool false) ∧ w3.drew.cell? ⟨w.heap.size, 3, none⟩ = some (.int .i64 left2) ∧ w3.drew.cell? ⟨w.heap.size, 4, none⟩ = some (.int .i64 (deeds + 1))) := ⟨hcx0, hcx1, hcx2, hcx3, hcx4⟩
  clear hcx0 hcx1 hcx2 hcx3 hcx4
  go_region_held3 (fun w' => w'.cell? ⟨w.heap.size, 0, none⟩ = some (.slice (some ⟨b, 0, none⟩) n c) ∧ w'.cell? ⟨w.heap.size, 1, none⟩ = some (.slice B m k) ∧ w'.cell? ⟨w.heap.size, 2, none⟩ = some (.bool false) ∧ w'.cell? ⟨w.heap.size, 3, none⟩ = some (.int .i64 left2) ∧ w'.cell? ⟨w.heap.size, 4, none⟩ = some (.int .i64 (deeds + 1)))
    (first
      | (with_reducible exact ⟨hx6.c0, hx6.c1, hx6.c2, hx6.c3, hx6.c4⟩)
      | (with_reducible exact keep5 hx6 hne _ _ _ _ _)
      | (with_reducible exact hS0.out))
    ((go_at_call 50
      refine (latest_any _ _ _ _ _ _ _ _ _ x (S x) LA LD _ (by omega) hxn HS3.out HL3.out H0.out).mono ?_
      rintro e w6 ⟨rfl, hb6⟩
      have hb36 : Below w3.heap.size w3 w6 := (Below.refl _ w3).drew.trans hb6
      have hx6 := hx3.below hb36 (by omega)
      have hy6 := hy3.below hb36 (by omega)
      have ky0 := hy6.c0
      have ky1 := hy6.c1
      have ky2 := hy6.c2
      have ky3 := hy6.c3
      have ky4 := hy6.c4
      have hfy := hy6.f
      have hb46 : Below w.heap.size w w6 := hb4.trans (hb36.mono (by omega))))
  go_wp2
  refine bodyPost_ret (v := .tuple #[.agg #[.slice (some ⟨b, 0, none⟩) n c, .slice B m k, .bool false, .int .i64 left2, .int .i64 (deeds + 1)], .string (look LA LD x (S x) m), .int .i64 0]) (by simp [results, Tryd.results37, go_sem, ky0, ky1, ky2, ky3, ky4]) rfl (getErr_of HD2.out ?_)
  repeat (first | (with_reducible exact hb46) | refine Below.setCell ?_ (by simp) _)
end Go.Proofs.YtdbemkdfndjakaaDoor.Sla
