/- Texts SlaF, SlaG, SlaH, SlaI, SlaJ, SlaK, SlaL, SlaM, SlaO, SlaZ, SliX, SlpX, TalA, TalB, TalC, TalD, TalE, TalH, LfA, one behind the other. -/
import Derived.Test.YtcgkbcgpnlogoaaGreatDoorMgAB
import Derived.RangeFuncNested
import Derived.RangeFuncBound
import Derived.RangeFuncCalls
import Derived.RangeFuncLeaves
import Derived.Shelf.Abstract
import Derived.Shelf.RegionOpen
import Derived.OwnWalkIn
import Derived.TacticsInMore
import Derived.LoopNIn
import Derived.LoopIn
import Derived.Test.YtcgkbcgpnlogoaaGreatDoorMgAA
import Derived.KernelRfl
import Derived.Laws.BitsAllLaws
import Derived.Test.YtcgkbcgpnlogoaaGreatDoorProg
import Derived.WalkKit
import Derived.WalkSpells
import Derived.WalkLawsBesides
import Derived.Lib.Hide
import Derived.IntWalk
import Derived.Deep.DeepCutAuto
import Derived.Deep.DeepFit
import Derived.Deep.CutBlock
import Derived.Deep.QuietTactic
import Derived.BigQuiet
import Derived.Outline
import Derived.WalkSmall
import Derived.Laws.BytesArg
import Derived.Deep.RegionWith
import Derived.Deep.RegionHeld3
import Derived.StillTailTactics
import Derived.Lib.Strings
import Derived.Laws.IdiomStrings
import Derived.Lib.ConvBytes
import Derived.RegionTactic
import Derived.ChangeAlike
/- slices.Backward over the writes that are not sure. -/
namespace Go.Proofs.YtcgkbcgpnlogoaaGreatDoor.Sla
open Go.RowKit Go.Shelf

attribute [local go_sem] Oper.semAt_some

/-- What has come when k rounds are over. -/
def upto (f : Nat → Nat) (k : Nat) : List Nat := (List.range k).map f
theorem upto_succ (f : Nat → Nat) (k : Nat) : upto f (k + 1) = upto f k ++ [f k] := by simp [upto, List.range_succ]
theorem upto_length (f : Nat → Nat) (k : Nat) : (upto f k).length = k := by simp [upto]

/-- The writes from the last to the first. -/
def rev (m : Nat) : Nat → Nat := fun j => m - 1 - j
def lateArgs (LA : Nat → Int) (LD : Nat → ByteArray) (i : Nat) : Array Value := #[.int .i64 (i : Int), .agg #[.int .i64 (LA i), .string (LD i)]]

set_option maxRecDepth 100000 in
set_option maxHeartbeats 2000000 in
theorem back1_in (F : Fence) (n : Nat) (h38 : F.fn 268) (hro : F.round = none) (hn : 1 ≤ n) (l Bs n₀ b m cap : Nat) (LA : Nat → Int) (LD : Nat → ByteArray) (hm : m ≤ 1000000) (hb : b < n₀) (J Jx : List Nat → World → Prop)
  (hY : ∀ pre x W, J pre W → pre.length < m → YieldAt F (n - 1) Tryz.prog l (lateArgs LA LD x) W fun e W' =>
   (e = .returned (.bool true) ∧ J (pre ++ [x]) W' ∧ Below n₀ W W') ∨ (e = .returned (.bool false) ∧ Jx (pre ++ [x]) W'))
  (W : World) (hBs : W.cell? ⟨Bs, 0, none⟩ = some (.slice (some ⟨b, 0, none⟩) m cap)) (hBn : Bs < n₀)
  (hc : ∀ j, j < m → W.cell? ⟨b, j * 2, none⟩ = some (.int .i64 (LA j)) ∧ W.cell? ⟨b, j * 2 + 1, none⟩ = some (.string (LD j))) (h0 : J [] W) :
  CallsIn F n Tryz.prog 268 #[.func (.yield l) #[] #[], .pointer (some ⟨Bs, 0, none⟩)] W fun e W' => (∃ v, e = .returned v) ∧
   ((∃ ys, ys = upto (rev m) m ∧ J ys W') ∨ (∃ pre, (∃ k, k ≤ m ∧ pre = upto (rev m) k) ∧ Jx pre W')) := by
 refine callsIn_of_wp Tryz.func268 rfl h38 ?_ hro
 simp only [Tryz.ntmps268, List.size_toArray, List.length_cons, List.length_nil, Nat.reduceAdd, Nat.reduceSub, Array.replicate_succ, Array.replicate_zero, List.push_toArray, List.append_toArray, List.nil_append, List.cons_append]
 gi_wp2
 gi_loopw [3] (fun i wr => ∃ r : Nat, r ≤ m ∧ i = .int .i64 ((r : Int) - 1) ∧ J (upto (rev m) (m - r)) wr ∧ Below n₀ W wr)
  (fun i _ => (intOf i + 1).toNat)
 case atStart => exact ⟨m, Nat.le_refl _, rfl, by rw [Nat.sub_self]; exact h0, Below.refl _ _⟩
 case round =>
  obtain ⟨r, hr, rfl, hJs, hnx⟩ := hrel
  have hbs := (hnx.cell (p := ⟨Bs, 0, none⟩) hBn).trans hBs
  cases r with
  | zero =>
   have e0 : ((0 : Nat) : Int) - 1 = -1 := rfl
   rw [e0]
   gi_wp2
   go_end0
   exact ⟨⟨_, rfl⟩, .inl ⟨_, rfl, by simpa using hJs⟩⟩
  | succ q =>
   have e0 : ((q + 1 : Nat) : Int) - 1 = (q : Int) := by omega
   rw [e0]
   have hq : q < m := hr
   obtain ⟨fn, tmps, assign, body, hy, hR⟩ := hY _ q wr hJs (by rw [upto_length]; omega)
   dsimp only [lateArgs] at hy
   obtain ⟨k1, k2⟩ := hc q hq
   have hA := (hnx.cell (p := ⟨b, q * 2, none⟩) hb).trans k1
   have hD := (hnx.cell (p := ⟨b, q * 2 + 1, none⟩) hb).trans k2
   have hup : upto (rev m) (m - (q + 1)) ++ [q] = upto (rev m) (m - q) := by
    have e1 : m - q = m - (q + 1) + 1 := by omega
    have e2 : rev m (m - (q + 1)) = q := by unfold rev; omega
    rw [e1, upto_succ, e2]
   have HUP := Lib.hid hup
   clear hup k1 k2 e0
   gi_wp2
   refine hR.mono ?_
   rintro e W3 (⟨rfl, hJ3, hk3⟩ | ⟨rfl, hJx3⟩)
   ·gi_wp2
    go_roundw
    case rel => exact ⟨q, by omega, by simp, by rw [← HUP.out]; exact hJ3, hnx.trans hk3⟩
    case measure => simp [intOf]
   ·gi_wp2
    refine bodyPost_ret (results_none rfl _ _ _) rfl ?_
    exact ⟨⟨_, rfl⟩, .inr ⟨_, ⟨m - q, by omega, HUP.out⟩, hJx3⟩⟩

set_option maxRecDepth 100000 in
set_option maxHeartbeats 1000000 in
theorem back1_nil_in (F : Fence) (n : Nat) (h38 : F.fn 268) (hro : F.round = none) (l Bs : Nat) (J : List Nat → World → Prop) (W : World) (hBs : W.cell? ⟨Bs, 0, none⟩ = some (.slice none 0 0)) (h0 : J [] W) :
  CallsIn F n Tryz.prog 268 #[.func (.yield l) #[] #[], .pointer (some ⟨Bs, 0, none⟩)] W fun e W' => (∃ v, e = .returned v) ∧ J [] W' := by
 refine callsIn_of_wp Tryz.func268 rfl h38 ?_ hro
 simp only [Tryz.ntmps268, List.size_toArray, List.length_cons, List.length_nil, Nat.reduceAdd, Nat.reduceSub, Array.replicate_succ, Array.replicate_zero, List.push_toArray, List.append_toArray, List.nil_append, List.cons_append]
 gi_wp2
 gi_loopw [3] (fun i wr => i = .int .i64 (-1) ∧ J [] wr) (fun _ _ => 0)
 case atStart => exact ⟨rfl, h0⟩
 case round =>
  obtain ⟨rfl, hJs⟩ := hrel
  gi_wp2
  go_end0
  exact ⟨⟨_, rfl⟩, hJs⟩

set_option maxHeartbeats 1000000 in
theorem back_in (F : Fence) (n : Nat) (h30 : F.fn 254) (hro : F.round = none) (a : Option Addr) (len cap : Nat) (w : World) :
  CallsIn F n Tryz.prog 254 #[.slice a len cap] w fun e w' => e = .returned (.func (.func 268) #[] #[.pointer (some ⟨w.heap.size, 0, none⟩)]) ∧ w' = w.alloc (.cells #[.slice a len cap] 26) := by
 refine callsIn_of_wp Tryz.func254 rfl h30 ?_ hro
 simp only [Tryz.ntmps254, List.size_toArray, List.length_cons, List.length_nil, Nat.reduceAdd, Nat.reduceSub, Array.replicate_succ, Array.replicate_zero, List.push_toArray, List.append_toArray, List.nil_append, List.cons_append]
 gi_wp2
 go_ret
 exact ⟨rfl, rfl⟩

theorem back_stops (F : Fence) (n : Nat) (h38 : F.fn 268) (hro : F.round = none) (hn : 1 ≤ n) (Bs n₀ : Nat) (A : Option Addr) (m cap : Nat) (LA : Nat → Int) (LD : Nat → ByteArray) (hm : m ≤ 1000000) (w : World) (hBs : Bs < n₀) (hn₀ : n₀ ≤ w.heap.size)
  (hc : w.cell? ⟨Bs, 0, none⟩ = some (.slice A m cap)) (hl : HasLate w A m LA LD) (hlb : ∀ a, A = some a → a.block < n₀) (h0 : m = 0 → A = none ∧ cap = 0) :
  SeqStopsK F n Tryz.prog 268 #[.pointer (some ⟨Bs, 0, none⟩)] (lateArgs LA LD) (Below n₀) (fun ys => ys = upto (rev m) m) (fun pre => ∃ k, k ≤ m ∧ pre = upto (rev m) k) m w := fun l J Jx W hW _ _ hY hJ0 => by
 have hc' := (hW.cell (p := ⟨Bs, 0, none⟩) (Nat.lt_of_lt_of_le hBs hn₀)).trans hc
 rcases Nat.eq_zero_or_pos m with hm0 | hm0
 ·obtain ⟨rfl, rfl⟩ := h0 hm0
  subst hm0
  exact (back1_nil_in F n h38 hro l Bs J W hc' hJ0).mono fun e W' ⟨he, hj⟩ => ⟨he, .inl ⟨_, rfl, hj⟩⟩
 ·obtain ⟨b, rfl, hb, hcs⟩ := hl hm0
  refine back1_in F n h38 hro hn l Bs n₀ b m cap LA LD hm (hlb _ rfl) J Jx hY W hc' hBs (fun j hj => ?_) hJ0
  obtain ⟨k1, k2⟩ := hcs j hj
  exact ⟨(hW.cell (p := ⟨b, j * 2, none⟩) hb).trans k1, (hW.cell (p := ⟨b, j * 2 + 1, none⟩) hb).trans k2⟩

/-- What was written last there: the writes from the last on, else what is sure. -/
def look (LA : Nat → Int) (LD : Nat → ByteArray) (x : Int) (d : ByteArray) : Nat → ByteArray
 | 0 => d
 | k + 1 => if LA k = x then LD k else look LA LD x d k
end Go.Proofs.YtcgkbcgpnlogoaaGreatDoor.Sla

/- slab.latest: what was written last. -/
namespace Go.Proofs.YtcgkbcgpnlogoaaGreatDoor.Sla
open Go.RowKit Go.Shelf

attribute [local go_sem] Oper.semAt_some

theorem look_none (LA : Nat → Int) (LD : Nat → ByteArray) (x : Int) (d : ByteArray) (m : Nat) (h : ∀ j, j < m → LA j ≠ x) : look LA LD x d m = d := by
 induction m with
 | zero => rfl
 | succ m ih => simp only [look]; rw [if_neg (h m (by omega))]; exact ih fun j hj => h j (by omega)
theorem look_at (LA : Nat → Int) (LD : Nat → ByteArray) (x : Int) (d : ByteArray) (i m : Nat) (hi : i < m) (hx : LA i = x) (h : ∀ j, i < j → j < m → LA j ≠ x) : look LA LD x d m = LD i := by
 induction m with
 | zero => omega
 | succ m ih =>
  simp only [look]
  by_cases e : i = m
  ·subst e
   rw [if_pos hx]
  ·rw [if_neg (h m (by omega) (by omega))]
   exact ih (by omega) fun j h1 h2 => h j h1 (by omega)
theorem upto_rev_mem {m k i : Nat} (h1 : m - k ≤ i) (h2 : i < m) (hk : k ≤ m) : i ∈ upto (rev m) k := by
 simp only [upto, List.mem_map, List.mem_range, rev]
 exact ⟨m - 1 - i, by omega, by omega⟩

def BlkC (W : World) (B : Nat) (t : TypeId) (cs : Array Value) : Prop := W.heap[B]? = some (.cells cs t (0, 0))
theorem BlkC.lt {W : World} {B : Nat} {t : TypeId} {cs : Array Value} (h : BlkC W B t cs) : B < W.heap.size := (Array.getElem?_eq_some_iff.1 h).1
theorem BlkC.cell {W : World} {B : Nat} {t : TypeId} {cs : Array Value} (h : BlkC W B t cs) (i : Nat) : W.cell? ⟨B, i, none⟩ = cs[i]? := cell_of_row W B i cs t (0, 0) h
theorem BlkC.frozen {W : World} {B : Nat} {t : TypeId} {cs : Array Value} (h : BlkC W B t cs) (i : Nat) : W.frozen? ⟨B, i, none⟩ = false := frozen_of_row W B i cs t h
theorem BlkC.new (W : World) (t : TypeId) (cs : Array Value) : BlkC (W.alloc (.cells cs t)) W.heap.size t cs := heap_alloc_new W _
theorem BlkC.alloc {W : World} {B : Nat} {t : TypeId} {cs : Array Value} (h : BlkC W B t cs) (o : Obj) : BlkC (W.alloc o) B t cs := (Below.heap_alloc W o B h.lt).trans h
theorem BlkC.set1 {W : World} {B : Nat} {t : TypeId} {u : Value} (h : BlkC W B t #[u]) (v : Value) : BlkC (W.setCell ⟨B, 0, none⟩ v) B t #[v] := heap_setCell_same W B 0 #[u] t v h
theorem blk_own {β : Type} (B : Nat) (t : TypeId) (cs : β → Array Value) : Own (fun s W => BlkC W B t (cs s)) := fun s X Y row hs hg hrow =>
 (hg.block B hs.lt (fun e' => by obtain ⟨o, ho, hc⟩ := hrow B e'.symm; rw [show X.heap[B]? = _ from hs] at ho; cases ho; cases hc)).trans hs

set_option maxRecDepth 100000 in
set_option maxHeartbeats 4000000 in
theorem latest_in (F : Fence) (n : Nat) (h27 : F.fn 222) (h30 : F.fn 254) (h38 : F.fn 268) (hro : F.round = none) (hn : 3 ≤ n) (b c ns : Nat) (B : Option Addr) (m k : Nat) (dead : Bool) (left deeds : Int) (x : Nat) (S : ByteArray) (LA : Nat → Int) (LD : Nat → ByteArray) (w : World)
  (hm : m ≤ 1000000) (hx : x < ns) (hS : w.cell? ⟨b, x, none⟩ = some (.string S)) (hl : HasLate w B m LA LD) (h0 : m = 0 → B = none ∧ k = 0) :
  CallsIn F n Tryz.prog 222 #[.agg #[.slice (some ⟨b, 0, none⟩) ns c, .slice B m k, .bool dead, .int .i64 left, .int .i64 deeds], .int .i64 x] w fun e w' =>
   e = .returned (.string (look LA LD x S m)) ∧ Below w.heap.size w w' := by
 have h1 : 1 ≤ n := by omega
 have hblt : b < w.heap.size := World.block_lt_of_cell? w _ hS
 have hlb := hl.block_lt fun e => (h0 e).1
 have HLB := Lib.hid hlb
 have HS := Lib.hid hS
 have HL := Lib.hid hl
 have H0 := Lib.hid h0
 clear hS hl h0 hlb
 refine callsIn_of_wp_marks Tryz.func222 rfl h27 ?_ hro
 simp only [Tryz.ntmps222, List.size_toArray, List.length_cons, List.length_nil, Nat.reduceAdd, Nat.reduceSub, Array.replicate_succ, Array.replicate_zero, List.push_toArray, List.append_toArray, List.nil_append, List.cons_append]
 gi_wp2_with (gi_at_call 254; refine (back_in F (n - 1) h30 hro _ _ _ _).mono ?_; rintro e w' ⟨rfl, rfl⟩)
 have b0 := (((BlkC.new w 28 #[.slice (some ⟨b, 0, none⟩) ns c, .slice B m k, .bool dead, .int .i64 left, .int .i64 deeds]).alloc (.cells #[.int .i64 x] 3)).alloc (.cells #[.string ⟨#[]⟩] 9)).alloc (.cells #[.slice B m k] 26)
 have b1 := ((BlkC.new (w.alloc (.cells #[.slice (some ⟨b, 0, none⟩) ns c, .slice B m k, .bool dead, .int .i64 left, .int .i64 deeds] 28)) 3 #[.int .i64 x]).alloc (.cells #[.string ⟨#[]⟩] 9)).alloc (.cells #[.slice B m k] 26)
 have b2 := (BlkC.new ((w.alloc (.cells #[.slice (some ⟨b, 0, none⟩) ns c, .slice B m k, .bool dead, .int .i64 left, .int .i64 deeds] 28)).alloc (.cells #[.int .i64 x] 3)) 9 #[.string ⟨#[]⟩]).alloc (.cells #[.slice B m k] 26)
 have b3 := BlkC.new (((w.alloc (.cells #[.slice (some ⟨b, 0, none⟩) ns c, .slice B m k, .bool dead, .int .i64 left, .int .i64 deeds] 28)).alloc (.cells #[.int .i64 x] 3)).alloc (.cells #[.string ⟨#[]⟩] 9)) 26 #[.slice B m k]
 have hB0 : Below w.heap.size w ((((w.alloc (.cells #[.slice (some ⟨b, 0, none⟩) ns c, .slice B m k, .bool dead, .int .i64 left, .int .i64 deeds] 28)).alloc (.cells #[.int .i64 x] 3)).alloc (.cells #[.string ⟨#[]⟩] 9)).alloc (.cells #[.slice B m k] 26)) :=
  ((((Below.refl _ w).alloc (Nat.le_refl _) _).alloc (by simp) _).alloc (by simp; omega) _).alloc (by simp; omega) _
 have hsz : ((((w.alloc (.cells #[.slice (some ⟨b, 0, none⟩) ns c, .slice B m k, .bool dead, .int .i64 left, .int .i64 deeds] 28)).alloc (.cells #[.int .i64 x] 3)).alloc (.cells #[.string ⟨#[]⟩] 9)).alloc (.cells #[.slice B m k] 26)).heap.size = w.heap.size + 4 := by simp
 simp only [World.size_alloc] at b1 b2 b3
 obtain ⟨W0, hW0⟩ : ∃ W0, ((((w.alloc (.cells #[.slice (some ⟨b, 0, none⟩) ns c, .slice B m k, .bool dead, .int .i64 left, .int .i64 deeds] 28)).alloc (.cells #[.int .i64 x] 3)).alloc (.cells #[.string ⟨#[]⟩] 9)).alloc (.cells #[.slice B m k] 26)) = W0 := ⟨_, rfl⟩
 rw [hW0] at b0 b1 b2 b3 hB0 hsz ⊢
 clear hW0
 refine wpIn_rangeFunc_ownH hro h1 (gf := 268) (lb := #[.pointer (some ⟨w.heap.size + 1 + 1 + 1, 0, none⟩)]) rfl h38 (enters_of Tryz.func268 (by kernel_rfl) rfl)
  (back_stops F (n - 1) h38 hro (by omega) (w.heap.size + 1 + 1 + 1) (w.heap.size + 4) B m k LA LD hm W0 (by omega) (by omega) (b3.cell 0) (HL.out.below hB0 (Nat.le_refl _)) (fun a ha => by have := HLB.out a ha; omega) H0.out) belowK_t (belowK_b (by omega)) (Below.refl _ _) (fun _ => rfl)
  (fun pre W => (((((∀ i ∈ pre, LA i ≠ x)) ∧ BlkC W w.heap.size 28 #[.slice (some ⟨b, 0, none⟩) ns c, .slice B m k, .bool dead, .int .i64 left, .int .i64 deeds]) ∧ BlkC W (w.heap.size + 1) 3 #[.int .i64 x]) ∧ BlkC W (w.heap.size + 1 + 1) 9 #[.string ⟨#[]⟩]) ∧ Below w.heap.size W0 W)
  (fun cd pre W => (cd = .ret ∧ ∃ ini last, pre = ini ++ [last] ∧ (∀ i ∈ ini, LA i ≠ x) ∧ LA last = x ∧ BlkC W (w.heap.size + 1 + 1) 9 #[.string (LD last)]) ∧ Below w.heap.size W0 W)
  (OwnFrom.and (OwnFrom.and (OwnFrom.and (OwnFrom.and (ownFrom_pure _ _) (Own.from (blk_own _ _ _) _)) (Own.from (blk_own _ _ _) _)) (Own.from (blk_own _ _ _) _)) (ownFrom_below (by omega) (by omega)))
  (fun cd => OwnFrom.and (Own.from (fun s X Y row hs hg hr => by obtain ⟨e0, ini, last, e1, e2, e3, e4⟩ := hs; exact ⟨e0, ini, last, e1, e2, e3, blk_own (w.heap.size + 1 + 1) 9 (fun (_ : Unit) => #[.string (LD last)]) () X Y row e4 hg hr⟩) _) (ownFrom_below (by omega) (by omega)))
  ⟨⟨⟨⟨by simp, b0⟩, b1⟩, b2⟩, Below.refl _ _⟩
  (fun i a' W => ∃ Bx, w.heap.size + 1 + 1 < Bx ∧ BlkC W Bx 120 #[.int .i64 (LA i), .string (LD i)] ∧ a' = { tmps := #[.agg #[.slice (some ⟨b, 0, none⟩) ns c, .slice B m k, .bool dead, .int .i64 left, .int .i64 deeds], .int .i64 x, .pointer (some ⟨w.heap.size, 0, none⟩), .pointer (some ⟨w.heap.size + 1, 0, none⟩), .pointer (some ⟨w.heap.size + 1 + 1, 0, none⟩), undef, .pointer (some ⟨Bx, 0, none⟩), .pointer (some ⟨w.heap.size, 1, none⟩), .slice B m k, .func (.func 268) #[] #[.pointer (some ⟨w.heap.size + 1 + 1 + 1, 0, none⟩)], .int .i64 (i : Int), .agg #[.int .i64 (LA i), .string (LD i)], undef, undef, undef, undef, undef, undef, undef, undef, undef, undef, undef], defers := [] })
  (fun i a' _ X Y row hs hg hr => by obtain ⟨Bx, e1, e2, e3⟩ := hs; exact ⟨Bx, e1, blk_own Bx 120 (fun (_ : Unit) => #[.int .i64 (LA i), .string (LD i)]) () X Y row e2 hg (fun r e => (hr r e).2), e3⟩)
  ?assign ?body ?done ?stop
 case assign =>
  rintro l pre i W K ⟨⟨⟨⟨hp, c0⟩, c1⟩, c2⟩, hB1⟩ hK
  have hs := hB1.size
  rw [hsz] at hs
  have l2 := c2.lt
  dsimp only [lateArgs]
  gi_wp2
  exact hK _ _ ((KeepsOthers.alloc _ _).from _) ((Below.refl _ W).alloc hs _) ⟨⟨⟨⟨hp, c0.alloc _⟩, c1.alloc _⟩, c2.alloc _⟩, hB1.alloc (by omega) _⟩ ⟨W.heap.size, l2, BlkC.new W 120 _, rfl⟩
 case body =>
  rintro l pre i a' W hl ⟨r, hr⟩ ⟨⟨⟨⟨hp, c0⟩, c1⟩, c2⟩, hB1⟩ ⟨Bx, hBx, bX, rfl⟩ hlt
  have k1 := c1.cell 0
  have k2 := c2.cell 0
  have kf := c2.frozen 0
  have kx0 := bX.cell 0
  have kx1 := bX.cell 1
  simp only [List.getElem?_toArray, List.getElem?_cons_zero, List.getElem?_cons_succ] at k1 k2 kx0 kx1
  gi_wp2
  ·have hxy : (LA i == (x : Int)) = true := by assumption
   exact ⟨(KeepsOthers.setCell _ _ _).from _, ⟨rfl, pre, i, rfl, hp, eq_of_beq hxy, c2.set1 _⟩, hB1.setCell (p := ⟨w.heap.size + 1 + 1, 0, none⟩) (by simp; omega) _⟩
  ·have hxy : (LA i == (x : Int)) = false := by assumption
   exact ⟨KeepsFrom.refl _ _, Below.refl _ _, ⟨⟨⟨fun j hj => (List.mem_append.1 hj).elim (hp j) (fun e => by simp at e; subst e; simpa using hxy), c0⟩, c1⟩, c2⟩, hB1⟩
 case done =>
  rintro D ys W hD rfl ⟨⟨⟨⟨hp, c0⟩, c1⟩, c2⟩, hB1⟩ hK
  have k0 := c0.cell 0
  have k1 := c1.cell 0
  have k2 := c2.cell 0
  have kf := c2.frozen 0
  simp only [List.getElem?_toArray, List.getElem?_cons_zero] at k0 k1 k2
  have kS := ((hB0.trans hB1).cell (p := ⟨b, x, none⟩) hblt).trans HS.out
  gi_wp2
  have hK' := (KeepsOthers.setCell W ⟨w.heap.size + 1 + 1, 0, none⟩ (.string S)).same D _ hK rfl
  refine ⟨by simp, .inl ⟨_, _, rfl, run_takeDeferred hK', ?_⟩⟩
  have hc5 := cell_kept (World.cell?_setCell_same' W ⟨w.heap.size + 1 + 1, 0, none⟩ (.string S) (by rw [k2]; rfl)) (grownBy_putObj' _ D (.deferred none)) (fun r e => by cases e; exact ⟨_, hK', rfl⟩)
  refine ⟨.string S, ?_, by rw [look_none LA LD x S m (fun j hj => hp j (upto_rev_mem (by omega) hj (Nat.le_refl _)))], ((hB0.trans hB1).setCell (p := ⟨w.heap.size + 1 + 1, 0, none⟩) (by simp; omega) _).trans (belowK_b (w := w) (Nat.le_refl _) _ D _ _ (by omega) hK' rfl rfl)⟩
  simp [results, Tryz.f222, go_sem, hc5]
 case stop =>
  rintro D cd pre W hD ⟨k', hk', rfl⟩ ⟨⟨rfl, ini, last, e1, e2, e3, c2⟩, hB1⟩ hK
  gi_wp2
  refine ⟨by simp, .inl ⟨_, _, rfl, run_takeDeferred hK, ?_⟩⟩
  have hc5 := cell_kept (c2.cell 0) (grownBy_putObj' _ D (.deferred none)) (fun r e => by cases e; exact ⟨_, hK, rfl⟩)
  obtain ⟨q, rfl⟩ : ∃ q, k' = q + 1 := by
   cases k' with
   | zero => simp [upto] at e1
   | succ q => exact ⟨q, rfl⟩
  rw [upto_succ] at e1
  obtain ⟨rfl, e5⟩ := List.append_inj' e1 rfl
  obtain rfl : rev m q = last := by simpa using e5
  have hlast : rev m q = m - 1 - q := rfl
  refine ⟨.string (LD (rev m q)), ?_, by rw [look_at LA LD x S (rev m q) m (by omega) e3 (fun j j1 j2 => e2 j (upto_rev_mem (by omega) j2 (by omega)))], (hB0.trans hB1).trans (belowK_b (w := w) (Nat.le_refl _) W D _ _ (by omega) hK rfl rfl)⟩
  simp [results, Tryz.f222, go_sem, hc5]

theorem latest_any (b c ns : Nat) (B : Option Addr) (m k : Nat) (dead : Bool) (left deeds : Int) (x : Nat) (S : ByteArray) (LA : Nat → Int) (LD : Nat → ByteArray) (w : World)
  (hm : m ≤ 1000000) (hx : x < ns) (hS : w.cell? ⟨b, x, none⟩ = some (.string S)) (hl : HasLate w B m LA LD) (h0 : m = 0 → B = none ∧ k = 0) :
  Calls Tryz.prog 222 #[.agg #[.slice (some ⟨b, 0, none⟩) ns c, .slice B m k, .bool dead, .int .i64 left, .int .i64 deeds], .int .i64 x] w fun e w' =>
   e = .returned (.string (look LA LD x S m)) ∧ Below w.heap.size w w' :=
 (callsIn_wide (n := 3)).1 (latest_in Fence.wide 3 trivial trivial trivial rfl (Nat.le_refl _) b c ns B m k dead left deeds x S LA LD w hm hx hS hl h0)
end Go.Proofs.YtcgkbcgpnlogoaaGreatDoor.Sla

/- slab.Get. -/
namespace Go.Proofs.YtcgkbcgpnlogoaaGreatDoor.Sla
open Go.RowKit Go.Shelf

def GetErr (D : Dev) (s : ByteArray) (err : Int) (w : World) (e : Ending) (w' : World) : Prop :=
  ∃ v, e = .returned (.tuple #[v, .string s, .int .i64 err]) ∧ IsDev w' v D ∧ Below w.heap.size w w'
theorem getErr_of {w W : World} {b : Nat} {B : Option Addr} {v : Value} {D : Dev} {s : ByteArray} {err : Int} (h : DevAt w b B v D) (hb : Below w.heap.size w W) : GetErr D s err w (.returned (.tuple #[v, .string s, .int .i64 err])) W :=
  ⟨v, rfl, ⟨b, B, h.below hb (Nat.le_refl _)⟩, hb⟩

set_option maxHeartbeats 1000000 in
theorem get_down (v : Value) (D : Dev) (x : Int) (w : World) (h : IsDev w v D) (ha : D.has x = true) (hp : D.pow = false) :
    Calls Tryz.prog 168 #[v, .int .i64 x] w (GetErr D.down ⟨#[]⟩ 10 w) := by
  obtain ⟨b, B, c, k, rfl, hlt, hnc, hc, hl, h0⟩ := h
  have hd : DevAt w b B _ D := ⟨c, k, rfl, hlt, hnc, hc, hl, h0⟩
  have HD := Lib.hid hd.down
  have HH := Lib.hid ha
  have HQ := Lib.hid (pow_no hp)
  clear hd hc hl h0 ha hp
  obtain ⟨n, S, m, LA, LD, dead, left, deeds⟩ := D
  have HQ2 : Hid (dead = true ∨ left = 0) := HQ
  clear HQ
  go_enter Tryz.func168, Tryz.ntmps168
  go_wp2_with (first
    | (go_at_call 204
       refine (has_any _ _ _ _ _ _ _ _ _ _ _ true HH.out.symm).mono ?_
       rintro e w1 ⟨rfl, hb1⟩
       simp only [World.size_alloc] at hb1
       obtain ⟨hcc, hff⟩ := bcell hb1
       have hs1 := hb1.size
       simp only [World.size_alloc] at hs1)
    | (go_at_call 205
       refine (deed_no _ _ _ _ _ _ _ _ _ _ HQ2.out).mono ?_
       rintro e w2 ⟨rfl, hb2⟩
       have hb3 := hb1.trans (hb2.mono (by simpa using hs1))
       clear hcc hff
       have HX := Lib.hid (((Box5.new w _ _ _ _ _ 28).alloc _).below hb3 (by omega))
       have HY := Lib.hid ((Box5.new _ _ _ _ _ _ 28).below hb3 (by simp)))
    | (refine wpList_store5 rfl 28 (.tmp 2) (.tmp 16) rfl w.heap.size _ _ _ _ _ _ _ _ _ _ rfl rfl HX.out size31 (by simp [Value.oneCell']) ?_
       intro w3 hx3 hbut3
       have hy3 := HY.out.but hbut3 (by simp)
       simp only [World.size_alloc] at hy3
       have hcx0 := hx3.c0
       have hcx1 := hx3.c1
       have hcx2 := hx3.c2
       have hcx3 := hx3.c3
       have hcx4 := hx3.c4
       have hcy0 := hy3.c0
       have hcy1 := hy3.c1
       have hcy2 := hy3.c2
       have hcy3 := hy3.c3
       have hcy4 := hy3.c4
       have hfy := hy3.f))
  refine bodyPost_ret (v := .tuple #[.agg #[.slice (some ⟨b, 0, none⟩) n c, .slice B m k, .bool true, .int .i64 left, .int .i64 deeds], .string ⟨#[]⟩, .int .i64 10]) (by simp [results, Tryz.results168, go_sem, hcy0, hcy1, hcy2, hcy3, hcy4]) rfl (getErr_of HD.out ?_)
  have hb4 : Below w.heap.size w w3 := ((((Below.refl w.heap.size w).alloc (by simp) _).alloc (by simp) _).trans (hb3.mono (by omega))).trans (hbut3.below (Nat.le_refl _))
  repeat (first | (with_reducible exact hb4) | refine Below.setCell ?_ (by simp) _)

end Go.Proofs.YtcgkbcgpnlogoaaGreatDoor.Sla

/- slab.Get where a sector is told. -/
namespace Go.Proofs.YtcgkbcgpnlogoaaGreatDoor.Sla
open Go.RowKit Go.Shelf

theorem keep5 {w : World} {g g' : Nat} {v0 v1 v2 v3 v4 : Value} (h : Box5 w g v0 v1 v2 v3 v4) (hne : g ≠ g') (u0 u1 u2 u3 u4 : Value) :
    (((((w.setCell ⟨g', 0, none⟩ u0).setCell ⟨g', 1, none⟩ u1).setCell ⟨g', 2, none⟩ u2).setCell ⟨g', 3, none⟩ u3).setCell ⟨g', 4, none⟩ u4).cell? ⟨g, 0, none⟩ = some v0 ∧
    (((((w.setCell ⟨g', 0, none⟩ u0).setCell ⟨g', 1, none⟩ u1).setCell ⟨g', 2, none⟩ u2).setCell ⟨g', 3, none⟩ u3).setCell ⟨g', 4, none⟩ u4).cell? ⟨g, 1, none⟩ = some v1 ∧
    (((((w.setCell ⟨g', 0, none⟩ u0).setCell ⟨g', 1, none⟩ u1).setCell ⟨g', 2, none⟩ u2).setCell ⟨g', 3, none⟩ u3).setCell ⟨g', 4, none⟩ u4).cell? ⟨g, 2, none⟩ = some v2 ∧
    (((((w.setCell ⟨g', 0, none⟩ u0).setCell ⟨g', 1, none⟩ u1).setCell ⟨g', 2, none⟩ u2).setCell ⟨g', 3, none⟩ u3).setCell ⟨g', 4, none⟩ u4).cell? ⟨g, 3, none⟩ = some v3 ∧
    (((((w.setCell ⟨g', 0, none⟩ u0).setCell ⟨g', 1, none⟩ u1).setCell ⟨g', 2, none⟩ u2).setCell ⟨g', 3, none⟩ u3).setCell ⟨g', 4, none⟩ u4).cell? ⟨g, 4, none⟩ = some v4 :=
  have hb := h.but ((((((But.refl g' w).setCell 0 u0).setCell 1 u1).setCell 2 u2).setCell 3 u3).setCell 4 u4) hne
  ⟨hb.c0, hb.c1, hb.c2, hb.c3, hb.c4⟩

set_option maxHeartbeats 2000000 in
theorem get_ok {K : Nat} (v : Value) (D : Dev) (x : Nat) (w : World) (h : IsDev w v D) (hok : D.Ok K) (hK : K ≤ 100000) (ha : D.has x = true) (hp : D.pow = true) :
    Calls Tryz.prog 168 #[v, .int .i64 x] w (GetErr D.up (look D.LA D.LD x (D.S x) D.m) 0 w) := by
  obtain ⟨b, B, c, k, rfl, hlt, hnc, hc, hl, h0⟩ := h
  have hd : DevAt w b B (.agg #[.slice (some ⟨b, 0, none⟩) D.n c, .slice B D.m k, .bool D.dead, .int .i64 (lessLeft D.left), .int .i64 (D.deeds + 1)]) D.up := ⟨c, k, rfl, hlt, hnc, hc, hl, h0⟩
  have HD := Lib.hid hd
  have hxn : x < D.n := by
    unfold Dev.has at ha
    simp at ha
    exact ha
  have HH := Lib.hid ha
  have HQ := Lib.hid (pow_yes hp)
  have hm := hok.m2
  have hd2 := hok.d2
  have hl1 := hok.l1
  have hl2 := hok.l2
  have hd1 := hok.d1
  have hS := hc x hxn
  have HS := Lib.hid hS
  have HL := Lib.hid hl
  have H0 := Lib.hid h0
  clear hc hl h0 ha hp hok hS hd
  obtain ⟨n, S, m, LA, LD, dead, left, deeds⟩ := D
  have HQ2 : Hid (dead = false ∧ left ≠ 0) := HQ
  simp only at hm hd2 hl1 hl2 hd1 hnc hxn
  clear HQ
  obtain rfl : dead = false := HQ2.out.1
  have HQ3 := Lib.hid HQ2.out.2
  clear HQ2
  have HS2 : Hid (w.cell? ⟨b, x, none⟩ = some (.string (S x))) := HS
  clear HS
  have HD2 : Hid (DevAt w b B (.agg #[.slice (some ⟨b, 0, none⟩) n c, .slice B m k, .bool false, .int .i64 (lessLeft left), .int .i64 (deeds + 1)]) (Dev.up { n := n, S := S, m := m, LA := LA, LD := LD, dead := false, left := left, deeds := deeds })) := HD
  clear HD
  show Calls Tryz.prog 168 _ w (GetErr _ (look LA LD x (S x) m) 0 w)
  go_enter Tryz.func168, Tryz.ntmps168
  go_wp2_with (first
    | (go_at_call 204
       refine (has_any _ _ _ _ _ _ _ _ _ _ _ true HH.out.symm).mono ?_
       rintro e w1 ⟨rfl, hb1⟩
       simp only [World.size_alloc] at hb1
       obtain ⟨hcc, hff⟩ := bcell hb1
       have hs1 := hb1.size
       simp only [World.size_alloc] at hs1)
    | (go_at_call 205
       refine (deed_yes _ _ _ _ _ _ _ _ _ HQ3.out (by omega) (by omega) (by omega) (by omega)).mono ?_
       rintro e w2 ⟨rfl, hb2⟩
       generalize hle : lessLeft left = left2 at HD2
       have hb3 := hb1.trans (hb2.mono (by simpa using hs1))
       clear hcc hff
       have HX := Lib.hid (((Box5.new w _ _ _ _ _ 28).alloc _).below hb3 (by omega))
       have HY := Lib.hid ((Box5.new _ _ _ _ _ _ 28).below hb3 (by simp)))
    | (refine wpList_store5 rfl 28 (.tmp 2) (.tmp 16) rfl w.heap.size _ _ _ _ _ _ _ _ _ _ rfl rfl HX.out size31 (by simp [Value.oneCell']) ?_
       intro w3 hx3 hbut3
       have hy3 := HY.out.but hbut3 (by simp)
       simp only [World.size_alloc] at hy3
       have hb4 : Below w.heap.size w w3 := ((((Below.refl w.heap.size w).alloc (by simp) _).alloc (by simp) _).trans (hb3.mono (by omega))).trans (hbut3.below (Nat.le_refl _))
       have hs3 : w.heap.size + 1 < w3.heap.size := (World.block_lt_of_cell? w3 _ hy3.c0)
       have hcx0 := hx3.c0
       have hcx1 := hx3.c1
       have hcx2 := hx3.c2
       have hcx3 := hx3.c3
       have hcx4 := hx3.c4))
  have hl3 : HasLate w3.drew B m LA LD := HL.out.below hb4.drew (Nat.le_refl _)
  have HL3 := Lib.hid hl3
  have HS3 : Hid (w3.drew.cell? ⟨b, x, none⟩ = some (.string (S x))) := (hb4.drew.cell (p := ⟨b, x, none⟩) hlt).trans HS2.out
  clear hl3 HL hle hb1 hb3 HX HY hbut3 HS2
  have hne : w.heap.size ≠ w.heap.size + 1 := by omega
  have hS0 : Hid (w3.drew.cell? ⟨w.heap.size, 0, none⟩ = some (.slice (some ⟨b, 0, none⟩) n c) ∧ w3.drew.cell? ⟨w.heap.size, 1, none⟩ = some (.slice B m k) ∧ w3.drew.cell? ⟨w.heap.size, 2, none⟩ = some (.bool false) ∧ w3.drew.cell? ⟨w.heap.size, 3, none⟩ = some (.int .i64 left2) ∧ w3.drew.cell? ⟨w.heap.size, 4, none⟩ = some (.int .i64 (deeds + 1))) := ⟨hcx0, hcx1, hcx2, hcx3, hcx4⟩
  clear hcx0 hcx1 hcx2 hcx3 hcx4
  go_region_held3 (fun w' => w'.cell? ⟨w.heap.size, 0, none⟩ = some (.slice (some ⟨b, 0, none⟩) n c) ∧ w'.cell? ⟨w.heap.size, 1, none⟩ = some (.slice B m k) ∧ w'.cell? ⟨w.heap.size, 2, none⟩ = some (.bool false) ∧ w'.cell? ⟨w.heap.size, 3, none⟩ = some (.int .i64 left2) ∧ w'.cell? ⟨w.heap.size, 4, none⟩ = some (.int .i64 (deeds + 1)))
    (first
      | (with_reducible exact ⟨hx6.c0, hx6.c1, hx6.c2, hx6.c3, hx6.c4⟩)
      | (with_reducible exact keep5 hx6 hne _ _ _ _ _)
      | (with_reducible exact hS0.out))
    ((go_at_call 222
      refine (latest_any _ _ _ _ _ _ _ _ _ x (S x) LA LD _ (by omega) hxn HS3.out HL3.out H0.out).mono ?_
      rintro e w6 ⟨rfl, hb6⟩
      have hb36 : Below w3.heap.size w3 w6 := (Below.refl _ w3).drew.trans hb6
      have hx6 := hx3.below hb36 (by omega)
      have hy6 := hy3.below hb36 (by omega)
      have ky0 := hy6.c0
      have ky1 := hy6.c1
      have ky2 := hy6.c2
      have ky3 := hy6.c3
      have ky4 := hy6.c4
      have hfy := hy6.f
      have hb46 : Below w.heap.size w w6 := hb4.trans (hb36.mono (by omega))))
  go_wp2
  refine bodyPost_ret (v := .tuple #[.agg #[.slice (some ⟨b, 0, none⟩) n c, .slice B m k, .bool false, .int .i64 left2, .int .i64 (deeds + 1)], .string (look LA LD x (S x) m), .int .i64 0]) (by simp [results, Tryz.results168, go_sem, ky0, ky1, ky2, ky3, ky4]) rfl (getErr_of HD2.out ?_)
  repeat (first | (with_reducible exact hb46) | refine Below.setCell ?_ (by simp) _)
end Go.Proofs.YtcgkbcgpnlogoaaGreatDoor.Sla

/- slab.Flush. -/
namespace Go.Proofs.YtcgkbcgpnlogoaaGreatDoor.Sla
open Go.RowKit Go.Shelf

/-- A row of n strings of the call's own. -/
def StrRow (w : World) (g n : Nat) (f : Nat → ByteArray) : Prop :=
  g < w.heap.size ∧ (∀ j, j < n → w.cell? ⟨g, j, none⟩ = some (.string (f j))) ∧ ∀ i, w.frozen? ⟨g, i, none⟩ = false
theorem StrRow.below {w w' : World} {g n B : Nat} {f : Nat → ByteArray} (h : StrRow w g n f) (hb : Below B w w') (hB : w.heap.size ≤ B) : StrRow w' g n f :=
  ⟨Nat.lt_of_lt_of_le h.1 hb.size, fun j hj => (hb.cell (p := ⟨g, j, none⟩) (Nat.lt_of_lt_of_le h.1 hB)).trans (h.2.1 j hj), fun i => (hb.frozen (p := ⟨g, i, none⟩) (Nat.lt_of_lt_of_le h.1 hB)).trans (h.2.2 i)⟩
theorem StrRow.set {w : World} {g n a : Nat} {f : Nat → ByteArray} (h : StrRow w g n f) (ha : a < n) (d : ByteArray) : StrRow (w.setCell ⟨g, a, none⟩ (.string d)) g n (fun j => if j = a then d else f j) := by
  refine ⟨by simpa using h.1, fun j hj => ?_, fun i => by simpa using h.2.2 i⟩
  by_cases e : j = a
  · subst e
    simp only [if_true]
    exact World.cell?_setCell_same _ _ _ (h.2.1 j hj)
  · simp only [if_neg e]
    rw [World.cell?_setCell_other _ _ _ _ (fun e' => e (by injection e' with _ e2; exact e2.symm))]
    exact h.2.1 j hj

def ClonePost (n : Nat) (S : Nat → ByteArray) (w : World) (e : Ending) (w' : World) : Prop :=
  ∃ g cap, e = .returned (.slice (some ⟨g, 0, none⟩) n cap) ∧ n ≤ cap ∧ w.heap.size ≤ g ∧ StrRow w' g n S ∧ Below w.heap.size w w'

theorem clone_any (b n c : Nat) (S : Nat → ByteArray) (w : World) (h1 : 1 ≤ n) (h2 : n ≤ 2000) (hc : ∀ j, j < n → w.cell? ⟨b, j, none⟩ = some (.string (S j))) :
    Calls Tryz.prog 210 #[.slice (some ⟨b, 0, none⟩) n c] w (ClonePost n S w) := by
  refine (Tryz.slices_Clone_string b 0 n c ((List.range n).map S) w (by simp) (by omega) (fun j hj => ?_)).mono ?_
  · simp only [List.length_map, List.length_range] at hj
    rw [Nat.zero_add, hc j hj]
    simp [List.getD, hj]
  · rintro e w' ⟨v', rfl, hown, _, hb⟩
    obtain ⟨g, cap, rfl, hg, hlt⟩ := hown.form (by omega)
    have hcap : n ≤ cap := by
      rcases hown.2 with ⟨h0, _⟩ | ⟨g', cap', cur, hv, _, _, hn, _⟩
      · cases h0
      · injection hv with _ _ h3
        subst h3
        exact hn
    refine ⟨g, cap, rfl, hcap, hg, ⟨hlt, fun j hj => ?_, fun i => hown.frozenAt i⟩, hb⟩
    rw [hown.cellAt j (by omega)]
    simp [hj]

/-- What is sure when the first writes are. -/
def flushS (S : Nat → ByteArray) (LA : Nat → Int) (LD : Nat → ByteArray) : Nat → Nat → ByteArray
  | 0 => S
  | k + 1 => fun j => if LA k = (j : Int) then LD k else flushS S LA LD k j
theorem StrRow.congr {w : World} {g n : Nat} {f f' : Nat → ByteArray} (h : StrRow w g n f) (e : ∀ j, j < n → f j = f' j) : StrRow w g n f' :=
  ⟨h.1, fun j hj => by rw [h.2.1 j hj, e j hj], h.2.2⟩

def Dev.flushed (D : Dev) : Dev := { D.up with S := flushS D.S D.LA D.LD D.m, m := 0, LA := fun _ => 0, LD := fun _ => ⟨#[]⟩ }

set_option maxHeartbeats 1000000 in
theorem flush_down (v : Value) (D : Dev) (w : World) (h : IsDev w v D) (hp : D.pow = false) :
    Calls Tryz.prog 141 #[v] w (DevErr D.down 10 w) := by
  obtain ⟨b, B, c, k, rfl, hlt, hnc, hc, hl, h0⟩ := h
  have hd : DevAt w b B _ D := ⟨c, k, rfl, hlt, hnc, hc, hl, h0⟩
  have HD := Lib.hid hd.down
  have HQ := Lib.hid (pow_no hp)
  clear hd hc hl h0 hp
  obtain ⟨n, S, m, LA, LD, dead, left, deeds⟩ := D
  have HQ2 : Hid (dead = true ∨ left = 0) := HQ
  clear HQ
  go_enter Tryz.func141, Tryz.ntmps141
  go_wp2_with (first
    | (go_at_call 205
       refine (deed_no _ _ _ _ _ _ _ _ _ _ HQ2.out).mono ?_
       rintro e w2 ⟨rfl, hb3⟩
       simp only [World.size_alloc] at hb3
       have HX := Lib.hid (((Box5.new w _ _ _ _ _ 28).alloc _).below hb3 (by omega))
       have HY := Lib.hid ((Box5.new _ _ _ _ _ _ 28).below hb3 (by simp)))
    | (refine wpList_store5 rfl 28 (.tmp 1) (.tmp 11) rfl w.heap.size _ _ _ _ _ _ _ _ _ _ rfl rfl HX.out size31 (by simp [Value.oneCell']) ?_
       intro w3 hx3 hbut3
       have hy3 := HY.out.but hbut3 (by simp)
       simp only [World.size_alloc] at hy3
       have hcx0 := hx3.c0
       have hcx1 := hx3.c1
       have hcx2 := hx3.c2
       have hcx3 := hx3.c3
       have hcx4 := hx3.c4
       have hcy0 := hy3.c0
       have hcy1 := hy3.c1
       have hcy2 := hy3.c2
       have hcy3 := hy3.c3
       have hcy4 := hy3.c4
       have hfy := hy3.f))
  refine bodyPost_ret (v := .tuple #[.agg #[.slice (some ⟨b, 0, none⟩) n c, .slice B m k, .bool true, .int .i64 left, .int .i64 deeds], .int .i64 10]) (by simp [results, Tryz.results141, go_sem, hcy0, hcy1, hcy2, hcy3, hcy4]) rfl (devErr_of HD.out ?_)
  have hb4 : Below w.heap.size w w3 := ((((Below.refl w.heap.size w).alloc (by simp) _).alloc (by simp) _).trans (hb3.mono (by omega))).trans (hbut3.below (Nat.le_refl _))
  repeat (first | (with_reducible exact hb4) | refine Below.setCell ?_ (by simp) _)

set_option maxHeartbeats 4000000 in
theorem flush_ok {K : Nat} (v : Value) (D : Dev) (w : World) (h : IsDev w v D) (hok : D.Ok K) (hK : K ≤ 100000) (hp : D.pow = true) :
    Calls Tryz.prog 141 #[v] w (DevErr D.flushed 0 w) := by
  obtain ⟨b, B, c, k, rfl, hlt, hnc, hc, hl, h0⟩ := h
  have HQ := Lib.hid (pow_yes hp)
  have hm := hok.m2
  have hd2 := hok.d2
  have hl1 := hok.l1
  have hl2 := hok.l2
  have hd1 := hok.d1
  have hn1 := hok.n1
  have hn2 := hok.n2
  have HLA := Lib.hid hok.la
  have HC := Lib.hid hc
  have HL := Lib.hid hl
  have H0 := Lib.hid h0
  clear hc hl h0 hp hok
  obtain ⟨n, S, m, LA, LD, dead, left, deeds⟩ := D
  have HQ2 : Hid (dead = false ∧ left ≠ 0) := HQ
  simp only at hm hd2 hl1 hl2 hd1 hnc hn1 hn2
  clear HQ
  obtain rfl : dead = false := HQ2.out.1
  have HQ3 := Lib.hid HQ2.out.2
  clear HQ2
  have HC2 : Hid (∀ j, j < n → w.cell? ⟨b, j, none⟩ = some (.string (S j))) := HC
  have HLA2 : Hid (∀ j, j < m → 0 ≤ LA j ∧ LA j < n) := HLA
  clear HC HLA
  go_enter Tryz.func141, Tryz.ntmps141
  go_wp2_with (first
    | (go_at_call 205
       refine (deed_yes _ _ _ _ _ _ _ _ _ HQ3.out (by omega) (by omega) (by omega) (by omega)).mono ?_
       rintro e w2 ⟨rfl, hb3⟩
       generalize hle : lessLeft left = left2
       simp only [World.size_alloc] at hb3
       have HX := Lib.hid (((Box5.new w _ _ _ _ _ 28).alloc _).below hb3 (by omega))
       have HY := Lib.hid ((Box5.new _ _ _ _ _ _ 28).below hb3 (by simp)))
    | (refine wpList_store5 rfl 28 (.tmp 1) (.tmp 11) rfl w.heap.size _ _ _ _ _ _ _ _ _ _ rfl rfl HX.out size31 (by simp [Value.oneCell']) ?_
       intro w3 hx3 hbut3
       have hy3 := HY.out.but hbut3 (by simp)
       simp only [World.size_alloc] at hy3
       have hb4 : Below w.heap.size w w3 := ((((Below.refl w.heap.size w).alloc (by simp) _).alloc (by simp) _).trans (hb3.mono (by omega))).trans (hbut3.below (Nat.le_refl _))
       have hs3 : w.heap.size + 1 < w3.heap.size := (World.block_lt_of_cell? w3 _ hy3.c0)
       have hcx0 := hx3.c0)
    | (go_at_call 210
       refine (clone_any b n c S w3 hn1 hn2 (fun j hj => (hb4.cell (p := ⟨b, j, none⟩) hlt).trans (HC2.out j hj))).mono ?_
       rintro e w4 ⟨g, cap, rfl, hncap, hg3, hrow, hb34⟩
       have hx4 := hx3.below hb34 (by omega)
       have hy4 := hy3.below hb34 (by omega)
       have hcx1 := hx4.c1))
  have HLE2 := Lib.hid hle
  have hs34 : w3.heap.size ≤ w4.heap.size := hb34.size
  have hb46 : Below w.heap.size w w4 := hb4.trans (hb34.mono (by omega))
  clear hle hb3 HX HY hbut3 hcx0 hcx1 hx3 hy3 hb34 hb4
  go_loopw [22] (fun u wr => ∃ q : Nat, q ≤ m ∧ u = .int .i64 q ∧ Below w3.heap.size w4 wr ∧ StrRow wr g n (flushS S LA LD q)) (fun u _ => m - (intOf u).toNat)
  case atStart => exact ⟨0, Nat.zero_le _, rfl, Below.refl _ _, hrow⟩
  case round =>
    obtain ⟨q, hq, rfl, hbr, hrr⟩ := hrel
    have hx5 := hx4.below hbr (by omega)
    have hcx0 := hx5.c0
    have hcx1 := hx5.c1
    have hcx2 := hx5.c2
    have hcx3 := hx5.c3
    have hcx4 := hx5.c4
    have hbw : Below w.heap.size w wr := hb46.trans (hbr.mono (by omega))
    by_cases hqm : q < m
    · obtain ⟨bl, rfl, hbl, hlc⟩ := HL.out (by omega)
      obtain ⟨a, ha⟩ := Int.eq_ofNat_of_zero_le (HLA2.out q hqm).1
      have han : a < n := by have := (HLA2.out q hqm).2; omega
      have kA : wr.cell? ⟨bl, q * 2, none⟩ = some (.int .i64 (a : Int)) := by rw [← ha]; exact (hbw.cell (p := ⟨bl, q * 2, none⟩) hbl).trans (hlc q hqm).1
      have kD : wr.cell? ⟨bl, q * 2 + 1, none⟩ = some (.string (LD q)) := (hbw.cell (p := ⟨bl, q * 2 + 1, none⟩) hbl).trans (hlc q hqm).2
      have HA := Lib.hid ha
      have HR := Lib.hid hrr
      have hgl := hrr.1
      have hsr := hbr.size
      have hx6 := hx5.alloc (.cells #[.int .i64 (a : Int), .string (LD q)] 120)
      have ha0 := hx6.c0
      have ha1 := hx6.c1
      have ha2 := hx6.c2
      have ha3 := hx6.c3
      have ha4 := hx6.c4
      have i1 : (0 : Int) ≤ (a : Int) := by omega
      have i2 : (a : Int) < (n : Int) := by omega
      have hHas : Hid (true = decide (0 ≤ (a : Int) ∧ (a : Int) < (n : Int))) := (decide_eq_true ⟨i1, i2⟩).symm
      clear ha hrr hlc
      go_wp2_with (first
        | (go_at_call 204
           refine (has_any _ _ _ _ _ _ _ _ _ _ _ true hHas.out).mono ?_
           rintro e w5 ⟨rfl, hb5⟩
           simp only [World.size_alloc] at hb5
           have kt0 : w5.cell? ⟨wr.heap.size, 0, none⟩ = some (.int .i64 (a : Int)) := (hb5.cell (p := ⟨wr.heap.size, 0, none⟩) (by simp)).trans (by simp)
           have kt1 : w5.cell? ⟨wr.heap.size, 1, none⟩ = some (.string (LD q)) := (hb5.cell (p := ⟨wr.heap.size, 1, none⟩) (by simp)).trans (by simp)
           have hr5 : StrRow w5 g n (flushS S LA LD q) := (HR.out.below ((Below.refl wr.heap.size wr).alloc (Nat.le_refl _) _) (Nat.le_refl _)).below hb5 (by simp)
           have kg := hr5.2.1 a han
           have kf := hr5.2.2 a))
      go_roundw
      case rel =>
        refine ⟨q + 1, by omega, by go_num, ?_, ?_⟩
        · refine Below.setCell ?_ (by simp; omega) _
          exact hbr.trans (((Below.refl wr.heap.size wr).alloc (Nat.le_refl _) _ |>.trans (hb5.mono (by omega))).mono (by omega))
        · refine (hr5.set han (LD q)).congr fun j hj => ?_
          simp only [flushS]
          rw [HA.out]
          by_cases e : j = a
          · subst e; simp
          · rw [if_neg e, if_neg (by omega)]
      case measure => simp [intOf]; omega
    · obtain rfl : q = m := by omega
      have hy5 := hy4.below hbr (by omega)
      have hfx := hx5.f
      have hfy := hy5.f
      have ky0 := hy5.c0
      have ky1 := hy5.c1
      have ky2 := hy5.c2
      have ky3 := hy5.c3
      have ky4 := hy5.c4
      have hgl := hrr.1
      have hd5 : DevAt wr g none (.agg #[.slice (some ⟨g, 0, none⟩) n cap, .slice none 0 0, .bool false, .int .i64 left2, .int .i64 (deeds + 1)]) (Dev.flushed { n := n, S := S, m := q, LA := LA, LD := LD, dead := false, left := left, deeds := deeds }) :=
        ⟨cap, 0, (by rw [← HLE2.out]; rfl), hgl, hncap, hrr.2.1, fun h => absurd h (by simp [Dev.flushed]), fun _ => ⟨rfl, rfl⟩⟩
      go_wp2
      refine bodyPost_ret (v := .tuple #[.agg #[.slice (some ⟨g, 0, none⟩) n cap, .slice none 0 0, .bool false, .int .i64 left2, .int .i64 (deeds + 1)], .int .i64 0]) (by simp [results, Tryz.results141, go_sem, ky0, ky1, ky2, ky3, ky4]) rfl ⟨_, rfl, ⟨g, none, ?_⟩, ?_⟩
      · repeat (first | (with_reducible exact hd5) | refine DevAt.setCell ?_ (by simp; omega) (fun a h => by cases h) _)
      · repeat (first | (with_reducible exact hbw) | refine Below.setCell ?_ (by simp) _)
end Go.Proofs.YtcgkbcgpnlogoaaGreatDoor.Sla

/- slab.Start. -/
namespace Go.Proofs.YtcgkbcgpnlogoaaGreatDoor.Sla
open Go.RowKit Go.Shelf

/-- What stays, told plainly. -/
structure Fat where
 stay : Int
 torn : Int
 bytes : Int

def keptN (f : Fat) (i size : Nat) : Nat := (keptI f.stay f.torn f.bytes i size).toNat
/-- What is sure behind a start, of the first writes. -/
def startS (f : Fat) (S : Nat → ByteArray) (LA : Nat → Int) (LD : Nat → ByteArray) : Nat → Nat → ByteArray
 | 0 => S
 | k + 1 => fun j => if LA k = (j : Int) then laidB (startS f S LA LD k j) ((LD k).extract 0 (keptN f k (LD k).size)) else startS f S LA LD k j

theorem laidB_size (o d : ByteArray) (h : d.size ≤ o.size) : (laidB o d).size = o.size := by
 unfold laidB
 split
 ·omega
 ·rw [ByteArray.size_append, ByteArray.size_extract]
  omega

theorem startS_size (f : Fat) (S : Nat → ByteArray) (LA : Nat → Int) (LD : Nat → ByteArray) (n k : Nat) (hS : ∀ j, j < n → (S j).size = 256) (hL : ∀ j, j < k → (LD j).size = 256) : ∀ j, j < n → (startS f S LA LD k j).size = 256 := by
 induction k with
 | zero => exact hS
 | succ k ih =>
  intro j hj
  have h1 := ih (fun i hi => hL i (by omega)) j hj
  simp only [startS]
  split
  ·rw [laidB_size _ _ (by rw [ByteArray.size_extract, h1, hL k (by omega)]; omega), h1]
  ·exact h1

def Dev.started (D : Dev) (f : Fat) : Dev := { n := D.n, S := startS f D.S D.LA D.LD D.m, m := 0, LA := fun _ => 0, LD := fun _ => ⟨#[]⟩, dead := false, left := -1, deeds := 0 }

def DevRet (D : Dev) (w : World) (e : Ending) (w' : World) : Prop := ∃ v, e = .returned v ∧ IsDev w' v D ∧ Below w.heap.size w w'

structure Box3 (w : World) (g : Nat) (v0 v1 v2 : Value) : Prop where
 c0 : w.cell? ⟨g, 0, none⟩ = some v0
 c1 : w.cell? ⟨g, 1, none⟩ = some v1
 c2 : w.cell? ⟨g, 2, none⟩ = some v2
theorem Box3.below {g B : Nat} {w w' : World} {v0 v1 v2 : Value} (h : Box3 w g v0 v1 v2) (hb : Below B w w') (hB : g < B) : Box3 w' g v0 v1 v2 :=
 ⟨(hb.cell (p := ⟨g, 0, none⟩) hB).trans h.c0, (hb.cell (p := ⟨g, 1, none⟩) hB).trans h.c1, (hb.cell (p := ⟨g, 2, none⟩) hB).trans h.c2⟩
theorem Box3.new (w : World) (v0 v1 v2 : Value) (t : TypeId) : Box3 (w.alloc (.cells #[v0, v1, v2] t)) w.heap.size v0 v1 v2 := by
 constructor <;> simp [go_sem]

/-- What the region of a start reads, but for the sector: a write's two cells, a fate's three. -/
def StartCells (w : World) (t N : Nat) (x : Value) (d : Value) (v0 v1 v2 : Value) : Prop :=
 w.cell? ⟨t, 0, none⟩ = some x ∧ w.cell? ⟨t, 1, none⟩ = some d ∧ w.cell? ⟨N, 0, none⟩ = some v0 ∧ w.cell? ⟨N, 1, none⟩ = some v1 ∧ w.cell? ⟨N, 2, none⟩ = some v2
theorem StartCells.below {w w' : World} {t N B : Nat} {x d v0 v1 v2 : Value} (h : StartCells w t N x d v0 v1 v2) (hb : Below B w w') (h1 : t < B) (h2 : N < B) : StartCells w' t N x d v0 v1 v2 :=
 ⟨(hb.cell (p := ⟨t, 0, none⟩) h1).trans h.1, (hb.cell (p := ⟨t, 1, none⟩) h1).trans h.2.1, (hb.cell (p := ⟨N, 0, none⟩) h2).trans h.2.2.1, (hb.cell (p := ⟨N, 1, none⟩) h2).trans h.2.2.2.1, (hb.cell (p := ⟨N, 2, none⟩) h2).trans h.2.2.2.2⟩
theorem StartCells.set {w : World} {t N g a : Nat} {x d v0 v1 v2 : Value} (h : StartCells w t N x d v0 v1 v2) (h1 : g ≠ t) (h2 : g ≠ N) (u : Value) : StartCells (w.setCell ⟨g, a, none⟩ u) t N x d v0 v1 v2 := by
 have o : ∀ (T i : Nat), g ≠ T → (w.setCell ⟨g, a, none⟩ u).cell? ⟨T, i, none⟩ = w.cell? ⟨T, i, none⟩ := fun T i hT => World.cell?_setCell_other w _ _ u (fun e => hT (by injection e))
 exact ⟨(o _ _ h1).trans h.1, (o _ _ h1).trans h.2.1, (o _ _ h2).trans h.2.2.1, (o _ _ h2).trans h.2.2.2.1, (o _ _ h2).trans h.2.2.2.2⟩

end Go.Proofs.YtcgkbcgpnlogoaaGreatDoor.Sla

/- What each call makes of a device is a device again; whatever its arguments are. -/
namespace Go.Proofs.YtcgkbcgpnlogoaaGreatDoor.Sla
open Go.RowKit Go.Shelf

theorem lessLeft_le (x : Int) (h1 : -9223372036854775808 ≤ x) (h2 : x ≤ 9223372036854775807) : -9223372036854775808 ≤ lessLeft x ∧ lessLeft x ≤ 9223372036854775807 := by
 unfold lessLeft
 split <;> omega

theorem Dev.Ok.more {D : Dev} {K K' : Nat} (h : D.Ok K) (hK : K ≤ K') : D.Ok K' :=
 { h with m2 := Nat.le_trans h.m2 hK, d2 := by have := h.d2; omega }
theorem Dev.Ok.down {D : Dev} {K : Nat} (h : D.Ok K) : D.down.Ok K := { h with }
theorem Dev.Ok.up {D : Dev} {K : Nat} (h : D.Ok K) : D.up.Ok (K + 1) :=
 ⟨h.n1, h.n2, by have := h.m2; show D.m ≤ K + 1; omega, by have := h.d1; show 0 ≤ D.deeds + 1; omega, by have := h.d2; show D.deeds + 1 ≤ ((K + 1 : Nat) : Int); omega,
  (lessLeft_le _ h.l1 h.l2).1, (lessLeft_le _ h.l1 h.l2).2, h.sz, h.lz, h.la⟩
theorem Dev.Ok.put {D : Dev} {K : Nat} (h : D.Ok K) (x : Int) (d : ByteArray) (hx : D.has x = true) (hd : d.size ≤ 256) : (D.putAt x d).Ok (K + 1) := by
 have hx' : 0 ≤ x ∧ x < D.n := by unfold Dev.has at hx; simpa using hx
 refine ⟨h.n1, h.n2, by have := h.m2; show D.m + 1 ≤ K + 1; omega, h.up.d1, h.up.d2, h.up.l1, h.up.l2, h.sz, fun j hj => ?_, fun j hj => ?_⟩
 ·show (snocD D.LD D.m (padB d) j).size = 256
  have hj' : j < D.m + 1 := hj
  unfold snocD
  split
  ·exact padB_size d hd
  ·exact h.lz j (by omega)
 ·show 0 ≤ snocI D.LA D.m x j ∧ snocI D.LA D.m x j < D.n
  have hj' : j < D.m + 1 := hj
  unfold snocI
  split
  ·exact hx'
  ·exact h.la j (by omega)
theorem flushS_size (S : Nat → ByteArray) (LA : Nat → Int) (LD : Nat → ByteArray) (n k : Nat) (hS : ∀ j, j < n → (S j).size = 256) (hL : ∀ j, j < k → (LD j).size = 256) : ∀ j, j < n → (flushS S LA LD k j).size = 256 := by
 induction k with
 | zero => exact hS
 | succ k ih =>
  intro j hj
  simp only [flushS]
  split
  ·exact hL k (by omega)
  ·exact ih (fun i hi => hL i (by omega)) j hj
theorem Dev.Ok.flushed {D : Dev} {K : Nat} (h : D.Ok K) : D.flushed.Ok (K + 1) :=
 ⟨h.n1, h.n2, Nat.zero_le _, h.up.d1, h.up.d2, h.up.l1, h.up.l2, flushS_size D.S D.LA D.LD D.n D.m h.sz h.lz, fun j hj => absurd hj (Nat.not_lt_zero j), fun j hj => absurd hj (Nat.not_lt_zero j)⟩
theorem Dev.Ok.started {D : Dev} {K : Nat} (h : D.Ok K) (f : Fat) : (D.started f).Ok 0 :=
 ⟨h.n1, h.n2, Nat.le_refl _, by simp [Dev.started], by simp [Dev.started], by simp [Dev.started], by simp [Dev.started], startS_size f D.S D.LA D.LD D.n D.m h.sz h.lz, fun j hj => absurd hj (Nat.not_lt_zero j), fun j hj => absurd hj (Nat.not_lt_zero j)⟩
theorem Dev.Ok.armed {D : Dev} {K : Nat} (h : D.Ok K) (x : Int) (hx : x ≤ 9223372036854775807) : (armed D x).Ok K :=
 { h with l1 := by show -9223372036854775808 ≤ max x (-1); omega, l2 := by show max x (-1) ≤ 9223372036854775807; omega }

/-- v' tells some device of n sectors, in a world where all that was there stays. -/
def Weak (n K : Nat) (w w' : World) (v' : Value) : Prop := ∃ D : Dev, IsDev w' v' D ∧ D.Ok K ∧ D.n = n ∧ Below w.heap.size w w'

end Go.Proofs.YtcgkbcgpnlogoaaGreatDoor.Sla

/- Devices in memory whose variables are stored into. -/
namespace Go.Proofs.YtcgkbcgpnlogoaaGreatDoor.Sla
open Go.RowKit Go.Shelf

theorem DevAt.but {w w' : World} {b g : Nat} {B : Option Addr} {v : Value} {D : Dev} (h : DevAt w b B v D) (hb : But g w w') (h1 : b ≠ g) (h2 : ∀ a, B = some a → a.block ≠ g) : DevAt w' b B v D := by
 obtain ⟨c, k, hv, hlt, hnc, hc, hl, h0⟩ := h
 refine ⟨c, k, hv, by rw [hb.size]; exact hlt, hnc, fun j hj => (hb.cell (p := ⟨b, j, none⟩) h1).trans (hc j hj), ?_, h0⟩
 intro hm
 obtain ⟨bl, hA, hlt', hcl⟩ := hl hm
 have hn := h2 _ hA
 exact ⟨bl, hA, by rw [hb.size]; exact hlt', fun j hj => ⟨(hb.cell (p := ⟨bl, j * 2, none⟩) hn).trans (hcl j hj).1, (hb.cell (p := ⟨bl, j * 2 + 1, none⟩) hn).trans (hcl j hj).2⟩⟩

/-- A variable whose first cell is a slice holds none of a device's cells. -/
theorem DevAt.apart {w : World} {b g : Nat} {B : Option Addr} {v : Value} {D : Dev} (h : DevAt w b B v D) (hn : 1 ≤ D.n) {A : Option Addr} {n c : Nat} (hx : w.cell? ⟨g, 0, none⟩ = some (.slice A n c)) : b ≠ g ∧ ∀ a, B = some a → a.block ≠ g := by
 obtain ⟨c', k, hv, hlt, hnc, hc, hl, h0⟩ := h
 refine ⟨?_, ?_⟩
 ·rintro rfl
  have := hc 0 hn
  rw [hx] at this
  cases this
 ·rintro a rfl e
  rcases Nat.eq_zero_or_pos D.m with hm | hm
  ·cases (h0 hm).1
  ·obtain ⟨bl, hA, _, hcl⟩ := hl hm
   injection hA with hA
   subst hA
   have h1 := (hcl 0 hm).1
   subst e
   rw [Nat.zero_mul, hx] at h1
   cases h1
theorem IsDev.but {w w' : World} {g : Nat} {v : Value} {D : Dev} (h : IsDev w v D) (hn : 1 ≤ D.n) {A : Option Addr} {n c : Nat} (hx : w.cell? ⟨g, 0, none⟩ = some (.slice A n c)) (hb : But g w w') : IsDev w' v D := by
 obtain ⟨b, B, h⟩ := h
 obtain ⟨h1, h2⟩ := h.apart hn hx
 exact ⟨b, B, h.but hb h1 h2⟩
theorem but5 (w : World) (g : Nat) (u0 u1 u2 u3 u4 : Value) : But g w (((((w.setCell ⟨g, 0, none⟩ u0).setCell ⟨g, 1, none⟩ u1).setCell ⟨g, 2, none⟩ u2).setCell ⟨g, 3, none⟩ u3).setCell ⟨g, 4, none⟩ u4) :=
 (((((But.refl g w).setCell 0 u0).setCell 1 u1).setCell 2 u2).setCell 3 u3).setCell 4 u4
theorem Weak.last {n K g : Nat} {w w' : World} {v : Value} {D : Dev} (hd : IsDev w' v D) (hok : D.Ok K) (hn : D.n = n) (hb : Below w.heap.size w w') (hg : w.heap.size ≤ g)
  {A : Option Addr} {m c : Nat} (hx : w'.cell? ⟨g, 0, none⟩ = some (.slice A m c)) (u0 u1 u2 u3 u4 : Value) :
  Weak n K w (((((w'.setCell ⟨g, 0, none⟩ u0).setCell ⟨g, 1, none⟩ u1).setCell ⟨g, 2, none⟩ u2).setCell ⟨g, 3, none⟩ u3).setCell ⟨g, 4, none⟩ u4) v :=
 ⟨D, hd.but hok.n1 hx (but5 w' g u0 u1 u2 u3 u4), hok, hn, hb.trans ((but5 w' g u0 u1 u2 u3 u4).below hg)⟩

end Go.Proofs.YtcgkbcgpnlogoaaGreatDoor.Sla

/- The document's own comparison of two devices, where nothing is unsure. -/
namespace Go.Proofs.YtcgkbcgpnlogoaaGreatDoor.Sla
open Go.RowKit Go.Shelf

set_option maxHeartbeats 2000000 in
theorem same_any (b c b' c' n : Nat) (S : Nat → ByteArray) (dead : Bool) (left deeds : Int) (w : World) (hn : n ≤ 2000) (hb : b < w.heap.size) (hb' : b' < w.heap.size)
  (h1 : ∀ j, j < n → w.cell? ⟨b, j, none⟩ = some (.string (S j))) (h2 : ∀ j, j < n → w.cell? ⟨b', j, none⟩ = some (.string (S j))) :
  Calls Tryz.prog 28 #[.agg #[.slice (some ⟨b, 0, none⟩) n c, .slice none 0 0, .bool dead, .int .i64 left, .int .i64 deeds], .agg #[.slice (some ⟨b', 0, none⟩) n c', .slice none 0 0, .bool dead, .int .i64 left, .int .i64 deeds]] w fun e w' =>
   e = .returned (.bool true) ∧ Below w.heap.size w w' := by
 have H1 := Lib.hid h1
 have H2 := Lib.hid h2
 clear h1 h2
 go_enter Tryz.func28, Tryz.ntmps28
 go_wp2_with fail
 go_loopw [5] (fun i wr => ∃ q : Nat, q ≤ n ∧ i = .int .i64 q ∧ Below w.heap.size w wr ∧ Box5 wr w.heap.size (.slice (some ⟨b, 0, none⟩) n c) (.slice none 0 0) (.bool dead) (.int .i64 left) (.int .i64 deeds) ∧ Box5 wr (w.heap.size + 1) (.slice (some ⟨b', 0, none⟩) n c') (.slice none 0 0) (.bool dead) (.int .i64 left) (.int .i64 deeds)) (fun i _ => n - (intOf i).toNat)
 case atStart =>
  exact ⟨0, Nat.zero_le _, rfl, ((Below.refl w.heap.size w).alloc (Nat.le_refl _) _).alloc (by simp) _, (Box5.new w _ _ _ _ _ 28).alloc _, by have := Box5.new (w.alloc (.cells #[.slice (some ⟨b, 0, none⟩) n c, .slice none 0 0, .bool dead, .int .i64 left, .int .i64 deeds] 28)) (.slice (some ⟨b', 0, none⟩) n c') (.slice none 0 0) (.bool dead) (.int .i64 left) (.int .i64 deeds) 28; simpa using this⟩
 case round =>
  obtain ⟨q, hq, rfl, hbr, hx, hy⟩ := hrel
  have x0 := hx.c0
  have x1 := hx.c1
  have y0 := hy.c0
  have y1 := hy.c1
  by_cases hqn : q < n
  ·have k1 := (hbr.cell (p := ⟨b, q, none⟩) hb).trans (H1.out q hqn)
   have k2 := (hbr.cell (p := ⟨b', q, none⟩) hb').trans (H2.out q hqn)
   have i1 : (0 : Int) ≤ (q : Int) := by omega
   have i2 : (q : Int) < (n : Int) := by omega
   go_wp2
   go_quiet (fail)
   go_wp2
   go_roundw
   case rel => exact ⟨q + 1, by omega, by go_num, below_drewN hbr _, hx.below (below_drewN (Below.refl (w.heap.size + 2) wr) _) (by omega), hy.below (below_drewN (Below.refl (w.heap.size + 2) wr) _) (by omega)⟩
   case measure => simp [intOf]; omega
  ·obtain rfl : q = n := by omega
   go_wp2
   go_loopw [6] (fun i wz => i = .int .i64 0 ∧ Below w.heap.size w wz ∧ wz.cell? ⟨w.heap.size, 1, none⟩ = some (.slice none 0 0)) (fun _ _ => 0)
   case atStart => exact ⟨rfl, hbr, x1⟩
   case round =>
    obtain ⟨rfl, hbz, z1⟩ := hrel
    go_wp2
    go_ret
    exact ⟨rfl, hbz⟩
end Go.Proofs.YtcgkbcgpnlogoaaGreatDoor.Sla

/- The document's own comparison of two devices, whatever is unsure. -/
namespace Go.Proofs.YtcgkbcgpnlogoaaGreatDoor.Sla
open Go.RowKit Go.Shelf

end Go.Proofs.YtcgkbcgpnlogoaaGreatDoor.Sla

/- The operations of a condition, each by its number. -/
namespace Go.Proofs.YtcgkbcgpnlogoaaGreatDoor.SlI
open Lex

noncomputable def biops : Array Oper := Lex.opsOf Tryz.f162 5
def bicalls : List Nat := [6]
def biord : List Nat := [0, 1, 2, 3, 4, 5, 6, 7]
theorem bisel : Region.noSelect biops = true := by kernel_rfl
theorem bilex : lexH biops bicalls biord (Array.replicate biops.size false) = true := by kernel_rfl
theorem bi0 : biops[0]? = some { dst := some 24, op := Op.move (Operand.tmp 2), type := 206, pos := "sort.go:160", after := #[], guard := none } := by kernel_rfl
theorem bi1 : biops[1]? = some { dst := some 25, op := Op.move (Operand.tmp 0), type := 31, pos := "sort.go:160", after := #[], guard := none } := by kernel_rfl
theorem bi2 : biops[2]? = some { dst := some 26, op := Op.move (Operand.tmp 11), type := 3, pos := "sort.go:160", after := #[], guard := none } := by kernel_rfl
theorem bi3 : biops[3]? = some { dst := some 27, op := Op.indexAddr 31 (Operand.tmp 25) (Operand.tmp 26), type := 0, pos := "sort.go:160", after := #[{ on := 1, ground := Ground.data }, { on := 2, ground := Ground.data }], guard := none } := by kernel_rfl
theorem bi4 : biops[4]? = some { dst := some 28, op := Op.load 116 (Operand.tmp 27), type := 116, pos := "sort.go:160", after := #[{ on := 3, ground := Ground.data }], guard := none } := by kernel_rfl
theorem bi5 : biops[5]? = some { dst := some 29, op := Op.load 116 (Operand.tmp 4), type := 116, pos := "sort.go:160", after := #[], guard := none } := by kernel_rfl
theorem bi6 : biops[6]? = some { dst := some 30, op := Op.call { callee := Callee.value (Operand.tmp 24), args := #[Operand.tmp 28, Operand.tmp 29], argTypes := #[116, 116] }, type := 3, pos := "sort.go:160", after := #[{ on := 0, ground := Ground.data }, { on := 4, ground := Ground.data }, { on := 5, ground := Ground.data }], guard := none } := by kernel_rfl
theorem bi7 : biops[7]? = some { dst := some 31, op := Op.binOp BinOp.lss 3 (Operand.tmp 30) (Operand.const (Value.int IntKind.i64 0)) 3, type := 4, pos := "sort.go:160", after := #[{ on := 6, ground := Ground.data }], guard := none } := by kernel_rfl
noncomputable def bieops : Array Oper := Lex.opsOf Tryz.f162 8
def biecalls : List Nat := [11]
def bieord : List Nat := [0, 1, 2, 3, 4, 5, 6, 7, 8, 9, 10, 11, 12, 13, 14, 15]
theorem biesel : Region.noSelect bieops = true := by kernel_rfl
theorem bielex : lexH bieops biecalls bieord (Array.replicate bieops.size false) = true := by kernel_rfl
theorem bie0 : bieops[0]? = some { dst := some 35, op := Op.move (Operand.tmp 9), type := 3, pos := "sort.go:167", after := #[], guard := none } := by kernel_rfl
theorem bie1 : bieops[1]? = some { dst := some 36, op := Op.move (Operand.tmp 9), type := 3, pos := "sort.go:167", after := #[], guard := none } := by kernel_rfl
theorem bie2 : bieops[2]? = some { dst := some 37, op := Op.move (Operand.tmp 8), type := 3, pos := "sort.go:167", after := #[], guard := none } := by kernel_rfl
theorem bie3 : bieops[3]? = some { dst := some 38, op := Op.binOp BinOp.lss 3 (Operand.tmp 36) (Operand.tmp 37) 3, type := 4, pos := "sort.go:167", after := #[{ on := 1, ground := Ground.data }, { on := 2, ground := Ground.data }], guard := none } := by kernel_rfl
theorem bie4 : bieops[4]? = some { dst := some 39, op := Op.move (Operand.tmp 38), type := 4, pos := "sort.go:167", after := #[{ on := 3, ground := Ground.data }], guard := none } := by kernel_rfl
theorem bie5 : bieops[5]? = some { dst := some 40, op := Op.move (Operand.tmp 2), type := 206, pos := "sort.go:167", after := #[{ on := 4, ground := Ground.guard }], guard := some (4, true) } := by kernel_rfl
theorem bie6 : bieops[6]? = some { dst := some 41, op := Op.move (Operand.tmp 0), type := 31, pos := "sort.go:167", after := #[{ on := 4, ground := Ground.guard }], guard := some (4, true) } := by kernel_rfl
theorem bie7 : bieops[7]? = some { dst := some 42, op := Op.move (Operand.tmp 9), type := 3, pos := "sort.go:167", after := #[{ on := 4, ground := Ground.guard }], guard := some (4, true) } := by kernel_rfl
theorem bie8 : bieops[8]? = some { dst := some 43, op := Op.indexAddr 31 (Operand.tmp 41) (Operand.tmp 42), type := 0, pos := "sort.go:167", after := #[{ on := 6, ground := Ground.data }, { on := 7, ground := Ground.data }, { on := 4, ground := Ground.guard }], guard := some (4, true) } := by kernel_rfl
theorem bie9 : bieops[9]? = some { dst := some 44, op := Op.load 116 (Operand.tmp 43), type := 116, pos := "sort.go:167", after := #[{ on := 8, ground := Ground.data }, { on := 4, ground := Ground.guard }], guard := some (4, true) } := by kernel_rfl
theorem bie10 : bieops[10]? = some { dst := some 45, op := Op.load 116 (Operand.tmp 4), type := 116, pos := "sort.go:167", after := #[{ on := 4, ground := Ground.guard }], guard := some (4, true) } := by kernel_rfl
theorem bie11 : bieops[11]? = some { dst := some 46, op := Op.call { callee := Callee.value (Operand.tmp 40), args := #[Operand.tmp 44, Operand.tmp 45], argTypes := #[116, 116] }, type := 3, pos := "sort.go:167", after := #[{ on := 5, ground := Ground.data }, { on := 9, ground := Ground.data }, { on := 10, ground := Ground.data }, { on := 4, ground := Ground.chain }, { on := 4, ground := Ground.guard }], guard := some (4, true) } := by kernel_rfl
theorem bie12 : bieops[12]? = some { dst := some 47, op := Op.binOp BinOp.eql 3 (Operand.tmp 46) (Operand.const (Value.int IntKind.i64 0)) 3, type := 4, pos := "sort.go:167", after := #[{ on := 11, ground := Ground.data }, { on := 4, ground := Ground.guard }, { on := 14, ground := Ground.gcOnly Departure.lateStores }], guard := some (4, true) } := by kernel_rfl
theorem bie13 : bieops[13]? = some { dst := some 48, op := Op.pick (Operand.tmp 39) (Operand.tmp 47) (Operand.const (Value.bool false)), type := 4, pos := "sort.go:167", after := #[{ on := 4, ground := Ground.data }, { on := 12, ground := Ground.data }, { on := 14, ground := Ground.gcOnly Departure.lateStores }], guard := none } := by kernel_rfl
theorem bie14 : bieops[14]? = some { dst := some 6, op := Op.assign (Operand.tmp 35), type := 3, pos := "sort.go:167", after := #[{ on := 0, ground := Ground.data }, { on := 11, ground := Ground.chain }, { on := 0, ground := Ground.phase }, { on := 1, ground := Ground.textOnly Departure.lateStores }, { on := 2, ground := Ground.textOnly Departure.lateStores }, { on := 3, ground := Ground.textOnly Departure.lateStores }, { on := 4, ground := Ground.textOnly Departure.lateStores }, { on := 5, ground := Ground.textOnly Departure.lateStores }, { on := 6, ground := Ground.textOnly Departure.lateStores }, { on := 7, ground := Ground.textOnly Departure.lateStores }, { on := 8, ground := Ground.textOnly Departure.lateStores }, { on := 9, ground := Ground.textOnly Departure.lateStores }, { on := 10, ground := Ground.textOnly Departure.lateStores }, { on := 11, ground := Ground.textOnly Departure.lateStoresUnsure }, { on := 12, ground := Ground.textOnly Departure.lateStores }, { on := 13, ground := Ground.textOnly Departure.lateStores }], guard := none } := by kernel_rfl
theorem bie15 : bieops[15]? = some { dst := some 7, op := Op.assign (Operand.tmp 48), type := 4, pos := "sort.go:167", after := #[{ on := 13, ground := Ground.data }, { on := 14, ground := Ground.chain }, { on := 0, ground := Ground.phase }, { on := 1, ground := Ground.phase }, { on := 2, ground := Ground.phase }, { on := 3, ground := Ground.phase }, { on := 4, ground := Ground.phase }, { on := 5, ground := Ground.phase }, { on := 6, ground := Ground.phase }, { on := 7, ground := Ground.phase }, { on := 8, ground := Ground.phase }, { on := 9, ground := Ground.phase }, { on := 10, ground := Ground.phase }, { on := 11, ground := Ground.phase }, { on := 12, ground := Ground.phase }, { on := 13, ground := Ground.phase }, { on := 14, ground := Ground.phase }], guard := none } := by kernel_rfl
end Go.Proofs.YtcgkbcgpnlogoaaGreatDoor.SlI

/- The operations of a condition, each by its number. -/
namespace Go.Proofs.YtcgkbcgpnlogoaaGreatDoor.SlP
open Lex

noncomputable def bpops : Array Oper := Lex.opsOf Tryz.f85 5
def bpcalls : List Nat := [6]
def bpord : List Nat := [0, 1, 2, 3, 4, 5, 6, 7]
theorem bpsel : Region.noSelect bpops = true := by kernel_rfl
theorem bplex : lexH bpops bpcalls bpord (Array.replicate bpops.size false) = true := by kernel_rfl
theorem bp0 : bpops[0]? = some { dst := some 24, op := Op.move (Operand.tmp 2), type := 134, pos := "sort.go:160", after := #[], guard := none } := by kernel_rfl
theorem bp1 : bpops[1]? = some { dst := some 25, op := Op.move (Operand.tmp 0), type := 32, pos := "sort.go:160", after := #[], guard := none } := by kernel_rfl
theorem bp2 : bpops[2]? = some { dst := some 26, op := Op.move (Operand.tmp 11), type := 3, pos := "sort.go:160", after := #[], guard := none } := by kernel_rfl
theorem bp3 : bpops[3]? = some { dst := some 27, op := Op.indexAddr 32 (Operand.tmp 25) (Operand.tmp 26), type := 0, pos := "sort.go:160", after := #[{ on := 1, ground := Ground.data }, { on := 2, ground := Ground.data }], guard := none } := by kernel_rfl
theorem bp4 : bpops[4]? = some { dst := some 28, op := Op.load 133 (Operand.tmp 27), type := 133, pos := "sort.go:160", after := #[{ on := 3, ground := Ground.data }], guard := none } := by kernel_rfl
theorem bp5 : bpops[5]? = some { dst := some 29, op := Op.load 133 (Operand.tmp 4), type := 133, pos := "sort.go:160", after := #[], guard := none } := by kernel_rfl
theorem bp6 : bpops[6]? = some { dst := some 30, op := Op.call { callee := Callee.value (Operand.tmp 24), args := #[Operand.tmp 28, Operand.tmp 29], argTypes := #[133, 133] }, type := 3, pos := "sort.go:160", after := #[{ on := 0, ground := Ground.data }, { on := 4, ground := Ground.data }, { on := 5, ground := Ground.data }], guard := none } := by kernel_rfl
theorem bp7 : bpops[7]? = some { dst := some 31, op := Op.binOp BinOp.lss 3 (Operand.tmp 30) (Operand.const (Value.int IntKind.i64 0)) 3, type := 4, pos := "sort.go:160", after := #[{ on := 6, ground := Ground.data }], guard := none } := by kernel_rfl
noncomputable def bpeops : Array Oper := Lex.opsOf Tryz.f85 8
def bpecalls : List Nat := [11]
def bpeord : List Nat := [0, 1, 2, 3, 4, 5, 6, 7, 8, 9, 10, 11, 12, 13, 14, 15]
theorem bpesel : Region.noSelect bpeops = true := by kernel_rfl
theorem bpelex : lexH bpeops bpecalls bpeord (Array.replicate bpeops.size false) = true := by kernel_rfl
theorem bpe0 : bpeops[0]? = some { dst := some 35, op := Op.move (Operand.tmp 9), type := 3, pos := "sort.go:167", after := #[], guard := none } := by kernel_rfl
theorem bpe1 : bpeops[1]? = some { dst := some 36, op := Op.move (Operand.tmp 9), type := 3, pos := "sort.go:167", after := #[], guard := none } := by kernel_rfl
theorem bpe2 : bpeops[2]? = some { dst := some 37, op := Op.move (Operand.tmp 8), type := 3, pos := "sort.go:167", after := #[], guard := none } := by kernel_rfl
theorem bpe3 : bpeops[3]? = some { dst := some 38, op := Op.binOp BinOp.lss 3 (Operand.tmp 36) (Operand.tmp 37) 3, type := 4, pos := "sort.go:167", after := #[{ on := 1, ground := Ground.data }, { on := 2, ground := Ground.data }], guard := none } := by kernel_rfl
theorem bpe4 : bpeops[4]? = some { dst := some 39, op := Op.move (Operand.tmp 38), type := 4, pos := "sort.go:167", after := #[{ on := 3, ground := Ground.data }], guard := none } := by kernel_rfl
theorem bpe5 : bpeops[5]? = some { dst := some 40, op := Op.move (Operand.tmp 2), type := 134, pos := "sort.go:167", after := #[{ on := 4, ground := Ground.guard }], guard := some (4, true) } := by kernel_rfl
theorem bpe6 : bpeops[6]? = some { dst := some 41, op := Op.move (Operand.tmp 0), type := 32, pos := "sort.go:167", after := #[{ on := 4, ground := Ground.guard }], guard := some (4, true) } := by kernel_rfl
theorem bpe7 : bpeops[7]? = some { dst := some 42, op := Op.move (Operand.tmp 9), type := 3, pos := "sort.go:167", after := #[{ on := 4, ground := Ground.guard }], guard := some (4, true) } := by kernel_rfl
theorem bpe8 : bpeops[8]? = some { dst := some 43, op := Op.indexAddr 32 (Operand.tmp 41) (Operand.tmp 42), type := 0, pos := "sort.go:167", after := #[{ on := 6, ground := Ground.data }, { on := 7, ground := Ground.data }, { on := 4, ground := Ground.guard }], guard := some (4, true) } := by kernel_rfl
theorem bpe9 : bpeops[9]? = some { dst := some 44, op := Op.load 133 (Operand.tmp 43), type := 133, pos := "sort.go:167", after := #[{ on := 8, ground := Ground.data }, { on := 4, ground := Ground.guard }], guard := some (4, true) } := by kernel_rfl
theorem bpe10 : bpeops[10]? = some { dst := some 45, op := Op.load 133 (Operand.tmp 4), type := 133, pos := "sort.go:167", after := #[{ on := 4, ground := Ground.guard }], guard := some (4, true) } := by kernel_rfl
theorem bpe11 : bpeops[11]? = some { dst := some 46, op := Op.call { callee := Callee.value (Operand.tmp 40), args := #[Operand.tmp 44, Operand.tmp 45], argTypes := #[133, 133] }, type := 3, pos := "sort.go:167", after := #[{ on := 5, ground := Ground.data }, { on := 9, ground := Ground.data }, { on := 10, ground := Ground.data }, { on := 4, ground := Ground.chain }, { on := 4, ground := Ground.guard }], guard := some (4, true) } := by kernel_rfl
theorem bpe12 : bpeops[12]? = some { dst := some 47, op := Op.binOp BinOp.eql 3 (Operand.tmp 46) (Operand.const (Value.int IntKind.i64 0)) 3, type := 4, pos := "sort.go:167", after := #[{ on := 11, ground := Ground.data }, { on := 4, ground := Ground.guard }, { on := 14, ground := Ground.gcOnly Departure.lateStores }], guard := some (4, true) } := by kernel_rfl
theorem bpe13 : bpeops[13]? = some { dst := some 48, op := Op.pick (Operand.tmp 39) (Operand.tmp 47) (Operand.const (Value.bool false)), type := 4, pos := "sort.go:167", after := #[{ on := 4, ground := Ground.data }, { on := 12, ground := Ground.data }, { on := 14, ground := Ground.gcOnly Departure.lateStores }], guard := none } := by kernel_rfl
theorem bpe14 : bpeops[14]? = some { dst := some 6, op := Op.assign (Operand.tmp 35), type := 3, pos := "sort.go:167", after := #[{ on := 0, ground := Ground.data }, { on := 11, ground := Ground.chain }, { on := 0, ground := Ground.phase }, { on := 1, ground := Ground.textOnly Departure.lateStores }, { on := 2, ground := Ground.textOnly Departure.lateStores }, { on := 3, ground := Ground.textOnly Departure.lateStores }, { on := 4, ground := Ground.textOnly Departure.lateStores }, { on := 5, ground := Ground.textOnly Departure.lateStores }, { on := 6, ground := Ground.textOnly Departure.lateStores }, { on := 7, ground := Ground.textOnly Departure.lateStores }, { on := 8, ground := Ground.textOnly Departure.lateStores }, { on := 9, ground := Ground.textOnly Departure.lateStores }, { on := 10, ground := Ground.textOnly Departure.lateStores }, { on := 11, ground := Ground.textOnly Departure.lateStoresUnsure }, { on := 12, ground := Ground.textOnly Departure.lateStores }, { on := 13, ground := Ground.textOnly Departure.lateStores }], guard := none } := by kernel_rfl
theorem bpe15 : bpeops[15]? = some { dst := some 7, op := Op.assign (Operand.tmp 48), type := 4, pos := "sort.go:167", after := #[{ on := 13, ground := Ground.data }, { on := 14, ground := Ground.chain }, { on := 0, ground := Ground.phase }, { on := 1, ground := Ground.phase }, { on := 2, ground := Ground.phase }, { on := 3, ground := Ground.phase }, { on := 4, ground := Ground.phase }, { on := 5, ground := Ground.phase }, { on := 6, ground := Ground.phase }, { on := 7, ground := Ground.phase }, { on := 8, ground := Ground.phase }, { on := 9, ground := Ground.phase }, { on := 10, ground := Ground.phase }, { on := 11, ground := Ground.phase }, { on := 12, ground := Ground.phase }, { on := 13, ground := Ground.phase }, { on := 14, ground := Ground.phase }], guard := none } := by kernel_rfl
end Go.Proofs.YtcgkbcgpnlogoaaGreatDoor.SlP

/- CRC-32 by half bytes, plainly: what up to four other bytes side by side do to the sum. No program. -/
namespace Go.Proofs.YtcgkbcgpnlogoaaGreatDoor.Tal

def hv (i : Nat) : Nat := [0, 498536548, 997073096, 651767980, 1994146192, 1802195444, 1303535960, 1342533948, 3988292384, 4027552580, 3604390888, 3412177804, 2607071920, 2262029012, 2685067896, 3183342108].getD i 0
/-- Four steps of one bit. -/
def nib (x : Nat) : Nat := (x / 16) ^^^ hv (x % 16)
def step (s : Nat) (b : UInt8) : Nat := nib (nib (s ^^^ b.toNat))
def run (s : Nat) (l : List UInt8) : Nat := l.foldl step s
def crc (l : List UInt8) : Nat := 4294967295 - run 4294967295 l

theorem hv_lt : ∀ i, i < 16 → hv i < 4294967296 := by decide
theorem xor_lt {a b : Nat} (ha : a < 4294967296) (hb : b < 4294967296) : a ^^^ b < 4294967296 := Nat.xor_lt_two_pow (n := 32) ha hb
theorem byte_lt (b : UInt8) : b.toNat < 256 := b.toNat_lt
theorem nib_lt {x : Nat} (h : x < 4294967296) : nib x < 4294967296 := xor_lt (by omega) (hv_lt _ (by omega))
theorem crc_lt (l : List UInt8) : crc l < 4294967296 := by unfold crc; omega
theorem run_append (s : Nat) (l m : List UInt8) : run s (l ++ m) = run (run s l) m := List.foldl_append
theorem run_snoc (s : Nat) (l : List UInt8) (b : UInt8) : run s (l ++ [b]) = step (run s l) b := by rw [run_append]; rfl
end Go.Proofs.YtcgkbcgpnlogoaaGreatDoor.Tal

/- The sum of any bytes, walked. -/
namespace Go.Proofs.YtcgkbcgpnlogoaaGreatDoor.Tal
open Go.RowKit

/-- The table of half bytes lies in its block. -/
def Tab (w : World) : Prop := ∀ i, i < 16 → w.cell? ⟨0, i, none⟩ = some (.int .u32 (hv i))

theorem and15 (y : Nat) (hy : y < 4294967296) : ∃ m : Nat, y % 16 = m ∧ m < 16 ∧ bits .and .u32 (y : Int) 15 = (m : Int) :=
 ⟨y % 16, rfl, by omega, by rw [show (15 : Int) = ((15 : Nat) : Int) from rfl, u32_and_nat _ _ hy (by omega), nat_mask4]⟩
theorem nib_walk (y m : Nat) (hy : y < 4294967296) (hm : y % 16 = m) : ∃ z : Nat, z = nib y ∧ z < 4294967296 ∧ bits .xor .u32 ((y : Int) / 16) (hv m : Int) = (z : Int) := by
 refine ⟨nib y, rfl, nib_lt hy, ?_⟩
 rw [show (y : Int) / 16 = ((y / 16 : Nat) : Int) by omega, u32_xor_nat _ _ (by omega) (hv_lt _ (by omega)), ← hm]
 rfl
theorem not_walk (x : Nat) (hx : x < 4294967296) : ∃ z : Nat, z = 4294967295 - x ∧ bits .xor .u32 IntKind.u32.max (x : Int) = (z : Int) := by
 refine ⟨4294967295 - x, rfl, ?_⟩
 rw [show IntKind.u32.max = ((4294967295 : Nat) : Int) from by decide, u32_xor_nat _ _ (by omega) hx]
 congr 1
 have h := BitVec.toNat_not (x := BitVec.ofNat 32 x)
 have h2 : BitVec.toNat (BitVec.allOnes 32 ^^^ BitVec.ofNat 32 x) = 4294967295 ^^^ x := by
  rw [BitVec.toNat_xor, BitVec.toNat_allOnes, BitVec.toNat_ofNat, Nat.mod_eq_of_lt (by omega)]
 rw [BitVec.allOnes_xor, h, BitVec.toNat_ofNat, Nat.mod_eq_of_lt (by omega)] at h2
 omega
theorem take_snoc (s : ByteArray) (k : Nat) (h : k < s.size) : s.data.toList.take (k + 1) = s.data.toList.take k ++ [s[k]] := by
 rw [List.take_succ_eq_append_getElem (by simpa using h)]; rfl

set_option maxHeartbeats 400000 in
theorem of_any (s : ByteArray) (w : World) (hs : s.size ≤ 9223372036854775807) (ht : Tab w) :
  Calls Tryz.prog 252 #[.string s] w fun e w' => e = .returned (.int .u32 (crc s.data.toList)) ∧ w = w' := by
 have HT := Lib.hid ht
 clear ht
 go_enter Tryz.func252, Tryz.ntmps252
 go_wp2
 go_loop [3, 7] (fun v i => ∃ k : Nat, k ≤ s.size ∧ i = .int .i64 k ∧ ∃ x : Nat, x < 4294967296 ∧ v = .int .u32 x ∧ Hid (x = run 4294967295 (s.data.toList.take k))) (fun _ i => s.size - (intOf i).toNat)
 case atStart => exact ⟨0, Nat.zero_le _, rfl, 4294967295, by omega, rfl, Lib.hid rfl⟩
 case round =>
  obtain ⟨k, hk, rfl, x, hx, rfl, hr⟩ := hrel
  by_cases hlt : k < s.size
  ·have hb := byte_lt s[k]
   obtain ⟨y, hy⟩ : ∃ y : Nat, x ^^^ s[k].toNat = y := ⟨_, rfl⟩
   have hy4 : y < 4294967296 := by rw [← hy]; exact xor_lt hx (by omega)
   have e1 : bits .xor .u32 (x : Int) (s[k].toNat : Int) = (y : Int) := by
    rw [u32_xor_nat _ _ hx (by omega), hy]
   have HY := Lib.hid hy
   clear hy
   obtain ⟨m, hm, hm4, e2⟩ := and15 y hy4
   have c1 := HT.out m hm4
   obtain ⟨z, hz, hz4, e3⟩ := nib_walk y m hy4 hm
   obtain ⟨m2, hm2, hm24, e4⟩ := and15 z hz4
   have c2 := HT.out m2 hm24
   obtain ⟨z2, hz2, hz24, e5⟩ := nib_walk z m2 hz4 hm2
   have i1 : (m : Int) < 16 := by omega
   have i2 : (m2 : Int) < 16 := by omega
   have HZ := Lib.hid hz
   have HZ2 := Lib.hid hz2
   clear hm hm2 hz hz2
   go_wp2
   go_round
   case rel => exact ⟨k + 1, by omega, by go_num, z2, hz24, rfl, Lib.hid (by rw [HZ2.out, HZ.out, ← HY.out, hr.out, take_snoc s k hlt, run_snoc]; rfl)⟩
   case measure => simp [intOf]; omega
  ·obtain rfl : k = s.size := by omega
   obtain ⟨z, hz, e1⟩ := not_walk x hx
   have HZ := Lib.hid hz
   clear hz
   go_wp2
   go_ret
   exact ⟨by rw [HZ.out, hr.out, List.take_of_length_le (by simp)]; rfl, rfl⟩
end Go.Proofs.YtcgkbcgpnlogoaaGreatDoor.Tal

/- A sum's bytes, and whether bytes are whole, walked. -/
namespace Go.Proofs.YtcgkbcgpnlogoaaGreatDoor.Tal
open Go.RowKit

/-- A sum in its bytes, the highest first. -/
def prt (x : Nat) : ByteArray := ⟨#[UInt8.ofNat (x / 16777216), UInt8.ofNat (x / 65536), UInt8.ofNat (x / 256), UInt8.ofNat x]⟩
theorem prt_nums (x : Nat) : strOfNums [(x : Int) / 16777216, (x : Int) / 65536 % 256, (x : Int) / 256 % 256, (x : Int) % 256] = prt x := by
 have o : ∀ a b : Nat, a % 256 = b % 256 → UInt8.ofNat a = UInt8.ofNat b := fun a b h => by
  apply UInt8.toNat_inj.1
  simpa using h
 unfold strOfNums prt
 simp only [List.map_cons, List.map_nil]
 rw [o ((x : Int) / 16777216).toNat (x / 16777216) (by omega), o ((x : Int) / 65536 % 256).toNat (x / 65536) (by omega), o ((x : Int) / 256 % 256).toNat (x / 256) (by omega), o ((x : Int) % 256).toNat x (by omega)]
theorem prt_size (x : Nat) : (prt x).size = 4 := rfl

set_option maxHeartbeats 400000 in
theorem printed_any (x : Nat) (w : World) (hx : x < 4294967296) :
  Calls Tryz.prog 251 #[.int .u32 x] w fun e w' => e = .returned (.string (prt x)) ∧ Below w.heap.size w w' := by
 have hcv : (convert 118 9 (.slice (some ⟨w.heap.size, 0, none⟩) 4 4)).run Tryz.prog (w.alloc (.cells #[.int .u8 ((x : Int) / 16777216), .int .u8 ((x : Int) / 65536 % 256), .int .u8 ((x : Int) / 256 % 256), .int .u8 ((x : Int) % 256)] 5)) = .ok (.string (prt x)) (w.alloc (.cells #[.int .u8 ((x : Int) / 16777216), .int .u8 ((x : Int) / 65536 % 256), .int .u8 ((x : Int) / 256 % 256), .int .u8 ((x : Int) % 256)] 5)) := by
  have := run_convert_bytes_arg (P := Tryz.prog) (w.alloc (.cells #[.int .u8 ((x : Int) / 16777216), .int .u8 ((x : Int) / 65536 % 256), .int .u8 ((x : Int) / 256 % 256), .int .u8 ((x : Int) % 256)] 5)) 118 5 Tryz.underlying118 Tryz.underlying5 w.heap.size 0 4 4 [(x : Int) / 16777216, (x : Int) / 65536 % 256, (x : Int) / 256 % 256, (x : Int) % 256] rfl (by
   intro i hi
   match i, hi with
   | 0, _ => simp
   | 1, _ => simp
   | 2, _ => simp
   | 3, _ => simp) 9 Tryz.underlying9
  rw [this, prt_nums x]
 go_enter Tryz.func251, Tryz.ntmps251
 go_wp2
 go_ret
 exact ⟨rfl, (Below.refl _ _).alloc (Nat.le_refl _) _⟩

theorem below_drewN {B : Nat} {a w : World} (h : Below B a w) (n : Nat) : Below B a (w.drewN n) := h.trans ⟨rfl, rfl, rfl, Nat.le_refl _, fun _ _ => rfl⟩
theorem Tab.lt {w : World} (h : Tab w) : 0 < w.heap.size := World.block_lt_of_cell? w _ (h 0 (by omega))
theorem Tab.below {w w' : World} (h : Tab w) (hb : Below w.heap.size w w') : Tab w' := fun i hi => (hb.cell (p := ⟨0, i, none⟩) h.lt).trans (h i hi)

end Go.Proofs.YtcgkbcgpnlogoaaGreatDoor.Tal

/- Bytes sealed: these, noughts, and the sum of both, walked. -/
namespace Go.Proofs.YtcgkbcgpnlogoaaGreatDoor.Tal
open Go.RowKit Go.Shelf

theorem repeatL_one (c : Nat) : Lib.repeatL [0] c = List.replicate c 0 := by
 induction c with
 | zero => rfl
 | succ c ih => simp [Lib.repeatL, ih, List.replicate_succ]

/-- So many noughts. -/
def zeros (n : Nat) : ByteArray := ⟨(List.replicate n 0).toArray⟩
theorem zeros_size (n : Nat) : (zeros n).size = n := by
 show (List.replicate n (0 : UInt8)).toArray.size = _
 rw [List.size_toArray, List.length_replicate]

theorem noughts_any (k : Int) (w : World) (h0 : 0 ≤ k) (h1 : k ≤ 2147483647) :
  Calls Tryz.prog 199 #[.string ⟨#[0]⟩, .int .i64 k] w fun e w' => e = .returned (.string (zeros k.toNat)) ∧ Below w.heap.size w w' := by
 obtain ⟨n, rfl⟩ := Int.eq_ofNat_of_zero_le h0
 refine (Tryz.strings_Repeat ⟨#[0]⟩ n w (by omega) (by show 1 * n ≤ _; omega)).mono ?_
 rintro e w' ⟨rfl, hb⟩
 refine ⟨?_, hb⟩
 have e0 : (ByteArray.mk #[0]).data.toList = [0] := rfl
 rw [e0, repeatL_one, Int.toNat_natCast]
 rfl

/-- Bytes, and noughts up to so many in all. -/
def body (s : ByteArray) (n : Nat) : ByteArray := s ++ zeros (n - s.size)
def sealed (s : ByteArray) (n : Nat) : ByteArray := body s (n - 4) ++ prt (crc (body s (n - 4)).data.toList)
theorem body_size (s : ByteArray) (n : Nat) (h : s.size ≤ n) : (body s n).size = n := by
 unfold body
 rw [ByteArray.size_append, zeros_size]
 omega

set_option maxHeartbeats 400000 in
theorem sealed_any (s : ByteArray) (z : Int) (w : World) (ht : Tab w) (hz : z ≤ 2147483647) (h : (s.size : Int) + 4 ≤ z) :
  Calls Tryz.prog 208 #[.string s, .int .i64 z] w fun e w' => e = .returned (.string (sealed s z.toNat)) ∧ Below w.heap.size w w' := by
 have d1 : decide (z < 4) = false := by simp; omega
 have d2 : decide (2147483647 < z) = false := by simp; omega
 have d3 : decide (z - 4 < (s.size : Int)) = false := by simp; omega
 have HT := Lib.hid ht
 clear ht
 have HB : Hid (body s (z.toNat - 4) = s ++ zeros (z - 4 - (s.size : Int)).toNat) := by
  unfold body
  rw [show z.toNat - 4 - s.size = (z - 4 - (s.size : Int)).toNat by omega]
  exact Lib.hid rfl
 have HS := Lib.hid (body_size s (z.toNat - 4) (by omega))
 go_enter Tryz.func208, Tryz.ntmps208
 go_wp2_with fail
 refine (noughts_any _ _ (by omega) (by omega)).mono ?_
 rintro e w1 ⟨rfl, hb1⟩
 have hl : s.size + (zeros (z - 4 - (s.size : Int)).toNat).size ≤ 2147483647 := by rw [zeros_size]; omega
 generalize hr : zeros (z - 4 - (s.size : Int)).toNat = r at HB hl ⊢
 clear hr
 go_wp2_with fail
 generalize hq : s ++ r = q at HB ⊢
 have hql : q.size ≤ 2147483647 := by rw [← hq, ByteArray.size_append]; exact hl
 clear hq
 refine (of_any q _ (by omega) (HT.out.below hb1)).mono ?_
 rintro e w2 ⟨rfl, rfl⟩
 generalize hc : crc q.data.toList = c
 have HC := Lib.hid hc
 have hcl : c < 4294967296 := by rw [← hc]; exact crc_lt _
 clear hc
 go_wp2_with fail
 refine (printed_any c _ hcl).mono ?_
 rintro e w3 ⟨rfl, hb3⟩
 have hps := prt_size c
 generalize hp : prt c = pc at hps ⊢
 have HP := Lib.hid hp
 clear hp
 have hps2 : pc.size ≤ 4 := by omega
 clear hps
 go_wp2_with fail
 go_ret
 refine ⟨?_, hb1.trans (hb3.mono hb1.size)⟩
 unfold sealed
 rw [HB.out, HC.out, HP.out]
 rfl
end Go.Proofs.YtcgkbcgpnlogoaaGreatDoor.Tal

/- What is sealed, plainly; the document's examples, closed, and walked. -/
namespace Go.Proofs.YtcgkbcgpnlogoaaGreatDoor.Tal
open Go.RowKit Go.Shelf

theorem body_data (s : ByteArray) (n : Nat) : (body s n).data.toList = s.data.toList ++ List.replicate (n - s.size) 0 := by
 unfold body
 rw [ByteArray.data_append, Array.toList_append]
 rfl
theorem sealed_data (s : ByteArray) (n : Nat) : (sealed s n).data.toList = (body s (n - 4)).data.toList ++ (prt (crc (body s (n - 4)).data.toList)).data.toList := by
 unfold sealed
 rw [ByteArray.data_append, Array.toList_append]
theorem sealed_size (s : ByteArray) (n : Nat) (h : s.size + 4 ≤ n) : (sealed s n).size = n := by
 unfold sealed
 rw [ByteArray.size_append, body_size _ _ (by omega), prt_size]
 omega
def s9 : ByteArray := ⟨#[49, 50, 51, 52, 53, 54, 55, 56, 57]⟩
end Go.Proofs.YtcgkbcgpnlogoaaGreatDoor.Tal

/- Bytes of which up to four side by side are others: plainly, and in memory. -/
namespace Go.Proofs.YtcgkbcgpnlogoaaGreatDoor.Tal
open Go.RowKit Go.Shelf

/-- Bytes, of which so many behind the k-th are others. -/
def cur (S E : Nat → UInt8) (k q j : Nat) : UInt8 := if k ≤ j ∧ j < k + q then S j ^^^ E (j - k) else S j
theorem add_zero_off (b j : Nat) : (⟨b, 0, none⟩ : Addr).add j = ⟨b, j, none⟩ := by unfold Addr.add; split <;> simp_all
end Go.Proofs.YtcgkbcgpnlogoaaGreatDoor.Tal

/- A page's sector, plainly. -/
namespace Go.Proofs.YtcgkbcgpnlogoaaGreatDoor.Lf
open Tal
/-- What a page's sector begins with. -/
def hd (no : Nat) : ByteArray := ⟨#[80, 65, 71, 69]⟩ ++ prt no
theorem hd_size (no : Nat) : (hd no).size = 8 := by
 unfold hd; rw [ByteArray.size_append, prt_size]; rfl
/-- A page's sector. -/
def leafB (no : Nat) (d : ByteArray) : ByteArray := sealed (hd no ++ d) 256
/-- The page of a sector. -/
def parseL (s : ByteArray) (no : Nat) : Option ByteArray := if s.size = 256 ∧ s = leafB no (s.extract 8 208) then some (s.extract 8 208) else none
/-- All that the sum is of. -/
def bodyL (no : Nat) (d : ByteArray) : List UInt8 := (hd no).data.toList ++ d.data.toList ++ List.replicate 44 0
section
variable {no n2 : Nat} {d d2 s : ByteArray}
theorem both_size (h : d.size = 200) : (hd no ++ d).size = 208 := by rw [ByteArray.size_append, hd_size, h]
theorem leafB_size (h : d.size = 200) : (leafB no d).size = 256 := sealed_size _ _ (by rw [both_size h]; decide)
theorem hdl (no : Nat) : (hd no).data.toList.length = 8 := by have := hd_size no; simpa using this
theorem dl (h : d.size = 200) : d.data.toList.length = 200 := by simpa using h
theorem bodyL_len (h : d.size = 200) : (bodyL no d).length = 252 := by
 unfold bodyL
 rw [List.length_append, List.length_append, hdl, dl h, List.length_replicate]
theorem leafB_data (h : d.size = 200) : (leafB no d).data.toList = bodyL no d ++ (prt (crc (bodyL no d))).data.toList := by
 have e : (body (hd no ++ d) (256 - 4)).data.toList = bodyL no d := by
  rw [body_data, both_size h, ByteArray.data_append]
  simp [bodyL]
 unfold leafB
 rw [sealed_data, e]
theorem page_at (h : d.size = 200) : ((leafB no d).data.toList.take 208).drop 8 = d.data.toList := by
 rw [leafB_data h, List.take_append_of_le_length (by rw [bodyL_len h]; decide)]
 unfold bodyL
 rw [List.take_append_of_le_length (by rw [List.length_append, hdl, dl h]; decide), List.take_of_length_le (by rw [List.length_append, hdl, dl h]; decide), List.drop_left' (hdl no)]
theorem leafB_page (h : d.size = 200) : (leafB no d).extract 8 208 = d := by
 apply ByteArray.ext
 apply Array.toList_inj.1
 have := page_at (no := no) h
 rw [List.drop_take] at this
 simpa [ByteArray.data_extract, Array.toList_extract, List.extract] using this
theorem parse_iff : parseL s no = some d ↔ d.size = 200 ∧ s = leafB no d := by
 unfold parseL
 constructor
 ·intro h
  split at h
  ·rename_i hc
   injection h with h
   subst h
   exact ⟨by rw [ByteArray.size_extract]; omega, hc.2⟩
  ·cases h
 ·rintro ⟨h, rfl⟩
  rw [leafB_page h, if_pos ⟨leafB_size h, rfl⟩]
theorem parse_own (h : d.size = 200) : parseL (leafB no d) no = some d := parse_iff.2 ⟨h, rfl⟩
/-- Noughts are no page. -/
theorem parse_noughts (h : s.size = 256) (h0 : s.data.toList.take 1 = [0]) : parseL s no = none := by
 cases hp : parseL s no with
 | none => rfl
 | some d2 =>
  obtain ⟨h2, e2⟩ := parse_iff.1 hp
  rw [e2, leafB_data h2, List.take_append_of_le_length (by rw [bodyL_len h2]; decide)] at h0
  unfold bodyL at h0
  rw [List.append_assoc, List.take_append_of_le_length (by rw [hdl]; decide)] at h0
  unfold hd at h0
  rw [ByteArray.data_append, Array.toList_append, List.take_append_of_le_length (by decide)] at h0
  cases h0
end
end Go.Proofs.YtcgkbcgpnlogoaaGreatDoor.Lf
