/- Texts PacA, PacB, PacC, PacD, PacE, PacF, PacG, PacH, PacK, PacL, PacW, one behind the other. -/
import Derived.Laws.BitsAllLaws
import Derived.Test.YtocmkjccaajnnaaProg
import Derived.WalkKit
import Derived.WalkSpells
import Derived.WalkLawsBesides
import Derived.Lib.Hide
import Derived.IntWalk
import Derived.Deep.DeepCutAuto
import Derived.Deep.DeepFit
import Derived.Deep.CutBlock
import Derived.Deep.QuietTactic
import Derived.BigQuiet
import Derived.Outline
import Derived.WalkSmall
import Derived.Laws.BytesArg
import Derived.OwnWalk
import Derived.Deep.RegionWith
import Derived.Deep.RegionHeld3
import Derived.Lib.Strings
import Derived.Deep.MidRow
import Derived.OrdersHeld
/- Numbers by seven bits in each byte, plainly: written, read, one form each. No program. -/
namespace Go.Proofs.Ytocmkjccaajnnaa.Pac

/-- The number of a number: 0, -1, 1, -2, 2 .. are 0, 1, 2, 3, 4 .. -/
def zig (n : Int) : Nat := if 0 ≤ n then (2 * n).toNat else (-2 * n - 1).toNat
def unzig (u : Nat) : Int := if u % 2 = 0 then (u / 2 : Nat) else -((u / 2 : Nat) : Int) - 1
theorem unzig_zig (n : Int) : unzig (zig n) = n := by
  unfold zig unzig
  split <;> split <;> omega
theorem zig_lt (n : Int) (h0 : -9223372036854775808 ≤ n) (h1 : n ≤ 9223372036854775807) : zig n < 18446744073709551616 := by
  unfold zig
  split <;> omega
def encF : Nat → Nat → List UInt8
  | 0, _ => []
  | f + 1, u => if u < 128 then [UInt8.ofNat u] else UInt8.ofNat (u % 128 + 128) :: encF f (u / 128)
def decF : Nat → List UInt8 → Option (Nat × List UInt8)
  | 0, _ => none
  | _ + 1, [] => none
  | f + 1, b :: r => if b.toNat < 128 then some (b.toNat, r) else
      match decF f r with
      | none => none
      | some (v, r') => if v = 0 then none else some (b.toNat - 128 + 128 * v, r')
/-- The bytes of a number below 2^64. -/
def enc (u : Nat) : List UInt8 := encF 10 u
theorem encF_pos (f u : Nat) : 1 ≤ (encF (f + 1) u).length := by
  simp only [encF]
  split <;> simp
theorem encF_len (f u : Nat) : (encF f u).length ≤ f := by
  induction f generalizing u with
  | zero => simp [encF]
  | succ f ih =>
    simp only [encF]
    split
    · simp
    · have := ih (u / 128)
      simp; omega
theorem ofNat_toNat (n : Nat) (h : n < 256) : (UInt8.ofNat n).toNat = n := by simp; omega
theorem dec_enc (f u : Nat) (r : List UInt8) (h : u < 128 ^ f) (hf : 1 ≤ f) : decF f (encF f u ++ r) = some (u, r) := by
  induction f generalizing u with
  | zero => omega
  | succ f ih =>
    simp only [encF]
    split
    · rename_i hu
      simp only [List.cons_append, List.nil_append, decF]
      rw [ofNat_toNat u (by omega), if_pos hu]
    · rename_i hu
      have hf1 : 1 ≤ f := by
        rcases Nat.eq_zero_or_pos f with h0 | h0
        · subst h0; simp at h; omega
        · exact h0
      have hlt : u / 128 < 128 ^ f := by
        rw [Nat.pow_succ] at h
        exact Nat.div_lt_of_lt_mul (by omega)
      simp only [List.cons_append, decF]
      rw [ofNat_toNat (u % 128 + 128) (by omega), if_neg (by omega), ih (u / 128) hlt hf1]
      simp only
      rw [if_neg (by omega)]
      congr 2
      omega
theorem lt_pow10 {u : Nat} (h : u < 18446744073709551616) : u < 128 ^ 10 := by
  have : (128 : Nat) ^ 10 = 1180591620717411303424 := by decide
  omega
end Go.Proofs.Ytocmkjccaajnnaa.Pac

/- Folded and unfolded numbers, walked; what the walks ask of bits. -/
namespace Go.Proofs.Ytocmkjccaajnnaa.Pac
open Go.RowKit

theorem wrapU (x : Int) : IntKind.u64.wrap x = x % 18446744073709551616 := by simp [IntKind.wrap, IntKind.bits, IntKind.signed]
end Go.Proofs.Ytocmkjccaajnnaa.Pac

/- A number's bytes, walked. -/
namespace Go.Proofs.Ytocmkjccaajnnaa.Pac
open Go.RowKit

def encB (u : Nat) : ByteArray := ⟨(enc u).toArray⟩
end Go.Proofs.Ytocmkjccaajnnaa.Pac

/- The number that bytes begin with, plainly. No program. -/
namespace Go.Proofs.Ytocmkjccaajnnaa.Pac
open Go.RowKit

/-- The number that bytes begin with, and what stands behind. -/
def rdN (l : List UInt8) : Option (Nat × List UInt8) :=
  match decF 10 l with
  | some (u, r) => if u < 18446744073709551616 then some (u, r) else none
  | none => none
theorem rdN_enc (u : Nat) (r : List UInt8) (hu : u < 18446744073709551616) : rdN (enc u ++ r) = some (u, r) := by
  unfold rdN enc
  rw [dec_enc 10 u r (lt_pow10 hu) (by omega)]
  simp [hu]
end Go.Proofs.Ytocmkjccaajnnaa.Pac

/- The number that bytes begin with, walked. -/
namespace Go.Proofs.Ytocmkjccaajnnaa.Pac
open Go.RowKit

def rdB (s : ByteArray) : Int × Nat :=
  match rdN s.data.toList with
  | some (u, r) => (unzig u, s.size - r.length)
  | none => (0, 0)

end Go.Proofs.Ytocmkjccaajnnaa.Pac

/- Boxes in memory; what reading does to one, plainly; a Box's Num, walked. -/
namespace Go.Proofs.Ytocmkjccaajnnaa.Pac
open Go.RowKit

/-- A variable of two cells. -/
structure Box2 (w : World) (g : Nat) (v0 v1 : Value) : Prop where
  c0 : w.cell? ⟨g, 0, none⟩ = some v0
  c1 : w.cell? ⟨g, 1, none⟩ = some v1
  f : ∀ i, w.frozen? ⟨g, i, none⟩ = false
/-- All blocks that were there, but one, are as they were. -/
structure Bar (g : Nat) (w w' : World) : Prop where
  os : w'.os = w.os
  tape : w'.tape = w.tape
  output : w'.output = w.output
  size : w.heap.size ≤ w'.heap.size
  block : ∀ k, k < w.heap.size → k ≠ g → w'.heap[k]? = w.heap[k]?
theorem Bar.refl (g : Nat) (w : World) : Bar g w w := ⟨rfl, rfl, rfl, Nat.le_refl _, fun _ _ _ => rfl⟩
theorem Bar.trans {g : Nat} {a b c : World} (h : Bar g a b) (k : Bar g b c) : Bar g a c :=
  ⟨k.os.trans h.os, k.tape.trans h.tape, k.output.trans h.output, Nat.le_trans h.size k.size, fun j hj hne => (k.block j (Nat.lt_of_lt_of_le hj h.size) hne).trans (h.block j hj hne)⟩
theorem Bar.setCell {g : Nat} {a w : World} (h : Bar g a w) (i : Nat) (u : Value) : Bar g a (w.setCell ⟨g, i, none⟩ u) :=
  ⟨h.os, h.tape, h.output, by simpa using h.size, fun k hk hne => (Below.heap_setCell w ⟨g, i, none⟩ u k hne).trans (h.block k hk hne)⟩
theorem Bar.drew {g : Nat} {a w : World} (h : Bar g a w) : Bar g a w.drew := ⟨h.os, h.tape, h.output, h.size, h.block⟩
theorem Bar.of_below (g : Nat) {B : Nat} {w w' : World} (h : Below B w w') (hB : w.heap.size ≤ B) : Bar g w w' :=
  ⟨h.os, h.tape, h.output, h.size, fun k hk _ => h.block k (Nat.lt_of_lt_of_le hk hB)⟩
theorem Bar.below {g B : Nat} {w w' : World} (h : Bar g w w') (hB : B ≤ g) (hw : B ≤ w.heap.size) : Below B w w' :=
  ⟨h.os, h.tape, h.output, h.size, fun k hk => h.block k (Nat.lt_of_lt_of_le hk hw) (by omega)⟩
theorem Bar.cell {g : Nat} {w w' : World} (h : Bar g w w') {p : Addr} (hlt : p.block < w.heap.size) (hp : p.block ≠ g) : w'.cell? p = w.cell? p := World.cell?_of_block (w := w) (h.block p.block hlt hp)
theorem Bar.frozen {g : Nat} {w w' : World} (h : Bar g w w') {p : Addr} (hlt : p.block < w.heap.size) (hp : p.block ≠ g) : w'.frozen? p = w.frozen? p := World.frozen?_of_block (w := w) (h.block p.block hlt hp)
theorem Box2.lt {w : World} {g : Nat} {v0 v1 : Value} (h : Box2 w g v0 v1) : g < w.heap.size := World.block_lt_of_cell? w _ h.c0
theorem Box2.bar {g g' : Nat} {w w' : World} {v0 v1 : Value} (h : Box2 w g v0 v1) (hb : Bar g' w w') (hne : g ≠ g') : Box2 w' g v0 v1 :=
  ⟨(hb.cell h.lt hne).trans h.c0, (hb.cell h.lt hne).trans h.c1, fun i => (hb.frozen h.lt hne).trans (h.f i)⟩
theorem Box2.below {g B : Nat} {w w' : World} {v0 v1 : Value} (h : Box2 w g v0 v1) (hb : Below B w w') (hB : g < B) : Box2 w' g v0 v1 :=
  ⟨(hb.cell (p := ⟨g, 0, none⟩) hB).trans h.c0, (hb.cell (p := ⟨g, 1, none⟩) hB).trans h.c1, fun i => (hb.frozen (p := ⟨g, i, none⟩) hB).trans (h.f i)⟩
theorem Box2.new (w : World) (v0 v1 : Value) (t : TypeId) : Box2 (w.alloc (.cells #[v0, v1] t)) w.heap.size v0 v1 := by
  constructor <;> simp [go_sem]
theorem Box2.alloc {g : Nat} {w : World} {v0 v1 : Value} (h : Box2 w g v0 v1) (o : Obj) : Box2 (w.alloc o) g v0 v1 :=
  h.below ((Below.refl (g + 1) w).alloc h.lt o) (by omega)
theorem Box2.drew {g : Nat} {w : World} {v0 v1 : Value} (h : Box2 w g v0 v1) : Box2 w.drew g v0 v1 := h.below ((Below.refl (g + 1) w).drew) (by omega)
theorem Box2.set0 {g : Nat} {w : World} {v0 v1 : Value} (h : Box2 w g v0 v1) (u : Value) : Box2 (w.setCell ⟨g, 0, none⟩ u) g u v1 :=
  ⟨World.cell?_setCell_same _ _ _ h.c0, (World.cell?_setCell_other w _ _ u (fun e => by injection e with e1 e2; exact absurd e2 (by decide))).trans h.c1, fun i => by simp [h.f]⟩
theorem Box2.set1 {g : Nat} {w : World} {v0 v1 : Value} (h : Box2 w g v0 v1) (u : Value) : Box2 (w.setCell ⟨g, 1, none⟩ u) g v0 u :=
  ⟨(World.cell?_setCell_other w _ _ u (fun e => by injection e with e1 e2; exact absurd e2 (by decide))).trans h.c0, World.cell?_setCell_same _ _ _ h.c1, fun i => by simp [h.f]⟩

/-- Box g holds the bytes s, and is bad or not. -/
abbrev IsBox (w : World) (g : Nat) (s : ByteArray) (bad : Bool) : Prop := Box2 w g (.string s) (.bool bad)

def numR (s : ByteArray) (bad : Bool) : Int := if bad then 0 else (rdB s).1
def numS (s : ByteArray) (bad : Bool) : ByteArray := if bad then s else s.extract (rdB s).2 s.size
def numBad (s : ByteArray) (bad : Bool) : Bool := if bad then true else (((rdB s).2 : Int) == 0)

def btwBad (s : ByteArray) (bad : Bool) (lo hi : Int) : Bool := numBad s bad || decide (numR s bad < lo) || decide (hi < numR s bad)
def btwR (s : ByteArray) (bad : Bool) (lo hi : Int) : Int := if btwBad s bad lo hi then 0 else numR s bad
def doneB (s : ByteArray) (bad : Bool) : Bool := if bad then false else s.toList.isEmpty
end Go.Proofs.Ytocmkjccaajnnaa.Pac

/- A Box's Text; a text's bytes; walked. -/
namespace Go.Proofs.Ytocmkjccaajnnaa.Pac
open Go.RowKit

theorem encB_size (u : Nat) : 1 ≤ (encB u).size ∧ (encB u).size ≤ 10 := by
  unfold encB
  show 1 ≤ (enc u).toArray.size ∧ (enc u).toArray.size ≤ 10
  rw [List.size_toArray]
  exact ⟨encF_pos 9 u, encF_len 10 u⟩

def txtBad (s : ByteArray) (bad : Bool) (most : Int) : Bool := btwBad s bad 0 most || decide (((numS s bad).size : Int) < btwR s bad 0 most)
def txtR (s : ByteArray) (bad : Bool) (most : Int) : ByteArray := if txtBad s bad most then ⟨#[]⟩ else (numS s bad).extract 0 (btwR s bad 0 most).toNat
def txtS (s : ByteArray) (bad : Bool) (most : Int) : ByteArray := if txtBad s bad most then numS s bad else (numS s bad).extract (btwR s bad 0 most).toNat (numS s bad).size
/-- A text's bytes. -/
def txtB (s : ByteArray) : ByteArray := encB (zig s.size) ++ s
end Go.Proofs.Ytocmkjccaajnnaa.Pac

/- The document's own Box and Text, walked. -/
namespace Go.Proofs.Ytocmkjccaajnnaa.Pac
open Go.RowKit

theorem bytesEq {a b : ByteArray} (h : a.data.toList = b.data.toList) : a = b := ByteArray.ext (Array.toList_inj.1 h)
end Go.Proofs.Ytocmkjccaajnnaa.Pac

/- Numbers and texts, there and back, plainly. -/
namespace Go.Proofs.Ytocmkjccaajnnaa.Pac
open Go.RowKit

theorem bytesEq' {a b : ByteArray} (h : a.data.toList = b.data.toList) : a = b := ByteArray.ext (Array.toList_inj.1 h)
theorem encB_list (u : Nat) : (encB u).data.toList = enc u := by simp [encB]
theorem app_list (a b : ByteArray) : (a ++ b).data.toList = a.data.toList ++ b.data.toList := by rw [ByteArray.data_append, Array.toList_append]
theorem len_list (a : ByteArray) : a.data.toList.length = a.size := Array.length_toList
theorem app_assoc (a b c : ByteArray) : a ++ b ++ c = a ++ (b ++ c) := bytesEq' (by rw [app_list, app_list, app_list, app_list, List.append_assoc])
theorem drop_app (a b : ByteArray) : (a ++ b).extract a.size (a ++ b).size = b := by
  apply bytesEq'
  rw [← ByteArray.toList_eq, Lib.extract_toList, app_list, List.drop_left' (len_list a), ByteArray.size_append]
  exact List.take_of_length_le (by rw [len_list]; omega)
theorem take_app (a b : ByteArray) : (a ++ b).extract 0 a.size = a := by
  apply bytesEq'
  rw [← ByteArray.toList_eq, Lib.extract_toList, app_list, List.drop_zero, Nat.sub_zero, List.take_left' (len_list a)]
theorem rdB_enc (u : Nat) (r : ByteArray) (hu : u < 18446744073709551616) : rdB (encB u ++ r) = (unzig u, (encB u).size) := by
  unfold rdB
  rw [app_list, encB_list, rdN_enc u _ hu]
  simp only [len_list, ByteArray.size_append]
  rw [Nat.add_sub_cancel]
theorem num_enc (n : Int) (r : ByteArray) (h0 : -9223372036854775808 ≤ n) (h1 : n ≤ 9223372036854775807) :
    numR (encB (zig n) ++ r) false = n ∧ numS (encB (zig n) ++ r) false = r ∧ numBad (encB (zig n) ++ r) false = false := by
  have h := rdB_enc (zig n) r (zig_lt n h0 h1)
  have hz := (encB_size (zig n)).1
  unfold numR numS numBad
  simp only [Bool.false_eq_true, if_false]
  rw [h]
  refine ⟨unzig_zig n, drop_app _ _, ?_⟩
  exact beq_eq_false_iff_ne.2 (by simp only; omega)
theorem text_enc (s r : ByteArray) (most : Int) (hs : s.size ≤ 2147483647) (hm : (s.size : Int) ≤ most) :
    txtR (txtB s ++ r) false most = s ∧ txtS (txtB s ++ r) false most = r ∧ txtBad (txtB s ++ r) false most = false := by
  have e : txtB s ++ r = encB (zig (s.size : Int)) ++ (s ++ r) := app_assoc _ _ _
  obtain ⟨h1, h2, h3⟩ := num_enc (s.size : Int) (s ++ r) (by omega) (by omega)
  have hb : btwBad (txtB s ++ r) false 0 most = false := by
    unfold btwBad
    rw [e, h1, h3]
    simp
    omega
  have hr : btwR (txtB s ++ r) false 0 most = (s.size : Int) := by
    unfold btwR
    rw [hb, e, h1]
    rfl
  have ht : txtBad (txtB s ++ r) false most = false := by
    unfold txtBad
    rw [hb, hr, e, h2, ByteArray.size_append]
    simp
    omega
  unfold txtR txtS
  rw [ht, hr, e, h2]
  exact ⟨by simpa using take_app s r, by simpa using drop_app s r, rfl⟩
end Go.Proofs.Ytocmkjccaajnnaa.Pac

/- What is read is written just so, plainly. -/
namespace Go.Proofs.Ytocmkjccaajnnaa.Pac
open Go.RowKit

end Go.Proofs.Ytocmkjccaajnnaa.Pac

/- A region that draws its order, with calls that write: walked once, in the order of the text, if each operation that is no call yields its value in every world that meets what is held then. No program. -/
namespace Go.Proofs.Ytocmkjccaajnnaa.Lex
open Go

/-- In this order: each may come up, apart from all that is left; a call comes up alone. -/
def lexH (ops : Array Oper) (calls : List Nat) : List Nat → Array Bool → Bool
  | [], listed => Region.ready .any ops listed == []
  | k :: l, listed => (if calls.contains k then Region.ready .any ops listed == [k] else (Region.free .any ops listed k && (Region.ready .any ops listed).contains k)) && lexH ops calls l (listed.setIfInBounds k true)

def walkH (P : Program) (ops : Array Oper) (Q : Exit → Act → World → Prop) (calls : List Nat) : List Nat → (World → Prop) → Act → World → Prop
  | [], _, a, w => Q .normal a w
  | k :: l, S, a, w => ∀ o, ops[k]? = some o →
      if calls.contains k = true then
        (if Region.wanted o (yielded ops a.tmps) = true then Oper.wp P o a w (fun a' w' => ∃ S' : World → Prop, (∀ w, S' w → S w) ∧ S' w' ∧ walkH P ops Q calls l S' a' w') Q
         else walkH P ops Q calls l S (a.put o.dst undef) w)
      else ∃ v, YieldsIf P ops S o v a ∧ walkH P ops Q calls l S (a.put o.dst v) w

section
variable {P : Program} {ops : Array Oper} {Q : Exit → Act → World → Prop} {calls : List Nat}

theorem turn {md : Region.Mode} {S S' : World → Prop} (h : ∀ w, S' w → S w) : ∀ (n : Nat) (listed : Array Bool) (a : Act) (w : World), wpAnyH P md ops Q S' n listed a w → wpAnyH P md ops Q S n listed a w
  | 0, _, _, _, k => k
  | n + 1, _, _, _, k => ⟨k.1, fun i hi => wpOp_mono (fun a' w' k' => ⟨h _ k'.1, turn h n _ a' w' k'.2⟩) (k.2 i hi)⟩

theorem of_walk (hs : Region.noSelect ops = true) (hQ : ∀ c a d v w, Q (.panic c) (a.put d v) w → Q (.panic c) a w) :
    ∀ (l : List Nat) (S : World → Prop) (listed : Array Bool) (a : Act) (w : World), (∀ k ∈ l, k < ops.size) → lexH ops calls l listed = true → S w → walkH P ops Q calls l S a w → wpAnyH P .any ops Q S l.length listed a w
  | [], S, listed, a, w, _, hL, _, h => by
    simp only [lexH, beq_iff_eq] at hL
    exact ⟨hL, h⟩
  | k :: l, S, listed, a, w, hk, hL, hS, h => by
    have hlt : k < ops.size := hk k (by simp)
    have hk' : ∀ j ∈ l, j < ops.size := fun j hj => hk j (by simp [hj])
    have ho : ops[k]? = some ops[k] := Array.getElem?_eq_getElem hlt
    have h' := h _ ho
    simp only [lexH, Bool.and_eq_true] at hL
    obtain ⟨h1, h2⟩ := hL
    cases hc : calls.contains k with
    | true =>
      rw [hc, if_pos rfl] at h1
      rw [if_pos hc] at h'
      have hr : Region.ready .any ops listed = [k] := by simpa using h1
      refine wpAnyH_all hr (by simp) fun i hi => ?_
      obtain rfl : i = k := by simpa using hi
      unfold wpOp
      rw [ho]
      show if Region.wanted ops[i] (yielded ops a.tmps) = true then _ else _
      by_cases hw : Region.wanted ops[i] (yielded ops a.tmps) = true
      · rw [if_pos hw] at h' ⊢
        refine Or.inl (Oper.wp_mono (fun a' w' hh => ?_) h')
        obtain ⟨S', hSS, hS', hh⟩ := hh
        exact ⟨hSS _ hS', turn hSS _ _ _ _ (of_walk hs hQ l S' _ a' w' hk' h2 hS' hh)⟩
      · rw [if_neg hw] at h' ⊢
        exact ⟨hS, of_walk hs hQ l S _ _ w hk' h2 hS h'⟩
    | false =>
      rw [hc, if_neg (by simp), Bool.and_eq_true] at h1
      rw [if_neg (by rw [hc]; simp)] at h'
      obtain ⟨v, hy, hh⟩ := h'
      exact wpAnyH_take ho hs h1.1 h1.2 (fun c a w => hQ c a _ _ w) hy hS (of_walk hs hQ l S _ _ w hk' h2 hS hh)

theorem region_lex {id : Nat} {l : Array Oper} {a : Act} {w : World} (ord : List Nat) (S : World → Prop) (he : l = ops) (hm : P.follows .mixedOrders = true) (hs : Region.noSelect ops = true)
    (hn : ord.length = ops.size) (hk : ord.all (fun k => decide (k < ops.size)) = true) (hL : lexH ops calls ord (Array.replicate ops.size false) = true) (hS : S w.drew) (h : walkH P ops (NoPanic Q) calls ord S a w.drew) : (Code.region id l true).wp P Q a w := by
  subst he
  refine wp_region_noPanic (wp_region_held_drew (S := S) hm hS fun _ => ?_)
  rw [← hn]
  exact of_walk hs (fun _ _ _ _ _ h => h) ord S _ a _ (fun k h => by simpa using List.all_eq_true.1 hk k h) (by rw [hn]; exact hL) hS h

variable {l : List Nat} {k : Nat} {S : World → Prop} {o : Oper} {a : Act} {w : World}
theorem step_take (v : Value) (ho : ops[k]? = some o) (hc : calls.contains k = false) (hw : Region.wanted o (yielded ops a.tmps) = true)
    (hv : ∀ w, S w → (execOp a.eval o).run P w = .ok (.value v) w) (h : walkH P ops Q calls l S (a.put o.dst v) w) : walkH P ops Q calls (k :: l) S a w := by
  intro o' ho'
  obtain rfl : o' = o := Option.some.inj (ho'.symm.trans ho)
  rw [if_neg (by rw [hc]; simp)]
  exact ⟨v, Or.inl ⟨hw, hv⟩, h⟩
theorem step_skip (ho : ops[k]? = some o) (hw : Region.wanted o (yielded ops a.tmps) = false)
    (h : walkH P ops Q calls l S (a.put o.dst undef) w) : walkH P ops Q calls (k :: l) S a w := by
  intro o' ho'
  obtain rfl : o' = o := Option.some.inj (ho'.symm.trans ho)
  by_cases hc : calls.contains k = true
  · rw [if_pos hc, if_neg (by rw [hw]; simp)]
    exact h
  · rw [if_neg hc]
    exact ⟨undef, Or.inr ⟨hw, rfl⟩, h⟩
theorem step_call (ho : ops[k]? = some o) (hc : calls.contains k = true) (hw : Region.wanted o (yielded ops a.tmps) = true)
    (h : ∀ K : Act → World → Prop, Shut (∀ (S' : World → Prop) a' w', (∀ w, S' w → S w) → S' w' → walkH P ops Q calls l S' a' w' → K a' w') → Oper.wp P o a w K Q) : walkH P ops Q calls (k :: l) S a w := by
  intro o' ho'
  obtain rfl : o' = o := Option.some.inj (ho'.symm.trans ho)
  rw [if_pos hc, if_pos hw]
  exact h _ fun S' a' w' h1 h2 h3 => ⟨S', h1, h2, h3⟩
theorem want_none {y : Nat → Option Bool} (h : o.guard = none) : Region.wanted o y = true := by
  unfold Region.wanted
  rw [h]
theorem want_some {g d : Nat} {b b' : Bool} {og : Oper} (h : o.guard = some (g, b)) (hg : ops[g]? = some og) (hd : og.dst = some d) (ha : a.tmps[d]? = some (.bool b')) {r : Bool} (hr : (b' == b) = r) : Region.wanted o (yielded ops a.tmps) = r := by
  subst hr
  unfold Region.wanted yielded
  rw [h]
  simp only [hg, Option.bind_some, hd, ha]
  rfl
end
end Go.Proofs.Ytocmkjccaajnnaa.Lex
