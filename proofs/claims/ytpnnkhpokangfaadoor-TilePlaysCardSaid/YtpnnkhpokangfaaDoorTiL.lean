/- The document's examples of layer 10: what they are, plainly; lists that are carried over a variable's making. -/
import Derived.Test.YtpnnkhpokangfaaDoorTiF
import Derived.Test.YtpnnkhpokangfaaDoorMgW
import Derived.Test.YtpnnkhpokangfaaDoorLeB
namespace Go.Proofs.YtpnnkhpokangfaaDoor.Ti
open Go.RowKit Pac Va Sc Mi Sp Lex

section
variable {cs : List C} {w w' : World} {X Y : Nat → Prop} {t : TV} {r : R} {B g : Nat}
theorem HasT.off (h : HasT cs w X t r) (hg : w.heap.size = g) : HasT cs w (fun b => b ≠ g) t r := (h.old (Y := fun b => b ≠ g) (fun b hb => by omega)).mono (fun _ h => h.2)
theorem HasT.put (h : HasT cs w (fun b => b ≠ g) t r) (hb : Bar g w w') : HasT cs w' (fun _ => True) t r := (h.bar hb (fun h => h rfl)).mono (fun _ _ => trivial)
theorem HasSp.off {A : Option Addr} {l : List (List Int)} (h : HasSp w X A l) (hg : w.heap.size = g) : HasSp w (fun b => b ≠ g) A l := (h.old (Y := fun b => b ≠ g) (fun b hb => by omega)).mono (fun _ h => h.2)
theorem HasSp.put {A : Option Addr} {l : List (List Int)} (h : HasSp w (fun b => b ≠ g) A l) (hb : Bar g w w') : HasSp w' (fun _ => True) A l := (h.bar hb (fun h => h rfl)).mono (fun _ _ => trivial)
end
/-- The slice at A holds these, within X. -/
def HasLx {α : Type} (R : α → List Value) (k : Nat) (w : World) (X : Nat → Prop) (A : Option Addr) (l : List α) : Prop := Li.HasL R k w 0 A l ∧ On X A l
section
variable {α : Type} {R : α → List Value} {k : Nat} {w w' : World} {X Y : Nat → Prop} {A : Option Addr} {l : List α} {B g lo : Nat}
theorem HasLx.below (h : HasLx R k w X A l) (hb : Below B w w') (hB : w.heap.size ≤ B) : HasLx R k w' X A l := ⟨h.1.below hb hB, h.2⟩
theorem HasLx.off (h : HasLx R k w X A l) (hg : w.heap.size = g) : HasLx R k w (fun b => b ≠ g) A l := ⟨h.1, on_of h.1 fun b _ hb => by omega⟩
theorem HasLx.put (h : HasLx R k w (fun b => b ≠ g) A l) (hb : Bar g w w') : HasLx R k w' (fun _ => True) A l := ⟨lbar h.1 h.2 hb (fun h => h rfl), fun _ _ _ _ _ => trivial⟩
theorem HasLx.of (h : Li.HasL R k w lo A l) (hX : ∀ b, lo ≤ b → X b) : HasLx R k w X A l := ⟨h.lower (Nat.zero_le _), on_of h fun b hb _ => hX b hb⟩
end
abbrev HasVx (w : World) (X : Nat → Prop) (A : Option Addr) (l : List V) : Prop := HasLx Ro.cellsV 3 w X A l
abbrev HasIx (w : World) (X : Nat → Prop) (A : Option Addr) (l : List Int) : Prop := HasLx Sp.cellsI 1 w X A l
theorem int_lit (w : World) {a : List Int} {ca : Array Value} (ha : ca.toList = Li.cellsL Sp.cellsI a) : HasI (w.alloc (.cells ca 3)) w.heap.size (some ⟨w.heap.size, 0, none⟩) a := Li.list_of_block Sp.cellsI_len (heap_alloc_new w (.cells ca 3)) ha
theorem val_lit (w : World) {a : List V} {ca : Array Value} (ha : ca.toList = Li.cellsL Ro.cellsV a) : Ro.HasV (w.alloc (.cells ca 37)) w.heap.size (some ⟨w.heap.size, 0, none⟩) a := Li.list_of_block Ro.cellsV_len (heap_alloc_new w (.cells ca 37)) ha
theorem sp_one {w : World} {X : Nat → Prop} {A1 : Option Addr} {a : List Int} {n : Nat} (h1 : HasIx w X A1 a) (hn : a.length = n) (hX : X w.heap.size) :
  HasSp (w.alloc (.cells #[.slice A1 n n] 67)) X (some ⟨w.heap.size, 0, none⟩) [a] := by
 subst hn
 have hb := (Below.refl w.heap.size w).alloc (Nat.le_refl _) (.cells #[.slice A1 a.length a.length] 67)
 have hl := Li.list_of_block (l := [(⟨A1, a.length, a⟩ : G)]) Sp.cellsG_len (heap_alloc_new w (.cells #[.slice A1 a.length a.length] 67)) rfl
 refine ⟨[⟨A1, a.length, a⟩], rfl, hl.lower (Nat.zero_le _), fun _ c o s e => ?_, fun x hx => ?_⟩
 ·injection e with e
  injection e with e1
  subst e1
  exact hX
 ·rw [List.mem_singleton] at hx
  subst hx
  exact ⟨(h1.below hb (Nat.le_refl _)).1, Nat.le_refl _, h1.2⟩
def SomePost (w : World) (e : Ending) (w' : World) : Prop :=
 ∃ A, e = .returned (.agg #[.string nmT, .slice A 2 2]) ∧ HasSch w' A 2 2 nmT [cId, cX] ∧ Below w.heap.size w w'
theorem some_right : rightS nmT [cId, cX] = true := by decide +kernel
set_option maxRecDepth 20000 in
set_option maxHeartbeats 2000000 in
theorem some_any (w : World) : Calls Tryd.prog 35 #[] w (SomePost w) := by
 have hr := (Box2.new w (.string ⟨#[116]⟩) (.slice (some ⟨w.heap.size + 1, 0, none⟩) 2 2) 24).alloc (.cells #[.string ⟨#[105, 100]⟩, .int .i64 1, .bool false, .string ⟨#[120]⟩, .int .i64 3, .bool true] 60)
 have hn := heap_alloc_new (w.alloc (.cells #[.string ⟨#[116]⟩, .slice (some ⟨w.heap.size + 1, 0, none⟩) 2 2] 24)) (.cells #[.string ⟨#[105, 100]⟩, .int .i64 1, .bool false, .string ⟨#[120]⟩, .int .i64 3, .bool true] 60)
 rw [show (w.alloc (.cells #[.string ⟨#[116]⟩, .slice (some ⟨w.heap.size + 1, 0, none⟩) 2 2] 24)).heap.size = w.heap.size + 1 by simp] at hn
 have hB := ((Below.refl w.heap.size w).alloc (Nat.le_refl _) (.cells #[.string ⟨#[116]⟩, .slice (some ⟨w.heap.size + 1, 0, none⟩) 2 2] 24)).alloc (by simp) (.cells #[.string ⟨#[105, 100]⟩, .int .i64 1, .bool false, .string ⟨#[120]⟩, .int .i64 3, .bool true] 60)
 have HN := Lib.hid (And.intro hr (And.intro hn hB))
 clear hr hn hB
 go_enter Tryd.func35, Tryd.ntmps35
 go_wp2
 obtain ⟨hr, hn, hB⟩ := HN.out
 have hC := cols_two cId cX 60 hn
 refine bodyPost_ret (results_sch rfl _ _ w.heap.size _ _ rfl hr.c0 hr.c1) rfl ?_
 exact ⟨_, rfl, ⟨hC.lower (Nat.zero_le _), rfl, Nat.le_refl _, some_right⟩, hB⟩
def vA : V := ⟨1, 7, ⟨#[]⟩⟩
def rowT : List V := [vA, ⟨3, 0, ⟨#[97, 98]⟩⟩]
def csT : List C := [cId, cX]
def l01 : List (List Int) := [[0, 1]]
def l0x1 : List (List Int) := [[0], [1]]
def r2T : R := newR l01 2
def r3T : R := ⟨l01, fun j => if j = 0 then true else false, (emptyM 2).set 0 rowT⟩
def r6T : R := ⟨l01, fun j => if j = 0 then true else false, setM ((emptyM 2).set 0 rowT) 0 1 vZ⟩
def r8T : R := ⟨l0x1, r3T.f, r3T.M⟩
def r12T : R := ⟨l01, fun j => if j = 0 then false else (if j = 0 then true else false), ((emptyM 2).set 0 rowT).set 0 (List.replicate 2 vZ)⟩
theorem row_ok : ∀ v ∈ rowT, v.Ok := fun v hv => by
 unfold rowT at hv
 rcases List.mem_cons.1 hv with rfl | hv
 ·exact ⟨by decide, by decide, by decide, by decide⟩
 ·rw [List.mem_singleton] at hv
  subst hv
  exact ⟨by decide, by decide, by decide, by decide⟩
theorem vZ_Ok : vZ.Ok := ⟨by decide, by decide, by decide, by decide⟩
theorem split01 : IsSplit l01 2 := one_split (n := 2) (by decide) (by decide)
theorem split0x1 : IsSplit l0x1 2 := each_split (n := 2) (by decide) (by decide)
theorem check_t : Ro.checkE csT rowT = 0 := by decide +kernel
theorem fits_t : Ro.fitsE cX vZ = 0 := by decide +kernel
theorem add_t : addR csT r2T rowT = (r3T, 0, 0) := by
 unfold addR
 rw [if_neg (fun h => h check_t)]
 rfl
theorem set_t : setR csT r3T 0 1 vZ = (r6T, 0) := by
 unfold setR
 rw [if_pos ⟨rfl, by decide, by decide⟩]
 show (if Ro.fitsE cX vZ = 0 then _ else _) = _
 rw [if_pos fits_t]
 rfl
theorem lay_t : layR csT r3T l0x1 = (r8T, true) := by
 have h : rightSp l0x1 (csT.length : Int) = true := rightSp_nat.1 split0x1
 unfold layR
 rw [if_pos h]
 rfl
theorem drop_t : dropR csT r3T 0 = (r12T, 0) := by
 unfold dropR
 rw [if_pos (show takenB r3T 0 = true from rfl)]
 rfl
theorem cell_t : cellR csT r2T 0 0 = none := rfl
theorem set2_t : setR csT r2T 0 1 vZ = (r2T, 3) := rfl
theorem row_t : rowR r8T 0 = some rowT := rfl
theorem cell6_t : cellR csT r6T 0 1 = some vZ := rfl
theorem same_l : r12T.l = r2T.l := rfl
theorem same_f : liveN r12T.f = liveN r2T.f := rfl
theorem same_m : minis csT r12T = minis csT r2T := by
 have : r12T.M = r2T.M := rfl
 unfold minis
 rw [this, same_l]
section
variable {W : World} {X Y : Nat → Prop} {As A A2 : Option Addr} {t u : TV}
theorem aw_new (ht : Tab W) (hx0 : X 1) (hX : ∀ b, W.heap.size ≤ b → X b) (hS : HasSch W As 2 2 nmT csT) (hl : HasSp W X A2 l01) : Calls Tryd.prog 10 #[.agg #[.string nmT, .slice As 2 2], .slice A2 1 1] W (TilePost csT X r2T W) := new_any A2 1 1 ht hx0 hX hS hl rfl (Nat.le_refl _) split01
theorem aw_add (hX : ∀ b, W.heap.size ≤ b → X b) (hS : HasSch W As 2 2 nmT csT) (hT : HasT csT W X t r2T) (hv : HasVx W Y A rowT) : Calls Tryd.prog 33 #[.agg #[.string nmT, .slice As 2 2], t.v, .slice A 2 2] W (TilePost2 csT X (r3T, 0, 0) W) := by
 have h := add_any A 2 2 0 hX hS hT hv.1 rfl (Nat.le_refl _) (by decide) row_ok
 rw [add_t] at h
 exact h
theorem aw_set (hX : ∀ b, W.heap.size ≤ b → X b) (hS : HasSch W As 2 2 nmT csT) (hT : HasT csT W X t r3T) : Calls Tryd.prog 36 #[.agg #[.string nmT, .slice As 2 2], t.v, .int .i64 0, .int .i64 1, .agg #[.int .i64 0, .int .i64 0, .string ⟨#[]⟩]] W (TilePost1 csT X (r6T, 0) W) := by
 have h := set_any 0 1 vZ hX hS hT (by decide) (by decide) (by decide) (by decide) vZ_Ok
 rw [set_t] at h
 exact h
theorem aw_set2 (hX : ∀ b, W.heap.size ≤ b → X b) (hS : HasSch W As 2 2 nmT csT) (hT : HasT csT W X t r2T) : Calls Tryd.prog 36 #[.agg #[.string nmT, .slice As 2 2], t.v, .int .i64 0, .int .i64 1, .agg #[.int .i64 0, .int .i64 0, .string ⟨#[]⟩]] W (TilePost1 csT X (r2T, 3) W) := by
 have h := set_any 0 1 vZ hX hS hT (by decide) (by decide) (by decide) (by decide) vZ_Ok
 rw [set2_t] at h
 exact h
theorem aw_lay (hX : ∀ b, W.heap.size ≤ b → X b) (hS : HasSch W As 2 2 nmT csT) (hT : HasT csT W X t r3T) (hl : HasSp W X A2 l0x1) : Calls Tryd.prog 31 #[.agg #[.string nmT, .slice As 2 2], t.v, .slice A2 2 2] W (TilePostB csT X (r8T, true) W) := by
 have h := lay_any A2 2 2 hX hS hT hl rfl (Nat.le_refl _) (by decide) (by decide)
 rw [lay_t] at h
 exact h
theorem aw_row (hS : HasSch W As 2 2 nmT csT) (hT : HasT csT W X t r8T) : Calls Tryd.prog 20 #[.agg #[.string nmT, .slice As 2 2], t.v, .int .i64 0] W (fun e w' => ∃ (B : Option Addr) (c : Nat), e = .returned (.tuple #[.slice B 2 c, .bool true]) ∧ HasVx w' (fun _ => True) B rowT ∧ Below W.heap.size W w') := by
 have h := row_any 0 hS hT (by decide) (by decide)
 rw [row_t] at h
 refine h.mono ?_
 rintro e w' ⟨B, n, c, rfl, rfl, hv, hb⟩
 exact ⟨B, c, rfl, ⟨hv, fun _ _ _ _ _ => trivial⟩, hb⟩
theorem aw_drop (hX : ∀ b, W.heap.size ≤ b → X b) (hS : HasSch W As 2 2 nmT csT) (hT : HasT csT W X t r3T) : Calls Tryd.prog 37 #[.agg #[.string nmT, .slice As 2 2], t.v, .int .i64 0] W (TilePost1 csT X (r12T, 0) W) := by
 have h := drop_any 0 hX hS hT (by decide) (by decide)
 rw [drop_t] at h
 exact h
theorem aw_cell (hS : HasSch W As 2 2 nmT csT) (hT : HasT csT W X t r2T) : Calls Tryd.prog 18 #[.agg #[.string nmT, .slice As 2 2], t.v, .int .i64 0, .int .i64 0] W (fun e w' => e = .returned (.tuple #[.agg #[.int .i64 0, .int .i64 0, .string ⟨#[]⟩], .bool false]) ∧ Below W.heap.size W w') := by
 have h := cell_any 0 0 hS hT (by decide) (by decide) (by decide) (by decide)
 rw [cell_t] at h
 exact h
theorem aw_cell6 (hS : HasSch W As 2 2 nmT csT) (hT : HasT csT W X t r6T) : Calls Tryd.prog 18 #[.agg #[.string nmT, .slice As 2 2], t.v, .int .i64 0, .int .i64 1] W (fun e w' => e = .returned (.tuple #[.agg #[.int .i64 0, .int .i64 0, .string ⟨#[]⟩], .bool true]) ∧ Below W.heap.size W w') := by
 have h := cell_any 0 1 hS hT (by decide) (by decide) (by decide) (by decide)
 rw [cell6_t] at h
 exact h
theorem aw_taken0 (hT : HasT csT W X t r3T) : Calls Tryd.prog 25 #[t.v, .int .i64 0] W (fun e w' => e = .returned (.bool true) ∧ Below W.heap.size W w') := taken_any 0 hT (by decide) (by decide)
theorem aw_taken1 (hT : HasT csT W X t r3T) : Calls Tryd.prog 25 #[t.v, .int .i64 1] W (fun e w' => e = .returned (.bool false) ∧ Below W.heap.size W w') := taken_any 1 hT (by decide) (by decide)
theorem aw_free (hT : HasT csT W X t r3T) : Calls Tryd.prog 23 #[t.v] W (fun e w' => e = .returned (.int .i64 1) ∧ Below W.heap.size W w') := free_any hT
theorem aw_same (hT : HasT csT W X t r12T) (hU : HasT csT W Y u r2T) : Calls Tryd.prog 12 #[t.v, u.v] W (fun e w' => e = .returned (.bool true) ∧ Below W.heap.size W w') := refSame_any hT hU same_l same_f same_m
theorem aw_rows {c1 c2 : Nat} (h1 : HasVx W X A rowT) (h2 : HasVx W Y A2 rowT) : Calls Tryd.prog 22 #[.slice A 2 c1, .slice A2 2 c2] W (fun e w' => e = .returned (.bool true) ∧ Below W.heap.size W w') := by
 refine (Ro.refSame_any A A2 c1 c2 rowT rowT 0 0 W h1.1 h2.1 (by decide) (by decide)).mono ?_
 rintro e w' ⟨r, rfl, hr, hb⟩
 exact ⟨by rw [hr.2 rfl], hb⟩
end
end Go.Proofs.YtpnnkhpokangfaaDoor.Ti
