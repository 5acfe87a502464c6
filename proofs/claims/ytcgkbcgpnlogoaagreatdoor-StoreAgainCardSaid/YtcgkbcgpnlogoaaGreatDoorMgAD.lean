/- Texts FrA, FrB, HdA, HdB, LfB, QuA, FrK, FrL, FrO, HdC, TreW, LeE, TyB, Xci, ClK, ClL, one behind the other. -/
import Derived.Test.YtcgkbcgpnlogoaaGreatDoorMgAC
import Derived.Lib.QuietBelow
import Derived.Test.YtcgkbcgpnlogoaaGreatDoorMgAA
import Derived.Test.YtcgkbcgpnlogoaaGreatDoorMgAB
import Derived.Test.YtcgkbcgpnlogoaaGreatDoorRows
import Derived.ProofKit
import Derived.OpenShut
import Derived.Carry
import Derived.ChangeSame
import Derived.ChangeVars
import Derived.JoinedOf
import Derived.RowKit
import Derived.Lib.LaidTab
import Derived.KernelRfl
/- A frame's sector, plainly. -/
namespace Go.Proofs.YtcgkbcgpnlogoaaGreatDoor.Fr
open Tal Lf

structure F where
 e : Int
 i : Int
 c : Bool
 p : Int
 d : ByteArray
/-- May it be written? -/
structure RightF (f : F) : Prop where
 e0 : 1 ≤ f.e
 e1 : f.e < 2147483648
 i0 : 0 ≤ f.i
 i1 : f.i < 512
 p0 : 0 ≤ f.p
 p1 : f.p < 512
 dc : f.c = true → f.d.size = 0
 dp : f.c = false → f.d.size = 200
theorem F.eq {f g : F} (h1 : f.e = g.e) (h2 : f.i = g.i) (h3 : f.c = g.c) (h4 : f.p = g.p) (h5 : f.d = g.d) : f = g := by
 cases f; cases g; simp_all
theorem none_size {d : ByteArray} (h : d.size = 0) : d = ⟨#[]⟩ := by
 apply ByteArray.ext
 apply Array.eq_empty_of_size_eq_zero
 exact h
/-- What it begins with. -/
def word (c : Bool) : List UInt8 := [76, 79, 71, if c then 67 else 80]
def hdF (f : F) : ByteArray := ⟨(word f.c).toArray⟩ ++ prt f.e.toNat ++ prt f.i.toNat ++ prt f.p.toNat
def frameB (f : F) : ByteArray := sealed (hdF f ++ f.d) 256
theorem word_len (c : Bool) : (word c).length = 4 := rfl
theorem hdF_list (f : F) : (hdF f).data.toList = word f.c ++ (prt f.e.toNat).data.toList ++ (prt f.i.toNat).data.toList ++ (prt f.p.toNat).data.toList := by
 unfold hdF
 simp only [ByteArray.data_append, Array.toList_append]
theorem prt_len (x : Nat) : (prt x).data.toList.length = 4 := rfl
theorem hdF_size (f : F) : (hdF f).size = 16 := by
 unfold hdF
 rw [ByteArray.size_append, ByteArray.size_append, ByteArray.size_append, prt_size, prt_size, prt_size]
 rfl
/-- All that the sum is of. -/
def bodyF (f : F) : List UInt8 := word f.c ++ ((prt f.e.toNat).data.toList ++ ((prt f.i.toNat).data.toList ++ ((prt f.p.toNat).data.toList ++ (f.d.data.toList ++ List.replicate (236 - f.d.size) 0))))
section
variable {f g : F} {s : ByteArray}
theorem RightF.small (h : RightF f) : f.d.size ≤ 200 := by
 cases hc : f.c with
 | true => have := h.dc hc; omega
 | false => have := h.dp hc; omega
theorem d_len (f : F) : f.d.data.toList.length = f.d.size := by simp
theorem frameB_data (h : f.d.size ≤ 200) : (frameB f).data.toList = bodyF f ++ (prt (crc (bodyF f))).data.toList := by
 have e : (body (hdF f ++ f.d) (256 - 4)).data.toList = bodyF f := by
  rw [body_data, ByteArray.size_append, hdF_size, ByteArray.data_append, Array.toList_append, hdF_list]
  unfold bodyF
  simp only [List.append_assoc]
  congr 6
  omega
 unfold frameB
 rw [sealed_data, e]
theorem frameB_size (h : f.d.size ≤ 200) : (frameB f).size = 256 := sealed_size _ _ (by rw [ByteArray.size_append, hdF_size]; omega)
/-- A number of four bytes. -/
def nm (l : List UInt8) : Nat := (l.getD 0 0).toNat * 16777216 + (l.getD 1 0).toNat * 65536 + (l.getD 2 0).toNat * 256 + (l.getD 3 0).toNat
theorem nm_prt {x : Nat} (h : x < 4294967296) (r : List UInt8) : nm ((prt x).data.toList ++ r) = x := by
 show nm ([UInt8.ofNat (x / 16777216), UInt8.ofNat (x / 65536), UInt8.ofNat (x / 256), UInt8.ofNat x] ++ r) = x
 show (UInt8.ofNat (x / 16777216)).toNat * 16777216 + (UInt8.ofNat (x / 65536)).toNat * 65536 + (UInt8.ofNat (x / 256)).toNat * 256 + (UInt8.ofNat x).toNat = x
 simp only [UInt8.toNat_ofNat']
 omega
/-- The frame that these bytes may be. -/
def cand (s : ByteArray) : F :=
 ⟨nm (s.data.toList.drop 4), nm (s.data.toList.drop 8), s.data.toList.take 4 == word true, nm (s.data.toList.drop 12), if s.data.toList.take 4 == word true then ⟨#[]⟩ else s.extract 16 216⟩
open Classical in
noncomputable def parseF (s : ByteArray) : Option F := if s.size = 256 ∧ RightF (cand s) ∧ frameB (cand s) = s then some (cand s) else none
theorem cand_own (h : RightF f) : cand (frameB f) = f := by
 have h2 := h.small
 obtain ⟨r, e⟩ : ∃ r, (frameB f).data.toList = word f.c ++ ((prt f.e.toNat).data.toList ++ ((prt f.i.toNat).data.toList ++ ((prt f.p.toNat).data.toList ++ (f.d.data.toList ++ r)))) := by
  refine ⟨List.replicate (236 - f.d.size) 0 ++ (prt (crc (bodyF f))).data.toList, ?_⟩
  rw [frameB_data h2]
  unfold bodyF
  simp only [List.append_assoc]
 have t4 : (frameB f).data.toList.take 4 = word f.c := by rw [e, List.take_left' (word_len _)]
 have d4 : (frameB f).data.toList.drop 4 = (prt f.e.toNat).data.toList ++ ((prt f.i.toNat).data.toList ++ ((prt f.p.toNat).data.toList ++ (f.d.data.toList ++ r))) := by rw [e, List.drop_left' (word_len _)]
 have d8 : (frameB f).data.toList.drop 8 = (prt f.i.toNat).data.toList ++ ((prt f.p.toNat).data.toList ++ (f.d.data.toList ++ r)) := by rw [show 8 = 4 + 4 from rfl, ← List.drop_drop, d4, List.drop_left' (prt_len _)]
 have d12 : (frameB f).data.toList.drop 12 = (prt f.p.toNat).data.toList ++ (f.d.data.toList ++ r) := by rw [show 12 = 8 + 4 from rfl, ← List.drop_drop, d8, List.drop_left' (prt_len _)]
 have d16 : (frameB f).data.toList.drop 16 = f.d.data.toList ++ r := by rw [show 16 = 12 + 4 from rfl, ← List.drop_drop, d12, List.drop_left' (prt_len _)]
 have hw : ((frameB f).data.toList.take 4 == word true) = f.c := by
  rw [t4]
  cases f.c <;> rfl
 have he := h.e0
 have he1 := h.e1
 have hi := h.i0
 have hi1 := h.i1
 have hp := h.p0
 have hp1 := h.p1
 apply F.eq
 ·show ((nm ((frameB f).data.toList.drop 4) : Nat) : Int) = f.e
  rw [d4, nm_prt (by omega)]
  omega
 ·show ((nm ((frameB f).data.toList.drop 8) : Nat) : Int) = f.i
  rw [d8, nm_prt (by omega)]
  omega
 ·exact hw
 ·show ((nm ((frameB f).data.toList.drop 12) : Nat) : Int) = f.p
  rw [d12, nm_prt (by omega)]
  omega
 ·show (if (frameB f).data.toList.take 4 == word true then _ else _) = f.d
  rw [hw]
  cases hc : f.c with
  | true => exact (none_size (h.dc hc)).symm
  | false =>
   show (frameB f).extract 16 216 = f.d
   have h200 := h.dp hc
   apply ByteArray.ext
   apply Array.toList_inj.1
   have e2 : ((frameB f).data.toList.drop 16).take 200 = f.d.data.toList := by rw [d16, List.take_left' (by rw [d_len, h200])]
   simpa [ByteArray.data_extract, Array.toList_extract, List.extract] using e2
theorem parse_iff : parseF s = some f ↔ RightF f ∧ s = frameB f := by
 unfold parseF
 constructor
 ·intro h
  split at h
  ·rename_i hc
   injection h with h
   rw [h] at hc
   exact ⟨hc.2.1, hc.2.2.symm⟩
  ·cases h
 ·rintro ⟨h, rfl⟩
  rw [cand_own h, if_pos ⟨frameB_size h.small, h, rfl⟩]
theorem parse_own (h : RightF f) : parseF (frameB f) = some f := parse_iff.2 ⟨h, rfl⟩
end
end Go.Proofs.YtcgkbcgpnlogoaaGreatDoor.Fr

/- A frame in a variable, and what a question answers. -/
namespace Go.Proofs.YtcgkbcgpnlogoaaGreatDoor.Fr
open Go.RowKit Tal
def cellsF (f : F) : Array Value := #[.int .i64 f.e, .int .i64 f.i, .bool f.c, .int .i64 f.p, .string f.d]
def noF : F := ⟨0, 0, false, 0, ⟨#[]⟩⟩
/-- A frame in a variable. -/
structure BoxF (w : World) (g : Nat) (f : F) : Prop where
 c0 : w.cell? ⟨g, 0, none⟩ = some (.int .i64 f.e)
 c1 : w.cell? ⟨g, 1, none⟩ = some (.int .i64 f.i)
 c2 : w.cell? ⟨g, 2, none⟩ = some (.bool f.c)
 c3 : w.cell? ⟨g, 3, none⟩ = some (.int .i64 f.p)
 c4 : w.cell? ⟨g, 4, none⟩ = some (.string f.d)
 f : ∀ i, w.frozen? ⟨g, i, none⟩ = false
section
variable {w w' : World} {g q B : Nat} {f : F}
theorem BoxF.lt (h : BoxF w g f) : g < w.heap.size := World.block_lt_of_cell? w _ h.c0
theorem BoxF.below (h : BoxF w g f) (hb : Below B w w') (hB : g < B) : BoxF w' g f :=
 ⟨(hb.cell (p := ⟨g, 0, none⟩) hB).trans h.c0, (hb.cell (p := ⟨g, 1, none⟩) hB).trans h.c1, (hb.cell (p := ⟨g, 2, none⟩) hB).trans h.c2, (hb.cell (p := ⟨g, 3, none⟩) hB).trans h.c3, (hb.cell (p := ⟨g, 4, none⟩) hB).trans h.c4, fun i => (hb.frozen (p := ⟨g, i, none⟩) hB).trans (h.f i)⟩
theorem BoxF.new (w : World) (f : F) (t : TypeId) : BoxF (w.alloc (.cells (cellsF f) t)) w.heap.size f := by
 unfold cellsF
 constructor <;> simp [go_sem]
end
theorem cell_belowF {w w' : World} (h : Below w.heap.size w w') {b i : Nat} {v : Value} (hc : w.cell? ⟨b, i, none⟩ = some v) : w'.cell? ⟨b, i, none⟩ = some v :=
 (h.cell (p := ⟨b, i, none⟩) (World.block_lt_of_cell? w _ hc)).trans hc
theorem str_ne {a b : ByteArray} (h : a ≠ b) : (a.toList == b.toList) = false := by
 rw [beq_eq_false_iff_ne]
 exact fun e => h (ByteArray.ext (Array.toList_inj.1 (by simpa [ByteArray.toList_eq] using e)))
def BoolF (p : Prop) (w : World) (e : Ending) (w' : World) : Prop := ∃ b : Bool, e = .returned (.bool b) ∧ (b = true ↔ p) ∧ Below w.heap.size w w'
end Go.Proofs.YtcgkbcgpnlogoaaGreatDoor.Fr

/- A head's sector, plainly. -/
namespace Go.Proofs.YtcgkbcgpnlogoaaGreatDoor.Hd
open Tal Lf Fr

structure H where
 p : Int
 l : Int
 e : Int
/-- May it be? -/
structure RightH (h : H) : Prop where
 p0 : 8 ≤ h.p
 p1 : h.p ≤ 512
 l0 : 4 ≤ h.l
 l1 : h.l ≤ 512
 e0 : 1 ≤ h.e
 e1 : h.e < 2147483648
def noH : H := ⟨0, 0, 0⟩
theorem H.eq {f g : H} (h1 : f.p = g.p) (h2 : f.l = g.l) (h3 : f.e = g.e) : f = g := by
 cases f; cases g; simp_all
/-- What it begins with. -/
def mkH : ByteArray := ⟨#[77, 79, 83, 65, 73, 67, 48, 49]⟩
def hdH (h : H) : ByteArray := mkH ++ prt h.p.toNat ++ prt h.l.toNat ++ prt h.e.toNat
def headB (h : H) : ByteArray := sealed (hdH h) 256
theorem mkH_len : mkH.data.toList.length = 8 := rfl
theorem hdH_list (h : H) : (hdH h).data.toList = mkH.data.toList ++ ((prt h.p.toNat).data.toList ++ ((prt h.l.toNat).data.toList ++ (prt h.e.toNat).data.toList)) := by
 unfold hdH
 simp only [ByteArray.data_append, Array.toList_append, List.append_assoc]
theorem hdH_size (h : H) : (hdH h).size = 20 := by
 unfold hdH
 rw [ByteArray.size_append, ByteArray.size_append, ByteArray.size_append, prt_size, prt_size, prt_size]
 rfl
theorem headB_size (h : H) : (headB h).size = 256 := sealed_size _ _ (by rw [hdH_size]; decide)
theorem headB_list (h : H) : ∃ r, (headB h).data.toList = mkH.data.toList ++ ((prt h.p.toNat).data.toList ++ ((prt h.l.toNat).data.toList ++ ((prt h.e.toNat).data.toList ++ r))) := by
 unfold headB
 rw [sealed_data, body_data, hdH_list]
 exact ⟨_, by simp only [List.append_assoc]; rfl⟩
/-- The number at that place; nought, where there is none. -/
def nmz (s : ByteArray) (k : Nat) : Nat := if k + 4 ≤ s.size then nm (s.data.toList.drop k) else 0
/-- The head that these bytes may be. -/
def candH (s : ByteArray) : H := ⟨nmz s 8, nmz s 12, nmz s 16⟩
open Classical in
noncomputable def parseH (s : ByteArray) : Option H := if RightH (candH s) ∧ headB (candH s) = s then some (candH s) else none
section
variable {f g h : H} {s : ByteArray}
theorem cand_own (h : RightH f) : candH (headB f) = f := by
 obtain ⟨r, e⟩ := headB_list f
 have d8 : (headB f).data.toList.drop 8 = (prt f.p.toNat).data.toList ++ ((prt f.l.toNat).data.toList ++ ((prt f.e.toNat).data.toList ++ r)) := by rw [e, List.drop_left' mkH_len]
 have d12 : (headB f).data.toList.drop 12 = (prt f.l.toNat).data.toList ++ ((prt f.e.toNat).data.toList ++ r) := by rw [show 12 = 8 + 4 from rfl, ← List.drop_drop, d8, List.drop_left' (prt_len _)]
 have d16 : (headB f).data.toList.drop 16 = (prt f.e.toNat).data.toList ++ r := by rw [show 16 = 12 + 4 from rfl, ← List.drop_drop, d12, List.drop_left' (prt_len _)]
 have hs := headB_size f
 have a0 := h.p0
 have a1 := h.p1
 have a2 := h.l0
 have a3 := h.l1
 have a4 := h.e0
 have a5 := h.e1
 apply H.eq
 ·show ((nmz (headB f) 8 : Nat) : Int) = f.p
  unfold nmz
  rw [if_pos (by omega), d8, nm_prt (by omega)]
  omega
 ·show ((nmz (headB f) 12 : Nat) : Int) = f.l
  unfold nmz
  rw [if_pos (by omega), d12, nm_prt (by omega)]
  omega
 ·show ((nmz (headB f) 16 : Nat) : Int) = f.e
  unfold nmz
  rw [if_pos (by omega), d16, nm_prt (by omega)]
  omega
theorem parse_iff : parseH s = some f ↔ RightH f ∧ s = headB f := by
 unfold parseH
 constructor
 ·intro h
  split at h
  ·rename_i hc
   injection h with h
   rw [h] at hc
   exact ⟨hc.1, hc.2.symm⟩
  ·cases h
 ·rintro ⟨h, rfl⟩
  rw [cand_own h, if_pos ⟨h, rfl⟩]
theorem parse_own (h : RightH f) : parseH (headB f) = some f := parse_iff.2 ⟨h, rfl⟩
/-- The first byte of one that is a head's. -/
theorem head_first (f : H) : (headB f).data.toList.getD 0 0 = 77 := by
 obtain ⟨r, e⟩ := headB_list f
 rw [e]
 rfl
theorem parse_first (h : s.data.toList.getD 0 0 ≠ 77) : parseH s = none := by
 cases hp : parseH s with
 | none => rfl
 | some f =>
  obtain ⟨_, rfl⟩ := parse_iff.1 hp
  exact absurd (head_first f) h
end
/-- What counts behind one more sector. -/
noncomputable def stepH (cur : H) (t : ByteArray) : H := match parseH t with
 | some h => if cur.e < h.e then h else cur
 | none => cur
/-- The head that counts of two sectors, and the error. -/
noncomputable def bestH (a b : ByteArray) : H := stepH (stepH noH a) b
end Go.Proofs.YtcgkbcgpnlogoaaGreatDoor.Hd

/- A head in a variable; Right, Size, Home, Log of the program (762697a) and the document, walked. -/
namespace Go.Proofs.YtcgkbcgpnlogoaaGreatDoor.Hd
open Go.RowKit Tal Sla
def cellsH (h : H) : Array Value := #[.int .i64 h.p, .int .i64 h.l, .int .i64 h.e]
/-- A head in a variable. -/
structure BoxH (w : World) (g : Nat) (h : H) : Prop where
 c0 : w.cell? ⟨g, 0, none⟩ = some (.int .i64 h.p)
 c1 : w.cell? ⟨g, 1, none⟩ = some (.int .i64 h.l)
 c2 : w.cell? ⟨g, 2, none⟩ = some (.int .i64 h.e)
 f : ∀ i, w.frozen? ⟨g, i, none⟩ = false
section
variable {w w' : World} {g q B : Nat} {h : H}
theorem BoxH.lt (k : BoxH w g h) : g < w.heap.size := World.block_lt_of_cell? w _ k.c0
theorem BoxH.below (k : BoxH w g h) (hb : Below B w w') (hB : g < B) : BoxH w' g h :=
 ⟨(hb.cell (p := ⟨g, 0, none⟩) hB).trans k.c0, (hb.cell (p := ⟨g, 1, none⟩) hB).trans k.c1, (hb.cell (p := ⟨g, 2, none⟩) hB).trans k.c2, fun i => (hb.frozen (p := ⟨g, i, none⟩) hB).trans (k.f i)⟩
theorem BoxH.new (w : World) (h : H) (t : TypeId) : BoxH (w.alloc (.cells (cellsH h) t)) w.heap.size h := by
 unfold cellsH
 constructor <;> simp [go_sem]
theorem cell_set (w : World) (g i j : Nat) (u v : Value) (hij : i ≠ j) (h : w.cell? ⟨g, j, none⟩ = some v) : (w.setCell ⟨g, i, none⟩ u).cell? ⟨g, j, none⟩ = some v :=
 (World.cell?_setCell_other w _ _ u (fun e => by injection e with _ e2; exact hij e2)).trans h
/-- Another head put into the variable. -/
theorem BoxH.put (k : BoxH w g h) (u : H) : BoxH (((w.setCell ⟨g, 0, none⟩ (.int .i64 u.p)).setCell ⟨g, 1, none⟩ (.int .i64 u.l)).setCell ⟨g, 2, none⟩ (.int .i64 u.e)) g u := by
 have a0 := World.cell?_setCell_same w ⟨g, 0, none⟩ (.int .i64 u.p) k.c0
 have b1 := cell_set w g 0 1 (.int .i64 u.p) _ (by decide) k.c1
 have b2 := cell_set w g 0 2 (.int .i64 u.p) _ (by decide) k.c2
 have f0 : ∀ i, (w.setCell ⟨g, 0, none⟩ (.int .i64 u.p)).frozen? ⟨g, i, none⟩ = false := fun i => by rw [World.frozen?_setCell]; exact k.f i
 generalize w.setCell ⟨g, 0, none⟩ (.int .i64 u.p) = w1 at a0 b1 b2 f0 ⊢
 have a0 := cell_set w1 g 1 0 (.int .i64 u.l) _ (by decide) a0
 have a1 := World.cell?_setCell_same w1 ⟨g, 1, none⟩ (.int .i64 u.l) b1
 have b2 := cell_set w1 g 1 2 (.int .i64 u.l) _ (by decide) b2
 have f0 : ∀ i, (w1.setCell ⟨g, 1, none⟩ (.int .i64 u.l)).frozen? ⟨g, i, none⟩ = false := fun i => by rw [World.frozen?_setCell]; exact f0 i
 generalize w1.setCell ⟨g, 1, none⟩ (.int .i64 u.l) = w2 at a0 a1 b2 f0 ⊢
 exact ⟨cell_set w2 g 2 0 _ _ (by decide) a0, cell_set w2 g 2 1 _ _ (by decide) a1, World.cell?_setCell_same w2 ⟨g, 2, none⟩ _ b2, fun i => by rw [World.frozen?_setCell]; exact f0 i⟩
theorem below_putH (hB : Below B w w') (hg : B ≤ g) (u : H) : Below B w (((w'.setCell ⟨g, 0, none⟩ (.int .i64 u.p)).setCell ⟨g, 1, none⟩ (.int .i64 u.l)).setCell ⟨g, 2, none⟩ (.int .i64 u.e)) :=
 ((hB.setCell (p := ⟨g, 0, none⟩) hg _).setCell (p := ⟨g, 1, none⟩) hg _).setCell (p := ⟨g, 2, none⟩) hg _
theorem cell_belowH (h : Below w.heap.size w w') {b i : Nat} {v : Value} (hc : w.cell? ⟨b, i, none⟩ = some v) : w'.cell? ⟨b, i, none⟩ = some v :=
 (h.cell (p := ⟨b, i, none⟩) (World.block_lt_of_cell? w _ hc)).trans hc
end
theorem str_ne {a b : ByteArray} (h : a ≠ b) : (a.toList == b.toList) = false := by
 rw [beq_eq_false_iff_ne]
 exact fun e => h (ByteArray.ext (Array.toList_inj.1 (by simpa [ByteArray.toList_eq] using e)))
theorem results_h2 {fn : Func} {p q : Tmp} (h : fn.results = #[.cell p 30, .tmp q]) (tmps : Array Value) (w : World) (g : Nat) (v0 v1 v2 : Value)
  (hp : tmps.getD p undef = .pointer (some ⟨g, 0, none⟩)) (c0 : w.cell? ⟨g, 0, none⟩ = some v0) (c1 : w.cell? ⟨g, 1, none⟩ = some v1) (c2 : w.cell? ⟨g, 2, none⟩ = some v2) :
  (results fn tmps).run Tryz.prog w = .ok (.tuple #[.agg #[v0, v1, v2], tmps.getD q undef]) w := by
 have hp' : tmps[p]?.getD undef = .pointer (some ⟨g, 0, none⟩) := by simpa using hp
 clear hp
 simp only [results, h]
 go_simp
def BoolH (p : Prop) (w : World) (e : Ending) (w' : World) : Prop := ∃ b : Bool, e = .returned (.bool b) ∧ (b = true ↔ p) ∧ Below w.heap.size w w'
theorem rightH_iff (h : H) : RightH h ↔ (8 ≤ h.p ∧ h.p ≤ 512 ∧ 4 ≤ h.l ∧ h.l ≤ 512 ∧ 1 ≤ h.e ∧ h.e < 2147483648) :=
 ⟨fun k => ⟨k.p0, k.p1, k.l0, k.l1, k.e0, k.e1⟩, fun ⟨a, b, c, d, e, f⟩ => ⟨a, b, c, d, e, f⟩⟩
set_option maxHeartbeats 1600000 in
theorem right_any (h : H) (w : World) :
  Calls Tryz.prog 65 #[.agg (cellsH h)] w (BoolH (RightH h) w) := by
 have hB := (Below.refl w.heap.size w).alloc (Nat.le_refl _) (.cells (cellsH h) 30)
 have hiff := rightH_iff h
 obtain ⟨hp, hl, he⟩ := h
 unfold cellsH at hB ⊢
 simp only at hB hiff ⊢
 generalize hP : RightH ⟨hp, hl, he⟩ = MP at hiff ⊢
 clear hP
 have HI := Lib.hid hiff
 have HB := Lib.hid hB
 clear hiff hB
 go_enter Tryz.func65, Tryz.ntmps65
 by_cases a0 : ¬ (8 : Int) ≤ hp
 ·have HQ : Hid (¬ MP) := Lib.hid (by rw [HI.out]; omega)
  have b0 : decide ((8 : Int) ≤ hp) = false := decide_eq_false (by omega)
  clear HI
  go_wp2
  go_ret
  exact ⟨false, rfl, ⟨fun e => (by cases e), fun e => absurd e HQ.out⟩, HB.out⟩
 by_cases a1 : ¬ hp ≤ 512
 ·have HQ : Hid (¬ MP) := Lib.hid (by rw [HI.out]; omega)
  have b0 : decide ((8 : Int) ≤ hp) = true := decide_eq_true (by omega)
  have b1 : decide (hp ≤ 512) = false := decide_eq_false (by omega)
  clear HI
  go_wp2
  go_ret
  exact ⟨false, rfl, ⟨fun e => (by cases e), fun e => absurd e HQ.out⟩, HB.out⟩
 by_cases a2 : ¬ (4 : Int) ≤ hl
 ·have HQ : Hid (¬ MP) := Lib.hid (by rw [HI.out]; omega)
  have b0 : decide ((8 : Int) ≤ hp) = true := decide_eq_true (by omega)
  have b1 : decide (hp ≤ 512) = true := decide_eq_true (by omega)
  have b2 : decide ((4 : Int) ≤ hl) = false := decide_eq_false (by omega)
  clear HI
  go_wp2
  go_ret
  exact ⟨false, rfl, ⟨fun e => (by cases e), fun e => absurd e HQ.out⟩, HB.out⟩
 by_cases a3 : ¬ hl ≤ 512
 ·have HQ : Hid (¬ MP) := Lib.hid (by rw [HI.out]; omega)
  have b0 : decide ((8 : Int) ≤ hp) = true := decide_eq_true (by omega)
  have b1 : decide (hp ≤ 512) = true := decide_eq_true (by omega)
  have b2 : decide ((4 : Int) ≤ hl) = true := decide_eq_true (by omega)
  have b3 : decide (hl ≤ 512) = false := decide_eq_false (by omega)
  clear HI
  go_wp2
  go_ret
  exact ⟨false, rfl, ⟨fun e => (by cases e), fun e => absurd e HQ.out⟩, HB.out⟩
 by_cases a4 : ¬ (1 : Int) ≤ he
 ·have HQ : Hid (¬ MP) := Lib.hid (by rw [HI.out]; omega)
  have b0 : decide ((8 : Int) ≤ hp) = true := decide_eq_true (by omega)
  have b1 : decide (hp ≤ 512) = true := decide_eq_true (by omega)
  have b2 : decide ((4 : Int) ≤ hl) = true := decide_eq_true (by omega)
  have b3 : decide (hl ≤ 512) = true := decide_eq_true (by omega)
  have b4 : decide ((1 : Int) ≤ he) = false := decide_eq_false (by omega)
  clear HI
  go_wp2
  go_ret
  exact ⟨false, rfl, ⟨fun e => (by cases e), fun e => absurd e HQ.out⟩, HB.out⟩
 by_cases a5 : ¬ he ≤ 2147483647
 ·have HQ : Hid (¬ MP) := Lib.hid (by rw [HI.out]; omega)
  have b0 : decide ((8 : Int) ≤ hp) = true := decide_eq_true (by omega)
  have b1 : decide (hp ≤ 512) = true := decide_eq_true (by omega)
  have b2 : decide ((4 : Int) ≤ hl) = true := decide_eq_true (by omega)
  have b3 : decide (hl ≤ 512) = true := decide_eq_true (by omega)
  have b4 : decide ((1 : Int) ≤ he) = true := decide_eq_true (by omega)
  have b5 : decide (he ≤ 2147483647) = false := decide_eq_false (by omega)
  clear HI
  go_wp2
  go_ret
  exact ⟨false, rfl, ⟨fun e => (by cases e), fun e => absurd e HQ.out⟩, HB.out⟩
 have HQ : Hid MP := Lib.hid (by rw [HI.out]; omega)
 have b0 : decide ((8 : Int) ≤ hp) = true := decide_eq_true (by omega)
 have b1 : decide (hp ≤ 512) = true := decide_eq_true (by omega)
 have b2 : decide ((4 : Int) ≤ hl) = true := decide_eq_true (by omega)
 have b3 : decide (hl ≤ 512) = true := decide_eq_true (by omega)
 have b4 : decide ((1 : Int) ≤ he) = true := decide_eq_true (by omega)
 have b5 : decide (he ≤ 2147483647) = true := decide_eq_true (by omega)
 clear HI
 go_wp2
 go_ret
 exact ⟨true, rfl, ⟨fun e => HQ.out, fun e => rfl⟩, HB.out⟩
theorem size_any (h : H) (w : World) :
  Calls Tryz.prog 67 #[.agg (cellsH h)] w fun e w' => e = .returned (.int .i64 (wrap64 (wrap64 (2 + h.p) + h.l))) ∧ Below w.heap.size w w' := by
 have hB := (Below.refl w.heap.size w).alloc (Nat.le_refl _) (.cells (cellsH h) 30)
 obtain ⟨hp, hl, he⟩ := h
 unfold cellsH at hB ⊢
 simp only at hB ⊢
 go_enter Tryz.func67, Tryz.ntmps67
 go_wp2
 go_ret
 exact ⟨rfl, hB⟩
theorem home_any (n : Int) (w : World) :
  Calls Tryz.prog 214 #[.int .i64 n] w fun e w' => e = .returned (.int .i64 (wrap64 (2 + n))) ∧ w' = w := by
 go_enter Tryz.func214, Tryz.ntmps214
 go_wp2
 go_ret
 exact ⟨rfl, rfl⟩
theorem log_any (h : H) (n : Int) (w : World) :
  Calls Tryz.prog 201 #[.agg (cellsH h), .int .i64 n] w fun e w' => e = .returned (.int .i64 (wrap64 (wrap64 (2 + h.p) + n))) ∧ Below w.heap.size w w' := by
 have hB := (Below.refl w.heap.size w).alloc (Nat.le_refl _) (.cells (cellsH h) 30)
 obtain ⟨hp, hl, he⟩ := h
 unfold cellsH at hB ⊢
 simp only at hB ⊢
 go_enter Tryz.func201, Tryz.ntmps201
 go_wp2
 go_ret
 exact ⟨rfl, hB⟩
end Go.Proofs.YtcgkbcgpnlogoaaGreatDoor.Hd

/- A page's sector: the program's own functions at 762697a, walked. -/
namespace Go.Proofs.YtcgkbcgpnlogoaaGreatDoor.Lf
open Go.RowKit Tal
section
variable {w : World}
theorem numbered_any (no : Int) (w : World) (h0 : 0 ≤ no) (h1 : no < 4294967296) :
    Calls Tryz.prog 207 #[.int .i64 no] w fun e w' => e = .returned (.bool true) ∧ w = w' := by
  go_enter Tryz.func207, Tryz.ntmps207
  have e1 : IntKind.u64.wrap no = no := by simp [IntKind.wrap, IntKind.bits, IntKind.signed]; omega
  have e2 : decide (no ≤ 4294967295) = true := by simp; omega
  go_wp2
  go_ret
  exact ⟨rfl, rfl⟩
theorem convP (x : Nat) (w : World) (hx : x < 4294967296) : (convert 118 9 (.slice (some ⟨w.heap.size, 0, none⟩) 4 4)).run Tryz.prog (w.alloc (.cells #[.int .u8 ((x : Int) / 16777216), .int .u8 ((x : Int) / 65536 % 256), .int .u8 ((x : Int) / 256 % 256), .int .u8 ((x : Int) % 256)] 5)) = .ok (.string (prt x)) (w.alloc (.cells #[.int .u8 ((x : Int) / 16777216), .int .u8 ((x : Int) / 65536 % 256), .int .u8 ((x : Int) / 256 % 256), .int .u8 ((x : Int) % 256)] 5)) := by
    have := run_convert_bytes_arg (P := Tryz.prog) (w.alloc (.cells #[.int .u8 ((x : Int) / 16777216), .int .u8 ((x : Int) / 65536 % 256), .int .u8 ((x : Int) / 256 % 256), .int .u8 ((x : Int) % 256)] 5)) 118 5 Tryz.underlying118 Tryz.underlying5 w.heap.size 0 4 4 [(x : Int) / 16777216, (x : Int) / 65536 % 256, (x : Int) / 256 % 256, (x : Int) % 256] rfl (by
      intro i hi
      match i, hi with
      | 0, _ => simp
      | 1, _ => simp
      | 2, _ => simp
      | 3, _ => simp) 9 Tryz.underlying9
    rw [this, prt_nums x]
set_option maxHeartbeats 400000 in
theorem lprinted_any (x : Nat) (w : World) (hx : x < 4294967296) :
    Calls Tryz.prog 209 #[.int .i64 x] w fun e w' => e = .returned (.string (prt x)) ∧ Below w.heap.size w w' := by
  have hcv := convP x w hx
  go_enter Tryz.func209, Tryz.ntmps209
  go_wp2
  go_ret
  exact ⟨rfl, (Below.refl _ _).alloc (Nat.le_refl _) _⟩
set_option maxHeartbeats 400000 in
theorem print_any (no : Nat) (d : ByteArray) (w : World) (ht : Tab w) (hn : no < 512) (hds : d.size = 200) :
    Calls Tryz.prog 215 #[.agg #[.int .i64 no, .string d]] w fun e w' => e = .returned (.string (leafB no d)) ∧ Below w.heap.size w w' := by
  have HT := Lib.hid ht
  clear ht
  have hd2 : ((d.size : Int) == 200) = true := by simp; omega
  go_enter Tryz.func215, Tryz.ntmps215
  go_wp2_with fail
  have hb0 : Below w.heap.size w (w.alloc (Obj.cells #[Value.int IntKind.i64 no, Value.string d] 133)) := (Below.refl _ _).alloc (Nat.le_refl _) _
  have c0 : (w.alloc (Obj.cells #[Value.int IntKind.i64 no, Value.string d] 133)).cell? ⟨w.heap.size, 0, none⟩ = some (.int .i64 no) := by simp
  have c1 : (w.alloc (Obj.cells #[Value.int IntKind.i64 no, Value.string d] 133)).cell? ⟨w.heap.size, 1, none⟩ = some (.string d) := by simp
  obtain ⟨g, hg⟩ : ∃ g, w.heap.size = g := ⟨_, rfl⟩
  have HB0 := Lib.hid hb0
  generalize hw0 : w.alloc (Obj.cells #[Value.int IntKind.i64 no, Value.string d] 133) = w0 at HB0 c0 c1 ⊢
  rw [hg] at c0 c1 ⊢
  clear hb0 hg hw0
  refine (numbered_any no w0 (by omega) (by omega)).mono ?_
  rintro e w1 ⟨rfl, rfl⟩
  go_wp2_with fail
  have hbd := HB0.out.drew
  have HTD := Lib.hid (HT.out.below hbd)
  have hlt : g < w0.drew.heap.size := World.block_lt_of_cell? w0 ⟨g, 0, none⟩ c0
  have hp1 := lprinted_any no w0.drew (by omega)
  have hsz : (hd no ++ d).size = 208 := both_size hds
  have hc1 : w0.drew.cell? ⟨g, 0, none⟩ = some (.int .i64 no) := c0
  have hc2 : w0.drew.cell? ⟨g, 1, none⟩ = some (.string d) := c1
  have CD := Lib.hid (And.intro hc1 hc2)
  have HE : Hid ((⟨#[80, 65, 71, 69]⟩ : ByteArray) ++ prt no ++ d = hd no ++ d) := Lib.hid rfl
  clear hc1 hc2
  have z0 := hds
  have z1 : ((⟨#[80, 65, 71, 69]⟩ : ByteArray) ++ prt no).size = 8 := hd_size no
  have z2 : (prt no).size = 4 := prt_size no
  have z3 : (⟨#[80, 65, 71, 69]⟩ : ByteArray).size = 4 := rfl
  go_region_held3 (fun w' => w'.cell? ⟨g, 0, none⟩ = some (.int .i64 no) ∧ w'.cell? ⟨g, 1, none⟩ = some (.string d))
    (first | (with_reducible exact hk6) | (with_reducible exact hk5) | (with_reducible exact CD.out))
    (first
      | (go_at_call 209
         refine hp1.mono ?_
         rintro e w5 ⟨rfl, hb5⟩
         have hk5 := And.intro ((hb5.cell (p := ⟨g, 0, none⟩) hlt).trans CD.out.1) ((hb5.cell (p := ⟨g, 1, none⟩) hlt).trans CD.out.2))
      | (go_at_call 208
         rw [HE.out]
         refine (sealed_any (hd no ++ d) 256 _ (HTD.out.below hb5) (by decide) (by rw [hsz]; decide)).mono ?_
         rintro e w6 ⟨rfl, hb6⟩
         have hb56 := hb5.trans (hb6.mono hb5.size)
         have hk6 := And.intro ((hb56.cell (p := ⟨g, 0, none⟩) hlt).trans CD.out.1) ((hb56.cell (p := ⟨g, 1, none⟩) hlt).trans CD.out.2)))
  go_wp2
  go_ret
  exact ⟨rfl, hbd.trans (hb56.mono hbd.size)⟩
set_option maxHeartbeats 400000 in
theorem parse_any (s : ByteArray) (no : Nat) (w : World) (ht : Tab w) (hn : no < 512) (hs : s.size ≤ 300) :
    Calls Tryz.prog 220 #[.string s, .int .i64 no] w fun e w' => e = .returned (.tuple #[.string ((parseL s no).getD ⟨#[]⟩), .bool (parseL s no).isSome]) ∧ Below w.heap.size w w' := by
  have HT := Lib.hid ht
  clear ht
  by_cases h : s.size = 256
  · have h1 : ((s.size : Int) == 256) = true := by simp; omega
    have h2 : (s.extract 8 208).size = 200 := by rw [ByteArray.size_extract]; omega
    have i1 : (208 : Int) ≤ s.size := by omega
    have HP := Lib.hid (print_any no (s.extract 8 208) w HT.out hn h2)
    go_enter Tryz.func220, Tryz.ntmps220
    go_wp2_with fail
    refine HP.out.mono ?_
    rintro e w1 ⟨rfl, hb1⟩
    by_cases hq : s = leafB no (s.extract 8 208)
    · have e : parseL s no = some (s.extract 8 208) := by unfold parseL; rw [if_pos ⟨h, hq⟩]
      have e1 : ((leafB no (s.extract 8 208)).toList == s.toList) = true := by rw [← hq]; simp
      clear hq
      go_wp2
      refine bodyPost_ret (results_tmp2 rfl _ _ _) rfl ?_
      rw [e]
      exact ⟨rfl, hb1⟩
    · have e : parseL s no = none := by unfold parseL; rw [if_neg (fun hc => hq hc.2)]
      have e1 : ((leafB no (s.extract 8 208)).toList == s.toList) = false := by
        rw [beq_eq_false_iff_ne]
        intro hc
        rw [ByteArray.toList_eq, ByteArray.toList_eq] at hc
        exact hq (ByteArray.ext (Array.toList_inj.1 hc.symm))
      go_wp2
      refine bodyPost_ret (results_tmp2 rfl _ _ _) rfl ?_
      rw [e]
      exact ⟨rfl, hb1⟩
  · have h1 : ((s.size : Int) == 256) = false := beq_eq_false_iff_ne.2 (by omega)
    go_enter Tryz.func220, Tryz.ntmps220
    have e : parseL s no = none := by unfold parseL; rw [if_neg (fun hc => h hc.1)]
    go_wp2
    refine bodyPost_ret (results_tmp2 rfl _ _ _) rfl ?_
    rw [e]
    exact ⟨rfl, Below.refl _ _⟩
theorem blank_any (w : World) :
    Calls Tryz.prog 133 #[] w fun e w' => e = .returned (.string (zeros 200)) ∧ Below w.heap.size w w' := by
  go_enter Tryz.func133, Tryz.ntmps133
  go_wp2_with fail
  refine (noughts_any 200 _ (by decide) (by decide)).mono ?_
  rintro e w1 ⟨rfl, hb1⟩
  go_wp2
  go_ret
  exact ⟨rfl, hb1⟩
end
end Go.Proofs.YtcgkbcgpnlogoaaGreatDoor.Lf

/- Numbers of four bytes (quad): the program's at 762697a, walked. -/
namespace Go.Proofs.YtcgkbcgpnlogoaaGreatDoor.Fr
open Go.RowKit Tal Lf
section
variable {w : World} {s : ByteArray}
theorem byte_of {k : Nat} (h : k < s.size) : s.data.toList[k]? = some s[k] := by rw [List.getElem?_eq_getElem (by simpa using h)]; rfl
/-- The number of the four bytes at k. -/
theorem nm_at {k : Nat} (h : k + 4 ≤ s.size) : nm (s.data.toList.drop k) = (s[k]'(by omega)).toNat * 16777216 + (s[k + 1]'(by omega)).toNat * 65536 + (s[k + 2]'(by omega)).toNat * 256 + (s[k + 3]'(by omega)).toNat := by
 have hz : ∀ (l : List UInt8) (j : Nat), (l.drop k).getD j 0 = l.getD (k + j) 0 := fun l j => by simp [List.getD_eq_getElem?_getD]
 unfold nm
 rw [hz, hz, hz, hz]
 simp only [List.getD_eq_getElem?_getD, Nat.add_zero]
 rw [byte_of (by omega), byte_of (by omega), byte_of (by omega), byte_of (by omega)]
 rfl
theorem or_four {a b c d : Nat} (ha : a < 256) (hb : b < 256) (hc : c < 256) (hd : d < 256) :
  bits .or .i64 (bits .or .i64 (bits .or .i64 ((a : Int) * 16777216) ((b : Int) * 65536)) ((c : Int) * 256)) (d : Int) = ((a * 16777216 + b * 65536 + c * 256 + d : Nat) : Int) := by
 have h1 := bits_join .i64 63 (by decide) (fun n h0 h1 => by simp [IntKind.wrap, IntKind.bits, IntKind.signed]; omega) 24 ((a : Int) * 16777216) ((b : Int) * 65536) (by omega) (by omega) (by omega) (by omega) (by omega) (by omega)
 rw [h1]
 have h2 := bits_join .i64 63 (by decide) (fun n h0 h1 => by simp [IntKind.wrap, IntKind.bits, IntKind.signed]; omega) 16 ((a : Int) * 16777216 + (b : Int) * 65536) ((c : Int) * 256) (by omega) (by omega) (by omega) (by omega) (by omega) (by omega)
 rw [h2]
 have h3 := bits_join .i64 63 (by decide) (fun n h0 h1 => by simp [IntKind.wrap, IntKind.bits, IntKind.signed]; omega) 8 ((a : Int) * 16777216 + (b : Int) * 65536 + (c : Int) * 256) (d : Int) (by omega) (by omega) (by omega) (by omega) (by omega) (by omega)
 rw [h3]
 omega
set_option maxHeartbeats 1000000 in
theorem numberAt_any (k : Nat) (w : World) (hk : k ≤ 1000) (hs : k + 4 ≤ s.size) (hz : s.size ≤ 300000) :
  Calls Tryz.prog 223 #[.string s, .int .i64 k] w fun e w' => e = .returned (.int .i64 (nm (s.data.toList.drop k) : Nat)) ∧ Below w.heap.size w w' := by
 rw [nm_at hs]
 have h0 := (s[k]'(by omega)).toNat_lt
 have h1 := (s[k + 1]'(by omega)).toNat_lt
 have h2 := (s[k + 2]'(by omega)).toNat_lt
 have h3 := (s[k + 3]'(by omega)).toNat_lt
 have i0 : (k : Int) < (s.size : Int) := by omega
 have i1 : (k : Int) + 1 < (s.size : Int) := by omega
 have i2 : (k : Int) + 2 < (s.size : Int) := by omega
 have i3 : (k : Int) + 3 < (s.size : Int) := by omega
 have j0 : (0 : Int) ≤ (k : Int) := by omega
 have j1 : (0 : Int) ≤ (k : Int) + 1 := by omega
 have j2 : (0 : Int) ≤ (k : Int) + 2 := by omega
 have j3 : (0 : Int) ≤ (k : Int) + 3 := by omega
 have t1 : ((k : Int) + 1).toNat = k + 1 := by omega
 have t2 : ((k : Int) + 2).toNat = k + 2 := by omega
 have t3 : ((k : Int) + 3).toNat = k + 3 := by omega
 have HO := Lib.hid (or_four h0 h1 h2 h3)
 have qw : wrap64 ((s.size : Int) - 4) = (s.size : Int) - 4 := by unfold wrap64; omega
 have q0 : decide ((k : Int) < 0) = false := decide_eq_false (by omega)
 have q1 : decide ((s.size : Int) - 4 < (k : Int)) = false := decide_eq_false (by omega)
 go_enter Tryz.func223, Tryz.ntmps223
 go_wp2
 go_quiet (fail)
 have hd := below_drewN (Below.refl w.heap.size w) nq
 go_wp2
 go_ret
 exact ⟨by rw [← HO.out]; rfl, hd⟩
/-- Where there aren't four bytes: nought. -/
theorem numberAt_short (k : Nat) (w : World) (hk : k ≤ 1000) (hs : s.size < k + 4) (hz : s.size ≤ 300000) :
  Calls Tryz.prog 223 #[.string s, .int .i64 k] w fun e w' => e = .returned (.int .i64 0) ∧ Below w.heap.size w w' := by
 have qw : wrap64 ((s.size : Int) - 4) = (s.size : Int) - 4 := by unfold wrap64; omega
 have q0 : decide ((k : Int) < 0) = false := decide_eq_false (by omega)
 have q1 : decide ((s.size : Int) - 4 < (k : Int)) = true := decide_eq_true (by omega)
 go_enter Tryz.func223, Tryz.ntmps223
 go_wp2
 go_ret
 exact ⟨rfl, Below.refl _ _⟩
theorem hasRoom_any (n : Int) (w : World) (h0 : 0 ≤ n) (h1 : n < 4294967296) :
  Calls Tryz.prog 207 #[.int .i64 n] w fun e w' => e = .returned (.bool true) ∧ w' = w := by
 go_enter Tryz.func207, Tryz.ntmps207
 have e1 : IntKind.u64.wrap n = n := by simp [IntKind.wrap, IntKind.bits, IntKind.signed]; omega
 have e2 : decide (n ≤ 4294967295) = true := by simp; omega
 go_wp2
 go_ret
 exact ⟨rfl, rfl⟩
theorem convP (x : Nat) (w : World) (hx : x < 4294967296) : (convert 118 9 (.slice (some ⟨w.heap.size, 0, none⟩) 4 4)).run Tryz.prog (w.alloc (.cells #[.int .u8 ((x : Int) / 16777216), .int .u8 ((x : Int) / 65536 % 256), .int .u8 ((x : Int) / 256 % 256), .int .u8 ((x : Int) % 256)] 5)) = .ok (.string (prt x)) (w.alloc (.cells #[.int .u8 ((x : Int) / 16777216), .int .u8 ((x : Int) / 65536 % 256), .int .u8 ((x : Int) / 256 % 256), .int .u8 ((x : Int) % 256)] 5)) := by
  have := run_convert_bytes_arg (P := Tryz.prog) (w.alloc (.cells #[.int .u8 ((x : Int) / 16777216), .int .u8 ((x : Int) / 65536 % 256), .int .u8 ((x : Int) / 256 % 256), .int .u8 ((x : Int) % 256)] 5)) 118 5 Tryz.underlying118 Tryz.underlying5 w.heap.size 0 4 4 [(x : Int) / 16777216, (x : Int) / 65536 % 256, (x : Int) / 256 % 256, (x : Int) % 256] rfl (by
   intro i hi
   match i, hi with
   | 0, _ => simp
   | 1, _ => simp
   | 2, _ => simp
   | 3, _ => simp) 9 Tryz.underlying9
  rw [this, prt_nums x]
set_option maxHeartbeats 400000 in
theorem fprinted_any (x : Nat) (w : World) (hx : x < 4294967296) :
  Calls Tryz.prog 209 #[.int .i64 x] w fun e w' => e = .returned (.string (prt x)) ∧ Below w.heap.size w w' := by
 have hcv := convP x w hx
 go_enter Tryz.func209, Tryz.ntmps209
 go_wp2
 go_ret
 exact ⟨rfl, (Below.refl _ _).alloc (Nat.le_refl _) _⟩
end
end Go.Proofs.YtcgkbcgpnlogoaaGreatDoor.Fr

/- Frames' numbers: the program's and the document's, walked. -/
namespace Go.Proofs.YtcgkbcgpnlogoaaGreatDoor.Fr
open Go.RowKit Tal Lf
section
variable {w : World} {s : ByteArray}
/-- What a sector begins with, as a text. -/
def markB (c : Bool) : ByteArray := ⟨(word c).toArray⟩
def lenOf (c : Bool) : Nat := if c then 0 else 200
theorem markOf_any (c : Bool) (w : World) :
  Calls Tryz.prog 248 #[.bool c] w fun e w' => e = .returned (.string (markB c)) ∧ w' = w := by
 cases c <;>
 ·go_enter Tryz.func248, Tryz.ntmps248
  go_wp2
  go_ret
  exact ⟨rfl, rfl⟩
theorem dataBytes_any (c : Bool) (w : World) :
  Calls Tryz.prog 269 #[.bool c] w fun e w' => e = .returned (.int .i64 (lenOf c : Nat)) ∧ w' = w := by
 cases c <;>
 ·go_enter Tryz.func269, Tryz.ntmps269
  go_wp2
  go_ret
  exact ⟨rfl, rfl⟩
end
end Go.Proofs.YtcgkbcgpnlogoaaGreatDoor.Fr

/- Frames: the program's Right at 4d08357, walked. -/
namespace Go.Proofs.YtcgkbcgpnlogoaaGreatDoor.Fr
open Go.RowKit Tal Lf
section
set_option maxRecDepth 20000 in
set_option maxHeartbeats 3200000 in
theorem right_any (f : F) (w : World) :
  Calls Tryz.prog 256 #[.agg (cellsF f)] w (BoolF (RightF f) w) := by
 have hB := (Below.refl w.heap.size w).alloc (Nat.le_refl _) (.cells (cellsF f) 124)
 have hiff : RightF f ↔ (1 ≤ f.e ∧ f.e < 2147483648 ∧ 0 ≤ f.i ∧ f.i < 512 ∧ 0 ≤ f.p ∧ f.p < 512 ∧ f.d.size = lenOf f.c) :=
  ⟨fun h => ⟨h.e0, h.e1, h.i0, h.i1, h.p0, h.p1, by cases hc : f.c with
   | true => exact h.dc hc
   | false => exact h.dp hc⟩, fun ⟨a, b, c, d, e, g, h⟩ => ⟨a, b, c, d, e, g, fun hc => by rw [h, hc]; rfl, fun hc => by rw [h, hc]; rfl⟩⟩
 obtain ⟨fe, fi, fc, fp, fd⟩ := f
 unfold cellsF at hB ⊢
 simp only at hB hiff ⊢
 have hD := fun k => below_drewN (Below.refl (w.alloc (.cells #[.int .i64 fe, .int .i64 fi, .bool fc, .int .i64 fp, .string fd] 124)).heap.size (w.alloc (.cells #[.int .i64 fe, .int .i64 fi, .bool fc, .int .i64 fp, .string fd] 124))) k
 generalize hP : RightF ⟨fe, fi, fc, fp, fd⟩ = MP at hiff ⊢
 clear hP
 have HI := Lib.hid hiff
 clear hiff
 have hR := fun W : World => dataBytes_any fc W
 generalize lenOf fc = ln at HI hR
 go_enter Tryz.func256, Tryz.ntmps256
 by_cases a0 : ¬ (1 : Int) ≤ fe
 ·have HQ : Hid (¬ MP) := Lib.hid (by rw [HI.out]; omega)
  have b0 : decide ((1 : Int) ≤ fe) = false := decide_eq_false (by omega)
  clear HI
  go_wp2
  go_quiet ((go_at_call 269; exact Calls.quiet_of_same (hR _)))
  go_wp2
  go_ret
  exact ⟨false, rfl, ⟨fun e => (by cases e), fun e => absurd e HQ.out⟩, hB.trans ((hD _).mono hB.size)⟩
 by_cases a1 : ¬ fe ≤ 2147483647
 ·have HQ : Hid (¬ MP) := Lib.hid (by rw [HI.out]; omega)
  have b0 : decide ((1 : Int) ≤ fe) = true := decide_eq_true (by omega)
  have b1 : decide (fe ≤ 2147483647) = false := decide_eq_false (by omega)
  clear HI
  go_wp2
  go_quiet ((go_at_call 269; exact Calls.quiet_of_same (hR _)))
  go_wp2
  go_ret
  exact ⟨false, rfl, ⟨fun e => (by cases e), fun e => absurd e HQ.out⟩, hB.trans ((hD _).mono hB.size)⟩
 by_cases a2 : ¬ (0 : Int) ≤ fi
 ·have HQ : Hid (¬ MP) := Lib.hid (by rw [HI.out]; omega)
  have b0 : decide ((1 : Int) ≤ fe) = true := decide_eq_true (by omega)
  have b1 : decide (fe ≤ 2147483647) = true := decide_eq_true (by omega)
  have b2 : decide ((0 : Int) ≤ fi) = false := decide_eq_false (by omega)
  clear HI
  go_wp2
  go_quiet ((go_at_call 269; exact Calls.quiet_of_same (hR _)))
  go_wp2
  go_ret
  exact ⟨false, rfl, ⟨fun e => (by cases e), fun e => absurd e HQ.out⟩, hB.trans ((hD _).mono hB.size)⟩
 by_cases a3 : ¬ fi < 512
 ·have HQ : Hid (¬ MP) := Lib.hid (by rw [HI.out]; omega)
  have b0 : decide ((1 : Int) ≤ fe) = true := decide_eq_true (by omega)
  have b1 : decide (fe ≤ 2147483647) = true := decide_eq_true (by omega)
  have b2 : decide ((0 : Int) ≤ fi) = true := decide_eq_true (by omega)
  have b3 : decide (fi < 512) = false := decide_eq_false (by omega)
  clear HI
  go_wp2
  go_quiet ((go_at_call 269; exact Calls.quiet_of_same (hR _)))
  go_wp2
  go_ret
  exact ⟨false, rfl, ⟨fun e => (by cases e), fun e => absurd e HQ.out⟩, hB.trans ((hD _).mono hB.size)⟩
 by_cases a4 : ¬ (0 : Int) ≤ fp
 ·have HQ : Hid (¬ MP) := Lib.hid (by rw [HI.out]; omega)
  have b0 : decide ((1 : Int) ≤ fe) = true := decide_eq_true (by omega)
  have b1 : decide (fe ≤ 2147483647) = true := decide_eq_true (by omega)
  have b2 : decide ((0 : Int) ≤ fi) = true := decide_eq_true (by omega)
  have b3 : decide (fi < 512) = true := decide_eq_true (by omega)
  have b4 : decide ((0 : Int) ≤ fp) = false := decide_eq_false (by omega)
  clear HI
  go_wp2
  go_quiet ((go_at_call 269; exact Calls.quiet_of_same (hR _)))
  go_wp2
  go_ret
  exact ⟨false, rfl, ⟨fun e => (by cases e), fun e => absurd e HQ.out⟩, hB.trans ((hD _).mono hB.size)⟩
 by_cases a5 : ¬ fp < 512
 ·have HQ : Hid (¬ MP) := Lib.hid (by rw [HI.out]; omega)
  have b0 : decide ((1 : Int) ≤ fe) = true := decide_eq_true (by omega)
  have b1 : decide (fe ≤ 2147483647) = true := decide_eq_true (by omega)
  have b2 : decide ((0 : Int) ≤ fi) = true := decide_eq_true (by omega)
  have b3 : decide (fi < 512) = true := decide_eq_true (by omega)
  have b4 : decide ((0 : Int) ≤ fp) = true := decide_eq_true (by omega)
  have b5 : decide (fp < 512) = false := decide_eq_false (by omega)
  clear HI
  go_wp2
  go_quiet ((go_at_call 269; exact Calls.quiet_of_same (hR _)))
  go_wp2
  go_ret
  exact ⟨false, rfl, ⟨fun e => (by cases e), fun e => absurd e HQ.out⟩, hB.trans ((hD _).mono hB.size)⟩
 by_cases a6 : fd.size = ln
 ·have HQ : Hid (MP) := Lib.hid (by rw [HI.out]; omega)
  have b0 : decide ((1 : Int) ≤ fe) = true := decide_eq_true (by omega)
  have b1 : decide (fe ≤ 2147483647) = true := decide_eq_true (by omega)
  have b2 : decide ((0 : Int) ≤ fi) = true := decide_eq_true (by omega)
  have b3 : decide (fi < 512) = true := decide_eq_true (by omega)
  have b4 : decide ((0 : Int) ≤ fp) = true := decide_eq_true (by omega)
  have b5 : decide (fp < 512) = true := decide_eq_true (by omega)
  have b6 : ((fd.size : Int) == (ln : Int)) = true := by rw [beq_iff_eq]; omega
  have b7 : (fd.size == ln) = true := by rw [beq_iff_eq]; omega
  clear a6
  clear HI
  go_wp2
  go_quiet ((go_at_call 269; exact Calls.quiet_of_same (hR _)))
  go_wp2
  go_ret
  exact ⟨true, rfl, ⟨fun e => HQ.out, fun e => rfl⟩, hB.trans ((hD _).mono hB.size)⟩
 ·have HQ : Hid (¬ MP) := Lib.hid (by rw [HI.out]; omega)
  have b0 : decide ((1 : Int) ≤ fe) = true := decide_eq_true (by omega)
  have b1 : decide (fe ≤ 2147483647) = true := decide_eq_true (by omega)
  have b2 : decide ((0 : Int) ≤ fi) = true := decide_eq_true (by omega)
  have b3 : decide (fi < 512) = true := decide_eq_true (by omega)
  have b4 : decide ((0 : Int) ≤ fp) = true := decide_eq_true (by omega)
  have b5 : decide (fp < 512) = true := decide_eq_true (by omega)
  have b6 : ((fd.size : Int) == (ln : Int)) = false := by rw [beq_eq_false_iff_ne]; omega
  have b7 : (fd.size == ln) = false := by rw [beq_eq_false_iff_ne]; omega
  clear a6
  clear HI
  go_wp2
  go_quiet ((go_at_call 269; exact Calls.quiet_of_same (hR _)))
  go_wp2
  go_ret
  exact ⟨false, rfl, ⟨fun e => (by cases e), fun e => absurd e HQ.out⟩, hB.trans ((hD _).mono hB.size)⟩
end
end Go.Proofs.YtcgkbcgpnlogoaaGreatDoor.Fr

/- The document's sum, bit by bit, and its seal, walked. -/
namespace Go.Proofs.YtcgkbcgpnlogoaaGreatDoor.Fr
open Go.RowKit Tal Lf
end Go.Proofs.YtcgkbcgpnlogoaaGreatDoor.Fr

/- The document's noughts, seal and numbers, walked (for heads). -/
namespace Go.Proofs.YtcgkbcgpnlogoaaGreatDoor.Hd
open Go.RowKit Tal Lf Fr
theorem info_partsF {n : TypeId} {z : Option Value} {s b : Nat} (h : (Tryz.prog.info? n).map (fun i => (i.zero, i.size, i.bytes)) = some (z, s, b)) : ∃ i, Tryz.prog.info? n = some i ∧ i.zero = z ∧ i.size = s ∧ i.bytes = b := by
 cases hi : Tryz.prog.info? n with
 | none => rw [hi] at h; cases h
 | some i =>
  rw [hi] at h
  simp only [Option.map_some, Option.some.injEq, Prod.mk.injEq] at h
  exact ⟨i, rfl, h.1, h.2.1, h.2.2⟩
theorem infoU8F : (Tryz.prog.info? 5).map (fun i => (i.zero, i.size, i.bytes)) = some (some (.int .u8 0), 1, 1) := by kernel_rfl
theorem strOf_zerosF (n : Nat) : strOfNums (List.replicate n 0) = zeros n := by
 unfold strOfNums zeros
 congr 1
 rw [List.map_replicate]
 rfl
/-- Noughts in new memory, as a text. -/
theorem noughts_new {w w2 : World} (t : Nat) (hown : w2.ownsRow w.heap.size 5 1 (.slice (some ⟨w.heap.size, 0, none⟩) t t) t (madeCells (Value.int IntKind.u8 0).cells (t * 1)).toList) (hgrow : w.grownBy w2 none) :
  Below w.heap.size w w2 ∧ (convert 118 9 (.slice (some ⟨w.heap.size, 0, none⟩) t t)).run Tryz.prog w2 = .ok (.string (zeros t)) w2 := by
 refine ⟨(Below.refl _ _).grown hgrow (Nat.le_refl _) (fun k hk => by cases hk), ?_⟩
 have hcv := run_convert_bytes_arg (P := Tryz.prog) w2 118 5 Tryz.underlying118 Tryz.underlying5 w.heap.size 0 t t (List.replicate t 0) (by simp) (fun i hi => by
  rw [Nat.zero_add, hown.cellAt i (by omega)]
  show (madeCells #[Value.int IntKind.u8 0] (t * 1)).toList[i]? = _
  rw [toList_madeCells_one, Nat.mul_one]
  simp [hi]) 9 Tryz.underlying9
 rwa [strOf_zerosF] at hcv
section
variable {s : ByteArray}
end
end Go.Proofs.YtcgkbcgpnlogoaaGreatDoor.Hd

/- A region that draws its order, in which more than one call may come up: walked along a tree of orders. No program. -/
namespace Go.Proofs.YtcgkbcgpnlogoaaGreatDoor.Lex
open Go

/-- Orders: an operation that is no call, then the rest; or one of some calls, and for each its own rest. -/
inductive Tr where
 | fin : Tr
 | op (k : Nat) (t : Tr) : Tr
 | alt (k : Nat) (t : Tr) (more : Tr) : Tr
def Tr.heads : Tr → List Nat
 | .alt k _ m => k :: m.heads
 | _ => []
/-- These are all orders, but for operations that are no calls, which come up apart from all that is left. -/
def lexT (ops : Array Oper) : Nat → List Nat → Tr → Array Bool → Bool
 | _, seen, .fin, listed => Region.ready .any ops listed == seen
 | n, seen, .op k t, listed => match n with
  | 0 => false
  | n + 1 => seen.isEmpty && (Region.free .any ops listed k && (Region.ready .any ops listed).contains k) && lexT ops n [] t (listed.setIfInBounds k true)
 | n, seen, .alt k t m, listed => match n with
  | 0 => false
  | n + 1 => decide (k < ops.size) && lexT ops n [] t (listed.setIfInBounds k true) && lexT ops (n + 1) (seen ++ [k]) m listed
def walkT (P : Program) (ops : Array Oper) (Q : Exit → Act → World → Prop) : Bool → Tr → (World → Prop) → Act → World → Prop
 | al, .fin, _, a, w => al = true ∨ Q .normal a w
 | _, .op k t, S, a, w => ∀ o, ops[k]? = some o → ∃ v, YieldsIf P ops S o v a ∧ walkT P ops Q false t S (a.put o.dst v) w
 | _, .alt k t m, S, a, w => (∀ o, ops[k]? = some o →
   if Region.wanted o (yielded ops a.tmps) = true then Oper.wp P o a w (fun a' w' => ∃ S' : World → Prop, (∀ w, S' w → S w) ∧ S' w' ∧ walkT P ops Q false t S' a' w') Q
   else walkT P ops Q false t S (a.put o.dst undef) w) ∧ walkT P ops Q true m S a w
section
variable {P : Program} {ops : Array Oper} {Q : Exit → Act → World → Prop}
theorem lex_heads {n : Nat} {listed : Array Bool} : ∀ (m : Tr) (seen : List Nat), seen ≠ [] → lexT ops n seen m listed = true → Region.ready .any ops listed = seen ++ m.heads
 | .fin, seen, _, h => by
  simp only [lexT, beq_iff_eq] at h
  rw [h]
  show seen = seen ++ []
  rw [List.append_nil]
 | .op k t, seen, hs, h => by
  cases n with
  | zero => simp [lexT] at h
  | succ n =>
   simp only [lexT, Bool.and_eq_true, List.isEmpty_iff] at h
   exact absurd h.1.1 hs
 | .alt k t m, seen, hs, h => by
  cases n with
  | zero => simp [lexT] at h
  | succ n =>
   simp only [lexT, Bool.and_eq_true] at h
   have := lex_heads m (seen ++ [k]) (by simp) h.2
   rw [this, List.append_assoc]
   rfl
theorem of_tree (hs : Region.noSelect ops = true) (hQ : ∀ c a d v w, Q (.panic c) (a.put d v) w → Q (.panic c) a w) :
  ∀ (t : Tr), (∀ (n : Nat) (S : World → Prop) (listed : Array Bool) (a : Act) (w : World), lexT ops n [] t listed = true → S w → walkT P ops Q false t S a w → wpAnyH P .any ops Q S n listed a w) ∧
   (∀ (n : Nat) (seen : List Nat) (S : World → Prop) (listed : Array Bool) (a : Act) (w : World), lexT ops (n + 1) seen t listed = true → S w → walkT P ops Q true t S a w → ∀ k ∈ t.heads, wpOp P ops Q k (fun a' w' => S w' ∧ wpAnyH P .any ops Q S n (listed.setIfInBounds k true) a' w') a w)
 | .fin => by
  refine ⟨fun n S listed a w hL hS h => ?_, fun n seen S listed a w _ _ _ k hk => by cases hk⟩
  simp only [lexT, beq_iff_eq] at hL
  have h : Q .normal a w := h.resolve_left (by simp)
  cases n with
  | zero => exact ⟨hL, h⟩
  | succ n => exact ⟨fun _ => h, fun i hi => by rw [hL] at hi; cases hi⟩
 | .op k t => by
  refine ⟨fun n S listed a w hL hS h => ?_, fun n seen S listed a w _ _ _ k hk => by cases hk⟩
  cases n with
  | zero => simp [lexT] at hL
  | succ n =>
   simp only [lexT, Bool.and_eq_true] at hL
   have hc : k ∈ Region.ready .any ops listed := by simpa using hL.1.2.2
   obtain ⟨_, o, ho, _⟩ := mem_ready.1 hc
   obtain ⟨v, hy, hh⟩ := h o ho
   exact wpAnyH_take ho hs hL.1.2.1 hL.1.2.2 (fun c a w => hQ c a _ _ w) hy hS ((of_tree hs hQ t).1 n S _ _ w hL.2 hS hh)
 | .alt k t m => by
  have one : ∀ (n : Nat) (S : World → Prop) (listed : Array Bool) (a : Act) (w : World), k < ops.size → lexT ops n [] t (listed.setIfInBounds k true) = true → S w →
    (∀ o, ops[k]? = some o → if Region.wanted o (yielded ops a.tmps) = true then Oper.wp P o a w (fun a' w' => ∃ S' : World → Prop, (∀ w, S' w → S w) ∧ S' w' ∧ walkT P ops Q false t S' a' w') Q else walkT P ops Q false t S (a.put o.dst undef) w) →
    wpOp P ops Q k (fun a' w' => S w' ∧ wpAnyH P .any ops Q S n (listed.setIfInBounds k true) a' w') a w := fun n S listed a w hlt hL hS h => by
   have ho : ops[k]? = some ops[k] := Array.getElem?_eq_getElem hlt
   have h' := h _ ho
   unfold wpOp
   rw [ho]
   show if Region.wanted ops[k] (yielded ops a.tmps) = true then _ else _
   by_cases hw : Region.wanted ops[k] (yielded ops a.tmps) = true
   ·rw [if_pos hw] at h' ⊢
    refine Or.inl (Oper.wp_mono (fun a' w' hh => ?_) h')
    obtain ⟨S', hSS, hS', hh⟩ := hh
    exact ⟨hSS _ hS', turn hSS _ _ _ _ ((of_tree hs hQ t).1 n S' _ a' w' hL hS' hh)⟩
   ·rw [if_neg hw] at h' ⊢
    exact ⟨hS, (of_tree hs hQ t).1 n S _ _ w hL hS h'⟩
  refine ⟨fun n S listed a w hL hS h => ?_, fun n seen S listed a w hL hS h j hj => ?_⟩
  ·cases n with
   | zero => simp [lexT] at hL
   | succ n =>
    simp only [lexT, Bool.and_eq_true, decide_eq_true_eq] at hL
    have hr := lex_heads m [k] (by simp) hL.2
    refine wpAnyH_all hr (by simp) fun i hi => ?_
    rcases List.mem_cons.1 hi with rfl | hi
    ·exact one n S listed a w hL.1.1 hL.1.2 hS h.1
    ·exact (of_tree hs hQ m).2 n _ S listed a w hL.2 hS h.2 i hi
  ·simp only [lexT, Bool.and_eq_true, decide_eq_true_eq] at hL
   rcases List.mem_cons.1 hj with rfl | hj
   ·exact one n S listed a w hL.1.1 hL.1.2 hS h.1
   ·exact (of_tree hs hQ m).2 n _ S listed a w hL.2 hS h.2 j hj

theorem region_tree {id : Nat} {l : Array Oper} {a : Act} {w : World} (t : Tr) (S : World → Prop) (he : l = ops) (hm : P.follows .mixedOrders = true) (hs : Region.noSelect ops = true)
  (hL : lexT ops ops.size [] t (Array.replicate ops.size false) = true) (hS : S w.drew) (h : walkT P ops (NoPanic Q) false t S a w.drew) : (Code.region id l true).wp P Q a w := by
 subst he
 refine wp_region_noPanic (wp_region_held_drew (S := S) hm hS fun _ => ?_)
 exact (of_tree hs (fun _ _ _ _ _ h => h) t).1 _ S _ a _ hL hS h
variable {k : Nat} {S : World → Prop} {o : Oper} {a : Act} {w : World} {t m : Tr} {al : Bool}
theorem tree_take (v : Value) (ho : ops[k]? = some o) (hw : Region.wanted o (yielded ops a.tmps) = true)
  (hv : ∀ w, S w → (execOp a.eval o).run P w = .ok (.value v) w) (h : walkT P ops Q false t S (a.put o.dst v) w) : walkT P ops Q al (.op k t) S a w := by
 intro o' ho'
 obtain rfl : o' = o := Option.some.inj (ho'.symm.trans ho)
 exact ⟨v, Or.inl ⟨hw, hv⟩, h⟩
theorem tree_call (ho : ops[k]? = some o) (hw : Region.wanted o (yielded ops a.tmps) = true)
  (h : ∀ K : Act → World → Prop, Shut (∀ (S' : World → Prop) a' w', (∀ w, S' w → S w) → S' w' → walkT P ops Q false t S' a' w' → K a' w') → Oper.wp P o a w K Q)
  (hm : walkT P ops Q true m S a w) : walkT P ops Q al (.alt k t m) S a w := by
 refine ⟨fun o' ho' => ?_, hm⟩
 obtain rfl : o' = o := Option.some.inj (ho'.symm.trans ho)
 rw [if_pos hw]
 exact h _ fun S' a' w' h1 h2 h3 => ⟨S', h1, h2, h3⟩
theorem tree_no : walkT P ops Q true .fin S a w := Or.inl rfl
theorem tree_end (h : Q .normal a w) : walkT P ops Q false .fin S a w := Or.inr h
end
end Go.Proofs.YtcgkbcgpnlogoaaGreatDoor.Lex

/- A region that draws its order, cut in two; the first part along a tree of orders. No program. -/
namespace Go.Proofs.YtcgkbcgpnlogoaaGreatDoor.Lex
open Go

section
variable {P : Program} {ops ops1 : Array Oper} {Q : Exit → Act → World → Prop}
/-- The first part along a tree of orders; the rest behind it. -/
theorem region_parts_tree {id : Nat} {l : Array Oper} {a : Act} {w : World} (n : Nat) (t : Tr) (S : World → Prop) (he : l = ops) (h1 : ops1 = ops.extract 0 n) (hn : n ≤ ops.size)
  (hacy : (List.range n).all (fun i => ((ops[i]?).map (fun o => o.after.all (fun e => decide (e.on < i)) && (o.guard.map (fun g => decide (g.1 < n))).getD true)).getD true) = true)
  (hdep : (List.range (ops.size - n)).all (fun j => (List.range n).all (fun i => reaches .any ops ops.size (n + j) i)) = true)
  (hm : P.follows .mixedOrders = true) (hs : Region.noSelect ops1 = true) (hL : lexT ops1 ops1.size [] t (Array.replicate ops1.size false) = true) (hS : S w.drew)
  (h : walkT P ops1 (Exit.then (fun a w => ∀ m, ops.size - n ≤ m → wpAny P .any ops (NoPanic Q) m (extL (Array.replicate n true) ops.size) a w) (NoPanic Q)) false t S a w.drew) : (Code.region id l true).wp P Q a w := by
 subst he
 have hs1 : ops1.size = n := by rw [h1, Array.size_extract]; omega
 refine wp_region_noPanic (wp_region_any hm ?_)
 have hA : ∀ (i : Nat) (o : Oper), i < n → l[i]? = some o → (∀ e ∈ o.after, e.on < i) ∧ ∀ g b, o.guard = some (g, b) → g < n := fun i o hi ho => by
  have := List.all_eq_true.1 hacy i (List.mem_range.2 hi)
  rw [ho] at this
  simp only [Option.map_some, Option.getD_some, Bool.and_eq_true] at this
  refine ⟨fun e he => of_decide_eq_true (Array.all_eq_true_iff_forall_mem.1 this.1 e he), fun g b hg => ?_⟩
  rw [hg] at this
  simpa using this.2
 have hD : ∀ (j : Nat) (o : Oper), n ≤ j → l[j]? = some o → ∀ i, i < n → reaches .any l l.size j i = true := fun j o hj ho i hi => by
  have hlt := (Array.getElem?_eq_some_iff.1 ho).1
  have := List.all_eq_true.1 hdep (j - n) (List.mem_range.2 (by omega))
  rw [show n + (j - n) = j by omega] at this
  exact List.all_eq_true.1 this i (List.mem_range.2 hi)
 have e1 : n + (l.size - n) = l.size := by omega
 have e2 : extL (Array.replicate n false) l.size = Array.replicate l.size false := by
  unfold extL
  rw [Array.size_replicate, Array.replicate_append_replicate, e1]
 have hmain := cut_any (P := P) (Q := NoPanic Q) (md := .any) h1 hn (fun i o hi ho => (hA i o hi ho).1) (fun i o hi ho => (hA i o hi ho).2) hD n (Array.replicate n false) a w.drew (by simp) (by
  rw [e2]
  intro k o _ hl
  have hl : (Array.replicate l.size false).getD k false = true := hl
  rw [Array.getD_eq_getD_getElem?, Array.getElem?_replicate] at hl
  split at hl <;> cases hl) (wpAny_of_held (S := S) _ _ _ _ (by
  have := (of_tree hs (fun _ _ _ _ _ h => h) t).1 _ S (Array.replicate ops1.size false) a _ hL hS h
  rw [hs1] at this
  exact this)) (l.size - n) (Nat.le_refl _)
 rw [e1, e2] at hmain
 exact hmain
end
end Go.Proofs.YtcgkbcgpnlogoaaGreatDoor.Lex

/- The table of half bytes (tally) as the rows list it: what a laid world holds. -/
namespace Go.Proofs.YtcgkbcgpnlogoaaGreatDoor
open Go.ChangeShapes Go.WideShapes Go.ChangeAt Go.RowKit Tal
theorem gHalves : Tryz.prog.globalNamed "mosaicist/tally.halves" = some 0 := by kernel_rfl
theorem gHalvesType : (Tryz.prog.globals[0]?).map (·.type) = some 279 := by kernel_rfl
theorem cellsHalves : Tryz.prog.cellsOf 279 = 16 := by kernel_rfl
theorem cellsU32 : Tryz.prog.cellsOf 261 = 1 := by kernel_rfl
def halvesI : List Int := [0, 498536548, 997073096, 651767980, 1994146192, 1802195444, 1303535960, 1342533948, 3988292384, 4027552580, 3604390888, 3412177804, 2607071920, 2262029012, 2685067896, 3183342108]
def laidL : List (String × DataW Unit) := [("mosaicist/tally.halves", Rows.laid_mosaicist_tally_halves)]
theorem tab_of_laid {W : World} (h : laidMet Tryz.prog laidL W) : Tal.Tab W := by
 have h' : laidMet Tryz.prog (("mosaicist/tally.halves", Lib.tabData .u32 halvesI) :: []) W := h
 have hT := Lib.tabIs_of_head gHalves gHalvesType Tryz.underlying279 Tryz.underlying261 cellsU32 cellsHalves h'
 intro i hi
 rw [hT.cell gHalves i hi]
 have : ∀ j, j < 16 → halvesI.getD j 0 = (hv j : Int) := by decide
 rw [this i hi]
/-- The witness: the settled world, the table holding what its initialiser lays. -/
noncomputable def laidWorld (os : Os) : World :=
 { World.holding Tryz.prog os ⟨#[], #[], []⟩ with heap := (World.holding Tryz.prog os ⟨#[], #[], []⟩).heap.modify 0 fun
   | .cells _ t frozen => .cells (halvesI.map fun z => Value.int .u32 z).toArray t frozen
   | o => o }
theorem laid_met (os : Os) (args : Array Value) : laidMet Tryz.prog laidL ((laidWorld os).forCall (fun _ _ => 0) ⟨#[], args, []⟩).memory :=
 laidMet_of_run' 8 (by kernel_rfl) (by kernel_rfl)
end Go.Proofs.YtcgkbcgpnlogoaaGreatDoor

/- The operations of a condition, each by its number. -/
namespace Go.Proofs.YtcgkbcgpnlogoaaGreatDoor.Cl
open Lex

noncomputable def gqops : Array Oper := Lex.opsOf Tryz.f87 6
def gqcalls : List Nat := [3, 7]
def gqord : List Nat := [0, 1, 2, 4, 5, 6, 3, 7, 8, 9]
theorem gqsel : Region.noSelect gqops = true := by kernel_rfl
theorem gqlex : lexH gqops gqcalls gqord (Array.replicate gqops.size false) = true := by kernel_rfl
theorem gq0 : gqops[0]? = some { dst := some 21, op := Op.load 35 (Operand.tmp 2), type := 35, pos := "clock.go:26", after := #[], guard := none } := by kernel_rfl
theorem gq1 : gqops[1]? = some { dst := some 22, op := Op.move (Operand.tmp 7), type := 3, pos := "clock.go:26", after := #[], guard := none } := by kernel_rfl
theorem gq2 : gqops[2]? = some { dst := some 23, op := Op.load 195 (Operand.tmp 8), type := 195, pos := "clock.go:26", after := #[], guard := none } := by kernel_rfl
theorem gq3 : gqops[3]? = some { dst := some 24, op := Op.call { callee := Callee.value (Operand.func 161), args := #[Operand.tmp 21, Operand.tmp 22, Operand.tmp 23], argTypes := #[35, 3, 195] }, type := 35, pos := "clock.go:26", after := #[{ on := 0, ground := Ground.data }, { on := 1, ground := Ground.data }, { on := 2, ground := Ground.data }], guard := none } := by kernel_rfl
theorem gq4 : gqops[4]? = some { dst := some 25, op := Op.fieldAddr 195 (Operand.tmp 8) 0, type := 0, pos := "clock.go:26", after := #[{ on := 7, ground := Ground.gcOnly Departure.lateStores }], guard := none } := by kernel_rfl
theorem gq5 : gqops[5]? = some { dst := some 26, op := Op.fieldAddr 133 (Operand.tmp 25) 1, type := 0, pos := "clock.go:26", after := #[{ on := 4, ground := Ground.data }, { on := 7, ground := Ground.gcOnly Departure.lateStores }], guard := none } := by kernel_rfl
theorem gq6 : gqops[6]? = some { dst := some 27, op := Op.load 9 (Operand.tmp 26), type := 9, pos := "clock.go:26", after := #[{ on := 5, ground := Ground.data }, { on := 7, ground := Ground.gcOnly Departure.lateStores }], guard := none } := by kernel_rfl
theorem gq7 : gqops[7]? = some { dst := none, op := Op.store 35 (Operand.tmp 4) (Operand.tmp 24), type := 0, pos := "clock.go:26", after := #[{ on := 3, ground := Ground.data }, { on := 3, ground := Ground.chain }, { on := 0, ground := Ground.phase }, { on := 1, ground := Ground.phase }, { on := 2, ground := Ground.phase }, { on := 3, ground := Ground.phase }, { on := 4, ground := Ground.textOnly Departure.lateStores }, { on := 5, ground := Ground.textOnly Departure.lateStores }, { on := 6, ground := Ground.textOnly Departure.lateStores }], guard := none } := by kernel_rfl
theorem gq8 : gqops[8]? = some { dst := some 5, op := Op.assign (Operand.tmp 27), type := 9, pos := "clock.go:26", after := #[{ on := 6, ground := Ground.data }, { on := 7, ground := Ground.chain }, { on := 0, ground := Ground.phase }, { on := 1, ground := Ground.phase }, { on := 2, ground := Ground.phase }, { on := 3, ground := Ground.phase }, { on := 4, ground := Ground.phase }, { on := 5, ground := Ground.phase }, { on := 6, ground := Ground.phase }, { on := 7, ground := Ground.phase }], guard := none } := by kernel_rfl
theorem gq9 : gqops[9]? = some { dst := some 6, op := Op.assign (Operand.const (Value.bool true)), type := 4, pos := "clock.go:26", after := #[{ on := 8, ground := Ground.chain }, { on := 0, ground := Ground.phase }, { on := 1, ground := Ground.phase }, { on := 2, ground := Ground.phase }, { on := 3, ground := Ground.phase }, { on := 4, ground := Ground.phase }, { on := 5, ground := Ground.phase }, { on := 6, ground := Ground.phase }, { on := 7, ground := Ground.phase }, { on := 8, ground := Ground.phase }], guard := none } := by kernel_rfl
end Go.Proofs.YtcgkbcgpnlogoaaGreatDoor.Cl

/- Pages at hand: the program's Get and Pin, walked. -/
namespace Go.Proofs.YtcgkbcgpnlogoaaGreatDoor.Cl
open Go.RowKit Pac Lex

theorem px_none (w : World) (X : Nat → Prop) : HasPX w X none 0 [] := ⟨fun h => absurd rfl h, fun h => absurd rfl h, fun _ => ⟨rfl, rfl⟩⟩
theorem clk_none (w : World) (X : Nat → Prop) (k : Nat) : ClkV X ⟨[], 0⟩ k (.agg #[.slice none 0 0, .int .i64 0]) w := ⟨none, 0, 0, rfl, rfl, Nat.le_refl _, px_none w _⟩
section
variable {A : Option Addr} {n cp m : Nat} {w : World}
set_option maxRecDepth 20000 in
set_option maxHeartbeats 3200000 in
theorem pget_any (X : Nat → Prop) (c : C) (no : Int) (hl : HasPX w X A cp c.l) (hn : c.l.length = n) (hc : n ≤ cp) (h9 : n ≤ 100000) :
  Calls Tryz.prog 87 #[.agg #[.slice A n cp, .int .i64 c.h], .int .i64 no] w (GetPost X (getC c no) w) := by
 obtain ⟨l, h⟩ := c
 simp only at hl hn
 obtain ⟨post, hpe⟩ : ∃ post, GetPost X (getC ⟨l, h⟩ no) w = post := ⟨_, rfl⟩
 have HPE := Lib.hid hpe
 show Calls _ _ #[.agg #[.slice A n cp, .int .i64 h], .int .i64 no] _ _
 rw [hpe]
 have hB := (Below.refl w.heap.size w).alloc (Nat.le_refl _) (.cells #[.slice A n cp, .int .i64 h] 35)
 have hx := Box2.new w (.slice A n cp) (.int .i64 h) 35
 obtain ⟨g, hg⟩ : ∃ g, w.heap.size = g := ⟨_, rfl⟩
 have hz : (w.alloc (.cells #[.slice A n cp, .int .i64 h] 35)).heap.size = g + 1 := by simp [hg]
 rw [hg] at hx
 generalize hw0 : w.alloc (.cells #[.slice A n cp, .int .i64 h] 35) = wa at hB hx hz
 have hBb := (Below.refl wa.heap.size wa).alloc (Nat.le_refl _) (.cells #[.slice none 0 0, .int .i64 0] 35)
 have hy := Box2.new wa (.slice none 0 0) (.int .i64 0) 35
 rw [hz] at hy
 have hx := hx.below hBb hx.lt
 have hB := hB.trans (hBb.mono hB.size)
 generalize hw1 : wa.alloc (.cells #[.slice none 0 0, .int .i64 0] 35) = wb at hB hx hy
 have hcF := pfind_any (cp := cp) h no 0 (hl.p.below hB (Nat.le_refl _)) hn h9
 have x0 := hx.c0
 have x1 := hx.c1
 clear hpe hBb
 go_enter Tryz.func87, Tryz.ntmps87
 go_wp2_with fail
 have HG := Lib.hid hg
 clear hw0 hw1 hg hz
 refine hcF.mono ?_
 rintro e w1 ⟨rfl, hv⟩
 have hx := hx.below hv hx.lt
 have hy := hy.below hv hy.lt
 have hB := hB.trans (hv.mono hB.size)
 clear hcF hv x0 x1
 have x0 := hx.c0
 have x1 := hx.c1
 have y0 := hy.c0
 have y1 := hy.c1
 have f0 := hy.f 0
 have f1 := hy.f 1
 cases hf : findL l no with
 | none =>
  have hge : getC ⟨l, h⟩ no = (⟨[], 0⟩, ⟨#[]⟩, false) := by unfold getC; simp only [hf]
  have hr : resI (none : Option Nat) = -1 := rfl
  have hg := HG.out
  have hB9 := (hB.setCell (p := ⟨g + 1, 0, none⟩) (by show w.heap.size ≤ g + 1; omega) (.slice none 0 0)).setCell (p := ⟨g + 1, 1, none⟩) (by show w.heap.size ≤ g + 1; omega) (.int .i64 0)
  have H9 := Lib.hid ((hy.set0 (.slice none 0 0)).set1 (.int .i64 0))
  have HE := Lib.hid (show GetPost X (getC ⟨l, h⟩ no) w (.returned (.tuple #[.agg #[.slice none 0 0, .int .i64 0], .string ⟨#[]⟩, .bool false])) _ from by rw [hge]; exact ⟨_, rfl, clk_none _ _ _, hB9⟩)
  rw [HPE.out] at HE
  rw [hr]
  clear hB hB9 hy hx hl hge hg hf hr hn
  go_wp2
  refine bodyPost_ret (results_get rfl _ _ (g + 1) _ _ rfl H9.out.c0 H9.out.c1) rfl ?_
  exact HE.out
 | some i =>
  have hi := find_lt hf
  have hp := List.getElem?_eq_getElem hi
  generalize l[i]'hi = p at hp
  rw [hn] at hi
  have hl1 := hl.p.below hB (Nat.le_refl _)
  obtain ⟨b, o, rfl, hlb, d0, d1, d2, d3⟩ := HasP.at hl1 hp
  have hge : getC ⟨l, h⟩ no = (⟨l.set i (touch p), h⟩, p.data, true) := by unfold getC; simp only [hf, hp]; rw [modify_set hp]; rfl
  have hr : resI (some i) = (i : Int) := rfl
  rw [hr]
  have hn0 : ¬ (i : Int) < 0 := by omega
  have i1 : (i : Int) < (n : Int) := by omega
  have i0 : (0 : Int) ≤ (i : Int) := by omega
  obtain ⟨gh, hgh⟩ : ∃ gh, w1.heap.size = gh := ⟨_, rfl⟩
  have HX := Lib.hid (And.intro hx (And.intro hy (And.intro hB (And.intro hn (And.intro hp (And.intro hge (And.intro hl1 hgh)))))))
  obtain ⟨pn, pd, pr, pp⟩ := p
  simp only at d0 d1 d2 d3
  clear hx hy hB hl hn hp hge hf hr y0 y1 f0 f1 hl1
  go_wp2_with fail
  obtain ⟨hx, hy, hB, hn, hp, hge, hl1, hgh⟩ := HX.out
  have hnew := (Below.refl w1.heap.size w1).alloc (Nat.le_refl _) (.cells #[.int .i64 pn, .string pd, .bool true, .int .i64 pp] 195)
  have hb4 := Box4.new w1 (.int .i64 pn) (.string pd) (.bool true) (.int .i64 pp) 195
  have hyl := hy.lt
  rw [hgh] at hb4 hyl
  have hx := hx.below hnew hx.lt
  have hy := hy.below hnew hy.lt
  have hB := hB.trans (hnew.mono hB.size)
  have hl1 := hl1.below hnew (Nat.le_refl _)
  generalize w1.alloc (.cells #[.int .i64 pn, .string pd, .bool true, .int .i64 pp] 195) = w2 at hx hy hB hl1 hb4 ⊢
  clear hnew x0 x1 d0 d1 d2 d3 HX hgh hlb
  have hgb := hb4.lt
  have x0 := hx.c0
  have x1 := hx.c1
  have e0 := hb4.c0
  have e1 := hb4.c1
  have e2 := hb4.c2
  have e3 := hb4.c3
  have hdr := (Below.refl w2.heap.size w2).drew
  clear hx hb4
  refine Lex.region_lex (ops := gqops) (calls := gqcalls) gqord (fun W => W.cell? ⟨g, 0, none⟩ = some (.slice (some ⟨b, o, none⟩) n cp) ∧ W.cell? ⟨g, 1, none⟩ = some (.int .i64 (h : Int)) ∧ W.cell? ⟨gh, 0, none⟩ = some (.int .i64 pn) ∧ W.cell? ⟨gh, 1, none⟩ = some (.string pd) ∧ W.cell? ⟨gh, 2, none⟩ = some (.bool true) ∧ W.cell? ⟨gh, 3, none⟩ = some (.int .i64 pp)) (by kernel_rfl) (by kernel_rfl) gqsel (by kernel_rfl) (by kernel_rfl) gqlex (⟨cell_belowB hdr x0, cell_belowB hdr x1, cell_belowB hdr e0, cell_belowB hdr e1, cell_belowB hdr e2, cell_belowB hdr e3⟩) ?_
  unfold gqord
  have x0 := cell_belowB hdr x0
  have x1 := cell_belowB hdr x1
  have e0 := cell_belowB hdr e0
  have e1 := cell_belowB hdr e1
  have e2 := cell_belowB hdr e2
  have e3 := cell_belowB hdr e3
  have hy := hy.below hdr hy.lt
  have hB := hB.trans (hdr.mono hB.size)
  have hl1 := hl1.below hdr (Nat.le_refl _)
  have hszd := hdr.size
  clear hdr
  refine Lex.step_take (.agg #[.slice (some ⟨b, o, none⟩) n cp, .int .i64 (h : Int)]) gq0 rfl (Lex.want_none rfl) (by intro Wx hSw; (try dsimp only at hSw); go_simp; (try (first | (with_reducible rfl) | assumption | rfl))) ?_
  simp only [Act.put, List.setIfInBounds_toArray, List.set_cons_zero, List.set_cons_succ]
  refine Lex.step_take (.int .i64 (i : Int)) gq1 rfl (Lex.want_none rfl) (by intro Wx hSw; (try dsimp only at hSw); go_simp; (try (first | (with_reducible rfl) | assumption | rfl))) ?_
  simp only [Act.put, List.setIfInBounds_toArray, List.set_cons_zero, List.set_cons_succ]
  refine Lex.step_take (.agg #[.int .i64 pn, .string pd, .bool true, .int .i64 pp]) gq2 rfl (Lex.want_none rfl) (by intro Wx hSw; (try dsimp only at hSw); go_simp; (try (first | (with_reducible rfl) | assumption | rfl))) ?_
  simp only [Act.put, List.setIfInBounds_toArray, List.set_cons_zero, List.set_cons_succ]
  refine Lex.step_take (.pointer (some ⟨gh, 0, none⟩)) gq4 rfl (Lex.want_none rfl) (by intro Wx hSw; (try dsimp only at hSw); go_simp; (try (first | (with_reducible rfl) | assumption | rfl))) ?_
  simp only [Act.put, List.setIfInBounds_toArray, List.set_cons_zero, List.set_cons_succ]
  refine Lex.step_take (.pointer (some ⟨gh, 1, none⟩)) gq5 rfl (Lex.want_none rfl) (by intro Wx hSw; (try dsimp only at hSw); go_simp; (try (first | (with_reducible rfl) | assumption | rfl))) ?_
  simp only [Act.put, List.setIfInBounds_toArray, List.set_cons_zero, List.set_cons_succ]
  refine Lex.step_take (.string pd) gq6 rfl (Lex.want_none rfl) (by intro Wx hSw; (try dsimp only at hSw); go_simp; (try (first | (with_reducible rfl) | assumption | rfl))) ?_
  simp only [Act.put, List.setIfInBounds_toArray, List.set_cons_zero, List.set_cons_succ]
  refine Lex.step_call gq3 rfl (Lex.want_none rfl) (fun K hK => ?_)
  go_simp
  refine (with_own (cp := cp) h i ⟨pn, pd, true, pp⟩ b o hl1 hn h9 hi).mono ?_
  rintro e y1 ⟨g5, c5, rfl, hown, hv⟩
  have hbs := Nat.le_trans hgb (Nat.le_trans (Nat.le_of_eq rfl) hszd)
  have x0 := cell_belowB hv x0
  have x1 := cell_belowB hv x1
  have e0 := cell_belowB hv e0
  have e1 := cell_belowB hv e1
  have e2 := cell_belowB hv e2
  have e3 := cell_belowB hv e3
  have hy := hy.below hv hy.lt
  have hB := hB.trans (hv.mono hB.size)
  clear hv hl1
  refine hK.out _ _ _ (fun _ h => h) ⟨x0, x1, e0, e1, e2, e3⟩ ?_
  clear hK K
  try simp only [Act.put, List.setIfInBounds_toArray, List.set_cons_zero, List.set_cons_succ]
  refine Lex.step_call gq7 rfl (Lex.want_none rfl) (fun K hK => ?_)
  have hbar := ((Bar.refl (g + 1) y1).setCell 0 (.slice (some ⟨g5, 0, none⟩) n c5)).setCell 1 (.int .i64 h)
  have k0 := hy.c0
  have k1 := hy.c1
  have kf := hy.f
  go_simp
  clear k0 k1 kf
  have x0 := (hbar.cell (p := ⟨g, 0, none⟩) (World.block_lt_of_cell? _ _ x0) (by show g ≠ g + 1; omega)).trans x0
  have x1 := (hbar.cell (p := ⟨g, 1, none⟩) (World.block_lt_of_cell? _ _ x1) (by show g ≠ g + 1; omega)).trans x1
  have e0 := (hbar.cell (p := ⟨gh, 0, none⟩) (World.block_lt_of_cell? _ _ e0) (by show gh ≠ g + 1; omega)).trans e0
  have e1 := (hbar.cell (p := ⟨gh, 1, none⟩) (World.block_lt_of_cell? _ _ e1) (by show gh ≠ g + 1; omega)).trans e1
  have e2 := (hbar.cell (p := ⟨gh, 2, none⟩) (World.block_lt_of_cell? _ _ e2) (by show gh ≠ g + 1; omega)).trans e2
  have e3 := (hbar.cell (p := ⟨gh, 3, none⟩) (World.block_lt_of_cell? _ _ e3) (by show gh ≠ g + 1; omega)).trans e3
  have hy9 := (hy.set0 (.slice (some ⟨g5, 0, none⟩) n c5)).set1 (.int .i64 h)
  have hB9 := hB.trans (hbar.below (B := w.heap.size) (by have := HG.out; omega) hB.size)
  have hown9 := Li.own_bar hown hbar (by omega)
  refine hK.out _ _ _ (fun _ h => h) ⟨x0, x1, e0, e1, e2, e3⟩ ?_
  clear hK K
  try simp only [Act.put, List.setIfInBounds_toArray, List.set_cons_zero, List.set_cons_succ]
  refine Lex.step_take (.string pd) gq8 rfl (Lex.want_none rfl) (by intro Wx hSw; (try dsimp only at hSw); go_simp; (try (first | (with_reducible rfl) | assumption | rfl))) ?_
  simp only [Act.put, List.setIfInBounds_toArray, List.set_cons_zero, List.set_cons_succ]
  refine Lex.step_take (.bool true) gq9 rfl (Lex.want_none rfl) (by intro Wx hSw; (try dsimp only at hSw); go_simp; (try (first | (with_reducible rfl) | assumption | rfl))) ?_
  simp only [Act.put, List.setIfInBounds_toArray, List.set_cons_zero, List.set_cons_succ]
  refine NoPanic.normal ?_
  have H9 := Lib.hid hy9
  have hln : (l.set i (touch ⟨pn, pd, pr, pp⟩)).length = n := by simp [hn]
  have HE := Lib.hid (show GetPost X (getC ⟨l, h⟩ no) w (.returned (.tuple #[.agg #[.slice (some ⟨g5, 0, none⟩) n c5, .int .i64 h], .string pd, .bool true])) _ from by rw [hge]; exact ⟨_, rfl, own_clk (c := ⟨l.set i (touch ⟨pn, pd, pr, pp⟩), h⟩) hown9 hln (by omega) (by have := HG.out; omega), hB9⟩)
  rw [HPE.out] at HE
  clear x0 x1 e0 e1 e2 e3 hy hB hown hbar hy9 hB9 hown9 hge hp hn
  go_wp2
  refine bodyPost_ret (results_get rfl _ _ (g + 1) _ _ rfl H9.out.c0 H9.out.c1) rfl ?_
  exact HE.out
end
end Go.Proofs.YtcgkbcgpnlogoaaGreatDoor.Cl

/- Pages at hand: the program's turn: the hand goes round about, walked. -/
namespace Go.Proofs.YtcgkbcgpnlogoaaGreatDoor.Cl
open Go.RowKit Pac Lex

/-- What holds while the hand goes round: the pages are in a row of the call's own; the new one is in a variable. -/
structure TurnM (w : World) (g n base : Nat) (z : P) (l : List P) (h g5 c5 : Nat) (W : World) : Prop where
 own : W.ownsRow base 195 4 (.slice (some ⟨g5, 0, none⟩) n c5) n (Li.cellsL cellsP l)
 x : Box2 W g (.slice (some ⟨g5, 0, none⟩) n c5) (.int .i64 h)
 p : Box4 W (g + 1) (.int .i64 z.no) (.string z.data) (.bool z.ref) (.int .i64 z.pins)
 y : Box2 W (g + 2) (.slice none 0 0) (.int .i64 0)
 B : Below w.heap.size w W
 bs : base ≤ W.heap.size
section
variable {w W W' : World} {g n base h h2 g5 c5 i : Nat} {z p : P} {l : List P}
theorem TurnM.below (m : TurnM w g n base z l h g5 c5 W) (hb : Below W.heap.size W W') : TurnM w g n base z l h g5 c5 W' :=
 ⟨Li.own_below m.own hb (Nat.le_refl _), m.x.below hb m.x.lt, m.p.below hb m.p.lt, m.y.below hb m.y.lt, m.B.trans (hb.mono m.B.size), Nat.le_trans m.bs hb.size⟩
theorem TurnM.lt (m : TurnM w g n base z l h g5 c5 W) : base ≤ g5 ∧ g5 < W.heap.size := m.own.lt g5 rfl
theorem TurnM.at (m : TurnM w g n base z l h g5 c5 W) {i : Nat} {p : P} (hp : l[i]? = some p) : W.cell? ⟨g5, i * 4, none⟩ = some (.int .i64 p.no) ∧ W.cell? ⟨g5, i * 4 + 1, none⟩ = some (.string p.data) ∧ W.cell? ⟨g5, i * 4 + 2, none⟩ = some (.bool p.ref) ∧ W.cell? ⟨g5, i * 4 + 3, none⟩ = some (.int .i64 p.pins) := by
 have hlt := (List.getElem?_eq_some_iff.1 hp).1
 have hl := m.own.1
 rw [Li.cellsL_len cellsP_len] at hl
 have key : ∀ t (ht : t < 4) v, (cellsP p)[t]? = some v → W.cell? ⟨g5, i * 4 + t, none⟩ = some v := fun t ht v hv => by
  have h1 := m.own.cellAt (i * 4 + t) (by omega)
  rw [Li.cellsL_at cellsP_len l i p hp t v hv] at h1
  exact h1
 exact ⟨key 0 (by decide) _ rfl, key 1 (by decide) _ rfl, key 2 (by decide) _ rfl, key 3 (by decide) _ rfl⟩
theorem TurnM.hand (m : TurnM w g n base z l h g5 c5 W) (hg : w.heap.size = g) (hb : g + 3 ≤ base) (h2 : Nat) : TurnM w g n base z l h2 g5 c5 (W.setCell ⟨g, 1, none⟩ (.int .i64 h2)) :=
 have hbar := (Bar.refl g W).setCell 1 (.int .i64 h2)
 ⟨Li.own_bar m.own hbar (by omega), m.x.set1 _, m.p.bar hbar (by omega), m.y.bar hbar (by omega), m.B.trans (hbar.below (B := w.heap.size) (Nat.le_of_eq hg) m.B.size), Nat.le_trans m.bs hbar.size⟩
theorem TurnM.noref (m : TurnM w g n base z l h g5 c5 W) (hg : w.heap.size = g) (hb : g + 3 ≤ base) (hp : l[i]? = some p) : TurnM w g n base z (l.set i (setRef false p)) h g5 c5 (W.setCell ⟨g5, i * 4 + 2, none⟩ (.bool false)) := by
 have hbar := (Bar.refl g5 W).setCell (i * 4 + 2) (.bool false)
 have h5 := m.lt
 have h1 := (m.own.stored (i * 4 + 2) (.bool false)).1
 rw [cells_modify (f := setRef false) cellsP_len (by decide) hp rfl, modify_set hp] at h1
 exact ⟨h1, m.x.bar hbar (by omega), m.p.bar hbar (by omega), m.y.bar hbar (by omega), m.B.trans (hbar.below (B := w.heap.size) (by omega) m.B.size), Nat.le_trans m.bs hbar.size⟩
end
/-- What turn answers: the row is its own. -/
def TurnPost (R : List P × Nat) (w : World) (e : Ending) (w' : World) : Prop := WithPost (R.2 : Int) 8 R.1 w e w'
section
variable {n cp m : Nat} {w : World}
set_option maxRecDepth 20000 in
set_option maxHeartbeats 6400000 in
theorem turn_any (l : List P) (h : Nat) (z : P) (b o : Nat) (hl : HasP w 0 (some ⟨b, o, none⟩) l) (hn : l.length = 8) (hh8 : h < 8) :
  Calls Tryz.prog 167 #[.agg #[.slice (some ⟨b, o, none⟩) 8 cp, .int .i64 h], .agg #[.int .i64 z.no, .string z.data, .bool z.ref, .int .i64 z.pins]] w (TurnPost (spinL z 16 l h) w) := by
 obtain ⟨R, hR⟩ : ∃ R, spinL z 16 l h = R := ⟨_, rfl⟩
 rw [hR]
 obtain ⟨post, hpe⟩ : ∃ post, TurnPost R w = post := ⟨_, rfl⟩
 have HPE := Lib.hid hpe
 rw [hpe]
 have HRR := Lib.hid hR
 clear hpe hR
 have hB := (Below.refl w.heap.size w).alloc (Nat.le_refl _) (.cells #[.slice (some ⟨b, o, none⟩) 8 cp, .int .i64 h] 35)
 have hx := Box2.new w (.slice (some ⟨b, o, none⟩) 8 cp) (.int .i64 h) 35
 obtain ⟨g, hg⟩ : ∃ g, w.heap.size = g := ⟨_, rfl⟩
 have hz : (w.alloc (.cells #[.slice (some ⟨b, o, none⟩) 8 cp, .int .i64 h] 35)).heap.size = g + 1 := by simp [hg]
 rw [hg] at hx
 generalize hw0 : w.alloc (.cells #[.slice (some ⟨b, o, none⟩) 8 cp, .int .i64 h] 35) = wa at hB hx hz
 have hBb := (Below.refl wa.heap.size wa).alloc (Nat.le_refl _) (.cells #[.int .i64 z.no, .string z.data, .bool z.ref, .int .i64 z.pins] 195)
 have hp := Box4.new wa (.int .i64 z.no) (.string z.data) (.bool z.ref) (.int .i64 z.pins) 195
 have hz2 : (wa.alloc (.cells #[.int .i64 z.no, .string z.data, .bool z.ref, .int .i64 z.pins] 195)).heap.size = g + 2 := by simp [hz]
 rw [hz] at hp
 have hx := hx.below hBb hx.lt
 have hB := hB.trans (hBb.mono hB.size)
 generalize hw1 : wa.alloc (.cells #[.int .i64 z.no, .string z.data, .bool z.ref, .int .i64 z.pins] 195) = wb at hB hx hp hz2
 have hBc := (Below.refl wb.heap.size wb).alloc (Nat.le_refl _) (.cells #[.slice none 0 0, .int .i64 0] 35)
 have hy := Box2.new wb (.slice none 0 0) (.int .i64 0) 35
 have hz3 : g + 3 ≤ (wb.alloc (.cells #[.slice none 0 0, .int .i64 0] 35)).heap.size := by simp [hz2]
 rw [hz2] at hy
 have hx := hx.below hBc hx.lt
 have hp := hp.below hBc hp.lt
 have hB := hB.trans (hBc.mono hB.size)
 generalize hw2 : wb.alloc (.cells #[.slice none 0 0, .int .i64 0] 35) = wq at hB hx hp hy hz3
 have hCl := clone_some (cp := cp) b o (hl.below hB (Nat.le_refl _)) hn (by omega)
 have x0 := hx.c0
 have HX := Lib.hid (And.intro hx (And.intro hp (And.intro hy (And.intro hB (And.intro hz3 (And.intro hg hn))))))
 clear hx hp hy hB hl hBb hBc hn hz3
 obtain ⟨zn, zd, zr, zp⟩ := z
 go_enter Tryz.func167, Tryz.ntmps167
 go_wp2_with fail
 clear hw0 hw1 hw2 hz hz2 hg
 refine hCl.mono ?_
 rintro e y6 ⟨v6, rfl, hown, hb6⟩
 clear hCl x0
 obtain ⟨hx, hp, hy, hB, hz3, hg, hn⟩ := HX.out
 obtain ⟨g5, c5, rfl, hg5, hgl⟩ := hown.form (by omega)
 have hB := hB.trans (hb6.mono hB.size)
 have hx := hx.below hb6 hx.lt
 have hp := hp.below hb6 hp.lt
 have hy := hy.below hb6 hy.lt
 have hbs := hb6.size
 obtain ⟨base, hbase⟩ : ∃ base, wq.heap.size = base := ⟨_, rfl⟩
 rw [hbase] at hown hz3 hbs hg5
 have x0 := hx.c0
 have x1 := hx.c1
 have xf := hx.f 0
 have hbar := (Bar.refl g y6).setCell 0 (.slice (some ⟨g5, 0, none⟩) 8 c5)
 have hM : TurnM w g 8 base ⟨zn, zd, zr, zp⟩ l h g5 c5 (y6.setCell ⟨g, 0, none⟩ (.slice (some ⟨g5, 0, none⟩) 8 c5)) := ⟨Li.own_bar hown hbar (by omega), hx.set0 _, hp.bar hbar (by omega), hy.bar hbar (by omega), hB.trans (hbar.below (B := w.heap.size) (by omega) hB.size), Nat.le_trans hbs hbar.size⟩
 have hcP := points_any (A := some ⟨g5, 0, none⟩) (n := 8) (cp := c5) (w := y6.setCell ⟨g, 0, none⟩ (.slice (some ⟨g5, 0, none⟩) 8 c5)) h
 have HG := Lib.hid (And.intro hg hz3)
 have HN := Lib.hid hn
 have HM := Lib.hid hM
 have z0 := hM.x.c0
 have z1 := hM.x.c1
 clear hx hp hy hB hown hbar hM HX hg hn hb6 hbase hz3 hbs
 go_wp2_with fail
 refine hcP.mono ?_
 rintro e y7 ⟨bb, rfl, hbb, hv⟩
 obtain rfl : bb = true := hbb.2 ⟨by omega, by omega⟩
 have hM := HM.out.below hv
 have z0 := hM.x.c0
 have HM := Lib.hid hM
 clear hcP hbb hv x0 x1 xf hM z1
 go_wp2
 clear z0
 go_loopw [5, 6, 19] (fun _ _ i wr => ∃ (k hk : Nat) (lk : List P), k ≤ 16 ∧ i = .int .i64 k ∧ hk < 8 ∧ Hid (lk.length = 8 ∧ spinL ⟨zn, zd, zr, zp⟩ (16 - k) lk hk = R) ∧ TurnM w g 8 base ⟨zn, zd, zr, zp⟩ lk hk g5 c5 wr) (fun _ _ i _ => 16 - (intOf i).toNat)
 case atStart => exact ⟨0, h, l, Nat.zero_le _, rfl, hh8, Lib.hid ⟨HN.out, HRR.out⟩, HM.out⟩
 case round =>
  obtain ⟨k, hk, lk, hk16, rfl, hk8, HS, hM⟩ := hrel
  have hgw := HG.out.1
  have hgb := HG.out.2
  by_cases hlt : k < 16
  ·have hp := List.getElem?_eq_getElem (l := lk) (i := hk) (by rw [HS.out.1]; exact hk8)
   generalize (lk[hk]'(by rw [HS.out.1]; exact hk8)) = p at hp
   obtain ⟨h2, hh2⟩ : ∃ h2, (hk + 1) % 8 = h2 := ⟨_, rfl⟩
   have hh28 : h2 < 8 := by omega
   have t1 : ((hk : Int) + 1).tmod 8 = (h2 : Int) := by rw [Int.tmod_eq_emod_of_nonneg (by omega)]; omega
   have e9 : IntKind.i64.wrap ((hk : Int) + 1) = (hk : Int) + 1 := IntWalk.i64_in _ (by omega)
   obtain ⟨pn, pd, pr, pp⟩ := p
   obtain ⟨d0, d1, d2, d3⟩ := hM.at hp
   simp only at d0 d1 d2 d3
   have hg5' := hM.lt
   have hnew := (Below.refl wr.heap.size wr).alloc (Nat.le_refl _) (.cells #[.int .i64 pn, .string pd, .bool pr, .int .i64 pp] 195)
   have hb4 := Box4.new wr (.int .i64 pn) (.string pd) (.bool pr) (.int .i64 pp) 195
   obtain ⟨go, hgo⟩ : ∃ go, wr.heap.size = go := ⟨_, rfl⟩
   rw [hgo] at hb4 hg5'
   have hMa := hM.below hnew
   have hM2 := hMa.hand hgw hgb h2
   have hgo2 : g + 3 ≤ go := by have := hM.bs; omega
   have hb42 := hb4.bar ((Bar.refl g (wr.alloc (.cells #[.int .i64 pn, .string pd, .bool pr, .int .i64 pp] 195))).setCell 1 (.int .i64 h2)) (by omega)
   have x0 := hM.x.c0
   have x1 := hM.x.c1
   have xa0 := hMa.x.c0
   have xa1 := hMa.x.c1
   have xf1 := hMa.x.f 1
   have o3 := hb42.c3
   have i1 : (hk : Int) < 8 := by omega
   have i0 : (0 : Int) ≤ (hk : Int) := by omega
   have HP := Lib.hid (And.intro hp hh2)
   have HM2 := Lib.hid (And.intro hM2 hb42)
   have H16 : Hid (16 - k = (16 - (k + 1)) + 1) := Lib.hid (by omega)
   clear hp hh2 hM2 hb42 hM hb4 hMa hnew
   go_upto_region 9 with fail
   obtain ⟨hM2, hb42⟩ := HM2.out
   clear x0 x1 xa0 xa1 xf1 o3 HM2 t1 e9 d0 d1 d2 d3 hgo
   generalize (wr.alloc (.cells #[.int .i64 pn, .string pd, .bool pr, .int .i64 pp] 195)).setCell ⟨g, 1, none⟩ (.int .i64 h2) = ws at hM2 hb42 ⊢
   obtain ⟨d0, d1, d2, d3⟩ := hM2.at HP.out.1
   simp only at d0 d1 d2 d3
   have z0 := hM2.x.c0
   have z1 := hM2.x.c1
   have df := hM2.own.frozenAt
   have o2 := hb42.c2
   have o3 := hb42.c3
   have HM2 := Lib.hid (And.intro hM2 hb42)
   clear hM2 hb42
   by_cases c1 : 0 < pp
   ·have HS2 : Hid (lk.length = 8 ∧ spinL ⟨zn, zd, zr, zp⟩ (16 - (k + 1)) lk h2 = R) := Lib.hid ⟨HS.out.1, by
     have h := HS.out.2
     rw [H16.out, spin_pass HP.out.1 c1, HS.out.1, HP.out.2] at h
     exact h⟩
    go_wp2
    go_roundw
    case rel => exact ⟨k + 1, h2, lk, by omega, by go_num, hh28, HS2, HM2.out.1⟩
    case measure => simp [intOf]; omega
   ·have c1' : ¬ (0 : Int) < pp := c1
    cases pr
    ·have HV : Hid (R = (lk.set hk ⟨zn, zd, zr, zp⟩, h2)) := Lib.hid (by
      have h := HS.out.2
      rw [H16.out, spin_take HP.out.1 c1 rfl, HS.out.1, HP.out.2] at h
      exact h.symm)
     have hown8 := own_whole HM2.out.1.own HP.out.1 ⟨zn, zd, zr, zp⟩
     have hbar2 := ((((Bar.refl g5 ws).setCell (hk * 4) (.int .i64 zn)).setCell (hk * 4 + 1) (.string zd)).setCell (hk * 4 + 2) (.bool zr)).setCell (hk * 4 + 3) (.int .i64 zp)
     have hx8 := HM2.out.1.x.bar hbar2 (by omega)
     have hy8 := HM2.out.1.y.bar hbar2 (by omega)
     have hB8 := HM2.out.1.B.trans (hbar2.below (B := w.heap.size) (by omega) HM2.out.1.B.size)
     have e0 := HM2.out.1.p.c0
     have e1 := HM2.out.1.p.c1
     have e2 := HM2.out.1.p.c2
     have e3 := HM2.out.1.p.c3
     have q0 := hx8.c0
     have q1 := hx8.c1
     have r0 := hy8.c0
     have r1 := hy8.c1
     have rf0 := hy8.f 0
     have rf1 := hy8.f 1
     have hbar3 := ((Bar.refl (g + 2) (((((ws.setCell ⟨g5, hk * 4, none⟩ (.int .i64 zn)).setCell ⟨g5, hk * 4 + 1, none⟩ (.string zd)).setCell ⟨g5, hk * 4 + 2, none⟩ (.bool zr)).setCell ⟨g5, hk * 4 + 3, none⟩ (.int .i64 zp)))).setCell 0 (.slice (some ⟨g5, 0, none⟩) 8 c5)).setCell 1 (.int .i64 h2)
     have hB9 := hB8.trans (hbar3.below (B := w.heap.size) (by omega) hB8.size)
     have H9 := Lib.hid ((hy8.set0 (.slice (some ⟨g5, 0, none⟩) 8 c5)).set1 (.int .i64 h2))
     have hown9 := Li.own_bar hown8 hbar3 (by omega)
     have HE := Lib.hid (show TurnPost R w (.returned (.agg #[.slice (some ⟨g5, 0, none⟩) 8 c5, .int .i64 h2])) _ from by rw [HV.out]; exact ⟨g5, c5, rfl, Li.own_base hown9 (by omega), hB9⟩)
     rw [HPE.out] at HE
     clear hown8 hbar2 hx8 hy8 hB8 hbar3 hB9 hown9 hg5'
     go_wp2
     refine bodyPost_ret (results_clock rfl _ _ (g + 2) _ _ rfl H9.out.c0 H9.out.c1) rfl ?_
     exact HE.out
    ·have HS2 : Hid ((lk.set hk (setRef false ⟨pn, pd, true, pp⟩)).length = 8 ∧ spinL ⟨zn, zd, zr, zp⟩ (16 - (k + 1)) (lk.set hk (setRef false ⟨pn, pd, true, pp⟩)) h2 = R) := Lib.hid ⟨by rw [List.length_set]; exact HS.out.1, by
      have h := HS.out.2
      rw [H16.out, spin_clear HP.out.1 c1 rfl, HS.out.1, HP.out.2] at h
      exact h⟩
     have HM3 := Lib.hid (HM2.out.1.noref hgw hgb HP.out.1)
     go_wp2
     go_roundw
     case rel => exact ⟨k + 1, h2, lk.set hk (setRef false ⟨pn, pd, true, pp⟩), by omega, by go_num, hh28, HS2, HM3.out⟩
     case measure => simp [intOf]; omega
  ·obtain rfl : k = 16 := by omega
   have HV : Hid (R = (lk, hk)) := Lib.hid HS.out.2.symm
   have x0 := hM.x.c0
   have x1 := hM.x.c1
   have r0 := hM.y.c0
   have r1 := hM.y.c1
   have rf0 := hM.y.f 0
   have rf1 := hM.y.f 1
   have hlt5 := hM.lt
   have hbar3 := ((Bar.refl (g + 2) wr).setCell 0 (.slice (some ⟨g5, 0, none⟩) 8 c5)).setCell 1 (.int .i64 hk)
   have hB9 := hM.B.trans (hbar3.below (B := w.heap.size) (by omega) hM.B.size)
   have H9 := Lib.hid ((hM.y.set0 (.slice (some ⟨g5, 0, none⟩) 8 c5)).set1 (.int .i64 hk))
   have hown9 := Li.own_bar hM.own hbar3 (by omega)
   have HE := Lib.hid (show TurnPost R w (.returned (.agg #[.slice (some ⟨g5, 0, none⟩) 8 c5, .int .i64 hk])) _ from by rw [HV.out]; exact ⟨g5, c5, rfl, Li.own_base hown9 (by omega), hB9⟩)
   rw [HPE.out] at HE
   clear hM hbar3 hB9 hown9 hlt5
   go_wp2
   refine bodyPost_ret (results_clock rfl _ _ (g + 2) _ _ rfl H9.out.c0 H9.out.c1) rfl ?_
   exact HE.out
end
end Go.Proofs.YtcgkbcgpnlogoaaGreatDoor.Cl
